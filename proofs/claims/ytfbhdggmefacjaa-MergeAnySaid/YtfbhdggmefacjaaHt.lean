/- Push, Pop of sources. -/
import Derived.Test.YtfbhdggmefacjaaHs
import Derived.Maps.AppendAt
namespace Go.Proofs.Ytfbhdggmefacjaa
open Go.RowKit
open SK HP
attribute [local go_sem ↓] Go.wp_at_zero Go.wp_at_succ

theorem info_psrc : (Try.prog.info? 77).map (fun i => (i.zero, i.size, i.bytes)) = some (some (.pointer none), 1, 8) := by kernel_rfl

/-- an append whose end is known, at a step of a region that draws its order -/
theorem step_app {ops : Array Oper} {o : Oper} {a : Act} {K : Act → World → Prop} {Q : Exit → Act → World → Prop} {E : Prop} {w : World} (ty : TypeId) (hgd : o.guard = none) (s x : Operand) (ho : o.op = .call { callee := .builtin .append, args := #[s, x], argTypes := #[ty, ty] }) (hty : o.type = ty)
    (v1 v2 : Value) (hs : a.eval s = v1) (hx : a.eval x = v2) (v' : Value) (w' : World) (happ : (Builtin.append_ #[ty, ty] ty #[v1, v2]).run Try.prog w = .ok v' w') (hk : K (a.put o.dst v') w') :
    if Region.wanted o (yielded ops a.tmps) = true then Oper.wp Try.prog o a w K Q else E := by
  have hw : Region.wanted o (yielded ops a.tmps) = true := by simp [Region.wanted, hgd]
  rw [if_pos hw]
  unfold Oper.wp execOp
  simp only [ho, hty, resolve, invoke, builtin, Sem.run_bind, Sem.run_pure, Result.andThen_ok, List.map_toArray, List.map_cons, List.map_nil, hs, hx, happ]
  exact hk

theorem one_cell (w : World) (v : Value) (t : TypeId) : ∀ j u, [v][j]? = some u → (w.alloc (.cells #[v] t)).cell? ((⟨w.heap.size, 0, none⟩ : Addr).add j) = some u := by
  intro j u hj
  rw [addr_add0, cell_of_row _ _ _ _ _ _ (heap_alloc_new w _)]
  simpa using hj

theorem ent_cells (w : World) (e : SK.E) (t : TypeId) : ∀ j u, (SK.E.cells e)[j]? = some u → (w.alloc (.cells #[.string e.key, .int .i64 e.seq, .bool e.gone, .string e.value, .int .i64 e.til] t)).cell? ((⟨w.heap.size, 0, none⟩ : Addr).add j) = some u := by
  intro j u hj
  rw [addr_add0, cell_of_row _ _ _ _ _ _ (heap_alloc_new w _)]
  simpa [SK.E.cells] using hj
theorem ent_one (e : SK.E) : ∀ u ∈ SK.E.cells e, u.oneCell' = true := by
  intro u hu
  simp only [SK.E.cells, List.mem_cons, List.not_mem_nil, or_false] at hu
  rcases hu with rfl | rfl | rfl | rfl | rfl <;> rfl

section
variable {W0 w w1 : World} {p : Nat} {v v' : Value} {L : List Src}

theorem Hp.push (h : Hp W0 w p v L) (s : Src) (hso : w.heap[s.b]? = some (objS s)) (hsB : W0.heap.size ≤ s.b) (hsn : s.b ∉ L.map (·.b)) (hse : EntsIn W0 s.A s.left ∧ s.left.length ≤ s.c ∧ s.left ≠ [] ∧ s.place ≤ 1000000) (hfew : L.length < 1000000)
    (hown : w1.ownsRow W0.heap.size 77 1 v' (L.length + 1) (L.map ptrS ++ [ptrS s])) (hgrow : w.grownBy w1 v.ownBlock) : Hp W0 (w1.setCell ⟨p, 0, none⟩ v') p v' (L ++ [s]) ∧ Kp W0.heap.size w (w1.setCell ⟨p, 0, none⟩ v') := by
  have hrow : ∀ g, v.ownBlock = some g → W0.heap.size ≤ g ∧ ∃ cur, w.heap[g]? = some (.cells cur 77 (0, 0)) := by
    intro g hg
    rcases h.own.2 with ⟨e, _⟩ | ⟨g', cap, cur, e, h2, h3, _⟩
    · rw [e] at hg; cases hg
    · rw [e] at hg
      injection hg with hg
      subst hg
      exact ⟨h2, cur, h3⟩
  have hk : Kp W0.heap.size w w1 := by
    cases hv : v.ownBlock with
    | none => rw [hv] at hgrow; exact .grown0 hgrow
    | some g =>
      obtain ⟨h1, cur, h2⟩ := hrow g hv
      rw [hv] at hgrow
      exact .grown g hgrow h1 h2 ⟨_, _, _, rfl, .inr (.inl rfl)⟩
  have hst : ∀ (b : Nat) (cs : Array Value) (t : TypeId) (fr : Nat × Nat), w.heap[b]? = some (.cells cs t fr) → t ≠ 77 → w1.heap[b]? = some (.cells cs t fr) := by
    intro b cs t fr hb ht
    refine (hgrow.block b (lt_of_at hb) (fun e => ?_)).trans hb
    obtain ⟨_, cur, h2⟩ := hrow b e.symm
    exact ne_type hb h2 ht rfl
  have hbox := hst _ _ _ _ h.box (by decide)
  have hk2 : Kp W0.heap.size w (w1.setCell ⟨p, 0, none⟩ v') := hk.set p h.pB hbox ⟨_, _, _, rfl, .inl rfl⟩ 0 v'
  have hoth : ∀ b, b ≠ p → (w1.setCell ⟨p, 0, none⟩ v').heap[b]? = w1.heap[b]? := fun b hb => Below.heap_setCell _ _ _ _ hb
  have hobj : ∀ x ∈ L ++ [s], (w1.setCell ⟨p, 0, none⟩ v').heap[x.b]? = some (objS x) := by
    intro x hx
    have hxo : w.heap[x.b]? = some (objS x) := by
      rcases List.mem_append.1 hx with hx | hx
      · exact h.obj x hx
      · rw [List.mem_singleton.1 hx]; exact hso
    have h1 := hst _ _ _ _ hxo (by decide)
    exact (hoth x.b (ne_type hxo h.box (by decide))).trans h1
  refine ⟨⟨h.below.trans (hk2.below h.below.size), by have := heap_set_fr hbox 0 v'; simpa using this, h.pB, ?_, hobj, ?_, ?_, ?_, by simp; omega⟩, hk2⟩
  · rw [List.length_append, List.map_append]
    refine ⟨hown.1, ?_⟩
    rcases hown.2 with ⟨_, h0⟩ | ⟨g, cap, cur, h1, h2, h3, h4⟩
    · omega
    · exact .inr ⟨g, cap, cur, h1, h2, (hoth g (Ne.symm (ne_type hbox h3 (by decide)))).trans h3, h4⟩
  · intro x hx
    rcases List.mem_append.1 hx with hx | hx
    · exact h.objB x hx
    · rw [List.mem_singleton.1 hx]; exact hsB
  · rw [List.map_append, List.nodup_append]
    refine ⟨h.nodup, by simp, fun a ha b hb => ?_⟩
    simp only [List.map_cons, List.map_nil, List.mem_singleton] at hb
    subst hb
    exact fun e => hsn (e ▸ ha)
  · intro x hx
    rcases List.mem_append.1 hx with hx | hx
    · exact h.ents x hx
    · rw [List.mem_singleton.1 hx]; exact hse

theorem Hp.pop {g cap : Nat} {M : List Src} {s : Src} (h : Hp W0 w p (.slice (some ⟨g, 0, none⟩) (M.length + 1) cap) (M ++ [s])) :
    Hp W0 (w.setCell ⟨p, 0, none⟩ (.slice (some ⟨g, 0, none⟩) M.length cap)) p (.slice (some ⟨g, 0, none⟩) M.length cap) M ∧ Kp W0.heap.size w (w.setCell ⟨p, 0, none⟩ (.slice (some ⟨g, 0, none⟩) M.length cap)) ∧ (w.setCell ⟨p, 0, none⟩ (.slice (some ⟨g, 0, none⟩) M.length cap)).heap[s.b]? = some (objS s) := by
  have hk : Kp W0.heap.size w (w.setCell ⟨p, 0, none⟩ (.slice (some ⟨g, 0, none⟩) M.length cap)) := Kp.set (.refl w) p h.pB h.box ⟨_, _, _, rfl, .inl rfl⟩ 0 _
  have hoth : ∀ b, b ≠ p → (w.setCell ⟨p, 0, none⟩ (.slice (some ⟨g, 0, none⟩) M.length cap)).heap[b]? = w.heap[b]? := fun b hb => Below.heap_setCell _ _ _ _ hb
  have hobj : ∀ x ∈ M ++ [s], (w.setCell ⟨p, 0, none⟩ (.slice (some ⟨g, 0, none⟩) M.length cap)).heap[x.b]? = some (objS x) := fun x hx => (hoth x.b (ne_type (h.obj x hx) h.box (by decide))).trans (h.obj x hx)
  refine ⟨⟨h.below.trans (hk.below h.below.size), by have := heap_set_fr h.box 0 (.slice (some ⟨g, 0, none⟩) M.length cap); simpa using this, h.pB, ?_, fun x hx => hobj x (by simp [hx]), fun x hx => h.objB x (by simp [hx]), ?_, fun x hx => h.ents x (by simp [hx]), by have := h.few; simp at this; omega⟩, hk, hobj s (by simp)⟩
  · have ho := h.own
    rcases ho.2 with ⟨h0, _⟩ | ⟨g', cap', cur, h1, h2, h3, h4, h5, h6, h7⟩
    · cases h0
    · simp only [Value.slice.injEq, Option.some.injEq, Addr.mk.injEq, and_true] at h1
      obtain ⟨h1, -, hc⟩ := h1
      subst h1; subst hc
      simp only [List.length_append, List.length_singleton] at h4 h7
      refine ⟨by simp, .inr ⟨g, cap, cur, rfl, h2, (hoth g (Ne.symm (ne_type h.box h3 (by decide)))).trans h3, by omega, h5, h6, ?_⟩⟩
      have := congrArg (fun l => l.take (M.length * 1)) h7
      simp only [List.take_take, List.map_append, List.take_append, List.length_map] at this
      rw [Nat.min_eq_left (by omega)] at this
      have h9 : (M.map ptrS).take M.length = M.map ptrS := List.take_of_length_le (by simp)
      rw [← h9]
      simpa using this
  · have := h.nodup
    rw [List.map_append, List.nodup_append] at this
    exact this.1
end

set_option maxRecDepth 100000 in
set_option maxHeartbeats 4000000 in
theorem hpush_any {W0 w : World} {p : Nat} {v : Value} {L : List Src} (h : Hp W0 w p v L) (s : Src) (hso : w.heap[s.b]? = some (objS s)) (hsB : W0.heap.size ≤ s.b) (hsn : s.b ∉ L.map (·.b)) (hse : EntsIn W0 s.A s.left ∧ s.left.length ≤ s.c ∧ s.left ≠ [] ∧ s.place ≤ 1000000) (hfew : L.length < 1000000) :
    Calls Try.prog 83 #[.pointer (some ⟨p, 0, none⟩), .iface 77 (ptrS s)] w fun e w' => e = .returned (.tuple #[]) ∧ ∃ v', Hp W0 w' p v' (L ++ [s]) ∧ Kp W0.heap.size w w' := by
  obtain ⟨i0, hi, hz0, hz1, hz2⟩ := info_parts info_psrc
  have c0 : w.cell? ⟨p, 0, none⟩ = some v := cell_of_row _ _ _ _ _ _ h.box
  have f0 : w.frozen? ⟨p, 0, none⟩ = false := frozen_of_row _ _ _ _ _ h.box
  have hpl : p < w.heap.size := lt_of_at h.box
  have HPU : Hid (∀ w2 w1 v', Below w.heap.size w w2 → w1.ownsRow W0.heap.size 77 1 v' (L.length + 1) (L.map ptrS ++ [ptrS s]) → w2.grownBy w1 v.ownBlock → Hp W0 (w1.setCell ⟨p, 0, none⟩ v') p v' (L ++ [s]) ∧ Kp W0.heap.size w (w1.setCell ⟨p, 0, none⟩ v')) := Lib.hid fun w2 w1 v' hb ho hg => by
    obtain ⟨h1, h2⟩ := (h.bel hb).push s ((hb.block _ (lt_of_at hso)).trans hso) hsB hsn hse hfew ho hg
    exact ⟨h1, (Kp.of hb).trans h2⟩
  have HBX : Hid (∀ w2 w1, Below w.heap.size w w2 → w2.grownBy w1 v.ownBlock → w1.heap[p]? = some (.cells #[v] 76 (0, 0))) := Lib.hid fun w2 w1 hb hg => by
    have h2 := h.bel hb
    refine (hg.block p (lt_of_at h2.box) (fun e => ?_)).trans h2.box
    rcases h2.own.2 with ⟨e', _⟩ | ⟨g', cap, cur, e', _, h3, _⟩
    · rw [e'] at e; cases e
    · rw [e'] at e
      injection e with e
      exact ne_type h2.box h3 (by decide) e
  have HOWN := Lib.hid h.own
  have HN := Lib.hid (fun B => @own_new _ _ _ _ _ _ _ h.own B)
  have hbs := h.below.size
  obtain ⟨n, hn⟩ : ∃ n, L.length = n := ⟨_, rfl⟩
  obtain ⟨X, hX⟩ : ∃ X, L.map ptrS = X := ⟨_, rfl⟩
  rw [hn, hX] at HPU HOWN
  rw [hn] at hfew
  obtain ⟨L', hL'⟩ : ∃ L', L ++ [s] = L' := ⟨_, rfl⟩
  rw [hL'] at HPU ⊢
  have hm1 : n + 1 ≤ maxLen := by unfold maxLen; omega
  have hm2 : (n + 1) * 8 ≤ 140737488355328 := by omega
  simp only [ptrS] at HPU ⊢
  obtain ⟨sb, hsb⟩ : ∃ b, s.b = b := ⟨_, rfl⟩
  rw [hsb] at HPU ⊢
  clear h hso hsB hsn hse hn hX hL' hsb
  have hta : ∀ w, (Instr.typeAssert (.iface 77 (.pointer (some ⟨sb, 0, none⟩))) 20 77 false).run Try.prog w = .ok (.pointer (some ⟨sb, 0, none⟩)) w := fun _ => by kernel_rfl
  have hbl : Below w.heap.size w (w.alloc (.cells #[.pointer (some ⟨sb, 0, none⟩)] 77)).drew := ((Below.refl _ w).alloc (Nat.le_refl _) _).drew
  obtain ⟨v', w6, happ, hown6, hg6, -, -⟩ := run_append_own_at (P := Try.prog) (w.drew.alloc (.cells #[.pointer (some ⟨sb, 0, none⟩)] 77)) W0.heap.size 76 76 77 i0 _ 1 8 Try.underlying76 hi hz0 hz1 hz2 rfl (by decide) v n X (World.ownsRow.alloc (w := w.drew) HOWN.out _)
    ⟨w.heap.size, 0, none⟩ 1 1 [.pointer (some ⟨sb, 0, none⟩)] rfl (one_cell w.drew _ _) (by intro u hu; simp at hu; subst hu; rfl) hm1 hm2 (by simp; omega)
  obtain ⟨A6, n6, c6, rfl⟩ : ∃ A n c, v' = .slice A n c := by
    rcases hown6.2 with ⟨e, _⟩ | ⟨g', cap, cur, e, _⟩
    · exact ⟨_, _, _, e⟩
    · exact ⟨_, _, _, e⟩
  have hdw : w.drew.alloc (.cells #[.pointer (some ⟨sb, 0, none⟩)] 77) = (w.alloc (.cells #[.pointer (some ⟨sb, 0, none⟩)] 77)).drew := rfl
  rw [hdw] at happ hg6
  have HR1 := Lib.hid (HBX.out _ w6 hbl hg6)
  have S1 : w6.cell? ⟨p, 0, none⟩ = some v := cell_of_row _ _ _ _ _ _ HR1.out
  have F1 : w6.frozen? ⟨p, 0, none⟩ = false := frozen_of_row _ _ _ _ _ HR1.out
  have HW1 := Lib.hid (HPU.out _ w6 _ hbl hown6 hg6)
  have HAPP := Lib.hid happ
  clear hdw hown6 hg6 happ hbl HOWN HPU HBX HN
  go_enter Try.func83, Try.ntmps83
  go_wp2_with fail
  go_region_law (refine step_app 76 (by rfl) _ _ (by rfl) (by rfl) _ _ (by rfl) (by rfl) _ _ HAPP.out ?_)
  all_goals
    go_wp2
    go_end0
    exact ⟨rfl, _, HW1.out⟩

set_option maxRecDepth 100000 in
set_option maxHeartbeats 4000000 in
theorem hpop_any {W0 w : World} {p : Nat} {v : Value} {M : List Src} {s : Src} (h : Hp W0 w p v (M ++ [s])) :
    Calls Try.prog 82 #[.pointer (some ⟨p, 0, none⟩)] w fun e w' => e = .returned (.iface 77 (ptrS s)) ∧ (∃ v', Hp W0 w' p v' M) ∧ Kp W0.heap.size w w' ∧ w'.heap[s.b]? = some (objS s) := by
  obtain ⟨g, cap, hv, hcap, -, -, cur, hg, -, -⟩ := h.slice (by simp)
  have z := h.at_ hv (i := M.length) (by simp)
  simp only [List.length_append, List.length_singleton] at hv hcap
  subst hv
  have c0 : w.cell? ⟨p, 0, none⟩ = some (.slice (some ⟨g, 0, none⟩) (M.length + 1) cap) := cell_of_row _ _ _ _ _ _ h.box
  have f0 : w.frozen? ⟨p, 0, none⟩ = false := frozen_of_row _ _ _ _ _ h.box
  have HPP := Lib.hid h.pop
  have hfew := h.few
  simp only [List.getElem_append_right (Nat.le_refl _), Nat.sub_self, List.getElem_cons_zero, ptrS] at z
  simp only [List.length_append, List.length_singleton] at hfew
  obtain ⟨n, hn⟩ : ∃ n, M.length = n := ⟨_, rfl⟩
  rw [hn] at HPP z c0 hcap hfew
  clear h hg hn
  simp only [ptrS]
  obtain ⟨m, hm⟩ : ∃ m, n + 1 = m := ⟨_, rfl⟩
  rw [hm] at c0 hcap hfew
  have hw1 : IntKind.i64.wrap ((m : Int) - 1) = (n : Int) := by rw [IntKind.wrap_i64]; omega
  have i0 : (0 : Int) ≤ (n : Int) := by omega
  have i1 : (n : Int) < (m : Int) := by omega
  have i2 : (n : Int) ≤ (cap : Int) := by omega
  have HM := Lib.hid hm
  clear hm
  go_enter Try.func82, Try.ntmps82
  go_wp2
  go_ret
  exact ⟨rfl, ⟨_, HPP.out.1⟩, HPP.out.2.1, HPP.out.2.2⟩
end Go.Proofs.Ytfbhdggmefacjaa
