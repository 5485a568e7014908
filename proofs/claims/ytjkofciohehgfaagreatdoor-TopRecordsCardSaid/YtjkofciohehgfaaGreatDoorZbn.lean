/- Texts joined by bundle.py: YMHs, YMHt, YMHu, YMHv, YMHw, YMHx, YMHy. -/
import Derived.Test.YtjkofciohehgfaaGreatDoorZbm
import Derived.StillTailTactics
import Derived.Deep.RegionLaw
import Derived.Maps.AppendAt
import Derived.Test.YtjkofciohehgfaaGreatDoorZbl

/- Swap, Push, Pop of sources. -/
namespace Go.Proofs.YtjkofciohehgfaaGreatDoor.L13
open Go.RowKit
open SK HP

def swL (L : List Src) (i j : Nat) : List Src := (L.set i (L.getD j Src.dft)).set j (L.getD i Src.dft)
theorem swL_len (L : List Src) (i j : Nat) : (swL L i j).length = L.length := by simp [swL]
theorem swL_at {L : List Src} {i j : Nat} (hi : i < L.length) (hj : j < L.length) (k : Nat) : (swL L i j).getD k Src.dft = sw (fun k => L.getD k Src.dft) i j k := by
  simp only [swL, sw, List.getD_eq_getElem?_getD, List.getElem?_set]
  by_cases h1 : k = i
  · subst h1
    by_cases h2 : j = k
    · subst h2; simp [hi]
    · simp [h2, hi]
  · by_cases h2 : k = j
    · subst h2; simp [h1, hj]
    · have h1' : ¬ i = k := fun e => h1 e.symm
      have h2' : ¬ j = k := fun e => h2 e.symm
      simp [h1, h2, h1', h2']

theorem sw_perm {α : Type} : ∀ (L : List α) (i j : Nat) (hi : i < L.length) (hj : j < L.length), ((L.set i L[j]).set j L[i]).Perm L := by
  intro L i j hi hj
  exact List.set_set_perm hi hj

theorem swL_eq {L : List Src} {i j : Nat} (hi : i < L.length) (hj : j < L.length) : swL L i j = (L.set i L[j]).set j L[i] := by
  simp [swL, List.getD_eq_getElem?_getD, hi, hj]

theorem swL_perm {L : List Src} {i j : Nat} (hi : i < L.length) (hj : j < L.length) : (swL L i j).Perm L := by
  rw [swL_eq hi hj]; exact sw_perm L i j hi hj

section
variable {W0 w : World} {p : Nat} {v : Value} {L : List Src}

theorem ne_type {w : World} {a b : Nat} {c1 c2 : Array Value} {t1 t2 : TypeId} {f1 f2 : Nat × Nat} (ha : w.heap[a]? = some (.cells c1 t1 f1)) (hb : w.heap[b]? = some (.cells c2 t2 f2)) (h : t1 ≠ t2) : a ≠ b := fun e => by
  subst e
  rw [ha] at hb
  injection hb with hb
  injection hb with _ hb
  exact h hb

theorem Hp.swap (h : Hp W0 w p v L) {g cap : Nat} (hv : v = .slice (some ⟨g, 0, none⟩) L.length cap) {i j : Nat} (hi : i < L.length) (hj : j < L.length) :
    Hp W0 ((w.setCell ⟨g, i, none⟩ (ptrS L[j])).setCell ⟨g, j, none⟩ (ptrS L[i])) p v (swL L i j) ∧ Kp W0.heap.size w ((w.setCell ⟨g, i, none⟩ (ptrS L[j])).setCell ⟨g, j, none⟩ (ptrS L[i])) := by
  obtain ⟨g', cap', hv', hcap, hmax, hBg, cur, hg, hcs, hct⟩ := h.slice (by omega)
  rw [hv] at hv'
  simp only [Value.slice.injEq, Option.some.injEq, Addr.mk.injEq, and_true, true_and] at hv'
  obtain ⟨rfl, rfl⟩ := hv'
  have hsrc : isSrc (.cells cur 153 (0, 0)) := ⟨_, _, _, rfl, .inr (.inl rfl)⟩
  have hg1 := heap_set_fr hg i (ptrS L[j])
  have hg2 := heap_set_fr hg1 j (ptrS L[i])
  have hk1 : Kp W0.heap.size w (w.setCell ⟨g, i, none⟩ (ptrS L[j])) := Kp.set (.refl w) g hBg hg hsrc i _
  have hk : Kp W0.heap.size w ((w.setCell ⟨g, i, none⟩ (ptrS L[j])).setCell ⟨g, j, none⟩ (ptrS L[i])) := hk1.set g hBg hg1 ⟨_, _, _, rfl, .inr (.inl rfl)⟩ j _
  have hother : ∀ b, b ≠ g → ((w.setCell ⟨g, i, none⟩ (ptrS L[j])).setCell ⟨g, j, none⟩ (ptrS L[i])).heap[b]? = w.heap[b]? := fun b hb => (Below.heap_setCell _ _ _ _ hb).trans (Below.heap_setCell _ _ _ _ hb)
  have hp := swL_perm hi hj
  refine ⟨⟨h.below.trans (hk.below h.below.size), (hother p (ne_type h.box hg (by decide))).trans h.box, h.pB, ?_, fun s hs => (hother _ (ne_type (h.obj s (hp.mem_iff.1 hs)) hg (by decide))).trans (h.obj s (hp.mem_iff.1 hs)), fun s hs => h.objB s (hp.mem_iff.1 hs), (hp.map _).nodup_iff.2 h.nodup, fun s hs => h.ents s (hp.mem_iff.1 hs), by rw [swL_len]; exact h.few⟩, hk⟩
  refine ⟨by simp, .inr ⟨g, cap, _, by rw [hv, swL_len], hBg, hg2, by rw [swL_len]; exact hcap, hmax, by simp [hcs], ?_⟩⟩
  rw [swL_len, Nat.mul_one]
  simp only [Array.toList_setIfInBounds, List.take_set, hct]
  rw [swL_eq hi hj]
  simp [List.map_set]
end

set_option maxRecDepth 100000 in
set_option maxHeartbeats 4000000 in
theorem hswap_any {W0 w : World} {p : Nat} {v : Value} {L : List Src} (h : Hp W0 w p v L) (i j : Nat) (hi : i < L.length) (hj : j < L.length) :
    Calls Tryz.prog 171 #[v, .int .i64 i, .int .i64 j] w fun e w' => e = .returned (.tuple #[]) ∧ Hp W0 w' p v (swL L i j) ∧ Kp W0.heap.size w w' := by
  obtain ⟨g, cap, hv, hcap, -, -, cur, hg, -, -⟩ := h.slice (by omega)
  have z1 := h.at_ hv hi
  have z2 := h.at_ hv hj
  have f1 : w.frozen? ⟨g, i, none⟩ = false := frozen_of_row _ _ _ _ _ hg
  have f2 : w.frozen? ⟨g, j, none⟩ = false := frozen_of_row _ _ _ _ _ hg
  have HS := Lib.hid (And.intro ((h.swap hv hi hj).1.stay (Ks.refl _).drew) (h.swap hv hi hj).2.drew)
  have hn6 := h.few
  obtain ⟨L', hL'⟩ : ∃ L', swL L i j = L' := ⟨_, rfl⟩
  rw [hL'] at HS ⊢
  obtain ⟨n, hn⟩ : ∃ n, L.length = n := ⟨_, rfl⟩
  simp only [ptrS] at z1 z2 HS
  have hb : i = j → L[i].b = L[j].b := fun e => by subst e; rfl
  obtain ⟨bi, hbi⟩ : ∃ b, L[i].b = b := ⟨_, rfl⟩
  obtain ⟨bj, hbj⟩ : ∃ b, L[j].b = b := ⟨_, rfl⟩
  rw [hbi] at z1 HS hb
  rw [hbj] at z2 HS hb
  rw [hn] at hv hi hj hcap hn6
  have f3 : (w.setCell ⟨g, i, none⟩ (.pointer (some ⟨bj, 0, none⟩))).frozen? ⟨g, j, none⟩ = false := frozen_of_row _ _ _ _ _ (heap_set_fr hg i _)
  clear h hg hn hbi hbj hL'
  subst hv
  have z3 : (w.setCell ⟨g, i, none⟩ (.pointer (some ⟨bj, 0, none⟩))).cell? ⟨g, j, none⟩ = some (.pointer (some ⟨bj, 0, none⟩)) := by
    by_cases hij : i = j
    · subst hij
      exact World.cell?_setCell_same _ _ _ z1
    · exact (World.cell?_setCell_other _ _ _ _ (fun e => hij (by injection e))).trans z2
  have i0 : (0 : Int) ≤ (i : Int) := by omega
  have i1 : (i : Int) < (n : Int) := by omega
  have j0 : (0 : Int) ≤ (j : Int) := by omega
  have j1 : (j : Int) < (n : Int) := by omega
  clear hb
  go_enter Tryz.func171, Tryz.ntmps171
  go_wp2_with fail
  go_region
  go_wp2
  go_end0
  exact ⟨rfl, HS.out⟩
end Go.Proofs.YtjkofciohehgfaaGreatDoor.L13


/- Push, Pop of sources. -/
namespace Go.Proofs.YtjkofciohehgfaaGreatDoor.L13
open Go.RowKit
open SK HP
attribute [local go_sem ↓] Go.wp_at_zero Go.wp_at_succ

theorem info_psrc : (Tryz.prog.info? 153).map (fun i => (i.zero, i.size, i.bytes)) = some (some (.pointer none), 1, 8) := by kernel_rfl

/-- an append whose end is known, at a step of a region that draws its order -/
theorem step_app {ops : Array Oper} {o : Oper} {a : Act} {K : Act → World → Prop} {Q : Exit → Act → World → Prop} {E : Prop} {w : World} (ty : TypeId) (hgd : o.guard = none) (s x : Operand) (ho : o.op = .call { callee := .builtin .append, args := #[s, x], argTypes := #[ty, ty] }) (hty : o.type = ty)
    (v1 v2 : Value) (hs : a.eval s = v1) (hx : a.eval x = v2) (v' : Value) (w' : World) (happ : (Builtin.append_ #[ty, ty] ty #[v1, v2]).run Tryz.prog w = .ok v' w') (hk : K (a.put o.dst v') w') :
    if Region.wanted o (yielded ops a.tmps) = true then Oper.wp Tryz.prog o a w K Q else E := by
  have hw : Region.wanted o (yielded ops a.tmps) = true := by simp [Region.wanted, hgd]
  rw [if_pos hw]
  unfold Oper.wp execOp
  simp only [ho, hty, resolve, invoke, builtin, Sem.run_bind, Sem.run_pure, Result.andThen_ok, List.map_toArray, List.map_cons, List.map_nil, hs, hx, happ]
  exact hk

theorem one_cell (w : World) (v : Value) (t : TypeId) : ∀ j u, [v][j]? = some u → (w.alloc (.cells #[v] t)).cell? ((⟨w.heap.size, 0, none⟩ : Addr).add j) = some u := by
  intro j u hj
  rw [addr_add0, cell_of_row _ _ _ _ _ _ (heap_alloc_new w _)]
  simpa using hj

theorem ent_cells (w : World) (e : SK.E) (t : TypeId) : ∀ j u, (SK.E.cells e)[j]? = some u → (w.alloc (.cells #[.string e.key, .int .i64 e.seq, .bool e.gone, .string e.value, .int .i64 e.til] t)).cell? ((⟨w.heap.size, 0, none⟩ : Addr).add j) = some u := by
  intro j u hj
  rw [addr_add0, cell_of_row _ _ _ _ _ _ (heap_alloc_new w _)]
  simpa [SK.E.cells] using hj
theorem ent_one (e : SK.E) : ∀ u ∈ SK.E.cells e, u.oneCell' = true := by
  intro u hu
  simp only [SK.E.cells, List.mem_cons, List.not_mem_nil, or_false] at hu
  rcases hu with rfl | rfl | rfl | rfl | rfl <;> rfl

section
variable {W0 w w1 : World} {p : Nat} {v v' : Value} {L : List Src}

theorem Hp.push (h : Hp W0 w p v L) (s : Src) (hso : w.heap[s.b]? = some (objS s)) (hsB : W0.heap.size ≤ s.b) (hsn : s.b ∉ L.map (·.b)) (hse : EntsIn W0 s.A s.left ∧ s.left.length ≤ s.c ∧ s.left ≠ [] ∧ s.place ≤ 1000000) (hfew : L.length < 1000000)
    (hown : w1.ownsRow W0.heap.size 153 1 v' (L.length + 1) (L.map ptrS ++ [ptrS s])) (hgrow : w.grownBy w1 v.ownBlock) : Hp W0 (w1.setCell ⟨p, 0, none⟩ v') p v' (L ++ [s]) ∧ Kp W0.heap.size w (w1.setCell ⟨p, 0, none⟩ v') := by
  have hrow : ∀ g, v.ownBlock = some g → W0.heap.size ≤ g ∧ ∃ cur, w.heap[g]? = some (.cells cur 153 (0, 0)) := by
    intro g hg
    rcases h.own.2 with ⟨e, _⟩ | ⟨g', cap, cur, e, h2, h3, _⟩
    · rw [e] at hg; cases hg
    · rw [e] at hg
      injection hg with hg
      subst hg
      exact ⟨h2, cur, h3⟩
  have hk : Kp W0.heap.size w w1 := by
    cases hv : v.ownBlock with
    | none => rw [hv] at hgrow; exact .grown0 hgrow
    | some g =>
      obtain ⟨h1, cur, h2⟩ := hrow g hv
      rw [hv] at hgrow
      exact .grown g hgrow h1 h2 ⟨_, _, _, rfl, .inr (.inl rfl)⟩
  have hst : ∀ (b : Nat) (cs : Array Value) (t : TypeId) (fr : Nat × Nat), w.heap[b]? = some (.cells cs t fr) → t ≠ 153 → w1.heap[b]? = some (.cells cs t fr) := by
    intro b cs t fr hb ht
    refine (hgrow.block b (lt_of_at hb) (fun e => ?_)).trans hb
    obtain ⟨_, cur, h2⟩ := hrow b e.symm
    exact ne_type hb h2 ht rfl
  have hbox := hst _ _ _ _ h.box (by decide)
  have hk2 : Kp W0.heap.size w (w1.setCell ⟨p, 0, none⟩ v') := hk.set p h.pB hbox ⟨_, _, _, rfl, .inl rfl⟩ 0 v'
  have hoth : ∀ b, b ≠ p → (w1.setCell ⟨p, 0, none⟩ v').heap[b]? = w1.heap[b]? := fun b hb => Below.heap_setCell _ _ _ _ hb
  have hobj : ∀ x ∈ L ++ [s], (w1.setCell ⟨p, 0, none⟩ v').heap[x.b]? = some (objS x) := by
    intro x hx
    have hxo : w.heap[x.b]? = some (objS x) := by
      rcases List.mem_append.1 hx with hx | hx
      · exact h.obj x hx
      · rw [List.mem_singleton.1 hx]; exact hso
    have h1 := hst _ _ _ _ hxo (by decide)
    exact (hoth x.b (ne_type hxo h.box (by decide))).trans h1
  refine ⟨⟨h.below.trans (hk2.below h.below.size), by have := heap_set_fr hbox 0 v'; simpa using this, h.pB, ?_, hobj, ?_, ?_, ?_, by simp; omega⟩, hk2⟩
  · rw [List.length_append, List.map_append]
    refine ⟨hown.1, ?_⟩
    rcases hown.2 with ⟨_, h0⟩ | ⟨g, cap, cur, h1, h2, h3, h4⟩
    · omega
    · exact .inr ⟨g, cap, cur, h1, h2, (hoth g (Ne.symm (ne_type hbox h3 (by decide)))).trans h3, h4⟩
  · intro x hx
    rcases List.mem_append.1 hx with hx | hx
    · exact h.objB x hx
    · rw [List.mem_singleton.1 hx]; exact hsB
  · rw [List.map_append, List.nodup_append]
    refine ⟨h.nodup, by simp, fun a ha b hb => ?_⟩
    simp only [List.map_cons, List.map_nil, List.mem_singleton] at hb
    subst hb
    exact fun e => hsn (e ▸ ha)
  · intro x hx
    rcases List.mem_append.1 hx with hx | hx
    · exact h.ents x hx
    · rw [List.mem_singleton.1 hx]; exact hse

theorem Hp.pop {g cap : Nat} {M : List Src} {s : Src} (h : Hp W0 w p (.slice (some ⟨g, 0, none⟩) (M.length + 1) cap) (M ++ [s])) :
    Hp W0 (w.setCell ⟨p, 0, none⟩ (.slice (some ⟨g, 0, none⟩) M.length cap)) p (.slice (some ⟨g, 0, none⟩) M.length cap) M ∧ Kp W0.heap.size w (w.setCell ⟨p, 0, none⟩ (.slice (some ⟨g, 0, none⟩) M.length cap)) ∧ (w.setCell ⟨p, 0, none⟩ (.slice (some ⟨g, 0, none⟩) M.length cap)).heap[s.b]? = some (objS s) := by
  have hk : Kp W0.heap.size w (w.setCell ⟨p, 0, none⟩ (.slice (some ⟨g, 0, none⟩) M.length cap)) := Kp.set (.refl w) p h.pB h.box ⟨_, _, _, rfl, .inl rfl⟩ 0 _
  have hoth : ∀ b, b ≠ p → (w.setCell ⟨p, 0, none⟩ (.slice (some ⟨g, 0, none⟩) M.length cap)).heap[b]? = w.heap[b]? := fun b hb => Below.heap_setCell _ _ _ _ hb
  have hobj : ∀ x ∈ M ++ [s], (w.setCell ⟨p, 0, none⟩ (.slice (some ⟨g, 0, none⟩) M.length cap)).heap[x.b]? = some (objS x) := fun x hx => (hoth x.b (ne_type (h.obj x hx) h.box (by decide))).trans (h.obj x hx)
  refine ⟨⟨h.below.trans (hk.below h.below.size), by have := heap_set_fr h.box 0 (.slice (some ⟨g, 0, none⟩) M.length cap); simpa using this, h.pB, ?_, fun x hx => hobj x (by simp [hx]), fun x hx => h.objB x (by simp [hx]), ?_, fun x hx => h.ents x (by simp [hx]), by have := h.few; simp at this; omega⟩, hk, hobj s (by simp)⟩
  · have ho := h.own
    rcases ho.2 with ⟨h0, _⟩ | ⟨g', cap', cur, h1, h2, h3, h4, h5, h6, h7⟩
    · cases h0
    · simp only [Value.slice.injEq, Option.some.injEq, Addr.mk.injEq, and_true] at h1
      obtain ⟨h1, -, hc⟩ := h1
      subst h1; subst hc
      simp only [List.length_append, List.length_singleton] at h4 h7
      refine ⟨by simp, .inr ⟨g, cap, cur, rfl, h2, (hoth g (Ne.symm (ne_type h.box h3 (by decide)))).trans h3, by omega, h5, h6, ?_⟩⟩
      have := congrArg (fun l => l.take (M.length * 1)) h7
      simp only [List.take_take, List.map_append, List.take_append, List.length_map] at this
      rw [Nat.min_eq_left (by omega)] at this
      have h9 : (M.map ptrS).take M.length = M.map ptrS := List.take_of_length_le (by simp)
      rw [← h9]
      simpa using this
  · have := h.nodup
    rw [List.map_append, List.nodup_append] at this
    exact this.1
end

set_option maxRecDepth 100000 in
set_option maxHeartbeats 4000000 in
theorem hpush_any {W0 w : World} {p : Nat} {v : Value} {L : List Src} (h : Hp W0 w p v L) (s : Src) (hso : w.heap[s.b]? = some (objS s)) (hsB : W0.heap.size ≤ s.b) (hsn : s.b ∉ L.map (·.b)) (hse : EntsIn W0 s.A s.left ∧ s.left.length ≤ s.c ∧ s.left ≠ [] ∧ s.place ≤ 1000000) (hfew : L.length < 1000000) :
    Calls Tryz.prog 170 #[.pointer (some ⟨p, 0, none⟩), .iface 153 (ptrS s)] w fun e w' => e = .returned (.tuple #[]) ∧ ∃ v', Hp W0 w' p v' (L ++ [s]) ∧ Kp W0.heap.size w w' := by
  obtain ⟨i0, hi, hz0, hz1, hz2⟩ := info_parts info_psrc
  have c0 : w.cell? ⟨p, 0, none⟩ = some v := cell_of_row _ _ _ _ _ _ h.box
  have f0 : w.frozen? ⟨p, 0, none⟩ = false := frozen_of_row _ _ _ _ _ h.box
  have hpl : p < w.heap.size := lt_of_at h.box
  have HPU : Hid (∀ w2 w1 v', Below w.heap.size w w2 → w1.ownsRow W0.heap.size 153 1 v' (L.length + 1) (L.map ptrS ++ [ptrS s]) → w2.grownBy w1 v.ownBlock → Hp W0 (w1.setCell ⟨p, 0, none⟩ v') p v' (L ++ [s]) ∧ Kp W0.heap.size w (w1.setCell ⟨p, 0, none⟩ v')) := Lib.hid fun w2 w1 v' hb ho hg => by
    obtain ⟨h1, h2⟩ := (h.bel hb).push s ((hb.block _ (lt_of_at hso)).trans hso) hsB hsn hse hfew ho hg
    exact ⟨h1, (Kp.of hb).trans h2⟩
  have HBX : Hid (∀ w2 w1, Below w.heap.size w w2 → w2.grownBy w1 v.ownBlock → w1.heap[p]? = some (.cells #[v] 152 (0, 0))) := Lib.hid fun w2 w1 hb hg => by
    have h2 := h.bel hb
    refine (hg.block p (lt_of_at h2.box) (fun e => ?_)).trans h2.box
    rcases h2.own.2 with ⟨e', _⟩ | ⟨g', cap, cur, e', _, h3, _⟩
    · rw [e'] at e; cases e
    · rw [e'] at e
      injection e with e
      exact ne_type h2.box h3 (by decide) e
  have HOWN := Lib.hid h.own
  have HN := Lib.hid (fun B => @own_new _ _ _ _ _ _ _ h.own B)
  have hbs := h.below.size
  obtain ⟨n, hn⟩ : ∃ n, L.length = n := ⟨_, rfl⟩
  obtain ⟨X, hX⟩ : ∃ X, L.map ptrS = X := ⟨_, rfl⟩
  rw [hn, hX] at HPU HOWN
  rw [hn] at hfew
  obtain ⟨L', hL'⟩ : ∃ L', L ++ [s] = L' := ⟨_, rfl⟩
  rw [hL'] at HPU ⊢
  have hm1 : n + 1 ≤ maxLen := by unfold maxLen; omega
  have hm2 : (n + 1) * 8 ≤ 140737488355328 := by omega
  simp only [ptrS] at HPU ⊢
  obtain ⟨sb, hsb⟩ : ∃ b, s.b = b := ⟨_, rfl⟩
  rw [hsb] at HPU ⊢
  clear h hso hsB hsn hse hn hX hL' hsb
  have hta : ∀ w, (Instr.typeAssert (.iface 153 (.pointer (some ⟨sb, 0, none⟩))) 20 153 false).run Tryz.prog w = .ok (.pointer (some ⟨sb, 0, none⟩)) w := fun _ => by kernel_rfl
  have hbl : Below w.heap.size w (w.alloc (.cells #[.pointer (some ⟨sb, 0, none⟩)] 153)).drew := ((Below.refl _ w).alloc (Nat.le_refl _) _).drew
  obtain ⟨v', w6, happ, hown6, hg6, -, -⟩ := run_append_own_at (P := Tryz.prog) (w.drew.alloc (.cells #[.pointer (some ⟨sb, 0, none⟩)] 153)) W0.heap.size 152 152 153 i0 _ 1 8 Tryz.underlying152 hi hz0 hz1 hz2 rfl (by decide) v n X (World.ownsRow.alloc (w := w.drew) HOWN.out _)
    ⟨w.heap.size, 0, none⟩ 1 1 [.pointer (some ⟨sb, 0, none⟩)] rfl (one_cell w.drew _ _) (by intro u hu; simp at hu; subst hu; rfl) hm1 hm2 (by simp; omega)
  obtain ⟨A6, n6, c6, rfl⟩ : ∃ A n c, v' = .slice A n c := by
    rcases hown6.2 with ⟨e, _⟩ | ⟨g', cap, cur, e, _⟩
    · exact ⟨_, _, _, e⟩
    · exact ⟨_, _, _, e⟩
  have hdw : w.drew.alloc (.cells #[.pointer (some ⟨sb, 0, none⟩)] 153) = (w.alloc (.cells #[.pointer (some ⟨sb, 0, none⟩)] 153)).drew := rfl
  rw [hdw] at happ hg6
  have HR1 := Lib.hid (HBX.out _ w6 hbl hg6)
  have S1 : w6.cell? ⟨p, 0, none⟩ = some v := cell_of_row _ _ _ _ _ _ HR1.out
  have F1 : w6.frozen? ⟨p, 0, none⟩ = false := frozen_of_row _ _ _ _ _ HR1.out
  have HW1 := Lib.hid (HPU.out _ w6 _ hbl hown6 hg6)
  have HAPP := Lib.hid happ
  clear hdw hown6 hg6 happ hbl HOWN HPU HBX HN
  go_enter Tryz.func170, Tryz.ntmps170
  go_wp2_with fail
  go_region_law (refine step_app 152 (by rfl) _ _ (by rfl) (by rfl) _ _ (by rfl) (by rfl) _ _ HAPP.out ?_)
  all_goals
    go_wp2
    go_end0
    exact ⟨rfl, _, HW1.out⟩

set_option maxRecDepth 100000 in
set_option maxHeartbeats 4000000 in
theorem hpop_any {W0 w : World} {p : Nat} {v : Value} {M : List Src} {s : Src} (h : Hp W0 w p v (M ++ [s])) :
    Calls Tryz.prog 169 #[.pointer (some ⟨p, 0, none⟩)] w fun e w' => e = .returned (.iface 153 (ptrS s)) ∧ (∃ v', Hp W0 w' p v' M) ∧ Kp W0.heap.size w w' ∧ w'.heap[s.b]? = some (objS s) := by
  obtain ⟨g, cap, hv, hcap, -, -, cur, hg, -, -⟩ := h.slice (by simp)
  have z := h.at_ hv (i := M.length) (by simp)
  simp only [List.length_append, List.length_singleton] at hv hcap
  subst hv
  have c0 : w.cell? ⟨p, 0, none⟩ = some (.slice (some ⟨g, 0, none⟩) (M.length + 1) cap) := cell_of_row _ _ _ _ _ _ h.box
  have f0 : w.frozen? ⟨p, 0, none⟩ = false := frozen_of_row _ _ _ _ _ h.box
  have HPP := Lib.hid h.pop
  have hfew := h.few
  simp only [List.getElem_append_right (Nat.le_refl _), Nat.sub_self, List.getElem_cons_zero, ptrS] at z
  simp only [List.length_append, List.length_singleton] at hfew
  obtain ⟨n, hn⟩ : ∃ n, M.length = n := ⟨_, rfl⟩
  rw [hn] at HPP z c0 hcap hfew
  clear h hg hn
  simp only [ptrS]
  obtain ⟨m, hm⟩ : ∃ m, n + 1 = m := ⟨_, rfl⟩
  rw [hm] at c0 hcap hfew
  have hw1 : IntKind.i64.wrap ((m : Int) - 1) = (n : Int) := by rw [IntKind.wrap_i64]; omega
  have i0 : (0 : Int) ≤ (n : Int) := by omega
  have i1 : (n : Int) < (m : Int) := by omega
  have i2 : (n : Int) ≤ (cap : Int) := by omega
  have HM := Lib.hid hm
  clear hm
  go_enter Tryz.func169, Tryz.ntmps169
  go_wp2
  go_ret
  exact ⟨rfl, ⟨_, HPP.out.1⟩, HPP.out.2.1, HPP.out.2.2⟩
end Go.Proofs.YtjkofciohehgfaaGreatDoor.L13


/- container/heap over sources: down. -/
namespace Go.Proofs.YtjkofciohehgfaaGreatDoor.L13
open Go.RowKit
open SK HP
attribute [local go_sem ↓] Go.wp_at_zero Go.wp_at_succ

def atL (L : List Src) (k : Nat) : Src := L.getD k Src.dft
theorem atL_lt {L : List Src} {k : Nat} (h : k < L.length) : atL L k = L[k] := by simp [atL, List.getD_eq_getElem?_getD, h]
def ifc (p : Nat) : Value := .iface 107 (.pointer (some ⟨p, 0, none⟩))

theorem Hp.cell {W0 w : World} {p : Nat} {v : Value} {L : List Src} (h : Hp W0 w p v L) : w.cell? ⟨p, 0, none⟩ = some v := cell_of_row _ _ _ _ _ _ h.box

/-- what the heap's functions keep: M is L in another order; what is from n on is as it was -/
structure Turn (W0 w0 w : World) (p : Nat) (v : Value) (L M : List Src) (n : Nat) : Prop where
  hp : Hp W0 w p v M
  perm : M.Perm L
  rest : ∀ k, n ≤ k → atL M k = atL L k
  kp : Kp W0.heap.size w0 w

section
variable {W0 w0 w w' : World} {p : Nat} {v : Value} {L M : List Src} {n : Nat}
theorem Turn.len (h : Turn W0 w0 w p v L M n) : M.length = L.length := h.perm.length_eq
theorem Turn.bel (h : Turn W0 w0 w p v L M n) (hb : Below w.heap.size w w') : Turn W0 w0 w' p v L M n := ⟨h.hp.bel hb, h.perm, h.rest, h.kp.trans (.of hb)⟩
theorem Turn.swap (h : Turn W0 w0 w p v L M n) {i j : Nat} (hi : i < n) (hj : j < n) (hn : n ≤ L.length) (hp : Hp W0 w' p v (swL M i j)) (hk : Kp W0.heap.size w w') : Turn W0 w0 w' p v L (swL M i j) n :=
  ⟨hp, (swL_perm (by have := h.len; omega) (by have := h.len; omega)).trans h.perm, fun k hk => by
    rw [← h.rest k hk]
    have := swL_at (L := M) (i := i) (j := j) (by have := h.len; omega) (by have := h.len; omega) k
    unfold atL
    rw [this]
    simp only [sw]
    rw [if_neg (by omega), if_neg (by omega)], h.kp.trans hk⟩
end

theorem atL_sw {L : List Src} {i j : Nat} (hi : i < L.length) (hj : j < L.length) : atL (swL L i j) = sw (atL L) i j := by
  funext k; exact swL_at hi hj k

set_option maxRecDepth 100000 in
set_option maxHeartbeats 4000000 in
theorem hdown_any {W0 w : World} {p : Nat} {v : Value} {L : List Src} (h : Hp W0 w p v L) (i0 n lo : Nat) (hn : n ≤ L.length) (hi0 : i0 ≤ 1000000) (hd : Dn ltS lo n (atL L) i0) :
    Calls Tryz.prog 123 #[ifc p, .int .i64 i0, .int .i64 n] w fun e w' => (∃ b, e = .returned (.bool b)) ∧ ∃ M, Turn W0 w w' p v L M n ∧ From ltS lo n (atL M) := by
  have HT0 : Hid (Turn W0 w w p v L L n) := Lib.hid ⟨h, List.Perm.refl _, fun _ _ => rfl, .refl _⟩
  have HD0 := Lib.hid hd
  have hfew := h.few
  have HN := Lib.hid hn
  have hn6 : n ≤ 1000000 := by omega
  have HLESS : Hid (∀ W M (_ : Turn W0 w W p v L M n) (a b : Nat), a < n → b < n → Calls Tryz.prog 168 #[v, .int .i64 a, .int .i64 b] W fun e w' => e = .returned (.bool (ltS (atL M a) (atL M b))) ∧ Below W.heap.size W w') := Lib.hid fun W M hT a b ha hb => by
    have hl := hT.len
    have := hless_any hT.hp a b (by omega) (by omega)
    rwa [← atL_lt (L := M), ← atL_lt (L := M)] at this
  have HSWAP : Hid (∀ W M (_ : Turn W0 w W p v L M n) (a b : Nat), a < n → b < n → Calls Tryz.prog 171 #[v, .int .i64 a, .int .i64 b] W fun e w' => e = .returned (.tuple #[]) ∧ Turn W0 w w' p v L (swL M a b) n) := Lib.hid fun W M hT a b ha hb => by
    have hl := hT.len
    exact (hswap_any hT.hp a b (by omega) (by omega)).mono fun e w' ⟨h1, h2, h3⟩ => ⟨h1, hT.swap ha hb hn h2 h3⟩
  have HML := Lib.hid fun W h => m_less W p v h
  have HMS := Lib.hid fun W h => m_swap W p v h
  clear h hd hfew hn
  unfold ifc
  go_enter Tryz.func123, Tryz.ntmps123
  go_wp2_with fail
  go_loopw [7] (fun i wr => ∃ (k : Nat) (M : List Src), i = .int .i64 k ∧ k ≤ 1000000 ∧ Turn W0 w wr p v L M n ∧ Dn ltS lo n (atL M) k) (fun i _ => 1000000 - (intOf i).toNat)
  case atStart => exact ⟨i0, L, rfl, hi0, HT0.out, HD0.out⟩
  case round =>
    obtain ⟨k, M, rfl, hk6, hT, hD⟩ := hrel
    have HT := Lib.hid hT
    have HD := Lib.hid hD
    have hml := HML.out wr hT.hp.cell
    have hms := HMS.out wr hT.hp.cell
    clear hT hD
    obtain ⟨j1, hj1⟩ : ∃ j, 2 * k + 1 = j := ⟨_, rfl⟩
    obtain ⟨j2, hj2⟩ : ∃ j, 2 * k + 2 = j := ⟨_, rfl⟩
    have hw1 : IntKind.i64.wrap (2 * (k : Int)) = 2 * (k : Int) := by rw [IntKind.wrap_i64]; omega
    have hw2 : IntKind.i64.wrap (2 * (k : Int) + 1) = (j1 : Int) := by rw [IntKind.wrap_i64]; omega
    have hw3 : IntKind.i64.wrap ((j1 : Int) + 1) = (j2 : Int) := by rw [IntKind.wrap_i64]; omega
    have HJ1 := Lib.hid hj1
    have HJ2 := Lib.hid hj2
    by_cases hlt : j1 < n
    · have t1 : ¬ (n : Int) ≤ (j1 : Int) := by omega
      have t2 : ¬ (j1 : Int) < 0 := by omega
      by_cases hlt2 : j2 < n
      · have HL1 := Lib.hid (HLESS.out _ _ HT.out j2 j1 hlt2 hlt)
        have HKL : Hid (ltS (atL M j2) (atL M j1) = false → Kid ltS n (atL M) k j1) := Lib.hid (fun h => by rw [← hj1]; exact Kid.left2 ltS_ord (by omega) (by rw [hj2, hj1]; exact h))
        have HKR : Hid (ltS (atL M j2) (atL M j1) = true → Kid ltS n (atL M) k j2) := Lib.hid (fun h => by rw [← hj2]; exact Kid.right ltS_ord (by omega) (by rw [hj2, show 2 * k + 1 = j1 from hj1]; exact h))
        obtain ⟨B, hB⟩ : ∃ B, ltS (atL M j2) (atL M j1) = B := ⟨_, rfl⟩
        rw [hB] at HL1 HKL HKR
        clear hj1 hj2 hB
        go_wp2_with fail
        refine HL1.out.mono ?_
        rintro e w1 ⟨rfl, hb1⟩
        have HT1 := Lib.hid (HT.out.bel hb1)
        clear hb1
        cases B
        · obtain ⟨j, hj⟩ : ∃ j, j1 = j := ⟨_, rfl⟩
          have HK := Lib.hid (HKL.out rfl)
          have hjn := hlt
          rw [hj] at HK hjn
          have hkn : k < n := by have := HJ1.out; omega
          subst hj
          have hml1 := HML.out w1 HT1.out.hp.cell
          have HLE := Lib.hid (HLESS.out _ _ HT1.out j1 k hjn hkn)
          have HST : Hid (ltS (atL M j1) (atL M k) = true → Dn ltS lo n (atL (swL M k j1)) j1) := Lib.hid (fun h => by
            have hl := HT1.out.len
            have hn := HN.out
            rw [atL_sw (by omega) (by omega)]
            exact HD.out.step ltS_ord HK.out h)
          have HSP : Hid (ltS (atL M j1) (atL M k) = false → From ltS lo n (atL M)) := Lib.hid (fun h => HD.out.stop ltS_ord HK.out h)
          have HKJ : Hid (k < j1) := Lib.hid (by have := HK.out.one; omega)
          obtain ⟨C, hC⟩ : ∃ C, ltS (atL M j1) (atL M k) = C := ⟨_, rfl⟩
          rw [hC] at HLE HST HSP
          clear hC
          go_wp2_with fail
          refine HLE.out.mono ?_
          rintro e w2 ⟨rfl, hb2⟩
          have HT2 := Lib.hid (HT1.out.bel hb2)
          clear hb2
          cases C
          · have HF := Lib.hid (HSP.out rfl)
            go_wp2
            go_ret
            exact ⟨⟨_, rfl⟩, M, HT2.out, HF.out⟩
          · have hms2 := HMS.out w2 HT2.out.hp.cell
            have HSW := Lib.hid (HSWAP.out _ _ HT2.out k j1 hkn hjn)
            have HD2 := Lib.hid (HST.out rfl)
            go_wp2_with fail
            refine HSW.out.mono ?_
            rintro e w3 ⟨rfl, hT3⟩
            have HT3 := Lib.hid hT3
            clear hT3
            go_wp2
            go_roundw
            case rel => exact ⟨j1, _, by go_num, by omega, HT3.out, HD2.out⟩
            case measure => have := HKJ.out; simp [intOf]; omega
        · obtain ⟨j, hj⟩ : ∃ j, j2 = j := ⟨_, rfl⟩
          have HK := Lib.hid (HKR.out rfl)
          have hjn := hlt2
          rw [hj] at HK hjn
          have hkn : k < n := by have := HJ1.out; omega
          subst hj
          have hml1 := HML.out w1 HT1.out.hp.cell
          have HLE := Lib.hid (HLESS.out _ _ HT1.out j2 k hjn hkn)
          have HST : Hid (ltS (atL M j2) (atL M k) = true → Dn ltS lo n (atL (swL M k j2)) j2) := Lib.hid (fun h => by
            have hl := HT1.out.len
            have hn := HN.out
            rw [atL_sw (by omega) (by omega)]
            exact HD.out.step ltS_ord HK.out h)
          have HSP : Hid (ltS (atL M j2) (atL M k) = false → From ltS lo n (atL M)) := Lib.hid (fun h => HD.out.stop ltS_ord HK.out h)
          have HKJ : Hid (k < j2) := Lib.hid (by have := HK.out.one; omega)
          obtain ⟨C, hC⟩ : ∃ C, ltS (atL M j2) (atL M k) = C := ⟨_, rfl⟩
          rw [hC] at HLE HST HSP
          clear hC
          go_wp2_with fail
          refine HLE.out.mono ?_
          rintro e w2 ⟨rfl, hb2⟩
          have HT2 := Lib.hid (HT1.out.bel hb2)
          clear hb2
          cases C
          · have HF := Lib.hid (HSP.out rfl)
            go_wp2
            go_ret
            exact ⟨⟨_, rfl⟩, M, HT2.out, HF.out⟩
          · have hms2 := HMS.out w2 HT2.out.hp.cell
            have HSW := Lib.hid (HSWAP.out _ _ HT2.out k j2 hkn hjn)
            have HD2 := Lib.hid (HST.out rfl)
            go_wp2_with fail
            refine HSW.out.mono ?_
            rintro e w3 ⟨rfl, hT3⟩
            have HT3 := Lib.hid hT3
            clear hT3
            go_wp2
            go_roundw
            case rel => exact ⟨j2, _, by go_num, by omega, HT3.out, HD2.out⟩
            case measure => have := HKJ.out; simp [intOf]; omega
      · have hkl : Kid ltS n (atL M) k j1 := by rw [← hj1]; exact Kid.left ltS_ord (by omega) (by omega)
        have t3 : ¬ (j2 : Int) < (n : Int) := by omega
        obtain ⟨j, hj⟩ : ∃ j, j1 = j := ⟨_, rfl⟩
        have HK := Lib.hid hkl
        have hjn := hlt
        rw [hj] at HK hjn
        have hkn : k < n := by omega
        have HT1 := HT
        clear hj1 hj2 hkl
        subst hj
        have hml1 := HML.out wr HT1.out.hp.cell
        have HLE := Lib.hid (HLESS.out _ _ HT1.out j1 k hjn hkn)
        have HST : Hid (ltS (atL M j1) (atL M k) = true → Dn ltS lo n (atL (swL M k j1)) j1) := Lib.hid (fun h => by
          have hl := HT1.out.len
          have hn := HN.out
          rw [atL_sw (by omega) (by omega)]
          exact HD.out.step ltS_ord HK.out h)
        have HSP : Hid (ltS (atL M j1) (atL M k) = false → From ltS lo n (atL M)) := Lib.hid (fun h => HD.out.stop ltS_ord HK.out h)
        have HKJ : Hid (k < j1) := Lib.hid (by have := HK.out.one; omega)
        obtain ⟨C, hC⟩ : ∃ C, ltS (atL M j1) (atL M k) = C := ⟨_, rfl⟩
        rw [hC] at HLE HST HSP
        clear hC
        go_wp2_with fail
        refine HLE.out.mono ?_
        rintro e w2 ⟨rfl, hb2⟩
        have HT2 := Lib.hid (HT1.out.bel hb2)
        clear hb2
        cases C
        · have HF := Lib.hid (HSP.out rfl)
          go_wp2
          go_ret
          exact ⟨⟨_, rfl⟩, M, HT2.out, HF.out⟩
        · have hms2 := HMS.out w2 HT2.out.hp.cell
          have HSW := Lib.hid (HSWAP.out _ _ HT2.out k j1 hkn hjn)
          have HD2 := Lib.hid (HST.out rfl)
          go_wp2_with fail
          refine HSW.out.mono ?_
          rintro e w3 ⟨rfl, hT3⟩
          have HT3 := Lib.hid hT3
          clear hT3
          go_wp2
          go_roundw
          case rel => exact ⟨j1, _, by go_num, by omega, HT3.out, HD2.out⟩
          case measure => have := HKJ.out; simp [intOf]; omega
    · have HF := Lib.hid (HD.out.none (by omega))
      have t1 : (n : Int) ≤ (j1 : Int) := by omega
      clear hj1 hj2
      go_wp2
      go_ret
      exact ⟨⟨_, rfl⟩, M, HT.out, HF.out⟩
end Go.Proofs.YtjkofciohehgfaaGreatDoor.L13


/- container/heap over sources: up, Init, Pop, Push. -/
namespace Go.Proofs.YtjkofciohehgfaaGreatDoor.L13
open Go.RowKit
open SK HP
attribute [local go_sem ↓] Go.wp_at_zero Go.wp_at_succ

theorem Hp.shape {W0 w : World} {p : Nat} {v : Value} {L : List Src} (h : Hp W0 w p v L) : ∃ A c, v = .slice A L.length c := by
  rcases h.own.2 with ⟨e, h0⟩ | ⟨g, cap, cur, e, _⟩
  · exact ⟨none, 0, by rw [e, h0]⟩
  · exact ⟨_, _, e⟩

theorem hlen_any {W0 w : World} {p : Nat} {v : Value} {L : List Src} (h : Hp W0 w p v L) :
    Calls Tryz.prog 61 #[v] w fun e w' => e = .returned (.int .i64 (L.length : Nat)) ∧ w = w' := by
  obtain ⟨A, c, rfl⟩ := h.shape
  clear h
  go_enter Tryz.func61, Tryz.ntmps61
  go_wp2
  go_ret
  exact ⟨rfl, rfl⟩

set_option maxRecDepth 100000 in
set_option maxHeartbeats 4000000 in
theorem hup_any {W0 w : World} {p : Nat} {v : Value} {L : List Src} (h : Hp W0 w p v L) (j0 : Nat) (hj : j0 < L.length) (hd : Up ltS L.length (atL L) j0) :
    Calls Tryz.prog 124 #[ifc p, .int .i64 j0] w fun e w' => e = .returned (.tuple #[]) ∧ ∃ M, Turn W0 w w' p v L M L.length ∧ From ltS 0 L.length (atL M) := by
  have HT0 : Hid (Turn W0 w w p v L L L.length) := Lib.hid ⟨h, List.Perm.refl _, fun _ _ => rfl, .refl _⟩
  have HD0 := Lib.hid hd
  have hfew := h.few
  obtain ⟨n, hn⟩ : ∃ n, L.length = n := ⟨_, rfl⟩
  have HN := Lib.hid hn
  rw [hn] at HT0 HD0 hj hfew ⊢
  have HLESS : Hid (∀ W M (_ : Turn W0 w W p v L M n) (a b : Nat), a < n → b < n → Calls Tryz.prog 168 #[v, .int .i64 a, .int .i64 b] W fun e w' => e = .returned (.bool (ltS (atL M a) (atL M b))) ∧ Below W.heap.size W w') := Lib.hid fun W M hT a b ha hb => by
    have hl := hT.len
    have := hless_any hT.hp a b (by omega) (by omega)
    rwa [← atL_lt (L := M), ← atL_lt (L := M)] at this
  have HSWAP : Hid (∀ W M (_ : Turn W0 w W p v L M n) (a b : Nat), a < n → b < n → Calls Tryz.prog 171 #[v, .int .i64 a, .int .i64 b] W fun e w' => e = .returned (.tuple #[]) ∧ Turn W0 w w' p v L (swL M a b) n) := Lib.hid fun W M hT a b ha hb => by
    have hl := hT.len
    exact (hswap_any hT.hp a b (by omega) (by omega)).mono fun e w' ⟨h1, h2, h3⟩ => ⟨h1, hT.swap ha hb (by omega) h2 h3⟩
  have HML := Lib.hid fun W h => m_less W p v h
  have HMS := Lib.hid fun W h => m_swap W p v h
  clear h hd hn
  unfold ifc
  go_enter Tryz.func124, Tryz.ntmps124
  go_wp2_with fail
  go_loopw [1] (fun i wr => ∃ (k : Nat) (M : List Src), i = .int .i64 k ∧ k < n ∧ Turn W0 w wr p v L M n ∧ Up ltS n (atL M) k) (fun i _ => (intOf i).toNat)
  case atStart => exact ⟨j0, L, rfl, hj, HT0.out, HD0.out⟩
  case round =>
    obtain ⟨k, M, rfl, hkn, hT, hD⟩ := hrel
    have HT := Lib.hid hT
    have HD := Lib.hid hD
    have hml := HML.out wr hT.hp.cell
    clear hT hD
    by_cases hk0 : k = 0
    · subst hk0
      have HF := Lib.hid (HD.out.stop (.inl rfl))
      have hw1 : IntKind.i64.wrap (((0 : Nat) : Int) - 1) = -1 := by rw [IntKind.wrap_i64]; omega
      clear hml
      go_wp2
      go_end0
      exact ⟨rfl, M, HT.out, HF.out⟩
    · obtain ⟨i, hi⟩ : ∃ i, (k - 1) / 2 = i := ⟨_, rfl⟩
      obtain ⟨k1, hk1⟩ : ∃ k1, k - 1 = k1 := ⟨_, rfl⟩
      have hw1 : IntKind.i64.wrap ((k : Int) - 1) = (k1 : Int) := by rw [IntKind.wrap_i64]; omega
      have hw2 : (k1 : Int) / 2 = (i : Int) := by omega
      have hw4 : (k1 : Int).tdiv 2 = (i : Int) := by rw [Int.tdiv_eq_ediv_of_nonneg (by omega)]; exact hw2
      have hne : ¬ (i : Int) = (k : Int) := by omega
      have hnb : ((i : Int) == (k : Int)) = false := by simpa using hne
      have hin : i < n := by omega
      have HL1 := Lib.hid (HLESS.out _ _ HT.out k i hkn hin)
      have HI : Hid ((k - 1) / 2 = i ∧ i < k) := Lib.hid ⟨hi, by omega⟩
      have HST : Hid (ltS (atL M k) (atL M i) = true → Up ltS n (atL (swL M i k)) i) := Lib.hid (fun h => by
        have hl := HT.out.len
        have hn := HN.out
        rw [atL_sw (by omega) (by omega)]
        have := HD.out.step ltS_ord (by omega) hkn (by rw [hi]; exact h)
        rw [hi] at this
        exact this)
      have HSP : Hid (ltS (atL M k) (atL M i) = false → From ltS 0 n (atL M)) := Lib.hid (fun h => HD.out.stop (.inr (by rw [hi]; exact h)))
      obtain ⟨C, hC⟩ : ∃ C, ltS (atL M k) (atL M i) = C := ⟨_, rfl⟩
      rw [hC] at HL1 HST HSP
      clear hC hi hk1 hk0
      go_wp2_with fail
      refine HL1.out.mono ?_
      rintro e w2 ⟨rfl, hb2⟩
      have HT2 := Lib.hid (HT.out.bel hb2)
      clear hb2
      cases C
      · have HF := Lib.hid (HSP.out rfl)
        go_wp2
        go_end0
        exact ⟨rfl, M, HT2.out, HF.out⟩
      · have hms2 := HMS.out w2 HT2.out.hp.cell
        have HSW := Lib.hid (HSWAP.out _ _ HT2.out i k hin hkn)
        have HD2 := Lib.hid (HST.out rfl)
        go_wp2_with fail
        refine HSW.out.mono ?_
        rintro e w3 ⟨rfl, hT3⟩
        have HT3 := Lib.hid hT3
        clear hT3
        go_wp2
        go_roundw
        case rel => exact ⟨i, _, rfl, hin, HT3.out, HD2.out⟩
        case measure => have := HI.out; simp [intOf]; omega
end Go.Proofs.YtjkofciohehgfaaGreatDoor.L13


/- container/heap over sources: Init, Pop, Push. -/
namespace Go.Proofs.YtjkofciohehgfaaGreatDoor.L13
open Go.RowKit
open SK HP
attribute [local go_sem ↓] Go.wp_at_zero Go.wp_at_succ

theorem last_split {L : List Src} {n : Nat} (h : L.length = n + 1) : L.take n ++ [atL L n] = L := by
  rw [atL_lt (by omega), ← List.take_succ_eq_append_getElem (by omega)]
  exact List.take_of_length_le (by omega)
theorem atL_take {L : List Src} {n k : Nat} (h : k < n) : atL (L.take n) k = atL L k := by
  simp [atL, List.getD_eq_getElem?_getD, List.getElem?_take_of_lt h]
theorem atL_append {L : List Src} {s : Src} {k : Nat} (h : k < L.length) : atL (L ++ [s]) k = atL L k := by
  simp [atL, List.getD_eq_getElem?_getD, List.getElem?_append_left h]
set_option maxRecDepth 100000 in
set_option maxHeartbeats 4000000 in
theorem hinit_any {W0 w : World} {p : Nat} {v : Value} {L : List Src} (h : Hp W0 w p v L) :
    Calls Tryz.prog 99 #[ifc p] w fun e w' => e = .returned (.tuple #[]) ∧ ∃ M, Turn W0 w w' p v L M L.length ∧ From ltS 0 L.length (atL M) := by
  have HT0 : Hid (Turn W0 w w p v L L L.length) := Lib.hid ⟨h, List.Perm.refl _, fun _ _ => rfl, .refl _⟩
  have hfew := h.few
  have HLN := Lib.hid (hlen_any h)
  have hml := m_len w p v h.cell
  obtain ⟨n, hn⟩ : ∃ n, L.length = n := ⟨_, rfl⟩
  have HN := Lib.hid hn
  rw [hn] at HT0 hfew HLN ⊢
  have HDN : Hid (∀ W M (_ : Turn W0 w W p v L M n) (a : Nat), a ≤ 1000000 → From ltS (a + 1) n (atL M) → Calls Tryz.prog 123 #[ifc p, .int .i64 a, .int .i64 n] W fun e w' => (∃ b, e = .returned (.bool b)) ∧ ∃ M', Turn W0 w w' p v L M' n ∧ From ltS a n (atL M')) := Lib.hid fun W M hT a ha hF =>
    (hdown_any hT.hp a n a (by have := hT.len; have := HN.out; omega) ha (Dn.start hF)).mono fun e w' ⟨h1, M', h2, h3⟩ => ⟨h1, M', ⟨h2.hp, h2.perm.trans hT.perm, fun k hk => (h2.rest k hk).trans (hT.rest k hk), hT.kp.trans h2.kp⟩, h3⟩
  have HST : Hid (From ltS (n / 2) n (atL L)) := Lib.hid (fun k h0 h1 h2 => by omega)
  clear h hn
  obtain ⟨h2, hh2⟩ : ∃ h2, n / 2 = h2 := ⟨_, rfl⟩
  rw [hh2] at HST
  have hq1 : (n : Int).tdiv 2 = (h2 : Int) := by rw [Int.tdiv_eq_ediv_of_nonneg (by omega)]; omega
  have hq2 : (n : Int) / 2 = (h2 : Int) := by omega
  have hw1 : IntKind.i64.wrap ((h2 : Int) - 1) = (h2 : Int) - 1 := by rw [IntKind.wrap_i64]; omega
  have hh6 : h2 ≤ 1000000 := by omega
  clear hh2
  unfold ifc at HDN ⊢
  go_enter Tryz.func99, Tryz.ntmps99
  go_wp2_with fail
  refine HLN.out.mono ?_
  rintro e w1 ⟨rfl, rfl⟩
  clear hml
  go_wp2_with fail
  go_loopw [3] (fun i wr => ∃ (k : Nat) (M : List Src), i = .int .i64 ((k : Int) - 1) ∧ k ≤ h2 ∧ Turn W0 w wr p v L M n ∧ From ltS k n (atL M)) (fun i _ => (intOf i + 1).toNat)
  case atStart => exact ⟨h2, L, rfl, Nat.le_refl _, HT0.out, HST.out⟩
  case round =>
    obtain ⟨k, M, rfl, hk2, hT, hF⟩ := hrel
    have HT := Lib.hid hT
    have HF := Lib.hid hF
    clear hT hF
    cases k with
    | zero =>
      go_wp2
      go_end0
      exact ⟨rfl, M, HT.out, HF.out⟩
    | succ m =>
      have HDM := Lib.hid (HDN.out _ _ HT.out m (by omega) HF.out)
      have hz : ((m + 1 : Nat) : Int) - 1 = (m : Int) := by omega
      have hw2 : IntKind.i64.wrap ((m : Int) - 1) = (m : Int) - 1 := by rw [IntKind.wrap_i64]; omega
      rw [hz]
      have hge : (0 : Int) ≤ (m : Int) := by omega
      clear hz
      go_wp2_with fail
      refine HDM.out.mono ?_
      rintro e w3 ⟨⟨b, rfl⟩, M3, hT3, hF3⟩
      have HT3 := Lib.hid hT3
      have HF3 := Lib.hid hF3
      clear hT3 hF3
      go_wp2
      go_roundw
      case rel => exact ⟨m, _, rfl, by omega, HT3.out, HF3.out⟩
      case measure => simp [intOf]

/-- what Pop leaves -/
structure Popped (W0 w w' : World) (p : Nat) (L : List Src) (s : Src) (M : List Src) : Prop where
  hp : ∃ v', Hp W0 w' p v' M
  perm : (s :: M).Perm L
  least : ∀ u ∈ M, ltS u s = false
  heap : From ltS 0 M.length (atL M)
  kp : Kp W0.heap.size w w'
  obj : w'.heap[s.b]? = some (objS s)

set_option maxRecDepth 100000 in
set_option maxHeartbeats 4000000 in
theorem hPop_any {W0 w : World} {p : Nat} {v : Value} {L : List Src} (h : Hp W0 w p v L) (hne : 0 < L.length) (hF : From ltS 0 L.length (atL L)) :
    Calls Tryz.prog 100 #[ifc p] w fun e w' => ∃ s M, e = .returned (.iface 153 (ptrS s)) ∧ Popped W0 w w' p L s M := by
  obtain ⟨n, hn⟩ : ∃ n, L.length = n + 1 := ⟨L.length - 1, by omega⟩
  have HLN := Lib.hid (hlen_any h)
  have hml := m_len w p v h.cell
  have hms := m_swap w p v h.cell
  have HSW := Lib.hid (hswap_any h 0 n (by omega) (by omega))
  have hfew := h.few
  have hpm := swL_perm (L := L) (i := 0) (j := n) (by omega) (by omega)
  have hl1 : (swL L 0 n).length = n + 1 := by rw [swL_len, hn]
  have hdn : Dn ltS 0 n (atL (swL L 0 n)) 0 := by
    rw [atL_sw (by omega) (by omega)]
    refine Dn.root hF (by omega) fun k h0 h1 => ?_
    simp only [sw]
    rw [if_neg (by omega), if_neg (by omega)]
  have hat : atL (swL L 0 n) n = atL L 0 := by
    rw [atL_sw (by omega) (by omega)]
    simp only [sw]
    by_cases h0 : n = 0
    · rw [if_pos h0, h0]
    · rw [if_neg h0]; simp
  have hmin := hF.least ltS_ord
  obtain ⟨L1, hL1⟩ : ∃ L1, swL L 0 n = L1 := ⟨_, rfl⟩
  rw [hL1] at HSW hpm hl1 hdn hat
  have HDN : Hid (∀ W (_ : Hp W0 W p v L1), Calls Tryz.prog 123 #[ifc p, .int .i64 0, .int .i64 n] W fun e w' => (∃ b, e = .returned (.bool b)) ∧ ∃ M, Turn W0 W w' p v L1 M n ∧ From ltS 0 n (atL M)) := Lib.hid fun W hW => hdown_any hW 0 n 0 (by omega) (by omega) hdn
  have HEND : Hid (∀ W W1 W2 M, Kp W0.heap.size w W → Turn W0 W W1 p v L1 M n → From ltS 0 n (atL M) → (∃ v', Hp W0 W2 p v' (M.take n)) → Kp W0.heap.size W1 W2 → W2.heap[(atL M n).b]? = some (objS (atL M n)) → Popped W0 w W2 p L (atL M n) (M.take n)) := Lib.hid fun W W1 W2 M hk hT hf hv hk2 ho => by
    have hlm : M.length = n + 1 := by rw [hT.len, hl1]
    have e1 : atL M n = atL L 0 := (hT.rest n (Nat.le_refl _)).trans hat
    have hp2 : (atL M n :: M.take n).Perm L := by
      refine (List.perm_append_singleton _ _).symm.trans ?_
      rw [last_split hlm]
      exact hT.perm.trans hpm
    refine ⟨hv, hp2, fun u hu => ?_, ?_, (hk.trans hT.kp).trans hk2, ho⟩
    · rw [e1]
      have hul : u ∈ L := hp2.mem_iff.1 (by simp [hu])
      obtain ⟨k, hk, rfl⟩ := List.mem_iff_getElem.1 hul
      have := hmin k hk
      rwa [atL_lt hk] at this
    · rw [List.length_take, Nat.min_eq_left (by omega)]
      exact hf.congr fun k hk => atL_take hk
  have HPM : Hid (∀ W M (_ : Turn W0 W W p v L1 M n), True) := Lib.hid fun _ _ _ => trivial
  have HPOP : Hid (∀ W0' W M (_ : Turn W0 W0' W p v L1 M n), Calls Tryz.prog 169 #[.pointer (some ⟨p, 0, none⟩)] W fun e w' => e = .returned (.iface 153 (ptrS (atL M n))) ∧ (∃ v', Hp W0 w' p v' (M.take n)) ∧ Kp W0.heap.size W w' ∧ w'.heap[(atL M n).b]? = some (objS (atL M n))) := Lib.hid fun W0' W M hT => by
    have hlm : M.length = n + 1 := by rw [hT.len, hl1]
    exact hpop_any (by rw [last_split hlm]; exact hT.hp)
  have hmp := m_pop
  have hw1 : IntKind.i64.wrap (((n + 1 : Nat) : Int) - 1) = (n : Int) := by rw [IntKind.wrap_i64]; omega
  rw [hn] at HLN
  obtain ⟨m, hm⟩ : ∃ m, n + 1 = m := ⟨_, rfl⟩
  rw [hm] at HLN hw1
  clear h hn hF hne hfew hpm hl1 hdn hat hmin hL1 hm HPM
  unfold ifc at HDN ⊢
  go_enter Tryz.func100, Tryz.ntmps100
  go_wp2_with fail
  refine HLN.out.mono ?_
  rintro e w1 ⟨rfl, rfl⟩
  go_wp2_with fail
  refine HSW.out.mono ?_
  rintro e w2 ⟨rfl, hp2, hk2⟩
  have HP2 := Lib.hid hp2
  have HK2 := Lib.hid hk2
  clear hp2 hk2 hml hms
  go_wp2_with fail
  refine (HDN.out _ HP2.out).mono ?_
  rintro e w3 ⟨⟨b, rfl⟩, M, hT3, hF3⟩
  have HT3 := Lib.hid hT3
  have HF3 := Lib.hid hF3
  have hmp3 := hmp w3 p
  clear hT3 hF3 hmp
  go_wp2_with fail
  refine (HPOP.out _ _ _ HT3.out).mono ?_
  rintro e w4 ⟨rfl, hv4, hk4, ho4⟩
  have HPP := Lib.hid (HEND.out _ _ _ _ HK2.out HT3.out HF3.out hv4 hk4 ho4)
  clear hv4 hk4 ho4 hmp3
  go_wp2
  go_ret
  exact ⟨_, _, rfl, HPP.out⟩

set_option maxRecDepth 100000 in
set_option maxHeartbeats 4000000 in
theorem hPush_any {W0 w : World} {p : Nat} {v : Value} {L : List Src} (h : Hp W0 w p v L) (s : Src) (hso : w.heap[s.b]? = some (objS s)) (hsB : W0.heap.size ≤ s.b) (hsn : s.b ∉ L.map (·.b)) (hse : EntsIn W0 s.A s.left ∧ s.left.length ≤ s.c ∧ s.left ≠ [] ∧ s.place ≤ 1000000) (hfew : L.length < 1000000) (hF : From ltS 0 L.length (atL L)) :
    Calls Tryz.prog 101 #[ifc p, .iface 153 (ptrS s)] w fun e w' => e = .returned (.tuple #[]) ∧ ∃ v' M, Hp W0 w' p v' M ∧ M.Perm (L ++ [s]) ∧ From ltS 0 M.length (atL M) ∧ Kp W0.heap.size w w' := by
  have HPU := Lib.hid (hpush_any h s hso hsB hsn hse hfew)
  have HUP : Hid (∀ W v', Hp W0 W p v' (L ++ [s]) → Calls Tryz.prog 124 #[ifc p, .int .i64 (L.length : Nat)] W fun e w' => e = .returned (.tuple #[]) ∧ ∃ M, Turn W0 W w' p v' (L ++ [s]) M (L ++ [s]).length ∧ From ltS 0 (L ++ [s]).length (atL M)) := Lib.hid fun W v' hW => hup_any hW L.length (by simp) (by
    rw [List.length_append]
    exact Up.start hF fun k hk => atL_append hk)
  have HLN : Hid (∀ W v', Hp W0 W p v' (L ++ [s]) → Calls Tryz.prog 61 #[v'] W fun e w' => e = .returned (.int .i64 ((L.length + 1 : Nat) : Int)) ∧ W = w') := Lib.hid fun W v' hW => by
    have := hlen_any hW
    rwa [List.length_append] at this
  obtain ⟨L', hL'⟩ : ∃ L', L ++ [s] = L' := ⟨_, rfl⟩
  rw [hL'] at HPU HUP HLN ⊢
  obtain ⟨n, hn⟩ : ∃ n, L.length = n := ⟨_, rfl⟩
  obtain ⟨m, hm⟩ : ∃ m, n + 1 = m := ⟨_, rfl⟩
  rw [hn] at HUP HLN hfew
  rw [hm] at HLN
  have hw1 : IntKind.i64.wrap ((m : Int) - 1) = (n : Int) := by rw [IntKind.wrap_i64]; omega
  have hmp := m_push w p
  have HML := Lib.hid fun W v h => m_len W p v h
  clear h hso hsB hsn hse hfew hF hL' hn hm
  simp only [ptrS] at HPU ⊢
  unfold ifc at HUP ⊢
  go_enter Tryz.func101, Tryz.ntmps101
  go_wp2_with fail
  refine HPU.out.mono ?_
  rintro e w2 ⟨rfl, v2, hp2, hk2⟩
  have HP2 := Lib.hid hp2
  have HK2 := Lib.hid hk2
  have hml := HML.out w2 _ hp2.cell
  clear hp2 hk2 hmp
  go_wp2_with fail
  refine (HLN.out _ _ HP2.out).mono ?_
  rintro e w3 ⟨rfl, rfl⟩
  clear hml
  go_wp2_with fail
  refine (HUP.out _ _ HP2.out).mono ?_
  rintro e w4 ⟨rfl, M, hT4, hF4⟩
  have HT4 := Lib.hid hT4
  have HF4 : Hid (From ltS 0 M.length (atL M)) := Lib.hid (by rw [hT4.len]; exact hF4)
  clear hT4 hF4
  go_wp2
  go_end0
  exact ⟨rfl, _, M, HT4.out.hp, HT4.out.perm, HF4.out, HK2.out.trans HT4.out.kp⟩
end Go.Proofs.YtjkofciohehgfaaGreatDoor.L13


/- next: the entry that stands ahead of all others, taken out. -/
namespace Go.Proofs.YtjkofciohehgfaaGreatDoor.L13
open Go.RowKit
open SK HP
attribute [local go_sem ↓] Go.wp_at_zero Go.wp_at_succ

theorem ta_src (b : Nat) (w : World) : (Instr.typeAssert (.iface 153 (.pointer (some ⟨b, 0, none⟩))) 20 153 false).run Tryz.prog w = .ok (.pointer (some ⟨b, 0, none⟩)) w := by kernel_rfl

theorem Kp.tail {B : Nat} {w a b : World} (h : Kp B w a) (hb : Below w.heap.size a b) : Kp B w b :=
  ⟨hb.os.trans h.os, hb.tape.trans h.tape, hb.output.trans h.output, Nat.le_trans h.size hb.size, fun k o hk hn => (hb.block k (lt_of_at hk)).trans (h.block k o hk hn)⟩

/-- five cells of an entry's variable -/
def put5 (w : World) (x : Nat) (e : SK.E) : World :=
  ((((w.setCell ⟨x, 0, none⟩ (.string e.key)).setCell ⟨x, 1, none⟩ (.int .i64 e.seq)).setCell ⟨x, 2, none⟩ (.bool e.gone)).setCell ⟨x, 3, none⟩ (.string e.value)).setCell ⟨x, 4, none⟩ (.int .i64 e.til)

theorem put5_ok {w : World} {B x : Nat} (e : SK.E) {cs : Array Value} (hx : w.heap[x]? = some (.cells cs 45 (0, 0))) (hB : B ≤ x) : Ks B w (put5 w x e) ∧ Below x w (put5 w x e) ∧ (put5 w x e).heap.size = w.heap.size := by
  have one : ∀ (W : World) (cs : Array Value) (j : Nat) (u : Value), W.heap[x]? = some (.cells cs 45 (0, 0)) → Ks B W (W.setCell ⟨x, j, none⟩ u) := fun W cs j u hW => Ks.grown x (grownBy_setCell W ⟨x, j, none⟩ u) hB fun o ho => by
    rw [hW] at ho
    injection ho with ho
    subst ho
    rintro ⟨_, _, _, e1, e2⟩
    injection e1 with _ e1
    rw [← e1] at e2
    revert e2
    decide
  have h0 := heap_set_fr hx 0 (.string e.key)
  have h1 := heap_set_fr h0 1 (.int .i64 e.seq)
  have h2 := heap_set_fr h1 2 (.bool e.gone)
  have h3 := heap_set_fr h2 3 (.string e.value)
  refine ⟨((((one _ _ 0 _ hx).trans (one _ _ 1 _ h0)).trans (one _ _ 2 _ h1)).trans (one _ _ 3 _ h2)).trans (one _ _ 4 _ h3), ?_, by simp [put5]⟩
  exact (((((Below.refl x w).setCell (p := ⟨x, 0, none⟩) (Nat.le_refl _) _).setCell (p := ⟨x, 1, none⟩) (Nat.le_refl _) _).setCell (p := ⟨x, 2, none⟩) (Nat.le_refl _) _).setCell (p := ⟨x, 3, none⟩) (Nat.le_refl _) _).setCell (p := ⟨x, 4, none⟩) (Nat.le_refl _) _

theorem Hp.away {W0 w : World} {p : Nat} {v : Value} {S : List Src} (h : Hp W0 w p v S) {b : Nat} {cs : Array Value} (hb : w.heap[b]? = some (.cells cs 155 (0, 0))) (hB : W0.heap.size ≤ b) (hn : ∀ s ∈ S, s.b ≠ b) (j : Nat) (u : Value) : Hp W0 (w.setCell ⟨b, j, none⟩ u) p v S ∧ Kp W0.heap.size w (w.setCell ⟨b, j, none⟩ u) := by
  have hk : Kp W0.heap.size w (w.setCell ⟨b, j, none⟩ u) := Kp.set (.refl w) b hB hb ⟨_, _, _, rfl, .inr (.inr rfl)⟩ j u
  have hoth : ∀ k, k ≠ b → (w.setCell ⟨b, j, none⟩ u).heap[k]? = w.heap[k]? := fun k hk => Below.heap_setCell _ _ _ _ hk
  refine ⟨⟨h.below.trans (hk.below h.below.size), (hoth p (ne_type h.box hb (by decide))).trans h.box, h.pB, ⟨h.own.1, ?_⟩, fun s hs => (hoth s.b (hn s hs)).trans (h.obj s hs), h.objB, h.nodup, h.ents, h.few⟩, hk⟩
  rcases h.own.2 with h0 | ⟨g, cap, cur, h1, h2, h3, h4⟩
  · exact .inl h0
  · exact .inr ⟨g, cap, cur, h1, h2, (hoth g (ne_type h3 hb (by decide))).trans h3, h4⟩

theorem EntsIn.tail {w : World} {q f : Nat} {y : SK.E} {t : List SK.E} (h : EntsIn w (some ⟨q, f, none⟩) (y :: t)) : EntsIn w (some ⟨q, f + 5, none⟩) t :=
  ⟨fun e he => h.wf e (by simp [he]), fun _ => by
    obtain ⟨b, off, hA, hlt, hc⟩ := h.at_ (by simp)
    injection hA with hA
    injection hA with h1 h2
    subst h1; subst h2
    refine ⟨q, f + 5, rfl, hlt, fun j hj => ?_⟩
    have := hc (j + 1) (by simpa using hj)
    simp only [List.getElem_cons_succ] at this
    rw [show f + (j + 1) * 5 = f + 5 + j * 5 by omega] at this
    exact this⟩

/-- what next leaves -/
structure Nexted (W0 w w' : World) (p : Nat) (L : List Src) (h : E) (t : List E) (s : Src) (S : List Src) (L' : List Src) : Prop where
  left : s.left = h :: t
  perm : (s :: S).Perm L
  least : ∀ u ∈ S, ltS u s = false
  hp : ∃ v', Hp W0 w' p v' L'
  heap : From ltS 0 L'.length (atL L')
  kp : Kp W0.heap.size w w'
  rest : (t = [] ∧ L'.Perm S) ∨ (t ≠ [] ∧ ∃ s2 : Src, s2.left = t ∧ s2.place = s.place ∧ L'.Perm (S ++ [s2]))

set_option maxRecDepth 100000 in
set_option maxHeartbeats 4000000 in
theorem next_any {W0 w : World} {p : Nat} {v : Value} {L : List Src} (h : Hp W0 w p v L) (hne : 0 < L.length) (hF : From ltS 0 L.length (atL L)) :
    Calls Tryz.prog 62 #[.pointer (some ⟨p, 0, none⟩)] w fun e w' => ∃ x t s S L', e = .returned (SK.E.val x) ∧ Nexted W0 w w' p L x t s S L' := by
  have hb0 : Below w.heap.size w (w.alloc (.cells #[.string ⟨#[]⟩, .int .i64 0, .bool false, .string ⟨#[]⟩, .int .i64 0] 45)) := (Below.refl _ w).alloc (Nat.le_refl _) _
  have hrow0 := heap_alloc_new w (.cells #[.string ⟨#[]⟩, .int .i64 0, .bool false, .string ⟨#[]⟩, .int .i64 0] 45)
  have HPP := Lib.hid (hPop_any (h.bel hb0) hne hF)
  have HENT : Hid (∀ s ∈ L, EntsIn W0 s.A s.left ∧ s.left.length ≤ s.c ∧ s.left ≠ [] ∧ s.place ≤ 1000000 ∧ W0.heap.size ≤ s.b) := Lib.hid fun s hs => ⟨(h.ents s hs).1, (h.ents s hs).2.1, (h.ents s hs).2.2.1, (h.ents s hs).2.2.2, h.objB s hs⟩
  have HND := Lib.hid h.nodup
  have HFEW := Lib.hid h.few
  have HB := Lib.hid h.below
  have HK0 : Hid (Kp W0.heap.size w (w.alloc (.cells #[.string ⟨#[]⟩, .int .i64 0, .bool false, .string ⟨#[]⟩, .int .i64 0] 45))) := Lib.hid (.of hb0)
  obtain ⟨x, hx⟩ : ∃ x, w.heap.size = x := ⟨_, rfl⟩
  unfold ifc at HPP
  clear h hF hne
  go_enter Tryz.func62, Tryz.ntmps62
  go_wp2_with fail
  generalize w.alloc (.cells #[.string ⟨#[]⟩, .int .i64 0, .bool false, .string ⟨#[]⟩, .int .i64 0] 45) = w0 at HPP HK0 hb0 hrow0 ⊢
  rw [hx] at hrow0
  refine HPP.out.mono ?_
  rintro e w1 ⟨s, S, rfl, hp1⟩
  have hsL : s ∈ L := hp1.perm.mem_iff.1 (by simp)
  obtain ⟨E0, hc0, ne0, hpl, hsB⟩ := HENT.out s hsL
  have hB1 : Below W0.heap.size W0 w1 := by
    obtain ⟨v', hv'⟩ := hp1.hp
    exact hv'.below
  have E1 := E0.below hB1
  have ho1 := hp1.obj
  have hx1 := hp1.kp.block x _ hrow0 (.inr (by
    rintro ⟨_, _, _, e1, e2⟩
    injection e1 with _ e1
    rw [← e1] at e2
    revert e2
    decide))
  have X0 : w1.cell? ⟨x, 0, none⟩ = some (.string ⟨#[]⟩) := cell_of_row _ _ _ _ _ _ hx1
  have X1 : w1.cell? ⟨x, 1, none⟩ = some (.int .i64 0) := cell_of_row _ _ _ _ _ _ hx1
  have X2 : w1.cell? ⟨x, 2, none⟩ = some (.bool false) := cell_of_row _ _ _ _ _ _ hx1
  have X3 : w1.cell? ⟨x, 3, none⟩ = some (.string ⟨#[]⟩) := cell_of_row _ _ _ _ _ _ hx1
  have X4 : w1.cell? ⟨x, 4, none⟩ = some (.int .i64 0) := cell_of_row _ _ _ _ _ _ hx1
  have Z0 : w1.frozen? ⟨x, 0, none⟩ = false := frozen_of_row _ _ _ _ _ hx1
  have Z1 : w1.frozen? ⟨x, 1, none⟩ = false := frozen_of_row _ _ _ _ _ hx1
  have Z2 : w1.frozen? ⟨x, 2, none⟩ = false := frozen_of_row _ _ _ _ _ hx1
  have Z3 : w1.frozen? ⟨x, 3, none⟩ = false := frozen_of_row _ _ _ _ _ hx1
  have Z4 : w1.frozen? ⟨x, 4, none⟩ = false := frozen_of_row _ _ _ _ _ hx1
  have hxl := lt_of_at hx1
  have hxb : x ≠ s.b := ne_type hx1 hp1.obj (by decide)
  have hbx : s.b ≠ x := Ne.symm hxb
  have HX1 := Lib.hid hx1
  have HP1 := Lib.hid hp1
  have HE0 := Lib.hid E0
  obtain ⟨b, A, c, pl, left⟩ := s
  simp only [objS, ptrS] at *
  obtain ⟨y, t, rfl⟩ := List.exists_cons_of_ne_nil ne0
  obtain ⟨q, f, hA, hq, hc⟩ := E1.at_ (by simp)
  have k1 := hc 0 (by simp)
  simp only [List.getElem_cons_zero, Nat.zero_mul, Nat.add_zero] at k1
  obtain ⟨x0, x1, x2, x3, x4⟩ := k1
  have u0 : w1.cell? ⟨b, 0, none⟩ = some (.slice A (t.length + 1) c) := cell_of_row _ _ _ _ _ _ ho1
  have u0f : w1.frozen? ⟨b, 0, none⟩ = false := frozen_of_row _ _ _ _ _ ho1
  have hbl := lt_of_at ho1
  clear E0 E1 hc ho1 hp1 ne0 hsL
  obtain ⟨yk, yq, yg, yv, yt⟩ := y
  simp only at x0 x1 x2 x3 x4
  obtain ⟨n, hn⟩ : ∃ n, t.length + 1 = n := ⟨_, rfl⟩
  simp only [List.length_cons] at hc0
  rw [hn] at u0 hc0
  have hnp : 0 < n := by omega
  have hni : (0 : Int) < (n : Int) := by omega
  have hn1 : (1 : Int) ≤ (n : Int) := by omega
  subst hA
  have hta := ta_src b w1
  have HXL : Hid (w.heap.size = x) := Lib.hid hx
  have HNB : Hid (∀ s' ∈ S, s'.b ≠ b) := Lib.hid fun s' hs' he => by
    have hnd := (HP1.out.perm.map (·.b)).nodup_iff.2 HND.out
    rw [List.map_cons, List.nodup_cons] at hnd
    exact hnd.1 (List.mem_map.2 ⟨s', hs', he⟩)
  have HSN : Hid (∀ v2, (∃ v', Hp W0 (w1.setCell ⟨b, 0, none⟩ v2) p v' S) ∧ Kp W0.heap.size w (w1.setCell ⟨b, 0, none⟩ v2) ∧ (w1.setCell ⟨b, 0, none⟩ v2).heap[x]? = some (.cells #[.string ⟨#[]⟩, .int .i64 0, .bool false, .string ⟨#[]⟩, .int .i64 0] 45 (0, 0))) := Lib.hid fun v2 => by
    obtain ⟨v', hv'⟩ := HP1.out.hp
    obtain ⟨h1, h2⟩ := hv'.away HP1.out.obj hsB HNB.out 0 v2
    exact ⟨⟨v', h1⟩, (HK0.out.trans HP1.out.kp).trans h2, (Below.heap_setCell _ _ _ _ hxb).trans HX1.out⟩
  have HHE : Hid (From ltS 0 S.length (atL S)) := Lib.hid HP1.out.heap
  have HFIN : Hid (∀ v2, t = [] → ∃ s S' L', Nexted W0 w ((put5 (w1.setCell ⟨b, 0, none⟩ v2) x ⟨yk, yq, yg, yv, yt⟩).alloc (.cells #[.string yk, .int .i64 yq, .bool yg, .string yv, .int .i64 yt] 45)) p L ⟨yk, yq, yg, yv, yt⟩ t s S' L') := Lib.hid fun v2 ht => by
    obtain ⟨⟨v', h1⟩, h2, h3⟩ := HSN.out v2
    have hBx : W0.heap.size ≤ x := by have := HB.out.size; have := HXL.out; omega
    obtain ⟨h4, h5, h6⟩ := put5_ok (B := W0.heap.size) ⟨yk, yq, yg, yv, yt⟩ h3 hBx
    refine ⟨⟨b, _, c, pl, ⟨yk, yq, yg, yv, yt⟩ :: t⟩, S, S, rfl, HP1.out.perm, HP1.out.least, ⟨v', (h1.stay h4).bel ((Below.refl _ _).alloc (Nat.le_refl _) _)⟩, HHE.out, ?_, .inl ⟨ht, List.Perm.refl _⟩⟩
    refine h2.tail ?_
    rw [HXL.out]
    exact h5.alloc (by rw [h6]; exact Nat.le_of_lt (lt_of_at h3)) _
  by_cases hn2 : n = 1
  · subst hn2
    have ht : t = [] := List.eq_nil_of_length_eq_zero (by omega)
    by_cases hc1 : c = 1
    · subst hc1
      obtain ⟨s, S', L', hN⟩ := HFIN.out (.slice (some ⟨q, f, none⟩) 0 0) ht
      have HN := Lib.hid hN
      unfold put5 at HN
      simp only at HN
      clear hN hn ht
      go_wp2
      exact bodyPost_ret (v := .agg #[.string yk, .int .i64 yq, .bool yg, .string yv, .int .i64 yt]) (by simp [results, Tryz.results62, go_sem, *]) rfl ⟨⟨yk, yq, yg, yv, yt⟩, t, s, S', L', rfl, HN.out⟩
    · obtain ⟨s, S', L', hN⟩ := HFIN.out (.slice (some ⟨q, f + 5, none⟩) 0 (c - 1)) ht
      have HN := Lib.hid hN
      unfold put5 at HN
      simp only at HN
      clear hN hn ht
      go_wp2
      exact bodyPost_ret (v := .agg #[.string yk, .int .i64 yq, .bool yg, .string yv, .int .i64 yt]) (by simp [results, Tryz.results62, go_sem, *]) rfl ⟨⟨yk, yq, yg, yv, yt⟩, t, s, S', L', rfl, HN.out⟩
  · have hc1 : ¬ c = 1 := by omega
    have hnn : (0 : Int) < ((n - 1 : Nat) : Int) := by omega
    obtain ⟨m, hm⟩ : ∃ m, n - 1 = m := ⟨_, rfl⟩
    rw [hm] at hnn
    have HPUSH : Hid (Calls Tryz.prog 101 #[ifc p, .iface 153 (.pointer (some ⟨b, 0, none⟩))] ((w1.setCell ⟨b, 0, none⟩ (.slice (some ⟨q, f + 5, none⟩) m (c - 1))).alloc (.cells #[.string yk, .int .i64 yq, .bool yg, .string yv, .int .i64 yt] 45)) fun e w' => e = .returned (.tuple #[]) ∧ w'.heap[x]? = some (.cells #[.string ⟨#[]⟩, .int .i64 0, .bool false, .string ⟨#[]⟩, .int .i64 0] 45 (0, 0)) ∧ w'.heap[w1.heap.size]? = some (.cells #[.string yk, .int .i64 yq, .bool yg, .string yv, .int .i64 yt] 45 (0, 0)) ∧
        ∃ s S' L', Nexted W0 w (put5 w' x ⟨yk, yq, yg, yv, yt⟩) p L ⟨yk, yq, yg, yv, yt⟩ t s S' L') := Lib.hid (by
      obtain ⟨⟨v', h1⟩, h2, h3⟩ := HSN.out (.slice (some ⟨q, f + 5, none⟩) m (c - 1))
      have hso : (w1.setCell ⟨b, 0, none⟩ (.slice (some ⟨q, f + 5, none⟩) m (c - 1))).heap[b]? = some (.cells #[.slice (some ⟨q, f + 5, none⟩) m (c - 1), .int .i64 pl] 155 (0, 0)) := by
        have := heap_set_fr HP1.out.obj 0 (.slice (some ⟨q, f + 5, none⟩) m (c - 1))
        simpa using this
      have hal := (Below.refl (w1.setCell ⟨b, 0, none⟩ (.slice (some ⟨q, f + 5, none⟩) m (c - 1))).heap.size (w1.setCell ⟨b, 0, none⟩ (.slice (some ⟨q, f + 5, none⟩) m (c - 1)))).alloc (Nat.le_refl _) (.cells #[.string yk, .int .i64 yq, .bool yg, .string yv, .int .i64 yt] 45)
      have htl : t.length = m := by omega
      have hlen : S.length + 1 = L.length := by have := HP1.out.perm.length_eq; simpa using this
      have hfw := HFEW.out
      have hpush := hPush_any (h1.bel hal) ⟨b, some ⟨q, f + 5, none⟩, c - 1, pl, t⟩ (by
        rw [hal.block b (lt_of_at hso), hso, objS, htl]) hsB (fun hm => by
          obtain ⟨s', hs', he⟩ := List.mem_map.1 hm
          exact HNB.out s' hs' he) ⟨HE0.out.tail, by show t.length ≤ c - 1; omega, fun e => by have e' : t = [] := e; rw [e'] at htl; simp at htl; omega, hpl⟩ (by omega) HHE.out
      refine hpush.mono ?_
      rintro e w4 ⟨rfl, v4, M, hp4, hpm4, hF4, hk4⟩
      have hBx : W0.heap.size ≤ x := by have := HB.out.size; have := HXL.out; omega
      have hx4 := hk4.block x _ ((hal.block x (lt_of_at h3)).trans h3) (.inr (by
        rintro ⟨_, _, _, e1, e2⟩
        injection e1 with _ e1
        rw [← e1] at e2
        revert e2
        decide))
      obtain ⟨h4, h5, h6⟩ := put5_ok (B := W0.heap.size) ⟨yk, yq, yg, yv, yt⟩ hx4 hBx
      have hy4 := hk4.block w1.heap.size _ (by
        have := heap_alloc_new (w1.setCell ⟨b, 0, none⟩ (.slice (some ⟨q, f + 5, none⟩) m (c - 1))) (.cells #[.string yk, .int .i64 yq, .bool yg, .string yv, .int .i64 yt] 45)
        rw [setCell_size] at this
        exact this) (.inr (by
        rintro ⟨_, _, _, e1, e2⟩
        injection e1 with _ e1
        rw [← e1] at e2
        revert e2
        decide))
      refine ⟨rfl, hx4, hy4, ⟨b, _, c, pl, ⟨yk, yq, yg, yv, yt⟩ :: t⟩, S, M, rfl, HP1.out.perm, HP1.out.least, ⟨v4, hp4.stay h4⟩, hF4, ?_, .inr ⟨fun e => by rw [e] at htl; simp at htl; omega, ⟨b, some ⟨q, f + 5, none⟩, c - 1, pl, t⟩, rfl, rfl, hpm4⟩⟩
      exact (((h2.trans (.of hal)).trans hk4)).tail (by rw [HXL.out]; exact h5))
    unfold ifc at HPUSH
    clear X0 X1 X2 X3 X4 Z0 Z1 Z2 Z3 Z4 hx1 hn hx
    go_wp2_with fail
    refine HPUSH.out.mono ?_
    rintro e w4 ⟨rfl, hx4, hy4, s, S', L', hN⟩
    have Y0 : w4.cell? ⟨w1.heap.size, 0, none⟩ = some (.string yk) := cell_of_row _ _ _ _ _ _ hy4
    have Y1 : w4.cell? ⟨w1.heap.size, 1, none⟩ = some (.int .i64 yq) := cell_of_row _ _ _ _ _ _ hy4
    have Y2 : w4.cell? ⟨w1.heap.size, 2, none⟩ = some (.bool yg) := cell_of_row _ _ _ _ _ _ hy4
    have Y3 : w4.cell? ⟨w1.heap.size, 3, none⟩ = some (.string yv) := cell_of_row _ _ _ _ _ _ hy4
    have Y4 : w4.cell? ⟨w1.heap.size, 4, none⟩ = some (.int .i64 yt) := cell_of_row _ _ _ _ _ _ hy4
    have HN := Lib.hid hN
    unfold put5 at HN
    simp only at HN
    have X0 : w4.cell? ⟨x, 0, none⟩ = some (.string ⟨#[]⟩) := cell_of_row _ _ _ _ _ _ hx4
    have X1 : w4.cell? ⟨x, 1, none⟩ = some (.int .i64 0) := cell_of_row _ _ _ _ _ _ hx4
    have X2 : w4.cell? ⟨x, 2, none⟩ = some (.bool false) := cell_of_row _ _ _ _ _ _ hx4
    have X3 : w4.cell? ⟨x, 3, none⟩ = some (.string ⟨#[]⟩) := cell_of_row _ _ _ _ _ _ hx4
    have X4 : w4.cell? ⟨x, 4, none⟩ = some (.int .i64 0) := cell_of_row _ _ _ _ _ _ hx4
    have Z0 : w4.frozen? ⟨x, 0, none⟩ = false := frozen_of_row _ _ _ _ _ hx4
    have Z1 : w4.frozen? ⟨x, 1, none⟩ = false := frozen_of_row _ _ _ _ _ hx4
    have Z2 : w4.frozen? ⟨x, 2, none⟩ = false := frozen_of_row _ _ _ _ _ hx4
    have Z3 : w4.frozen? ⟨x, 3, none⟩ = false := frozen_of_row _ _ _ _ _ hx4
    have Z4 : w4.frozen? ⟨x, 4, none⟩ = false := frozen_of_row _ _ _ _ _ hx4
    clear hN hx4 hy4
    go_wp2
    exact bodyPost_ret (v := .agg #[.string yk, .int .i64 yq, .bool yg, .string yv, .int .i64 yt]) (by simp [results, Tryz.results62, go_sem, *]) rfl ⟨⟨yk, yq, yg, yv, yt⟩, t, s, S', L', rfl, HN.out⟩
end Go.Proofs.YtjkofciohehgfaaGreatDoor.L13


/- sourcesOf: all lists that have entries, as a heap. -/
namespace Go.Proofs.YtjkofciohehgfaaGreatDoor.L13
open Go.RowKit
open SK HP
attribute [local go_sem ↓] Go.wp_at_zero Go.wp_at_succ

/-- a list of entries where it lies: where, its capacity, its entries -/
structure LE where
  A : Option Addr
  c : Nat
  l : List SK.E

/-- lists of entries that come in -/
structure ListsIn (w : World) (A : Option Addr) (ls : List LE) : Prop where
  ents : ∀ x ∈ ls, EntsIn w x.A x.l ∧ x.l.length ≤ x.c
  at_ : 0 < ls.length → ∃ b off, A = some ⟨b, off, none⟩ ∧ b < w.heap.size ∧ ∀ j, (h : j < ls.length) → w.cell? ⟨b, off + j, none⟩ = some (.slice ls[j].A ls[j].l.length ls[j].c)

theorem ListsIn.below {w w' : World} {A : Option Addr} {ls : List LE} (h : ListsIn w A ls) (hb : Below w.heap.size w w') : ListsIn w' A ls :=
  ⟨fun x hx => ⟨(h.ents x hx).1.below hb, (h.ents x hx).2⟩, fun hn => by
    obtain ⟨b, off, hA, hlt, hc⟩ := h.at_ hn
    exact ⟨b, off, hA, Nat.lt_of_lt_of_le hlt hb.size, fun j hj => (hb.cell (p := ⟨b, off + j, none⟩) hlt).trans (hc j hj)⟩⟩

/-- the sources of the first m lists -/
structure SrcsOf (ls : List LE) (m : Nat) (L : List Src) : Prop where
  from_ : ∀ s ∈ L, s.left ≠ [] ∧ s.place < m ∧ (ls.map (·.l))[s.place]? = some s.left
  all : ∀ (i : Nat) (l : List SK.E), i < m → (ls.map (·.l))[i]? = some l → l ≠ [] → ∃ s ∈ L, s.place = i ∧ s.left = l
  apart : ∀ s ∈ L, ∀ t ∈ L, s.place = t.place → s = t
  len : L.length ≤ m
  sum : tot L ≤ ((ls.map (·.l)).take m).flatten.length

theorem take_more (ls : List LE) (m : Nat) (hm : m < ls.length) : ((ls.map (·.l)).take (m + 1)).flatten.length = ((ls.map (·.l)).take m).flatten.length + ls[m].l.length := by
  rw [List.take_succ_eq_append_getElem (by simpa using hm)]
  simp only [List.flatten_append, List.length_append, List.getElem_map]
  simp

theorem SrcsOf.skip {ls : List LE} {m : Nat} {L : List Src} (h : SrcsOf ls m L) (hm : m < ls.length) (he : ls[m].l = []) : SrcsOf ls (m + 1) L :=
  ⟨fun s hs => ⟨(h.from_ s hs).1, by have := (h.from_ s hs).2.1; omega, (h.from_ s hs).2.2⟩, fun i l hi hl hne => by
    by_cases e : i = m
    · subst e
      rw [List.getElem?_map, List.getElem?_eq_getElem hm, Option.map_some, Option.some.injEq] at hl
      rw [he] at hl
      exact absurd hl.symm hne
    · exact h.all i l (by omega) hl hne, h.apart, by have := h.len; omega, by have := h.sum; rw [take_more ls m hm]; omega⟩
theorem SrcsOf.more {ls : List LE} {m : Nat} {L : List Src} (h : SrcsOf ls m L) (hm : m < ls.length) (s : Src) (hp : s.place = m) (hl : s.left = ls[m].l) (hne : ls[m].l ≠ []) : SrcsOf ls (m + 1) (L ++ [s]) :=
  ⟨fun x hx => by
    rcases List.mem_append.1 hx with hx | hx
    · exact ⟨(h.from_ x hx).1, by have := (h.from_ x hx).2.1; omega, (h.from_ x hx).2.2⟩
    · rw [List.mem_singleton.1 hx]
      exact ⟨by rw [hl]; exact hne, by omega, by rw [hp, hl]; simp [hm]⟩, fun i l hi hli hne => by
    by_cases e : i = m
    · subst e
      rw [List.getElem?_map, List.getElem?_eq_getElem hm, Option.map_some, Option.some.injEq] at hli
      exact ⟨s, by simp, hp, by rw [hl, hli]⟩
    · obtain ⟨x, hx, h1, h2⟩ := h.all i l (by omega) hli hne
      exact ⟨x, by simp [hx], h1, h2⟩, fun x hx y hy hxy => by
    rcases List.mem_append.1 hx with hx | hx
    · rcases List.mem_append.1 hy with hy | hy
      · exact h.apart x hx y hy hxy
      · have := (h.from_ x hx).2.1
        rw [List.mem_singleton.1 hy] at hxy
        omega
    · rcases List.mem_append.1 hy with hy | hy
      · have := (h.from_ y hy).2.1
        rw [List.mem_singleton.1 hx] at hxy
        omega
      · rw [List.mem_singleton.1 hx, List.mem_singleton.1 hy], by have := h.len; simp; omega, by
    have h1 := h.sum
    have h2 : tot (L ++ [s]) = tot (s :: L) := tot_perm (List.perm_append_singleton _ _)
    rw [h2, tot_cons, take_more ls m hm, hl]
    omega⟩

/-- a new heap, with nothing in it -/
theorem hp_new (w : World) : Hp w ((w.alloc (.cells #[] 153)).alloc (.cells #[.slice (some ⟨w.heap.size, 0, none⟩) 0 0] 152)) (w.heap.size + 1) (.slice (some ⟨w.heap.size, 0, none⟩) 0 0) [] := by
  have h1 := heap_alloc_new w (.cells #[] 153)
  have h2 := heap_alloc_new (w.alloc (.cells #[] 153)) (.cells #[.slice (some ⟨w.heap.size, 0, none⟩) 0 0] 152)
  have hs : (w.alloc (.cells #[] 153)).heap.size = w.heap.size + 1 := by simp
  rw [hs] at h2
  exact ⟨((Below.refl _ w).alloc (Nat.le_refl _) _).alloc (by simp) _, h2, by omega, ⟨rfl, .inr ⟨_, 0, #[], rfl, Nat.le_refl _, (Below.heap_alloc _ _ _ (by simp)).trans h1, Nat.le_refl _, by unfold maxLen; omega, rfl, rfl⟩⟩, by simp, by simp, by simp, by simp, by simp⟩

theorem Hp.box_grown {W0 w w1 : World} {p : Nat} {v : Value} {L : List Src} (h : Hp W0 w p v L) (hg : w.grownBy w1 v.ownBlock) : w1.heap[p]? = some (.cells #[v] 152 (0, 0)) := by
  refine (hg.block p (lt_of_at h.box) (fun e => ?_)).trans h.box
  rcases h.own.2 with ⟨e', _⟩ | ⟨g', cap, cur, e', _, h3, _⟩
  · rw [e'] at e; cases e
  · rw [e'] at e
    injection e with e
    exact ne_type h.box h3 (by decide) e

set_option maxRecDepth 100000 in
set_option maxHeartbeats 4000000 in
theorem sources_any (A : Option Addr) (n c : Nat) (ls : List LE) (w : World) (hn : ls.length = n) (hz : ListsIn w A ls) (h6 : n ≤ 1000000) :
    Calls Tryz.prog 60 #[.slice A n c] w fun e w' => ∃ p v L, e = .returned (.pointer (some ⟨p, 0, none⟩)) ∧ Hp w w' p v L ∧ SrcsOf ls n L ∧ From ltS 0 L.length (atL L) := by
  obtain ⟨i0, hi, hz0, hz1, hz2⟩ := info_parts info_psrc
  have HNEW := Lib.hid (hp_new w)
  have HZ := Lib.hid hz
  have HN := Lib.hid hn
  have HINI : Hid (∀ W p v L, Hp w W p v L → Calls Tryz.prog 99 #[ifc p] W fun e w' => e = .returned (.tuple #[]) ∧ ∃ M, Turn w W w' p v L M L.length ∧ From ltS 0 L.length (atL M)) := Lib.hid fun W p v L h => hinit_any h
  clear hz hn
  unfold ifc at HINI
  go_enter Tryz.func60, Tryz.ntmps60
  go_wp2_with fail
  generalize hq : (w.alloc (.cells #[] 153)).alloc (.cells #[.slice (some ⟨w.heap.size, 0, none⟩) 0 0] 152) = w2 at HNEW ⊢
  clear hq
  go_loopw [10] (fun i wr => ∃ (k : Nat) (v : Value) (L : List Src), k ≤ n ∧ i = .int .i64 k ∧ Hp w wr (w.heap.size + 1) v L ∧ SrcsOf ls k L) (fun i _ => n - (intOf i).toNat)
  case atStart => exact ⟨0, _, [], by omega, rfl, HNEW.out, ⟨by simp, fun i l h => by omega, by simp, by simp, by simp [tot]⟩⟩
  case round =>
    obtain ⟨k, v, L, hk, rfl, hp, hso⟩ := hrel
    have HPR := Lib.hid hp
    have HSO := Lib.hid hso
    by_cases hlt : k < n
    · have hkl : k < ls.length := by rw [HN.out]; exact hlt
      obtain ⟨b, off, hA, hbl, hc⟩ := (HZ.out.below hp.below).at_ (by omega)
      have hck := hc k hkl
      have c0 := hp.cell
      have f0 : wr.frozen? ⟨w.heap.size + 1, 0, none⟩ = false := frozen_of_row _ _ _ _ _ hp.box
      have hpl := lt_of_at hp.box
      obtain ⟨hek0, hcap⟩ := HZ.out.ents _ (List.getElem_mem hkl)
      have HSK : Hid (ls[k].l = [] → SrcsOf ls (k + 1) L) := Lib.hid fun he => HSO.out.skip hkl he
      have HMO : Hid (∀ s : Src, s.place = k → s.left = ls[k].l → ls[k].l ≠ [] → SrcsOf ls (k + 1) (L ++ [s])) := Lib.hid fun s h1 h2 h3 => HSO.out.more hkl s h1 h2 h3
      obtain ⟨x, hx⟩ : ∃ x, ls[k] = x := ⟨_, rfl⟩
      rw [hx] at hck hek0 hcap HSK HMO
      obtain ⟨xA, xc, xl⟩ := x
      simp only at hck hek0 hcap HSK HMO
      have g0 : (0 : Int) ≤ (k : Int) := by omega
      have g1 : (k : Int) < (n : Int) := by omega
      subst hA
      clear hx hc hp hso
      by_cases hxl : xl = []
      · have HS2 := Lib.hid (HSK.out hxl)
        subst hxl
        simp only [List.length_nil] at hck
        clear HMO HSK hcap
        go_wp2
        go_roundw
        case rel => exact ⟨k + 1, _, _, by omega, by go_num, HPR.out, HS2.out⟩
        case measure => simp [intOf]; omega
      · obtain ⟨m, hm⟩ : ∃ m, xl.length = m := ⟨_, rfl⟩
        have hmp : 0 < m := by
          cases xl with
          | nil => exact absurd rfl hxl
          | cons y t => simp at hm; omega
        have hmi : (0 : Int) < (m : Int) := by omega
        have HS2 := Lib.hid (fun s h1 h2 => HMO.out s h1 h2 hxl)
        rw [hm] at hck
        have hfew : L.length ≤ k := HSO.out.len
        clear HMO HSK
        have hlo := HPR.out.below.size
        have hB3 : Below wr.heap.size wr ((wr.alloc (.cells #[.slice xA m xc, .int .i64 k] 155)).alloc (.cells #[.pointer (some ⟨wr.heap.size, 0, none⟩)] 153)) := ((Below.refl _ _).alloc (Nat.le_refl _) _).alloc (by simp) _
        have HPU : Hid (∀ v' w4, w4.ownsRow w.heap.size 153 1 v' (L.length + 1) (L.map ptrS ++ [.pointer (some ⟨wr.heap.size, 0, none⟩)]) → ((wr.alloc (.cells #[.slice xA m xc, .int .i64 k] 155)).alloc (.cells #[.pointer (some ⟨wr.heap.size, 0, none⟩)] 153)).grownBy w4 v.ownBlock →
            Hp w (w4.setCell ⟨w.heap.size + 1, 0, none⟩ v') (w.heap.size + 1) v' (L ++ [⟨wr.heap.size, xA, xc, k, xl⟩]) ∧ w4.heap[w.heap.size + 1]? = some (.cells #[v] 152 (0, 0))) := Lib.hid fun v' w4 ho hg => by
          have h3 := HPR.out.bel hB3
          refine ⟨(h3.push ⟨wr.heap.size, xA, xc, k, xl⟩ ?_ hlo ?_ ⟨hek0, hcap, hxl, by show k ≤ 1000000; omega⟩ (by omega) ho hg).1, h3.box_grown hg⟩
          · rw [objS]
            simp only [hm]
            exact (Below.heap_alloc _ _ _ (by simp)).trans (heap_alloc_new wr _)
          · intro hmem
            obtain ⟨s', hs', he⟩ := List.mem_map.1 hmem
            have h1 := lt_of_at (HPR.out.obj s' hs')
            have h2 : s'.b = wr.heap.size := he
            omega
        go_wp2_with (at_builtin; refine wpList_append_own _ rfl _ _ 152 rfl w.heap.size 153 i0 _ 1 8 Tryz.underlying152 hi hz0 hz1 hz2 rfl (by decide) v _ _ rfl (own_below HPR.out.own hB3) ⟨wr.heap.size + 1, 0, none⟩ 1 1 [.pointer (some ⟨wr.heap.size, 0, none⟩)] rfl ?c1 ?c2 ?c3 ?c4 ?c5 ?c6 ?_)
        case c1 => rfl
        case c2 =>
          have := one_cell (wr.alloc (.cells #[.slice xA m xc, .int .i64 k] 155)) (.pointer (some ⟨wr.heap.size, 0, none⟩)) 153
          simpa using this
        case c3 => intro u hu; simp at hu; subst hu; rfl
        case c4 => unfold maxLen; omega
        case c5 => omega
        case c6 => simp; omega
        intro v' w4 hown4 hgrow4 hnil
        clear hnil
        obtain ⟨h4, h5⟩ := HPU.out v' w4 hown4 hgrow4
        have HP4 := Lib.hid h4
        have S4 : w4.cell? ⟨w.heap.size + 1, 0, none⟩ = some v := cell_of_row _ _ _ _ _ _ h5
        have F4 : w4.frozen? ⟨w.heap.size + 1, 0, none⟩ = false := frozen_of_row _ _ _ _ _ h5
        have HS3 := Lib.hid (HS2.out ⟨wr.heap.size, xA, xc, k, xl⟩ rfl rfl)
        obtain ⟨A6, n6, c6, rfl⟩ : ∃ A n c, v' = .slice A n c := by
          rcases hown4.2 with ⟨e, _⟩ | ⟨g', cap, cur, e, _⟩
          · exact ⟨_, _, _, e⟩
          · exact ⟨_, _, _, e⟩
        clear hown4 hgrow4 h4 h5 HPU hB3
        go_wp2
        go_roundw
        case rel => exact ⟨k + 1, _, _, by omega, by go_num, HP4.out, HS3.out⟩
        case measure => simp [intOf]; omega
    · have hkn : k = n := by omega
      subst hkn
      have HIN := Lib.hid (HINI.out _ _ _ _ hp)
      clear hp hso
      go_wp2_with fail
      refine HIN.out.mono ?_
      rintro e w3 ⟨rfl, M, hT, hF⟩
      have HT := Lib.hid hT
      have HF : Hid (From ltS 0 M.length (atL M)) := Lib.hid (by rw [hT.len]; exact hF)
      have HSM : Hid (SrcsOf ls k M) := Lib.hid (by
        have hpm := hT.perm
        exact ⟨fun s hs => HSO.out.from_ s (hpm.mem_iff.1 hs), fun i l h1 h2 h3 => by
          obtain ⟨s, hs, h4⟩ := HSO.out.all i l h1 h2 h3
          exact ⟨s, hpm.mem_iff.2 hs, h4⟩, fun s hs t ht => HSO.out.apart s (hpm.mem_iff.1 hs) t (hpm.mem_iff.1 ht), by rw [hpm.length_eq]; exact HSO.out.len, by rw [tot_perm hpm]; exact HSO.out.sum⟩)
      clear hT hF
      go_wp2
      go_ret
      exact ⟨_, _, M, rfl, HT.out.hp, HSM.out, HF.out⟩
end Go.Proofs.YtjkofciohehgfaaGreatDoor.L13


