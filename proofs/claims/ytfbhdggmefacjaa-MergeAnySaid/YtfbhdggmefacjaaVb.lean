/- Visible. -/
import Derived.Test.YtfbhdggmefacjaaVa
import Derived.RangeFuncFrom
import Derived.RangeFuncWrites
import Derived.Sort.QuietIn
import Derived.Maps.AppendAt
import Derived.Test.YtfbhdggmefacjaaHt
namespace Go.Proofs.Ytfbhdggmefacjaa
open Go.RowKit Go.Shelf
open SK VB
attribute [local go_sem] Oper.semAt_some

namespace VB
/-- of one key's entries: what is there -/
def one (q now : Int) (r : List SK.E) : List SK.E := match r.find? (fun e => decide (e.seq ≤ q)) with | some e => if alive e now = true then [e] else [] | none => []
def out (q now : Int) (pre : List G) : List SK.E := pre.flatMap (fun g => one q now g.l)
def vis (q now : Int) (l : List SK.E) : List SK.E := (runs l).flatMap (one q now)
theorem out_gs (q now : Int) (l : List SK.E) : out q now (gs l) = vis q now l := by
  unfold out vis
  conv => rhs; rw [← placed_map 0 (runs l)]
  rw [List.flatMap_map]
  rfl
theorem out_snoc (q now : Int) (pre : List G) (g : G) : out q now (pre ++ [g]) = out q now pre ++ one q now g.l := by simp [out]
theorem one_len (q now : Int) (r : List SK.E) : (one q now r).length ≤ 1 := by
  unfold one
  split
  · split <;> simp
  · simp
theorem out_len (q now : Int) (pre : List G) : (out q now pre).length ≤ pre.length := by
  induction pre with
  | nil => simp [out]
  | cons g pre ih =>
    have h1 := one_len q now g.l
    simp only [out, List.flatMap_cons, List.length_append, List.length_cons] at *
    omega
end VB

theorem plain_spec {L : List Oper} (h : ∀ o ∈ L, Plain o) : ∀ (j : Nat) (o : Oper), L.toArray[j]? = some o → Plain o := fun j o hj => h o (List.mem_of_getElem? (by simpa using hj))

/-- an append whose end is known, at a step of a region that draws its order, within a fence -/
theorem step_app_in {n : Nat} {ops : Array Oper} {o : Oper} {a : Act} {K : Act → World → Prop} {Q : Exit → Act → World → Prop} {E : Prop} {w : World} (ty : TypeId) (hgd : o.guard = none) (s x : Operand) (ho : o.op = .call { callee := .builtin .append, args := #[s, x], argTypes := #[ty, ty] }) (hty : o.type = ty)
    (v1 v2 : Value) (hs : a.eval s = v1) (hx : a.eval x = v2) (v' : Value) (w' : World) (happ : (Builtin.append_ #[ty, ty] ty #[v1, v2]).run Try.prog w = .ok v' w') (hk : K (a.put o.dst v') w') :
    if Region.wanted o (yielded ops a.tmps) = true then Oper.wpIn Fence.wide n Try.prog o a w K Q else E := by
  have hw : Region.wanted o (yielded ops a.tmps) = true := by simp [Region.wanted, hgd]
  rw [if_pos hw]
  unfold Oper.wpIn
  refine ⟨fun _ _ => trivial, ?_⟩
  rw [show Fence.wide.round = none from rfl, Oper.semAt_none]
  unfold execOp
  simp only [ho, hty, resolve, invoke, builtin, Sem.run_bind, Sem.run_pure, Result.andThen_ok, List.map_toArray, List.map_cons, List.map_nil, hs, hx, happ]
  exact hk

theorem eachkey_any (A : Option Addr) (n c : Nat) (w : World) :
    Calls Try.prog 27 #[.slice A n c] w fun e w' => e = .returned (.func (.func 39) #[] #[.pointer (some ⟨w.heap.size, 0, none⟩)]) ∧ w' = w.alloc (.cells #[.slice A n c] 23) := by
  go_enter Try.func27, Try.ntmps27
  go_wp2
  go_ret
  exact ⟨rfl, rfl⟩

theorem idx_cases (u : SK.E → Bool) (l : List SK.E) : (idx u l = -1 ∧ l.find? u = none) ∨ ∃ (j : Nat) (h : j < l.length), idx u l = (j : Int) ∧ l.find? u = some l[j] := by
  unfold idx
  cases hf : l.findIdx? u with
  | none =>
    left
    refine ⟨rfl, ?_⟩
    rw [List.findIdx?_eq_none_iff] at hf
    rw [List.find?_eq_none]
    intro x hx
    simpa using hf x hx
  | some j =>
    right
    rw [List.findIdx?_eq_some_iff_getElem] at hf
    obtain ⟨h, h1, h2⟩ := hf
    refine ⟨j, h, rfl, ?_⟩
    rw [List.find?_eq_some_iff_getElem]
    exact ⟨h1, j, h, rfl, fun k hk => by simpa using h2 k hk⟩

theorem lt_of_cells {w : World} {k : Nat} {o : Obj} (h : w.heap[k]? = some o) : k < w.heap.size := (Array.getElem?_eq_some_iff.1 h).1

theorem EntsIn.run {w : World} {A : Option Addr} {l : List SK.E} (h : EntsIn w A l) {g : G} (hg : g ∈ gs l) : EntsIn w (A.map fun a => ⟨a.block, a.off + g.at_ * 5, none⟩) g.l ∧ 0 < g.l.length ∧ g.at_ + g.l.length ≤ l.length := by
  obtain ⟨hi, hl⟩ := gs_at hg
  obtain ⟨q, f, rfl, hlt, hc⟩ := h.at_ (by omega)
  have hle := runAt_le (l := l) (i := g.at_) (by omega)
  have hp := runAt_pos hi
  rw [← hl] at hle hp
  have ht : g.l = (l.drop g.at_).take g.l.length := by
    conv => lhs; rw [hl, runAt_take]
    rw [← hl]
  refine ⟨⟨fun e he => ?_, fun _ => ⟨q, f + g.at_ * 5, rfl, hlt, fun j hj => ?_⟩⟩, hp, hle⟩
  · rw [ht] at he
    exact h.wf e (List.mem_of_mem_drop (List.mem_of_mem_take he))
  · have e1 : g.l[j] = l[g.at_ + j] := by
      have : g.l[j] = ((l.drop g.at_).take g.l.length)[j]'(by rw [← ht]; exact hj) := by congr 1
      rw [this, List.getElem_take, List.getElem_drop]
    have := hc (g.at_ + j) (by omega)
    rw [← e1, show f + (g.at_ + j) * 5 = f + g.at_ * 5 + j * 5 by omega] at this
    exact this

def runV (A : Option Addr) (c : Nat) (g : G) : Value := .slice (A.map fun a => ⟨a.block, a.off + g.at_ * 5, none⟩) g.l.length (c - g.at_)
theorem encG_eq (A : Option Addr) (c : Nat) (g : G) : encG A c g = #[runV A c g] := rfl

/-- what lies between two rounds: what has been collected -/
structure GotV (y : Nat) (w6 : World) (o : List SK.E) (W : World) : Prop where
  kept : Kept [y] w6.heap.size w6 W
  row : ∃ v, Boxed W y 23 v ∧ W.ownsRow w6.heap.size 37 5 v o.length (ecs o)

theorem GotV.own {β : Type} {y : Nat} {w6 : World} (f : β → List SK.E) : OwnFrom w6.heap.size (fun pre W => GotV y w6 (f pre) W) := fun s A B row h hg hr => by
  obtain ⟨v, h1, h2⟩ := h.row
  obtain ⟨v', h3, h4, -⟩ := (holdsRow_own w6.heap.size y 23 37 5 (fun pre : β => (f pre).length) (fun pre => ecs (f pre)) (fun _ _ => True)) s A B row ⟨v, h1, h2, trivial⟩ hg (fun r e => (hr r e).2)
  exact ⟨h.kept.grown (Nat.le_refl _) hg (fun r e => (hr r e).1), v', h3, h4⟩

set_option maxRecDepth 100000 in
set_option maxHeartbeats 8000000 in
theorem visible_any (A : Option Addr) (n c : Nat) (l : List SK.E) (q now : Int) (w : World) (hn : l.length = n) (hnc : n ≤ c) (hb : n ≤ 1000000) (hin : EntsIn w A l) :
    Calls Try.prog 16 #[.slice A n c, .int .i64 q, .int .i64 now] w fun e w' => ∃ v, e = .returned v ∧ w'.ownsRow w.heap.size 37 5 v (vis q now l).length (ecs (vis q now l)) ∧ Below w.heap.size w w' := by
  refine (callsIn_wide (n := 4)).1 ?_
  refine callsIn_of_wp_marks Try.func16 rfl trivial ?_ rfl
  simp only [Try.ntmps16, List.size_toArray, List.length_cons, List.length_nil, Nat.reduceAdd, Nat.reduceSub, Array.replicate_succ, Array.replicate_zero, List.push_toArray, List.append_toArray, List.nil_append, List.cons_append]
  refine wpIn_wide.2 ?_
  go_wp2_with fail
  have hX0 : Below w.heap.size w (((w.alloc (.cells #[.int .i64 q] 2)).alloc (.cells #[.int .i64 now] 2)).alloc (.cells #[.slice none 0 0] 23)) := (((Below.refl _ w).alloc (Nat.le_refl _) _).alloc (by simp) _).alloc (by simp; omega) _
  have hq0 : (((w.alloc (.cells #[.int .i64 q] 2)).alloc (.cells #[.int .i64 now] 2)).alloc (.cells #[.slice none 0 0] 23)).heap[w.heap.size]? = some (.cells #[.int .i64 q] 2 (0, 0)) := (Below.heap_alloc _ _ _ (by simp; omega)).trans ((Below.heap_alloc _ _ _ (by simp)).trans (heap_alloc_new w _))
  have hq1 : (((w.alloc (.cells #[.int .i64 q] 2)).alloc (.cells #[.int .i64 now] 2)).alloc (.cells #[.slice none 0 0] 23)).heap[w.heap.size + 1]? = some (.cells #[.int .i64 now] 2 (0, 0)) := (Below.heap_alloc _ _ _ (by simp)).trans (by have := heap_alloc_new (w.alloc (.cells #[.int .i64 q] 2)) (.cells #[.int .i64 now] 2); simpa using this)
  have hq2 : Boxed (((w.alloc (.cells #[.int .i64 q] 2)).alloc (.cells #[.int .i64 now] 2)).alloc (.cells #[.slice none 0 0] 23)) (w.heap.size + 1 + 1) 23 (.slice none 0 0) := by
    have := Boxed.new ((w.alloc (.cells #[.int .i64 q] 2)).alloc (.cells #[.int .i64 now] 2)) 23 (.slice none 0 0)
    simpa using this
  have hsz : (((w.alloc (.cells #[.int .i64 q] 2)).alloc (.cells #[.int .i64 now] 2)).alloc (.cells #[.slice none 0 0] 23)).heap.size = w.heap.size + 3 := by simp
  generalize ((w.alloc (.cells #[.int .i64 q] 2)).alloc (.cells #[.int .i64 now] 2)).alloc (.cells #[.slice none 0 0] 23) = w4 at hX0 hq0 hq1 hq2 hsz ⊢
  obtain ⟨x, hx⟩ : ∃ x, w.heap.size = x := ⟨_, rfl⟩
  rw [hx] at hX0 hq0 hq1 hq2 hsz ⊢
  have HX := Lib.hid hx
  have HIN4 := Lib.hid (hin.below (by rw [hx]; exact hX0))
  have hAl : ∀ b ∈ fb A, l ≠ [] → b < x := fun b hb hne => by
    obtain ⟨b', off, hA, hlt, -⟩ := hin.at_ (List.length_pos_iff.2 hne)
    rw [hA] at hb
    simp [fb] at hb
    omega
  refine (eachkey_any A n c w4).mono ?_
  rintro v w5 ⟨rfl, rfl⟩
  have hal := (Below.refl w4.heap.size w4).alloc (Nat.le_refl _) (.cells #[.slice A n c] 23)
  have c0 : (w4.alloc (.cells #[.slice A n c] 23)).cell? ⟨x + 3, 0, none⟩ = some (.slice A n c) := cell_of_row _ _ _ _ _ _ (by have := heap_alloc_new w4 (.cells #[.slice A n c] 23); rwa [hsz] at this)
  have hs5 : (w4.alloc (.cells #[.slice A n c] 23)).heap.size = x + 4 := by simp [hsz]
  have HIN5 := Lib.hid (HIN4.out.below hal)
  have HQ0 := Lib.hid ((hal.block x (by omega)).trans hq0)
  have HQ1 := Lib.hid ((hal.block (x + 1) (by omega)).trans hq1)
  have HQ2 := Lib.hid (hq2.alloc (.cells #[.slice A n c] 23))
  have HB5 : Hid (Below x w (w4.alloc (.cells #[.slice A n c] 23))) := Lib.hid (hX0.trans (hal.mono (by omega)))
  go_wp2_with fail
  try rw [hsz]
  generalize w4.alloc (.cells #[.slice A n c] 23) = w6 at c0 hs5 HIN5 HQ0 HQ1 HQ2 HB5 ⊢
  clear hal hX0 hq0 hq1 hq2 hsz HIN4
  obtain ⟨y, hy⟩ : ∃ y, x + 1 + 1 = y := ⟨_, rfl⟩
  rw [hy] at HQ2 ⊢
  have hsto := each_stops hn hnc (by omega) HIN5.out [y] w6.heap.size (x + 3) (by simp; omega) (fun hne b hb => by have := hAl b hb hne; simp; omega) (Nat.le_refl _) (4 - 1) c0
  have HG0 : Hid (GotV y w6 (out q now (([] : List (Run l)).map (·.1))) w6) := Lib.hid ⟨Kept.refl _ _ _, _, HQ2.out, by simpa [ecs, out] using World.ownsRow_nil _ _ _ _⟩
  have hmx : Try.prog.follows .mixedOrders = true := by kernel_rfl
  have hfA : Fence.wide.fn 14 := trivial
  have hfC : Fence.wide.fn 25 := trivial
  refine (wpIn_wide (n := 4)).1 ?_
  refine wpIn_rangeFunc_ownH rfl (by decide) (gf := 39) (lb := #[.pointer (some ⟨x + 3, 0, none⟩)]) rfl trivial (enters_of Try.func39 (by kernel_rfl) rfl)
    hsto (fun h k => h.trans k) (fun W l o o' hl h h1 h2 => Kept.put W l o o' (Nat.le_refl _) hl h h1 h2) (Below.refl _ _) (fun _ => rfl)
    (fun pre W => GotV y w6 (out q now (pre.map (·.1))) W)
    (fun _ _ _ => False)
    (GotV.own _)
    (fun _ _ _ _ _ h _ _ => h)
    HG0.out
    (fun g a'' _ => a'' = { tmps := #[.slice A n c, .int .i64 q, .int .i64 now, undef, .pointer (some ⟨x, 0, none⟩), .pointer (some ⟨x + 1, 0, none⟩), .slice none 0 0, .pointer (some ⟨y, 0, none⟩), runV A c g.1, undef, .slice A n c, .func (.func 39) #[] #[.pointer (some ⟨x + 3, 0, none⟩)], runV A c g.1, undef, undef, undef, undef, undef, undef, undef, undef, undef, undef, undef, undef, undef, undef, undef, undef, undef, undef, undef, undef, undef, undef], defers := [] })
    (fun _ _ _ _ _ _ h _ _ => h) ?assign ?body ?done ?stop
  case assign =>
    rintro id pre g W K' hi hK'
    rw [encG_eq]
    have HK' := Lib.hid hK'
    have HI := Lib.hid hi
    clear hK' hi
    gi_wp2
    exact HK'.out _ _ (KeepsFrom.refl _ _) (Kept.refl _ _ _) HI.out rfl
  case stop =>
    rintro D c pre W hD hpre hx' hdef
    exact hx'.elim
  case body =>
    rintro id pre g a'' W hl ⟨rr, hr⟩ hi rfl hlt
    obtain ⟨v, hv, hown⟩ := hi.row
    have hNW := hi.kept.size
    have hEW : EntsIn W A l := by
      cases l with
      | nil => exact ⟨by simp, fun h => by simp at h⟩
      | cons e t => exact HIN5.out.kept hi.kept (fun b hb => by have := hAl b hb (by simp); simp; omega)
    obtain ⟨hrun, hrp, hrl⟩ := hEW.run g.2
    have hq0 := (hi.kept.block x (by omega) (by simp; omega)).trans HQ0.out
    have hq1 := (hi.kept.block (x + 1) (by omega) (by simp; omega)).trans HQ1.out
    have hout : out q now ((pre ++ [g]).map (·.1)) = out q now (pre.map (·.1)) ++ one q now g.1.l := by rw [List.map_append, List.map_cons, List.map_nil, out_snoc]
    have hol : (out q now (pre.map (·.1))).length ≤ n := by
      have h1 := out_len q now (pre.map (·.1))
      have h2 := gs_len l
      rw [List.length_map] at h1
      omega
    obtain ⟨O, hO⟩ : ∃ O, out q now (pre.map (·.1)) = O := ⟨_, rfl⟩
    rw [hO] at hown hout hol
    obtain ⟨gl, hgl⟩ : ∃ gl, g.1.l = gl := ⟨_, rfl⟩
    obtain ⟨gc, hgc⟩ : ∃ gc, c - g.1.at_ = gc := ⟨_, rfl⟩
    obtain ⟨gA, hgA⟩ : ∃ gA, (A.map fun a => (⟨a.block, a.off + g.1.at_ * 5, none⟩ : Addr)) = gA := ⟨_, rfl⟩
    obtain ⟨gn, hgn⟩ : ∃ gn, gl.length = gn := ⟨_, rfl⟩
    unfold runV
    rw [hgl] at hrun hrp hrl hout ⊢
    rw [hgA] at hrun ⊢
    rw [hgc]
    rw [hgn] at hrp hrl ⊢
    have HIX := Lib.hid (index_any gA gn gc gl W hgn hrun (by omega) 29 #[.pointer (some ⟨x, 0, none⟩)] (fun e => decide (e.seq ≤ q)) (fun W v => cf_enter Try.func29 (by kernel_rfl) (by kernel_rfl) _ W)
      (fun W' hW' p _ => upto_any p q x W' (cell_of_row _ _ _ _ _ _ ((hW'.block x (lt_of_cells hq0)).trans hq0))))
    have HI := Lib.hid hi
    have HNW := Lib.hid hNW
    have HV := Lib.hid hv
    have HOW := Lib.hid hown
    have HRUN := Lib.hid hrun
    have HOUT := Lib.hid hout
    have HGN := Lib.hid hgn
    have HQ0W := Lib.hid hq0
    have HQ1W := Lib.hid hq1
    clear hi hNW hv hown hr hEW hrun hout hO hgl hgc hgA hgn hq0 hq1
    gi_wp2_with fail
    refine ⟨trivial, CallsIn.inRound id ((callsIn_wide.2 HIX.out).mono ?_)⟩
    rintro e W1 ⟨rfl, hB1⟩
    have HB1 := Lib.hid hB1
    have HEND : Hid (∀ W2, Below W.heap.size W W2 → KeepsFrom w6.heap.size W W2 ∧ Kept [y] w6.heap.size W W2 ∧ GotV y w6 O W2) := Lib.hid fun W2 h2 => by
      have hk := Kept.of_below (S := [y]) (h2.mono HNW.out)
      exact ⟨KeepsFrom.of_grow h2, hk, HI.out.kept.trans hk, v, (h2.block y (lt_of_cells HV.out)).trans HV.out, own_below HOW.out h2⟩
    clear hB1
    rcases idx_cases (fun e => decide (e.seq ≤ q)) gl with ⟨hi1, hf1⟩ | ⟨j, hj, hi1, hf1⟩
    · have HONE : Hid (one q now gl = []) := Lib.hid (by unfold one; rw [hf1])
      have HO2 : Hid (out q now ((pre ++ [g]).map (·.1)) = O) := Lib.hid (by rw [HOUT.out, HONE.out, List.append_nil])
      rw [hi1]
      clear hi1 hf1
      gi_wp2_with fail
      refine wpIn_region_quiet_lit_r rfl (plain_all (by kernel_rfl)) (by assumption) (by kernel_rfl) ?_
      repeat (gi_big_quiet_step (fail))
      refine wpQuietIn_nil ?_
      intro _ hw'
      obtain ⟨nq, hw''⟩ := hw'
      subst hw''
      obtain ⟨e1, e2, e3⟩ := HEND.out (W1.drewN nq) (below_drewN HB1.out nq)
      rw [← HO2.out] at e3
      have E1 := Lib.hid e1
      have E2 := Lib.hid e2
      have E3 := Lib.hid e3
      clear e1 e2 e3
      gi_wp2
      exact ⟨E1.out, E2.out, E3.out⟩
    · rw [hi1]
      obtain ⟨qb, f, hA, hql, hc⟩ := (HRUN.out.below HB1.out).at_ (by omega)
      obtain ⟨z0, z1, z2, z3, z4⟩ := hc j hj
      have hwf := HRUN.out.wf _ (List.getElem_mem hj)
      have HONE : Hid (one q now gl = if alive gl[j] now = true then [gl[j]] else []) := Lib.hid (by unfold one; rw [hf1])
      obtain ⟨ej, hej⟩ : ∃ e, gl[j] = e := ⟨_, rfl⟩
      rw [hej] at z0 z1 z2 z3 z4 hwf HONE
      have HAQ : Hid (∀ s : Bw W1, Calls Try.prog 14 #[ej.val, .int .i64 now] s.w fun e w' => e = .returned (.bool (alive ej now)) ∧ ∃ s' : Bw W1, w' = s'.w) := Lib.hid fun s => (alive_any ej now s.w).mono fun _ w' ⟨h1, h2⟩ => ⟨h1, ⟨w', s.h.trans (h2.mono s.h.size)⟩, rfl⟩
      have HCL : Hid (∀ W', Calls Try.prog 25 #[ej.val] W' fun e w' => e = .returned ej.val ∧ Below W'.heap.size W' w') := Lib.hid fun W' => eclone_any ej W' ⟨by have := hwf.key; omega, by have := hwf.value; omega⟩
      obtain ⟨AL, hAL⟩ : ∃ b, alive ej now = b := ⟨_, rfl⟩
      rw [hAL] at HAQ HONE
      obtain ⟨k2, q2, g2, v2, t2⟩ := ej
      simp only [SK.E.val] at HAQ HCL
      simp only at z0 z1 z2 z3 z4
      have hx1 := (HB1.out.block (x + 1) (lt_of_cells HQ1W.out)).trans HQ1W.out
      have hx1l := lt_of_cells hx1
      have s0 : ∀ s : Bw W1, s.w.cell? ⟨qb, f + j * 5, none⟩ = some (.string k2) := fun s => (s.h.cell (p := ⟨qb, _, none⟩) hql).trans z0
      have s1 : ∀ s : Bw W1, s.w.cell? ⟨qb, f + j * 5 + 1, none⟩ = some (.int .i64 q2) := fun s => (s.h.cell (p := ⟨qb, _, none⟩) hql).trans z1
      have s2 : ∀ s : Bw W1, s.w.cell? ⟨qb, f + j * 5 + 2, none⟩ = some (.bool g2) := fun s => (s.h.cell (p := ⟨qb, _, none⟩) hql).trans z2
      have s3 : ∀ s : Bw W1, s.w.cell? ⟨qb, f + j * 5 + 3, none⟩ = some (.string v2) := fun s => (s.h.cell (p := ⟨qb, _, none⟩) hql).trans z3
      have s4 : ∀ s : Bw W1, s.w.cell? ⟨qb, f + j * 5 + 4, none⟩ = some (.int .i64 t2) := fun s => (s.h.cell (p := ⟨qb, _, none⟩) hql).trans z4
      have s5 : ∀ s : Bw W1, s.w.cell? ⟨x + 1, 0, none⟩ = some (.int .i64 now) := fun s => (s.h.cell (p := ⟨x + 1, 0, none⟩) hx1l).trans (cell_of_row _ _ _ _ _ _ hx1)
      have g0 : (0 : Int) ≤ (j : Int) := by omega
      have g1 : (j : Int) < (gn : Int) := by rw [← HGN.out]; omega
      subst hA
      clear hi1 hf1 hc hej hAL hx1 z0 z1 z2 z3 z4 hx1l
      gi_wp2_with fail
      refine wpIn_region_quiet_bw rfl (plain_all (by kernel_rfl)) (by assumption) (by kernel_rfl) ?_
      repeat (gi_big_quiet_step ((gi_at_call 14; exact CallsIn.inRound id (callsIn_wide.2 (HAQ.out _)))))
      refine wpQuietIn_nil ?_
      intro _ hw'
      obtain ⟨sq, hw''⟩ := hw'
      subst hw''
      obtain ⟨W2, hb2⟩ := sq
      simp only
      have HB2 : Hid (Below W.heap.size W W2) := Lib.hid (HB1.out.trans (hb2.mono HB1.out.size))
      have z0 := s0 ⟨W2, hb2⟩
      have z1 := s1 ⟨W2, hb2⟩
      have z2 := s2 ⟨W2, hb2⟩
      have z3 := s3 ⟨W2, hb2⟩
      have z4 := s4 ⟨W2, hb2⟩
      simp only at z0 z1 z2 z3 z4
      clear s0 s1 s2 s3 s4 s5 hb2 hql
      cases AL
      · have HO2 : Hid (out q now ((pre ++ [g]).map (·.1)) = O) := Lib.hid (by rw [HOUT.out, HONE.out]; simp)
        obtain ⟨e1, e2, e3⟩ := HEND.out W2 HB2.out
        rw [← HO2.out] at e3
        have E1 := Lib.hid e1
        have E2 := Lib.hid e2
        have E3 := Lib.hid e3
        clear e1 e2 e3 z0 z1 z2 z3 z4
        gi_wp2
        exact ⟨E1.out, E2.out, E3.out⟩
      · have HO2 : Hid (out q now ((pre ++ [g]).map (·.1)) = O ++ [(⟨k2, q2, g2, v2, t2⟩ : SK.E)]) := Lib.hid (by rw [HOUT.out, HONE.out]; simp)
        obtain ⟨vA, vc, rfl⟩ : ∃ vA vc, v = .slice vA O.length vc := by
          rcases HOW.out.2 with ⟨e, h0⟩ | ⟨gg, cap, cur, e, _⟩
          · exact ⟨none, 0, by rw [e, h0]⟩
          · exact ⟨_, _, e⟩
        have hv2 : Boxed W2 y 23 (.slice vA O.length vc) := (HB2.out.block y (lt_of_cells HV.out)).trans HV.out
        have c2 := hv2.cell
        have hyl := hv2.lt
        have hql := block_lt_of_cell z0
        obtain ⟨i0, hi0, hz0, hz1, hz2⟩ := info_parts info_ent
        have HFA : Hid (∀ W7, Below W2.heap.size W2.drew W7 → ∃ A6 n6 c6 w8, (Builtin.append_ #[23, 23] 23 #[.slice vA O.length vc, .slice (some ⟨W7.heap.size, 0, none⟩) 1 1]).run Try.prog (W7.alloc (.cells #[.string k2, .int .i64 q2, .bool g2, .string v2, .int .i64 t2] 37)) = .ok (.slice A6 n6 c6) w8 ∧
            w8.cell? ⟨y, 0, none⟩ = some (.slice vA O.length vc) ∧ w8.frozen? ⟨y, 0, none⟩ = false ∧ KeepsFrom w6.heap.size W (w8.setCell ⟨y, 0, none⟩ (.slice A6 n6 c6)) ∧ Kept [y] w6.heap.size W (w8.setCell ⟨y, 0, none⟩ (.slice A6 n6 c6)) ∧ GotV y w6 (O ++ [(⟨k2, q2, g2, v2, t2⟩ : SK.E)]) (w8.setCell ⟨y, 0, none⟩ (.slice A6 n6 c6))) := Lib.hid fun W7 h7 => by
          have hb7 : Below W.heap.size W W7 := HB2.out.trans (Below.trans ((Below.refl _ W2).drew) (h7.mono HB2.out.size))
          have how7 := own_below HOW.out hb7
          have hs7 : w6.heap.size ≤ W7.heap.size := Nat.le_trans HNW.out hb7.size
          have hv7 : Boxed W7 y 23 (.slice vA O.length vc) := (hb7.block y (lt_of_cells HV.out)).trans HV.out
          obtain ⟨v', w8, happ, hown8, hg8, -, -⟩ := run_append_own_at (P := Try.prog) (W7.alloc (.cells #[.string k2, .int .i64 q2, .bool g2, .string v2, .int .i64 t2] 37)) w6.heap.size 23 23 37 i0 _ 5 56 Try.underlying23 hi0 hz0 hz1 hz2 rfl (by decide) (.slice vA O.length vc) O.length _ (how7.alloc _)
            ⟨W7.heap.size, 0, none⟩ 1 1 (SK.E.cells ⟨k2, q2, g2, v2, t2⟩) rfl (ent_cells W7 ⟨k2, q2, g2, v2, t2⟩ _) (ent_one _) (by unfold maxLen; omega) (by omega) (by simp; omega)
          obtain ⟨b1, b2, b3, b4, -⟩ := Boxed.appended (n₀ := y) (e := 37) hv7 (by decide) (own_less how7 (by omega)) (Nat.le_of_lt hv7.lt) (Nat.le_refl _) (own_less hown8 (by omega)) hg8
          have hown9 := hown8.kept (grownBy_setCell' w8 y v') (.inr (b1.not_row (by decide) hown8).symm)
          obtain ⟨A6, c6, rfl⟩ : ∃ A6 c6, v' = .slice A6 (O.length + 1) c6 := by
            rcases hown8.2 with ⟨e, h0⟩ | ⟨gg, cap, cur, e, _⟩
            · omega
            · exact ⟨_, _, e⟩
          have hkp : Kept [y] w6.heap.size W (w8.setCell ⟨y, 0, none⟩ (.slice A6 (O.length + 1) c6)) := ((Kept.of_below ((hb7.mono HNW.out).alloc hs7 _)).grown HNW.out hg8 (fun r e => (how7.lt r e).1)).set _ _ _ (.inl List.mem_cons_self)
          exact ⟨A6, _, c6, w8, happ, b1.cell, b1.frozen, (KeepsFrom.of_grow hb7).trans (b4.from _), hkp, HI.out.kept.trans hkp, _, b2, by rw [ecs_snoc, List.length_append]; exact hown9⟩
        clear hi0 hz0 hz1 hz2
        gi_wp2_with fail
        refine wpIn_region_any hmx (any_round (F := Fence.wide) rfl (plain_spec (plain_all (by kernel_rfl))) _ _ _ _ ?_)
        change wpAnyIn _ _ _ _ _ _ _ _ _ (World.drew _)
        refine wpAnyIn_take (i := 1) (v := ?v0) rfl rfl (by kernel_rfl) (by kernel_rfl) (by kernel_rfl) (fun _ _ _ h => h) ⟨Or.inl ⟨by rfl, ?hy0⟩, fun _ => rfl⟩ ?_
        case hy0 => (intro w; go_simp; try with_reducible rfl)
        refine wpAnyIn_take (i := 2) (v := ?v1) rfl rfl (by kernel_rfl) (by kernel_rfl) (by kernel_rfl) (fun _ _ _ h => h) ⟨Or.inl ⟨by rfl, ?hy1⟩, fun _ => rfl⟩ ?_
        case hy1 => (intro w; go_simp; try with_reducible rfl)
        refine wpAnyIn_ready (rs := [0, 3]) (by kernel_rfl) (by simp) ?_
        refine AllReadyIn.cons rfl (fun K hK => ?_) (AllReadyIn.cons rfl (fun K hK => ?_) AllReadyIn.nil)
        · skip
          go_simp
          refine hK _ _ ?_; clear hK K
          refine wpAnyIn_ready (rs := [3]) (by kernel_rfl) (by simp) ?_
          refine AllReadyIn.cons rfl (fun K hK => ?_) AllReadyIn.nil
          go_simp
          refine hK _ _ ?_; clear hK K
          refine wpAnyIn_ready (rs := [4]) (by kernel_rfl) (by simp) ?_
          refine AllReadyIn.cons rfl (fun K hK => ?_) AllReadyIn.nil
          go_simp
          refine hK _ _ ?_; clear hK K
          refine wpAnyIn_ready (rs := [5]) (by kernel_rfl) (by simp) ?_
          refine AllReadyIn.cons rfl (fun K hK => ?_) AllReadyIn.nil
          go_simp
          gi_wp2_with (gi_at_call 25; refine (callsIn_wide.2 (HCL.out _)).mono ?_; rintro e W7 ⟨rfl, hb7⟩
                       obtain ⟨A6, n6, c6, w8, happ, e1, e2, e3, e4, e5⟩ := HFA.out W7 hb7
                       have c7 : W7.cell? ⟨y, 0, none⟩ = some (.slice vA O.length vc) := (hb7.cell (p := ⟨y, 0, none⟩) hyl).trans c2
                       have hyl7 : y < W7.heap.size := block_lt_of_cell c7
                       rw [← HO2.out] at e5
                       have E3 := Lib.hid e3
                       have E4 := Lib.hid e4
                       have E5 := Lib.hid e5
                       have HAPP := Lib.hid happ
                       clear e3 e4 e5 hb7 happ)
          refine wpAnyIn_ready (rs := [6]) (by kernel_rfl) (by simp) ?_
          refine AllReadyIn.cons rfl (fun K hK => ?_) AllReadyIn.nil
          go_simp
          refine hK _ _ ?_; clear hK K
          refine wpAnyIn_ready (rs := [7]) (by kernel_rfl) (by simp) ?_
          refine AllReadyIn.cons rfl (fun K hK => ?_) AllReadyIn.nil
          refine step_app_in 23 (by rfl) _ _ (by rfl) (by rfl) _ _ (by rfl) (by rfl) _ _ HAPP.out ?_
          refine hK _ _ ?_; clear hK K
          refine wpAnyIn_ready (rs := [8]) (by kernel_rfl) (by simp) ?_
          refine AllReadyIn.cons rfl (fun K hK => ?_) AllReadyIn.nil
          go_simp
          refine hK _ _ ?_; clear hK K
          refine wpAnyIn_done (by kernel_rfl) ?_ _
          gi_wp2
          exact ⟨E3.out, E4.out, E5.out⟩
        · skip
          go_simp
          refine hK _ _ ?_; clear hK K
          refine wpAnyIn_ready (rs := [0, 4]) (by kernel_rfl) (by simp) ?_
          refine AllReadyIn.cons rfl (fun K hK => ?_) (AllReadyIn.cons rfl (fun K hK => ?_) AllReadyIn.nil)
          · skip
            go_simp
            refine hK _ _ ?_; clear hK K
            refine wpAnyIn_ready (rs := [4]) (by kernel_rfl) (by simp) ?_
            refine AllReadyIn.cons rfl (fun K hK => ?_) AllReadyIn.nil
            go_simp
            refine hK _ _ ?_; clear hK K
            refine wpAnyIn_ready (rs := [5]) (by kernel_rfl) (by simp) ?_
            refine AllReadyIn.cons rfl (fun K hK => ?_) AllReadyIn.nil
            go_simp
            gi_wp2_with (gi_at_call 25; refine (callsIn_wide.2 (HCL.out _)).mono ?_; rintro e W7 ⟨rfl, hb7⟩
                         obtain ⟨A6, n6, c6, w8, happ, e1, e2, e3, e4, e5⟩ := HFA.out W7 hb7
                         have c7 : W7.cell? ⟨y, 0, none⟩ = some (.slice vA O.length vc) := (hb7.cell (p := ⟨y, 0, none⟩) hyl).trans c2
                         have hyl7 : y < W7.heap.size := block_lt_of_cell c7
                         rw [← HO2.out] at e5
                         have E3 := Lib.hid e3
                         have E4 := Lib.hid e4
                         have E5 := Lib.hid e5
                         have HAPP := Lib.hid happ
                         clear e3 e4 e5 hb7 happ)
            refine wpAnyIn_ready (rs := [6]) (by kernel_rfl) (by simp) ?_
            refine AllReadyIn.cons rfl (fun K hK => ?_) AllReadyIn.nil
            go_simp
            refine hK _ _ ?_; clear hK K
            refine wpAnyIn_ready (rs := [7]) (by kernel_rfl) (by simp) ?_
            refine AllReadyIn.cons rfl (fun K hK => ?_) AllReadyIn.nil
            refine step_app_in 23 (by rfl) _ _ (by rfl) (by rfl) _ _ (by rfl) (by rfl) _ _ HAPP.out ?_
            refine hK _ _ ?_; clear hK K
            refine wpAnyIn_ready (rs := [8]) (by kernel_rfl) (by simp) ?_
            refine AllReadyIn.cons rfl (fun K hK => ?_) AllReadyIn.nil
            go_simp
            refine hK _ _ ?_; clear hK K
            refine wpAnyIn_done (by kernel_rfl) ?_ _
            gi_wp2
            exact ⟨E3.out, E4.out, E5.out⟩
          · skip
            go_simp
            refine hK _ _ ?_; clear hK K
            refine wpAnyIn_ready (rs := [0, 5]) (by kernel_rfl) (by simp) ?_
            refine AllReadyIn.cons rfl (fun K hK => ?_) (AllReadyIn.cons rfl (fun K hK => ?_) AllReadyIn.nil)
            · skip
              go_simp
              refine hK _ _ ?_; clear hK K
              refine wpAnyIn_ready (rs := [5]) (by kernel_rfl) (by simp) ?_
              refine AllReadyIn.cons rfl (fun K hK => ?_) AllReadyIn.nil
              go_simp
              gi_wp2_with (gi_at_call 25; refine (callsIn_wide.2 (HCL.out _)).mono ?_; rintro e W7 ⟨rfl, hb7⟩
                           obtain ⟨A6, n6, c6, w8, happ, e1, e2, e3, e4, e5⟩ := HFA.out W7 hb7
                           have c7 : W7.cell? ⟨y, 0, none⟩ = some (.slice vA O.length vc) := (hb7.cell (p := ⟨y, 0, none⟩) hyl).trans c2
                           have hyl7 : y < W7.heap.size := block_lt_of_cell c7
                           rw [← HO2.out] at e5
                           have E3 := Lib.hid e3
                           have E4 := Lib.hid e4
                           have E5 := Lib.hid e5
                           have HAPP := Lib.hid happ
                           clear e3 e4 e5 hb7 happ)
              refine wpAnyIn_ready (rs := [6]) (by kernel_rfl) (by simp) ?_
              refine AllReadyIn.cons rfl (fun K hK => ?_) AllReadyIn.nil
              go_simp
              refine hK _ _ ?_; clear hK K
              refine wpAnyIn_ready (rs := [7]) (by kernel_rfl) (by simp) ?_
              refine AllReadyIn.cons rfl (fun K hK => ?_) AllReadyIn.nil
              refine step_app_in 23 (by rfl) _ _ (by rfl) (by rfl) _ _ (by rfl) (by rfl) _ _ HAPP.out ?_
              refine hK _ _ ?_; clear hK K
              refine wpAnyIn_ready (rs := [8]) (by kernel_rfl) (by simp) ?_
              refine AllReadyIn.cons rfl (fun K hK => ?_) AllReadyIn.nil
              go_simp
              refine hK _ _ ?_; clear hK K
              refine wpAnyIn_done (by kernel_rfl) ?_ _
              gi_wp2
              exact ⟨E3.out, E4.out, E5.out⟩
            · skip
              go_simp
              gi_wp2_with (gi_at_call 25; refine (callsIn_wide.2 (HCL.out _)).mono ?_; rintro e W7 ⟨rfl, hb7⟩
                           obtain ⟨A6, n6, c6, w8, happ, e1, e2, e3, e4, e5⟩ := HFA.out W7 hb7
                           have c7 : W7.cell? ⟨y, 0, none⟩ = some (.slice vA O.length vc) := (hb7.cell (p := ⟨y, 0, none⟩) hyl).trans c2
                           have hyl7 : y < W7.heap.size := block_lt_of_cell c7
                           rw [← HO2.out] at e5
                           have E3 := Lib.hid e3
                           have E4 := Lib.hid e4
                           have E5 := Lib.hid e5
                           have HAPP := Lib.hid happ
                           clear e3 e4 e5 hb7 happ)
              refine wpAnyIn_ready (rs := [0, 6]) (by kernel_rfl) (by simp) ?_
              refine AllReadyIn.cons rfl (fun K hK => ?_) (AllReadyIn.cons rfl (fun K hK => ?_) AllReadyIn.nil)
              · skip
                go_simp
                refine hK _ _ ?_; clear hK K
                refine wpAnyIn_ready (rs := [6]) (by kernel_rfl) (by simp) ?_
                refine AllReadyIn.cons rfl (fun K hK => ?_) AllReadyIn.nil
                go_simp
                refine hK _ _ ?_; clear hK K
                refine wpAnyIn_ready (rs := [7]) (by kernel_rfl) (by simp) ?_
                refine AllReadyIn.cons rfl (fun K hK => ?_) AllReadyIn.nil
                refine step_app_in 23 (by rfl) _ _ (by rfl) (by rfl) _ _ (by rfl) (by rfl) _ _ HAPP.out ?_
                refine hK _ _ ?_; clear hK K
                refine wpAnyIn_ready (rs := [8]) (by kernel_rfl) (by simp) ?_
                refine AllReadyIn.cons rfl (fun K hK => ?_) AllReadyIn.nil
                go_simp
                refine hK _ _ ?_; clear hK K
                refine wpAnyIn_done (by kernel_rfl) ?_ _
                gi_wp2
                exact ⟨E3.out, E4.out, E5.out⟩
              · skip
                go_simp
                refine hK _ _ ?_; clear hK K
                refine wpAnyIn_ready (rs := [0]) (by kernel_rfl) (by simp) ?_
                refine AllReadyIn.cons rfl (fun K hK => ?_) AllReadyIn.nil
                go_simp
                refine hK _ _ ?_; clear hK K
                refine wpAnyIn_ready (rs := [7]) (by kernel_rfl) (by simp) ?_
                refine AllReadyIn.cons rfl (fun K hK => ?_) AllReadyIn.nil
                refine step_app_in 23 (by rfl) _ _ (by rfl) (by rfl) _ _ (by rfl) (by rfl) _ _ HAPP.out ?_
                refine hK _ _ ?_; clear hK K
                refine wpAnyIn_ready (rs := [8]) (by kernel_rfl) (by simp) ?_
                refine AllReadyIn.cons rfl (fun K hK => ?_) AllReadyIn.nil
                go_simp
                refine hK _ _ ?_; clear hK K
                refine wpAnyIn_done (by kernel_rfl) ?_ _
                gi_wp2
                exact ⟨E3.out, E4.out, E5.out⟩
  case done =>
    rintro D xs W hD hS hi hdef
    have hS' : xs.map (·.1) = gs l := hS
    rw [hS', out_gs] at hi
    obtain ⟨v, hv, hown⟩ := hi.row
    have cv := hv.cell
    have hown2 : (W.putObj D (.deferred none)).ownsRow w6.heap.size 37 5 v (vis q now l).length (ecs (vis q now l)) := hown.kept (grownBy_putObj' W D (.deferred none)) (by
      rcases hown.2 with ⟨e, _⟩ | ⟨g', cap, cur, e, _, h3, _⟩
      · left; rw [e]; rfl
      · right
        rw [e]
        intro he
        have he' : g' = D := by simpa [Value.ownBlock] using he
        rw [he', hdef] at h3
        cases h3)
    have hbl : Below x w (W.putObj D (.deferred none)) := (HB5.out.trans ((hi.kept.below (n := x) (by omega) (by simp; omega)))).trans (belowK_b (w := w6) (by omega) _ D _ _ hD hdef rfl rfl)
    have HO2 := Lib.hid (own_less hown2 (show x ≤ w6.heap.size by omega))
    have HBL := Lib.hid hbl
    have HDEF := Lib.hid hdef
    clear hi hv hown hown2 hbl hdef hS'
    go_wp2_with fail
    refine ⟨by simp, .inl ⟨_, _, rfl, run_takeDeferred HDEF.out, ?_⟩⟩
    refine ⟨v, ?_, v, rfl, by rw [HX.out]; exact HO2.out, by rw [HX.out]; exact HBL.out⟩
    simp [results, Try.results16, go_sem]
end Go.Proofs.Ytfbhdggmefacjaa
