/- Alive, of both sides; IndexFunc of entries; the iterator at no entries. -/
import Derived.Test.YtfbhdggmefacjaaVi
namespace Go.Proofs.Ytfbhdggmefacjaa
open Go.RowKit Go.Shelf
open SK VB

set_option maxRecDepth 100000 in
theorem alive_any (a : SK.E) (now : Int) (w : World) :
    Calls Try.prog 14 #[a.val, .int .i64 now] w fun e w' => e = .returned (.bool (alive a now)) ∧ Below w.heap.size w w' := by
  obtain ⟨k, q, g, v, t⟩ := a
  simp only [SK.E.val, alive]
  cases g
  · by_cases h0 : t = 0
    · subst h0
      go_enter Try.func14, Try.ntmps14
      go_wp2
      go_ret
      exact ⟨by simp, (Below.refl _ w).alloc (Nat.le_refl _) _⟩
    · have hb : (t == 0) = false := beq_eq_false_iff_ne.2 h0
      go_enter Try.func14, Try.ntmps14
      go_wp2
      go_ret
      exact ⟨by simp [h0], (Below.refl _ w).alloc (Nat.le_refl _) _⟩
  · go_enter Try.func14, Try.ntmps14
    go_wp2
    go_ret
    exact ⟨by simp, (Below.refl _ w).alloc (Nat.le_refl _) _⟩

set_option maxRecDepth 100000 in
theorem ralive_any (a : SK.E) (now : Int) (w : World) :
    Calls Try.prog 15 #[a.val, .int .i64 now] w fun e w' => e = .returned (.bool (alive a now)) ∧ Below w.heap.size w w' := by
  obtain ⟨k, q, g, v, t⟩ := a
  simp only [SK.E.val, alive]
  cases g
  · by_cases h0 : t = 0
    · subst h0
      go_enter Try.func15, Try.ntmps15
      go_wp2
      go_ret
      exact ⟨by simp, (Below.refl _ w).alloc (Nat.le_refl _) _⟩
    · have hb : (t == 0) = false := beq_eq_false_iff_ne.2 h0
      go_enter Try.func15, Try.ntmps15
      go_wp2
      go_ret
      exact ⟨by simp [h0], (Below.refl _ w).alloc (Nat.le_refl _) _⟩
  · go_enter Try.func15, Try.ntmps15
    go_wp2
    go_ret
    exact ⟨by simp, (Below.refl _ w).alloc (Nat.le_refl _) _⟩

theorem cf_enter {P : Program} {f : FuncId} {fn : Func} (hf : P.funcs[f]? = some fn) (hname : (fn.name == "runtime.NumGoroutine") = false) (hb : fn.body.isSome = true) (args : Array Value) (w : World) : (callFunc f args).run P w = .ok (.enter f args) w := by
  have h1 : fn.name ≠ "runtime.NumGoroutine" := by simpa using hname
  obtain ⟨c, hc⟩ := Option.isSome_iff_exists.1 hb
  simp [callFunc, hf, h1, hc]

set_option maxRecDepth 100000 in
theorem upto_any (a : SK.E) (q : Int) (bx : Nat) (w : World) (hc : w.cell? ⟨bx, 0, none⟩ = some (.int .i64 q)) :
    Calls Try.prog 29 #[a.val, .pointer (some ⟨bx, 0, none⟩)] w fun e w' => e = .returned (.bool (decide (a.seq ≤ q))) ∧ Below w.heap.size w w' := by
  obtain ⟨k, s, g, v, t⟩ := a
  simp only [SK.E.val]
  have hlt : bx < w.heap.size := block_lt_of_cell hc
  have hne : ¬ bx = w.heap.size := by omega
  go_enter Try.func29, Try.ntmps29
  go_wp2
  go_ret
  exact ⟨rfl, (Below.refl _ w).alloc (Nat.le_refl _) _⟩

/-- the place of the first, or -1 -/
def idx (u : SK.E → Bool) (l : List SK.E) : Int := match l.findIdx? u with | some i => i | none => -1

theorem idx_at {u : SK.E → Bool} {l : List SK.E} {j : Nat} (h : j < l.length) (h0 : (l.take j).any u = false) (h1 : u l[j] = true) : idx u l = (j : Int) := by
  have : l.findIdx? u = some j := by
    rw [List.findIdx?_eq_some_iff_getElem]
    refine ⟨h, h1, fun k hk => ?_⟩
    rw [List.any_eq_false] at h0
    have hm : l[k] ∈ l.take j := by
      rw [List.mem_take_iff_getElem]
      exact ⟨k, by omega, rfl⟩
    exact h0 _ hm
  simp [idx, this]
theorem idx_none {u : SK.E → Bool} {l : List SK.E} (h0 : l.any u = false) : idx u l = -1 := by
  have : l.findIdx? u = none := by
    rw [List.findIdx?_eq_none_iff]
    intro x hx
    rw [List.any_eq_false] at h0
    simpa using h0 x hx
  simp [idx, this]

set_option maxRecDepth 100000 in
set_option maxHeartbeats 1000000 in
theorem index_any (A : Option Addr) (n c : Nat) (l : List SK.E) (w : World) (hn : l.length = n) (hz : EntsIn w A l) (hlen : n ≤ 140737488351232) (fn : FuncId) (caps : Array Value) (u : SK.E → Bool)
    (hcf : ∀ W v, (callFunc fn (#[v] ++ caps)).run Try.prog W = .ok (.enter fn (#[v] ++ caps)) W)
    (hcall : ∀ W, Below w.heap.size w W → ∀ p ∈ l, Calls Try.prog fn (#[p.val] ++ caps) W fun e W' => e = .returned (.bool (u p)) ∧ Below W.heap.size W W') :
    Calls Try.prog 28 #[.slice A n c, .func (.func fn) #[] caps] w fun e w' => e = .returned (.int .i64 (idx u l)) ∧ Below w.heap.size w w' := by
  have HCF := Lib.hid hcf
  have HC := Lib.hid hcall
  have HZ := Lib.hid hz
  have HN := Lib.hid hn
  have HIA : Hid (∀ j (h : j < l.length), (l.take j).any u = false → u l[j] = true → idx u l = (j : Int)) := Lib.hid fun j h => idx_at h
  have HIN : Hid (l.any u = false → idx u l = -1) := Lib.hid idx_none
  obtain ⟨R, hR⟩ : ∃ R, idx u l = R := ⟨_, rfl⟩
  rw [hR] at HIA HIN ⊢
  clear hcf hcall hz hn hR
  go_enter Try.func28, Try.ntmps28
  go_wp2_with fail
  go_loopw [8] (fun i wr => ∃ j : Nat, j ≤ n ∧ i = .int .i64 j ∧ Hid ((l.take j).any u = false) ∧ Below w.heap.size w wr) (fun i _ => n - (intOf i).toNat)
  case atStart => exact ⟨0, by omega, rfl, Lib.hid rfl, Below.refl _ _⟩
  case round =>
    obtain ⟨j, hj, rfl, hany, hB⟩ := hrel
    by_cases hlt : j < n
    · have hjl : j < l.length := by rw [HN.out]; exact hlt
      obtain ⟨b, off, hA, hbl, hc⟩ := (HZ.out.below hB).at_ (by omega)
      obtain ⟨z0, z1, z2, z3, z4⟩ := hc j hjl
      have HCC := Lib.hid (HC.out wr hB l[j] (List.getElem_mem _))
      have hcf := HCF.out
      have hst : (l.take (j + 1)).any u = u l[j] := by rw [List.take_succ_eq_append_getElem hjl, List.any_append, hany.out]; simp
      have HST := Lib.hid hst
      have HIJ := Lib.hid (HIA.out j hjl hany.out)
      have HB := Lib.hid hB
      obtain ⟨x, hx⟩ : ∃ x, l[j] = x := ⟨_, rfl⟩
      rw [hx] at z0 z1 z2 z3 z4 HCC HST HIJ
      obtain ⟨k2, q2, g2, v2, t2⟩ := x
      simp only at z0 z1 z2 z3 z4
      simp only [SK.E.val] at HCC
      have g0 : (0 : Int) ≤ (j : Int) := by omega
      have g1 : (j : Int) < (n : Int) := by omega
      subst hA
      clear hc hst hx hB hany
      go_wp2_with fail
      refine HCC.out.mono ?_
      rintro e w1 ⟨rfl, hB1⟩
      have HB1 := Lib.hid (HB.out.trans (hB1.mono HB.out.size))
      clear hB1 z0 z1 z2 z3 z4
      cases hu : u ⟨k2, q2, g2, v2, t2⟩
      · rw [hu] at HST
        go_wp2
        go_roundw
        case rel => exact ⟨j + 1, by omega, by go_num, HST, HB1.out⟩
        case measure => simp [intOf]; omega
      · obtain rfl : R = (j : Int) := HIJ.out hu
        go_wp2
        go_ret
        exact ⟨rfl, HB1.out⟩
    · obtain rfl : j = n := by omega
      rw [List.take_of_length_le (by rw [HN.out]; exact Nat.le_refl _)] at hany
      obtain rfl : R = -1 := HIN.out hany.out
      have HB := Lib.hid hB
      clear hB
      go_wp2
      go_ret
      exact ⟨rfl, HB.out⟩

set_option maxRecDepth 100000 in
set_option maxHeartbeats 1000000 in
theorem each_iter0 {W : World} {A : Option Addr} {c : Nat} (b0 : Nat) (nn : Nat) (id : Nat) (J : List G → World → Prop) (c0 : W.cell? ⟨b0, 0, none⟩ = some (.slice A 0 c)) (h0 : J [] W) :
    CallsIn Fence.wide nn Try.prog 39 #[.func (.yield id) #[] #[], .pointer (some ⟨b0, 0, none⟩)] W fun e W' => (∃ v, e = .returned v) ∧ J [] W' := by
  have HJ0 := Lib.hid h0
  clear h0
  refine callsIn_of_wp Try.func39 rfl trivial ?_ rfl
  simp only [Try.ntmps39, List.size_toArray, List.length_cons, List.length_nil, Nat.reduceAdd, Nat.reduceSub, Array.replicate_succ, Array.replicate_zero, List.push_toArray, List.append_toArray, List.nil_append, List.cons_append]
  refine wpIn_wide.2 ?_
  go_wp2_with fail
  go_loopw [4] (fun i wr => i = .int .i64 0 ∧ wr = W) (fun _ _ => 0)
  case atStart => exact ⟨rfl, rfl⟩
  case round =>
    obtain ⟨rfl, rfl⟩ := hrel
    go_wp2
    go_end0
    exact ⟨⟨_, rfl⟩, HJ0.out⟩

/-- a run of the entries -/
abbrev Run (l : List SK.E) := { g : G // g ∈ gs l }

theorem each_stops {w0 : World} {A : Option Addr} {n c : Nat} {l : List SK.E} (hn : l.length = n) (hnc : n ≤ c) (hb : n ≤ 140737488351232) (hin : EntsIn w0 A l) (S0 : List Nat) (n₀ b0 : Nat) (hb0 : b0 < n₀ ∧ b0 ∉ S0) (hq : l ≠ [] → ∀ x ∈ fb A, x < n₀ ∧ x ∉ S0) (hn₀ : n₀ ≤ w0.heap.size) (nn : Nat)
    (c0 : w0.cell? ⟨b0, 0, none⟩ = some (.slice A n c)) :
    SeqStopsK Fence.wide nn Try.prog 39 #[.pointer (some ⟨b0, 0, none⟩)] (fun x : Run l => encG A c x.1) (Kept S0 n₀) (fun ys => ys.map (·.1) = gs l) (fun _ => True) (gs l).length w0 := by
  intro id J Jx W hW hJ _ hY h0
  have c0' := (hW.cell (p := ⟨b0, 0, none⟩) (by show b0 < _; omega)).trans c0
  cases l with
  | nil =>
    simp at hn
    subst hn
    exact (each_iter0 b0 nn id (fun pre W => pre = [] ∧ J [] W) c0' ⟨rfl, h0⟩).mono fun _ _ ⟨h1, _, h2⟩ => ⟨h1, .inl ⟨[], rfl, h2⟩⟩
  | cons x t =>
    obtain ⟨b, off, rfl, -, -⟩ := hin.at_ (by simp)
    refine (each_iter hn hnc hb (hin.below hW) S0 n₀ b0 hb0 (hq (by simp) b (by simp [fb])) (Nat.le_trans hn₀ hW.size) nn id (fun pre W => ∃ p : List (Run (x :: t)), p.map (·.1) = pre ∧ J p W) (fun pre W => ∃ p : List (Run (x :: t)), p.map (·.1) = pre ∧ Jx p W) (fun s A B row h hg hr => ?_) (fun pre y W1 h hp => ?_) c0' ⟨[], rfl, h0⟩).mono fun _ _ ⟨h1, h2⟩ => ⟨h1, ?_⟩
    · obtain ⟨p, h1, h2⟩ := h
      exact ⟨p, h1, hJ p A B row h2 hg hr⟩
    · obtain ⟨p, h1, h2⟩ := h
      have hm : y ∈ gs (x :: t) := hp.subset (by simp)
      have hlt : p.length < (gs (x :: t)).length := by
        have := hp.length_le
        have e := congrArg List.length h1
        simp at this e
        omega
      obtain ⟨fn, tmps, assign, body, hy, hR⟩ := hY p ⟨y, hm⟩ W1 h2 hlt
      refine ⟨fn, tmps, assign, body, hy, hR.mono fun e W' h => ?_⟩
      rcases h with ⟨h3, h4, h5⟩ | ⟨h3, h4⟩
      · exact .inl ⟨h3, ⟨p ++ [⟨y, hm⟩], by simp [h1], h4⟩, h5⟩
      · exact .inr ⟨h3, p ++ [⟨y, hm⟩], by simp [h1], h4⟩
    · rcases h2 with ⟨ys, h3, p, h4, h5⟩ | ⟨pre, h3, p, h4, h5⟩
      · exact .inl ⟨p, h4.trans h3, h5⟩
      · exact .inr ⟨p, trivial, h5⟩
end Go.Proofs.Ytfbhdggmefacjaa
