/- The document's set, Reserve, Release, Change. Made by gen_rf.py: a theorem for each kind. -/
import Derived.Test.YtlfhjbilnfkabaaBr
namespace Go.Proofs.Ytlfhjbilnfkabaa
open Go.RowKit
open BM

/-- each kind's count is small -/
structure Sm (s : S) : Prop where
  p0 : 0 ≤ s.k0 ∧ s.k0 ≤ 1099511627776
  p1 : 0 ≤ s.k1 ∧ s.k1 ≤ 1099511627776
  p2 : 0 ≤ s.k2 ∧ s.k2 ≤ 1099511627776
  p3 : 0 ≤ s.k3 ∧ s.k3 ≤ 1099511627776

theorem Sm.of_ok {s : S} (ok : Ok s) : Sm s := by
  obtain ⟨p0, p1, p2, p3, uh, h1, h2⟩ := ok
  unfold S.used at uh
  exact ⟨by omega, by omega, by omega, by omega⟩

theorem Sm.set {s : S} (h : Sm s) (k v : Int) (hv : 0 ≤ v ∧ v ≤ 1099511627776) : Sm (s.set k v) := by
  obtain ⟨p0, p1, p2, p3⟩ := h
  unfold S.set
  repeat' split
  all_goals refine ⟨?_, ?_, ?_, ?_⟩ <;> first | assumption | (simp; omega)

theorem Sm.used {w : World} {r : Nat} {s : S} (m : Sm s) (h : RAt w r s) : Calls Try.prog 26 #[.pointer (some ⟨r, 0, none⟩)] w fun e w' => e = .returned (.int .i64 s.used) ∧ ∃ n, w' = w.drewN n :=
  rused_any h m.p0 m.p1 m.p2 m.p3

theorem RAt.drewN {w : World} {r : Nat} {s : S} (h : RAt w r s) (n : Nat) : RAt (w.drewN n) r s := h

def RVoid (w : World) (r : Nat) (s : S) (e : Ending) (w' : World) : Prop := e = .returned (.tuple #[]) ∧ RAt w' r s ∧ w.grownBy w' (some r)

set_option maxHeartbeats 1000000 in
theorem rset0 {w : World} {r : Nat} {s : S} (h : RAt w r s) (m : Sm s) (v : Int) (hv : 0 ≤ v ∧ v ≤ 1099511627776) :
    Calls Try.prog 55 #[.pointer (some ⟨r, 0, none⟩), .int .i64 0, .int .i64 v] w (RVoid w r (s.put 0 v)) := by
  have c1 : w.cell? ⟨r, 1, none⟩ = some (.int .i64 s.k0) := h.cell 1
  have f1 := h.frozen 1
  have hA : RAt (w.setCell ⟨r, 1, none⟩ (.int .i64 v)) r (s.set 0 v) := by
    have := heap_set_fr h 1 (.int .i64 v)
    unfold RAt; rw [this]; simp [S.set]
  have HU := Lib.hid ((m.set 0 v hv).used hA)
  have HA := Lib.hid hA
  have HG := Lib.hid (grown_set (grown_refl w (some r)) 1 (.int .i64 v))
  have hP : s.put 0 v = { s.set 0 v with high := max s.high (s.set 0 v).used } := rfl
  have hh : (s.set 0 v).high = s.high := by simp [S.set]
  rw [hP]
  obtain ⟨s1, hs1⟩ : ∃ s1, s.set 0 v = s1 := ⟨_, rfl⟩
  rw [hs1] at HU HA hh ⊢
  rw [← hh]
  have HC5 : Hid (∀ W, RAt W r s1 → W.cell? ⟨r, 5, none⟩ = some (.int .i64 s1.high)) := fun W hW => hW.cell 5
  have HF5 : Hid (∀ W, RAt W r s1 → W.frozen? ⟨r, 5, none⟩ = false) := fun W hW => hW.frozen 5
  have HE : Hid (∀ W y, RAt W r s1 → y = max s1.high s1.used → RAt (W.setCell ⟨r, 5, none⟩ (.int .i64 y)) r { s1 with high := max s1.high s1.used }) := fun W y hW hy => by
    have := heap_set_fr hW 5 (.int .i64 y)
    unfold RAt; rw [this, hy]; simp [S.used]
  have HE0 : Hid (∀ W, RAt W r s1 → s1.high = max s1.high s1.used → RAt W r { s1 with high := max s1.high s1.used }) := fun W hW hy => by
    rw [← hy]; exact hW
  obtain ⟨g, hg⟩ : ∃ g, s1.high = g := ⟨_, rfl⟩
  obtain ⟨u, hu⟩ : ∃ u, s1.used = u := ⟨_, rfl⟩
  rw [hg] at HC5 HE HE0 ⊢
  rw [hu] at HU HE HE0 ⊢
  clear h m hA hP hh hs1 hg hu
  go_enter Try.func55, Try.ntmps55
  go_wp2_with fail
  refine HU.out.mono ?_
  rintro e w2 ⟨rfl, n, rfl⟩
  have HA2 := Lib.hid (HA.out.drewN n)
  have HG2 := Lib.hid (grown_drewN HG.out n)
  generalize (w.setCell ⟨r, 1, none⟩ (.int .i64 v)).drewN n = w3 at HA2 HG2 ⊢
  clear HA HG HU c1 f1
  have c5 := HC5.out _ HA2.out
  have f5 := HF5.out _ HA2.out
  by_cases hgt : g < u
  · go_wp2
    go_end0
    exact ⟨rfl, HE.out _ _ HA2.out (by omega), grown_set HG2.out _ _⟩
  · go_wp2
    go_end0
    exact ⟨rfl, HE0.out _ HA2.out (by omega), HG2.out⟩

set_option maxHeartbeats 1000000 in
theorem rset1 {w : World} {r : Nat} {s : S} (h : RAt w r s) (m : Sm s) (v : Int) (hv : 0 ≤ v ∧ v ≤ 1099511627776) :
    Calls Try.prog 55 #[.pointer (some ⟨r, 0, none⟩), .int .i64 1, .int .i64 v] w (RVoid w r (s.put 1 v)) := by
  have c1 : w.cell? ⟨r, 2, none⟩ = some (.int .i64 s.k1) := h.cell 2
  have f1 := h.frozen 2
  have hA : RAt (w.setCell ⟨r, 2, none⟩ (.int .i64 v)) r (s.set 1 v) := by
    have := heap_set_fr h 2 (.int .i64 v)
    unfold RAt; rw [this]; simp [S.set]
  have HU := Lib.hid ((m.set 1 v hv).used hA)
  have HA := Lib.hid hA
  have HG := Lib.hid (grown_set (grown_refl w (some r)) 2 (.int .i64 v))
  have hP : s.put 1 v = { s.set 1 v with high := max s.high (s.set 1 v).used } := rfl
  have hh : (s.set 1 v).high = s.high := by simp [S.set]
  rw [hP]
  obtain ⟨s1, hs1⟩ : ∃ s1, s.set 1 v = s1 := ⟨_, rfl⟩
  rw [hs1] at HU HA hh ⊢
  rw [← hh]
  have HC5 : Hid (∀ W, RAt W r s1 → W.cell? ⟨r, 5, none⟩ = some (.int .i64 s1.high)) := fun W hW => hW.cell 5
  have HF5 : Hid (∀ W, RAt W r s1 → W.frozen? ⟨r, 5, none⟩ = false) := fun W hW => hW.frozen 5
  have HE : Hid (∀ W y, RAt W r s1 → y = max s1.high s1.used → RAt (W.setCell ⟨r, 5, none⟩ (.int .i64 y)) r { s1 with high := max s1.high s1.used }) := fun W y hW hy => by
    have := heap_set_fr hW 5 (.int .i64 y)
    unfold RAt; rw [this, hy]; simp [S.used]
  have HE0 : Hid (∀ W, RAt W r s1 → s1.high = max s1.high s1.used → RAt W r { s1 with high := max s1.high s1.used }) := fun W hW hy => by
    rw [← hy]; exact hW
  obtain ⟨g, hg⟩ : ∃ g, s1.high = g := ⟨_, rfl⟩
  obtain ⟨u, hu⟩ : ∃ u, s1.used = u := ⟨_, rfl⟩
  rw [hg] at HC5 HE HE0 ⊢
  rw [hu] at HU HE HE0 ⊢
  clear h m hA hP hh hs1 hg hu
  go_enter Try.func55, Try.ntmps55
  go_wp2_with fail
  refine HU.out.mono ?_
  rintro e w2 ⟨rfl, n, rfl⟩
  have HA2 := Lib.hid (HA.out.drewN n)
  have HG2 := Lib.hid (grown_drewN HG.out n)
  generalize (w.setCell ⟨r, 2, none⟩ (.int .i64 v)).drewN n = w3 at HA2 HG2 ⊢
  clear HA HG HU c1 f1
  have c5 := HC5.out _ HA2.out
  have f5 := HF5.out _ HA2.out
  by_cases hgt : g < u
  · go_wp2
    go_end0
    exact ⟨rfl, HE.out _ _ HA2.out (by omega), grown_set HG2.out _ _⟩
  · go_wp2
    go_end0
    exact ⟨rfl, HE0.out _ HA2.out (by omega), HG2.out⟩

set_option maxHeartbeats 1000000 in
theorem rset2 {w : World} {r : Nat} {s : S} (h : RAt w r s) (m : Sm s) (v : Int) (hv : 0 ≤ v ∧ v ≤ 1099511627776) :
    Calls Try.prog 55 #[.pointer (some ⟨r, 0, none⟩), .int .i64 2, .int .i64 v] w (RVoid w r (s.put 2 v)) := by
  have c1 : w.cell? ⟨r, 3, none⟩ = some (.int .i64 s.k2) := h.cell 3
  have f1 := h.frozen 3
  have hA : RAt (w.setCell ⟨r, 3, none⟩ (.int .i64 v)) r (s.set 2 v) := by
    have := heap_set_fr h 3 (.int .i64 v)
    unfold RAt; rw [this]; simp [S.set]
  have HU := Lib.hid ((m.set 2 v hv).used hA)
  have HA := Lib.hid hA
  have HG := Lib.hid (grown_set (grown_refl w (some r)) 3 (.int .i64 v))
  have hP : s.put 2 v = { s.set 2 v with high := max s.high (s.set 2 v).used } := rfl
  have hh : (s.set 2 v).high = s.high := by simp [S.set]
  rw [hP]
  obtain ⟨s1, hs1⟩ : ∃ s1, s.set 2 v = s1 := ⟨_, rfl⟩
  rw [hs1] at HU HA hh ⊢
  rw [← hh]
  have HC5 : Hid (∀ W, RAt W r s1 → W.cell? ⟨r, 5, none⟩ = some (.int .i64 s1.high)) := fun W hW => hW.cell 5
  have HF5 : Hid (∀ W, RAt W r s1 → W.frozen? ⟨r, 5, none⟩ = false) := fun W hW => hW.frozen 5
  have HE : Hid (∀ W y, RAt W r s1 → y = max s1.high s1.used → RAt (W.setCell ⟨r, 5, none⟩ (.int .i64 y)) r { s1 with high := max s1.high s1.used }) := fun W y hW hy => by
    have := heap_set_fr hW 5 (.int .i64 y)
    unfold RAt; rw [this, hy]; simp [S.used]
  have HE0 : Hid (∀ W, RAt W r s1 → s1.high = max s1.high s1.used → RAt W r { s1 with high := max s1.high s1.used }) := fun W hW hy => by
    rw [← hy]; exact hW
  obtain ⟨g, hg⟩ : ∃ g, s1.high = g := ⟨_, rfl⟩
  obtain ⟨u, hu⟩ : ∃ u, s1.used = u := ⟨_, rfl⟩
  rw [hg] at HC5 HE HE0 ⊢
  rw [hu] at HU HE HE0 ⊢
  clear h m hA hP hh hs1 hg hu
  go_enter Try.func55, Try.ntmps55
  go_wp2_with fail
  refine HU.out.mono ?_
  rintro e w2 ⟨rfl, n, rfl⟩
  have HA2 := Lib.hid (HA.out.drewN n)
  have HG2 := Lib.hid (grown_drewN HG.out n)
  generalize (w.setCell ⟨r, 3, none⟩ (.int .i64 v)).drewN n = w3 at HA2 HG2 ⊢
  clear HA HG HU c1 f1
  have c5 := HC5.out _ HA2.out
  have f5 := HF5.out _ HA2.out
  by_cases hgt : g < u
  · go_wp2
    go_end0
    exact ⟨rfl, HE.out _ _ HA2.out (by omega), grown_set HG2.out _ _⟩
  · go_wp2
    go_end0
    exact ⟨rfl, HE0.out _ HA2.out (by omega), HG2.out⟩

set_option maxHeartbeats 1000000 in
theorem rset3 {w : World} {r : Nat} {s : S} (h : RAt w r s) (m : Sm s) (v : Int) (hv : 0 ≤ v ∧ v ≤ 1099511627776) :
    Calls Try.prog 55 #[.pointer (some ⟨r, 0, none⟩), .int .i64 3, .int .i64 v] w (RVoid w r (s.put 3 v)) := by
  have c1 : w.cell? ⟨r, 4, none⟩ = some (.int .i64 s.k3) := h.cell 4
  have f1 := h.frozen 4
  have hA : RAt (w.setCell ⟨r, 4, none⟩ (.int .i64 v)) r (s.set 3 v) := by
    have := heap_set_fr h 4 (.int .i64 v)
    unfold RAt; rw [this]; simp [S.set]
  have HU := Lib.hid ((m.set 3 v hv).used hA)
  have HA := Lib.hid hA
  have HG := Lib.hid (grown_set (grown_refl w (some r)) 4 (.int .i64 v))
  have hP : s.put 3 v = { s.set 3 v with high := max s.high (s.set 3 v).used } := rfl
  have hh : (s.set 3 v).high = s.high := by simp [S.set]
  rw [hP]
  obtain ⟨s1, hs1⟩ : ∃ s1, s.set 3 v = s1 := ⟨_, rfl⟩
  rw [hs1] at HU HA hh ⊢
  rw [← hh]
  have HC5 : Hid (∀ W, RAt W r s1 → W.cell? ⟨r, 5, none⟩ = some (.int .i64 s1.high)) := fun W hW => hW.cell 5
  have HF5 : Hid (∀ W, RAt W r s1 → W.frozen? ⟨r, 5, none⟩ = false) := fun W hW => hW.frozen 5
  have HE : Hid (∀ W y, RAt W r s1 → y = max s1.high s1.used → RAt (W.setCell ⟨r, 5, none⟩ (.int .i64 y)) r { s1 with high := max s1.high s1.used }) := fun W y hW hy => by
    have := heap_set_fr hW 5 (.int .i64 y)
    unfold RAt; rw [this, hy]; simp [S.used]
  have HE0 : Hid (∀ W, RAt W r s1 → s1.high = max s1.high s1.used → RAt W r { s1 with high := max s1.high s1.used }) := fun W hW hy => by
    rw [← hy]; exact hW
  obtain ⟨g, hg⟩ : ∃ g, s1.high = g := ⟨_, rfl⟩
  obtain ⟨u, hu⟩ : ∃ u, s1.used = u := ⟨_, rfl⟩
  rw [hg] at HC5 HE HE0 ⊢
  rw [hu] at HU HE HE0 ⊢
  clear h m hA hP hh hs1 hg hu
  go_enter Try.func55, Try.ntmps55
  go_wp2_with fail
  refine HU.out.mono ?_
  rintro e w2 ⟨rfl, n, rfl⟩
  have HA2 := Lib.hid (HA.out.drewN n)
  have HG2 := Lib.hid (grown_drewN HG.out n)
  generalize (w.setCell ⟨r, 4, none⟩ (.int .i64 v)).drewN n = w3 at HA2 HG2 ⊢
  clear HA HG HU c1 f1
  have c5 := HC5.out _ HA2.out
  have f5 := HF5.out _ HA2.out
  by_cases hgt : g < u
  · go_wp2
    go_end0
    exact ⟨rfl, HE.out _ _ HA2.out (by omega), grown_set HG2.out _ _⟩
  · go_wp2
    go_end0
    exact ⟨rfl, HE0.out _ HA2.out (by omega), HG2.out⟩

set_option maxHeartbeats 1000000 in
theorem rreserve0 {w : World} {r : Nat} {s : S} (h : RAt w r s) (ok : Ok s) (n : Int) (h0 : ¬ n < 0) (hn : n ≤ 9223372036854775807) :
    Calls Try.prog 56 #[.pointer (some ⟨r, 0, none⟩), .int .i64 0, .int .i64 n] w (ROut w r (reserve 0 n s)) := by
  have m := Sm.of_ok ok
  have hr : reserve 0 n s = (if n > s.lim - s.used then (14, s) else (0, s.put 0 (s.k0 + n))) := by
    unfold reserve
    rw [if_neg (show ¬ bad 0 n by unfold bad known; omega)]
    rfl
  rw [hr]
  have HU := Lib.hid (fun W (hW : RAt W r s) => m.used hW)
  have HS := Lib.hid (fun W (hW : RAt W r s) v hv => rset0 hW m v hv)
  have HCK : Hid (∀ W, RAt W r s → W.cell? ⟨r, 1, none⟩ = some (.int .i64 s.k0)) := fun W hW => hW.cell 1
  have HC0 : Hid (∀ W, RAt W r s → W.cell? ⟨r, 0, none⟩ = some (.int .i64 s.lim)) := fun W hW => hW.cell 0
  have hl : s.lim ≤ 1099511627776 := ok.lt
  have hu1 : s.used ≤ s.lim := Int.le_trans ok.uh ok.hl
  have hku : s.k0 ≤ s.used := by have := of_le ok 0; simpa [S.of] using this
  have hk0 : 0 ≤ s.k0 := m.p0.1
  have H := Lib.hid h
  by_cases hc : n > s.lim - s.used
  · rw [if_pos hc]
    obtain ⟨x, hx⟩ : ∃ x, s.k0 = x := ⟨_, rfl⟩
    obtain ⟨u, hu⟩ : ∃ u, s.used = u := ⟨_, rfl⟩
    obtain ⟨l, hll⟩ : ∃ l, s.lim = l := ⟨_, rfl⟩
    rw [hx] at HCK hku hk0
    try rw [hx] at hc
    rw [hu] at HU hu1 hku
    try rw [hu] at hc
    rw [hll] at HC0 hl hu1
    try rw [hll] at hc
    clear hr ok h m hx hu hll
    go_enter Try.func56, Try.ntmps56
    go_wp2_with fail
    refine (HU.out _ H.out).mono ?_
    rintro e w2 ⟨rfl, nq, rfl⟩
    have HA2 := Lib.hid (H.out.drewN nq)
    have HG2 := Lib.hid (grown_drewN (grown_refl w (some r)) nq)
    generalize w.drewN nq = w3 at HA2 HG2 ⊢
    have c0 := HC0.out _ HA2.out
    have ck := HCK.out _ HA2.out
    go_wp2
    go_ret
    exact ⟨rfl, HA2.out, HG2.out⟩
  · rw [if_neg hc]
    obtain ⟨s', hs'⟩ : ∃ s', s.put 0 (s.k0 + n) = s' := ⟨_, rfl⟩
    have HS1 := Lib.hid (fun W (hW : RAt W r s) => HS.out W hW (s.k0 + n) (by omega))
    rw [hs'] at HS1 ⊢
    obtain ⟨x, hx⟩ : ∃ x, s.k0 = x := ⟨_, rfl⟩
    obtain ⟨u, hu⟩ : ∃ u, s.used = u := ⟨_, rfl⟩
    obtain ⟨l, hll⟩ : ∃ l, s.lim = l := ⟨_, rfl⟩
    rw [hx] at HCK hku hk0
    try rw [hx] at hc
    try rw [hx] at HS1
    rw [hu] at HU hu1 hku
    try rw [hu] at hc
    rw [hll] at HC0 hl hu1
    try rw [hll] at hc
    clear hr ok h m hx hu hll hs' HS
    go_enter Try.func56, Try.ntmps56
    go_wp2_with fail
    refine (HU.out _ H.out).mono ?_
    rintro e w2 ⟨rfl, nq, rfl⟩
    have HA2 := Lib.hid (H.out.drewN nq)
    have HG2 := Lib.hid (grown_drewN (grown_refl w (some r)) nq)
    generalize w.drewN nq = w3 at HA2 HG2 ⊢
    have c0 := HC0.out _ HA2.out
    have ck := HCK.out _ HA2.out
    go_wp2_with fail
    refine (HS1.out _ HA2.out).mono ?_
    rintro e w5 ⟨rfl, hA, hg⟩
    have HA := Lib.hid hA
    have HG := Lib.hid (grown_trans HG2.out hg)
    clear hA hg
    go_wp2
    go_ret
    exact ⟨rfl, HA.out, HG.out⟩

set_option maxHeartbeats 1000000 in
theorem rreserve1 {w : World} {r : Nat} {s : S} (h : RAt w r s) (ok : Ok s) (n : Int) (h0 : ¬ n < 0) (hn : n ≤ 9223372036854775807) :
    Calls Try.prog 56 #[.pointer (some ⟨r, 0, none⟩), .int .i64 1, .int .i64 n] w (ROut w r (reserve 1 n s)) := by
  have m := Sm.of_ok ok
  have hr : reserve 1 n s = (if n > s.lim - s.used then (14, s) else (0, s.put 1 (s.k1 + n))) := by
    unfold reserve
    rw [if_neg (show ¬ bad 1 n by unfold bad known; omega)]
    rfl
  rw [hr]
  have HU := Lib.hid (fun W (hW : RAt W r s) => m.used hW)
  have HS := Lib.hid (fun W (hW : RAt W r s) v hv => rset1 hW m v hv)
  have HCK : Hid (∀ W, RAt W r s → W.cell? ⟨r, 2, none⟩ = some (.int .i64 s.k1)) := fun W hW => hW.cell 2
  have HC0 : Hid (∀ W, RAt W r s → W.cell? ⟨r, 0, none⟩ = some (.int .i64 s.lim)) := fun W hW => hW.cell 0
  have hl : s.lim ≤ 1099511627776 := ok.lt
  have hu1 : s.used ≤ s.lim := Int.le_trans ok.uh ok.hl
  have hku : s.k1 ≤ s.used := by have := of_le ok 1; simpa [S.of] using this
  have hk0 : 0 ≤ s.k1 := m.p1.1
  have H := Lib.hid h
  by_cases hc : n > s.lim - s.used
  · rw [if_pos hc]
    obtain ⟨x, hx⟩ : ∃ x, s.k1 = x := ⟨_, rfl⟩
    obtain ⟨u, hu⟩ : ∃ u, s.used = u := ⟨_, rfl⟩
    obtain ⟨l, hll⟩ : ∃ l, s.lim = l := ⟨_, rfl⟩
    rw [hx] at HCK hku hk0
    try rw [hx] at hc
    rw [hu] at HU hu1 hku
    try rw [hu] at hc
    rw [hll] at HC0 hl hu1
    try rw [hll] at hc
    clear hr ok h m hx hu hll
    go_enter Try.func56, Try.ntmps56
    go_wp2_with fail
    refine (HU.out _ H.out).mono ?_
    rintro e w2 ⟨rfl, nq, rfl⟩
    have HA2 := Lib.hid (H.out.drewN nq)
    have HG2 := Lib.hid (grown_drewN (grown_refl w (some r)) nq)
    generalize w.drewN nq = w3 at HA2 HG2 ⊢
    have c0 := HC0.out _ HA2.out
    have ck := HCK.out _ HA2.out
    go_wp2
    go_ret
    exact ⟨rfl, HA2.out, HG2.out⟩
  · rw [if_neg hc]
    obtain ⟨s', hs'⟩ : ∃ s', s.put 1 (s.k1 + n) = s' := ⟨_, rfl⟩
    have HS1 := Lib.hid (fun W (hW : RAt W r s) => HS.out W hW (s.k1 + n) (by omega))
    rw [hs'] at HS1 ⊢
    obtain ⟨x, hx⟩ : ∃ x, s.k1 = x := ⟨_, rfl⟩
    obtain ⟨u, hu⟩ : ∃ u, s.used = u := ⟨_, rfl⟩
    obtain ⟨l, hll⟩ : ∃ l, s.lim = l := ⟨_, rfl⟩
    rw [hx] at HCK hku hk0
    try rw [hx] at hc
    try rw [hx] at HS1
    rw [hu] at HU hu1 hku
    try rw [hu] at hc
    rw [hll] at HC0 hl hu1
    try rw [hll] at hc
    clear hr ok h m hx hu hll hs' HS
    go_enter Try.func56, Try.ntmps56
    go_wp2_with fail
    refine (HU.out _ H.out).mono ?_
    rintro e w2 ⟨rfl, nq, rfl⟩
    have HA2 := Lib.hid (H.out.drewN nq)
    have HG2 := Lib.hid (grown_drewN (grown_refl w (some r)) nq)
    generalize w.drewN nq = w3 at HA2 HG2 ⊢
    have c0 := HC0.out _ HA2.out
    have ck := HCK.out _ HA2.out
    go_wp2_with fail
    refine (HS1.out _ HA2.out).mono ?_
    rintro e w5 ⟨rfl, hA, hg⟩
    have HA := Lib.hid hA
    have HG := Lib.hid (grown_trans HG2.out hg)
    clear hA hg
    go_wp2
    go_ret
    exact ⟨rfl, HA.out, HG.out⟩

set_option maxHeartbeats 1000000 in
theorem rreserve2 {w : World} {r : Nat} {s : S} (h : RAt w r s) (ok : Ok s) (n : Int) (h0 : ¬ n < 0) (hn : n ≤ 9223372036854775807) :
    Calls Try.prog 56 #[.pointer (some ⟨r, 0, none⟩), .int .i64 2, .int .i64 n] w (ROut w r (reserve 2 n s)) := by
  have m := Sm.of_ok ok
  have hr : reserve 2 n s = (if n > s.lim - s.used then (14, s) else (0, s.put 2 (s.k2 + n))) := by
    unfold reserve
    rw [if_neg (show ¬ bad 2 n by unfold bad known; omega)]
    rfl
  rw [hr]
  have HU := Lib.hid (fun W (hW : RAt W r s) => m.used hW)
  have HS := Lib.hid (fun W (hW : RAt W r s) v hv => rset2 hW m v hv)
  have HCK : Hid (∀ W, RAt W r s → W.cell? ⟨r, 3, none⟩ = some (.int .i64 s.k2)) := fun W hW => hW.cell 3
  have HC0 : Hid (∀ W, RAt W r s → W.cell? ⟨r, 0, none⟩ = some (.int .i64 s.lim)) := fun W hW => hW.cell 0
  have hl : s.lim ≤ 1099511627776 := ok.lt
  have hu1 : s.used ≤ s.lim := Int.le_trans ok.uh ok.hl
  have hku : s.k2 ≤ s.used := by have := of_le ok 2; simpa [S.of] using this
  have hk0 : 0 ≤ s.k2 := m.p2.1
  have H := Lib.hid h
  by_cases hc : n > s.lim - s.used
  · rw [if_pos hc]
    obtain ⟨x, hx⟩ : ∃ x, s.k2 = x := ⟨_, rfl⟩
    obtain ⟨u, hu⟩ : ∃ u, s.used = u := ⟨_, rfl⟩
    obtain ⟨l, hll⟩ : ∃ l, s.lim = l := ⟨_, rfl⟩
    rw [hx] at HCK hku hk0
    try rw [hx] at hc
    rw [hu] at HU hu1 hku
    try rw [hu] at hc
    rw [hll] at HC0 hl hu1
    try rw [hll] at hc
    clear hr ok h m hx hu hll
    go_enter Try.func56, Try.ntmps56
    go_wp2_with fail
    refine (HU.out _ H.out).mono ?_
    rintro e w2 ⟨rfl, nq, rfl⟩
    have HA2 := Lib.hid (H.out.drewN nq)
    have HG2 := Lib.hid (grown_drewN (grown_refl w (some r)) nq)
    generalize w.drewN nq = w3 at HA2 HG2 ⊢
    have c0 := HC0.out _ HA2.out
    have ck := HCK.out _ HA2.out
    go_wp2
    go_ret
    exact ⟨rfl, HA2.out, HG2.out⟩
  · rw [if_neg hc]
    obtain ⟨s', hs'⟩ : ∃ s', s.put 2 (s.k2 + n) = s' := ⟨_, rfl⟩
    have HS1 := Lib.hid (fun W (hW : RAt W r s) => HS.out W hW (s.k2 + n) (by omega))
    rw [hs'] at HS1 ⊢
    obtain ⟨x, hx⟩ : ∃ x, s.k2 = x := ⟨_, rfl⟩
    obtain ⟨u, hu⟩ : ∃ u, s.used = u := ⟨_, rfl⟩
    obtain ⟨l, hll⟩ : ∃ l, s.lim = l := ⟨_, rfl⟩
    rw [hx] at HCK hku hk0
    try rw [hx] at hc
    try rw [hx] at HS1
    rw [hu] at HU hu1 hku
    try rw [hu] at hc
    rw [hll] at HC0 hl hu1
    try rw [hll] at hc
    clear hr ok h m hx hu hll hs' HS
    go_enter Try.func56, Try.ntmps56
    go_wp2_with fail
    refine (HU.out _ H.out).mono ?_
    rintro e w2 ⟨rfl, nq, rfl⟩
    have HA2 := Lib.hid (H.out.drewN nq)
    have HG2 := Lib.hid (grown_drewN (grown_refl w (some r)) nq)
    generalize w.drewN nq = w3 at HA2 HG2 ⊢
    have c0 := HC0.out _ HA2.out
    have ck := HCK.out _ HA2.out
    go_wp2_with fail
    refine (HS1.out _ HA2.out).mono ?_
    rintro e w5 ⟨rfl, hA, hg⟩
    have HA := Lib.hid hA
    have HG := Lib.hid (grown_trans HG2.out hg)
    clear hA hg
    go_wp2
    go_ret
    exact ⟨rfl, HA.out, HG.out⟩

set_option maxHeartbeats 1000000 in
theorem rreserve3 {w : World} {r : Nat} {s : S} (h : RAt w r s) (ok : Ok s) (n : Int) (h0 : ¬ n < 0) (hn : n ≤ 9223372036854775807) :
    Calls Try.prog 56 #[.pointer (some ⟨r, 0, none⟩), .int .i64 3, .int .i64 n] w (ROut w r (reserve 3 n s)) := by
  have m := Sm.of_ok ok
  have hr : reserve 3 n s = (if n > s.lim - s.used then (14, s) else (0, s.put 3 (s.k3 + n))) := by
    unfold reserve
    rw [if_neg (show ¬ bad 3 n by unfold bad known; omega)]
    rfl
  rw [hr]
  have HU := Lib.hid (fun W (hW : RAt W r s) => m.used hW)
  have HS := Lib.hid (fun W (hW : RAt W r s) v hv => rset3 hW m v hv)
  have HCK : Hid (∀ W, RAt W r s → W.cell? ⟨r, 4, none⟩ = some (.int .i64 s.k3)) := fun W hW => hW.cell 4
  have HC0 : Hid (∀ W, RAt W r s → W.cell? ⟨r, 0, none⟩ = some (.int .i64 s.lim)) := fun W hW => hW.cell 0
  have hl : s.lim ≤ 1099511627776 := ok.lt
  have hu1 : s.used ≤ s.lim := Int.le_trans ok.uh ok.hl
  have hku : s.k3 ≤ s.used := by have := of_le ok 3; simpa [S.of] using this
  have hk0 : 0 ≤ s.k3 := m.p3.1
  have H := Lib.hid h
  by_cases hc : n > s.lim - s.used
  · rw [if_pos hc]
    obtain ⟨x, hx⟩ : ∃ x, s.k3 = x := ⟨_, rfl⟩
    obtain ⟨u, hu⟩ : ∃ u, s.used = u := ⟨_, rfl⟩
    obtain ⟨l, hll⟩ : ∃ l, s.lim = l := ⟨_, rfl⟩
    rw [hx] at HCK hku hk0
    try rw [hx] at hc
    rw [hu] at HU hu1 hku
    try rw [hu] at hc
    rw [hll] at HC0 hl hu1
    try rw [hll] at hc
    clear hr ok h m hx hu hll
    go_enter Try.func56, Try.ntmps56
    go_wp2_with fail
    refine (HU.out _ H.out).mono ?_
    rintro e w2 ⟨rfl, nq, rfl⟩
    have HA2 := Lib.hid (H.out.drewN nq)
    have HG2 := Lib.hid (grown_drewN (grown_refl w (some r)) nq)
    generalize w.drewN nq = w3 at HA2 HG2 ⊢
    have c0 := HC0.out _ HA2.out
    have ck := HCK.out _ HA2.out
    go_wp2
    go_ret
    exact ⟨rfl, HA2.out, HG2.out⟩
  · rw [if_neg hc]
    obtain ⟨s', hs'⟩ : ∃ s', s.put 3 (s.k3 + n) = s' := ⟨_, rfl⟩
    have HS1 := Lib.hid (fun W (hW : RAt W r s) => HS.out W hW (s.k3 + n) (by omega))
    rw [hs'] at HS1 ⊢
    obtain ⟨x, hx⟩ : ∃ x, s.k3 = x := ⟨_, rfl⟩
    obtain ⟨u, hu⟩ : ∃ u, s.used = u := ⟨_, rfl⟩
    obtain ⟨l, hll⟩ : ∃ l, s.lim = l := ⟨_, rfl⟩
    rw [hx] at HCK hku hk0
    try rw [hx] at hc
    try rw [hx] at HS1
    rw [hu] at HU hu1 hku
    try rw [hu] at hc
    rw [hll] at HC0 hl hu1
    try rw [hll] at hc
    clear hr ok h m hx hu hll hs' HS
    go_enter Try.func56, Try.ntmps56
    go_wp2_with fail
    refine (HU.out _ H.out).mono ?_
    rintro e w2 ⟨rfl, nq, rfl⟩
    have HA2 := Lib.hid (H.out.drewN nq)
    have HG2 := Lib.hid (grown_drewN (grown_refl w (some r)) nq)
    generalize w.drewN nq = w3 at HA2 HG2 ⊢
    have c0 := HC0.out _ HA2.out
    have ck := HCK.out _ HA2.out
    go_wp2_with fail
    refine (HS1.out _ HA2.out).mono ?_
    rintro e w5 ⟨rfl, hA, hg⟩
    have HA := Lib.hid hA
    have HG := Lib.hid (grown_trans HG2.out hg)
    clear hA hg
    go_wp2
    go_ret
    exact ⟨rfl, HA.out, HG.out⟩

theorem rreserve_bad {w : World} {r : Nat} {s : S} (h : RAt w r s) (k n : Int) (hb : bad k n) :
    Calls Try.prog 56 #[.pointer (some ⟨r, 0, none⟩), .int .i64 k, .int .i64 n] w (ROut w r (reserve k n s)) := by
  have hr : reserve k n s = (2, s) := by unfold reserve; rw [if_pos hb]
  rw [hr]
  unfold bad known at hb
  by_cases h1 : k < 0
  · clear hb hr
    go_enter Try.func56, Try.ntmps56
    go_wp2
    go_ret
    exact ⟨rfl, h, grown_refl _ _⟩
  · by_cases h2 : 3 < k
    · clear hb hr
      go_enter Try.func56, Try.ntmps56
      go_wp2
      go_ret
      exact ⟨rfl, h, grown_refl _ _⟩
    · have h3 : n < 0 := by omega
      clear hb hr
      go_enter Try.func56, Try.ntmps56
      go_wp2
      go_ret
      exact ⟨rfl, h, grown_refl _ _⟩

theorem rreserve_any {w : World} {r : Nat} {s : S} (h : RAt w r s) (ok : Ok s) (k n : Int) (hn : n ≤ 9223372036854775807) :
    Calls Try.prog 56 #[.pointer (some ⟨r, 0, none⟩), .int .i64 k, .int .i64 n] w (ROut w r (reserve k n s)) := by
  by_cases hb : bad k n
  · exact rreserve_bad h k n hb
  · have hk : known k := by unfold bad at hb; by_cases hk : known k <;> simp_all
    have hn0 : ¬ n < 0 := fun hh => hb (Or.inr hh)
    rcases known_cases hk with rfl | rfl | rfl | rfl
    · exact rreserve0 h ok n hn0 hn
    · exact rreserve1 h ok n hn0 hn
    · exact rreserve2 h ok n hn0 hn
    · exact rreserve3 h ok n hn0 hn

set_option maxHeartbeats 1000000 in
theorem rrelease0 {w : World} {r : Nat} {s : S} (h : RAt w r s) (ok : Ok s) (n : Int) (h0 : ¬ n < 0) (hn : n ≤ 9223372036854775807) :
    Calls Try.prog 61 #[.pointer (some ⟨r, 0, none⟩), .int .i64 0, .int .i64 n] w (ROut w r (release 0 n s)) := by
  have m := Sm.of_ok ok
  have hr : release 0 n s = (if n > s.k0 then (2, s) else (0, s.put 0 (s.k0 - n))) := by
    unfold release
    rw [if_neg (show ¬ bad 0 n by unfold bad known; omega)]
    rfl
  rw [hr]
  have HU := Lib.hid (fun W (hW : RAt W r s) => m.used hW)
  have HS := Lib.hid (fun W (hW : RAt W r s) v hv => rset0 hW m v hv)
  have HCK : Hid (∀ W, RAt W r s → W.cell? ⟨r, 1, none⟩ = some (.int .i64 s.k0)) := fun W hW => hW.cell 1
  have HC0 : Hid (∀ W, RAt W r s → W.cell? ⟨r, 0, none⟩ = some (.int .i64 s.lim)) := fun W hW => hW.cell 0
  have hl : s.lim ≤ 1099511627776 := ok.lt
  have hu1 : s.used ≤ s.lim := Int.le_trans ok.uh ok.hl
  have hku : s.k0 ≤ s.used := by have := of_le ok 0; simpa [S.of] using this
  have hk0 : 0 ≤ s.k0 := m.p0.1
  have H := Lib.hid h
  by_cases hc : n > s.k0
  · rw [if_pos hc]
    obtain ⟨x, hx⟩ : ∃ x, s.k0 = x := ⟨_, rfl⟩
    obtain ⟨u, hu⟩ : ∃ u, s.used = u := ⟨_, rfl⟩
    obtain ⟨l, hll⟩ : ∃ l, s.lim = l := ⟨_, rfl⟩
    rw [hx] at HCK hku hk0
    try rw [hx] at hc
    rw [hu] at HU hu1 hku
    try rw [hu] at hc
    rw [hll] at HC0 hl hu1
    try rw [hll] at hc
    clear hr ok h m hx hu hll
    have c0 := HC0.out _ H.out
    have ck := HCK.out _ H.out
    go_enter Try.func61, Try.ntmps61
    go_wp2
    go_ret
    exact ⟨rfl, H.out, (grown_refl _ _)⟩
  · rw [if_neg hc]
    obtain ⟨s', hs'⟩ : ∃ s', s.put 0 (s.k0 - n) = s' := ⟨_, rfl⟩
    have HS1 := Lib.hid (fun W (hW : RAt W r s) => HS.out W hW (s.k0 - n) (by omega))
    rw [hs'] at HS1 ⊢
    obtain ⟨x, hx⟩ : ∃ x, s.k0 = x := ⟨_, rfl⟩
    obtain ⟨u, hu⟩ : ∃ u, s.used = u := ⟨_, rfl⟩
    obtain ⟨l, hll⟩ : ∃ l, s.lim = l := ⟨_, rfl⟩
    rw [hx] at HCK hku hk0
    try rw [hx] at hc
    try rw [hx] at HS1
    rw [hu] at HU hu1 hku
    try rw [hu] at hc
    rw [hll] at HC0 hl hu1
    try rw [hll] at hc
    clear hr ok h m hx hu hll hs' HS
    have c0 := HC0.out _ H.out
    have ck := HCK.out _ H.out
    go_enter Try.func61, Try.ntmps61
    go_wp2_with fail
    refine (HS1.out _ H.out).mono ?_
    rintro e w5 ⟨rfl, hA, hg⟩
    have HA := Lib.hid hA
    have HG := Lib.hid (grown_trans (grown_refl _ _) hg)
    clear hA hg
    go_wp2
    go_ret
    exact ⟨rfl, HA.out, HG.out⟩

set_option maxHeartbeats 1000000 in
theorem rrelease1 {w : World} {r : Nat} {s : S} (h : RAt w r s) (ok : Ok s) (n : Int) (h0 : ¬ n < 0) (hn : n ≤ 9223372036854775807) :
    Calls Try.prog 61 #[.pointer (some ⟨r, 0, none⟩), .int .i64 1, .int .i64 n] w (ROut w r (release 1 n s)) := by
  have m := Sm.of_ok ok
  have hr : release 1 n s = (if n > s.k1 then (2, s) else (0, s.put 1 (s.k1 - n))) := by
    unfold release
    rw [if_neg (show ¬ bad 1 n by unfold bad known; omega)]
    rfl
  rw [hr]
  have HU := Lib.hid (fun W (hW : RAt W r s) => m.used hW)
  have HS := Lib.hid (fun W (hW : RAt W r s) v hv => rset1 hW m v hv)
  have HCK : Hid (∀ W, RAt W r s → W.cell? ⟨r, 2, none⟩ = some (.int .i64 s.k1)) := fun W hW => hW.cell 2
  have HC0 : Hid (∀ W, RAt W r s → W.cell? ⟨r, 0, none⟩ = some (.int .i64 s.lim)) := fun W hW => hW.cell 0
  have hl : s.lim ≤ 1099511627776 := ok.lt
  have hu1 : s.used ≤ s.lim := Int.le_trans ok.uh ok.hl
  have hku : s.k1 ≤ s.used := by have := of_le ok 1; simpa [S.of] using this
  have hk0 : 0 ≤ s.k1 := m.p1.1
  have H := Lib.hid h
  by_cases hc : n > s.k1
  · rw [if_pos hc]
    obtain ⟨x, hx⟩ : ∃ x, s.k1 = x := ⟨_, rfl⟩
    obtain ⟨u, hu⟩ : ∃ u, s.used = u := ⟨_, rfl⟩
    obtain ⟨l, hll⟩ : ∃ l, s.lim = l := ⟨_, rfl⟩
    rw [hx] at HCK hku hk0
    try rw [hx] at hc
    rw [hu] at HU hu1 hku
    try rw [hu] at hc
    rw [hll] at HC0 hl hu1
    try rw [hll] at hc
    clear hr ok h m hx hu hll
    have c0 := HC0.out _ H.out
    have ck := HCK.out _ H.out
    go_enter Try.func61, Try.ntmps61
    go_wp2
    go_ret
    exact ⟨rfl, H.out, (grown_refl _ _)⟩
  · rw [if_neg hc]
    obtain ⟨s', hs'⟩ : ∃ s', s.put 1 (s.k1 - n) = s' := ⟨_, rfl⟩
    have HS1 := Lib.hid (fun W (hW : RAt W r s) => HS.out W hW (s.k1 - n) (by omega))
    rw [hs'] at HS1 ⊢
    obtain ⟨x, hx⟩ : ∃ x, s.k1 = x := ⟨_, rfl⟩
    obtain ⟨u, hu⟩ : ∃ u, s.used = u := ⟨_, rfl⟩
    obtain ⟨l, hll⟩ : ∃ l, s.lim = l := ⟨_, rfl⟩
    rw [hx] at HCK hku hk0
    try rw [hx] at hc
    try rw [hx] at HS1
    rw [hu] at HU hu1 hku
    try rw [hu] at hc
    rw [hll] at HC0 hl hu1
    try rw [hll] at hc
    clear hr ok h m hx hu hll hs' HS
    have c0 := HC0.out _ H.out
    have ck := HCK.out _ H.out
    go_enter Try.func61, Try.ntmps61
    go_wp2_with fail
    refine (HS1.out _ H.out).mono ?_
    rintro e w5 ⟨rfl, hA, hg⟩
    have HA := Lib.hid hA
    have HG := Lib.hid (grown_trans (grown_refl _ _) hg)
    clear hA hg
    go_wp2
    go_ret
    exact ⟨rfl, HA.out, HG.out⟩

set_option maxHeartbeats 1000000 in
theorem rrelease2 {w : World} {r : Nat} {s : S} (h : RAt w r s) (ok : Ok s) (n : Int) (h0 : ¬ n < 0) (hn : n ≤ 9223372036854775807) :
    Calls Try.prog 61 #[.pointer (some ⟨r, 0, none⟩), .int .i64 2, .int .i64 n] w (ROut w r (release 2 n s)) := by
  have m := Sm.of_ok ok
  have hr : release 2 n s = (if n > s.k2 then (2, s) else (0, s.put 2 (s.k2 - n))) := by
    unfold release
    rw [if_neg (show ¬ bad 2 n by unfold bad known; omega)]
    rfl
  rw [hr]
  have HU := Lib.hid (fun W (hW : RAt W r s) => m.used hW)
  have HS := Lib.hid (fun W (hW : RAt W r s) v hv => rset2 hW m v hv)
  have HCK : Hid (∀ W, RAt W r s → W.cell? ⟨r, 3, none⟩ = some (.int .i64 s.k2)) := fun W hW => hW.cell 3
  have HC0 : Hid (∀ W, RAt W r s → W.cell? ⟨r, 0, none⟩ = some (.int .i64 s.lim)) := fun W hW => hW.cell 0
  have hl : s.lim ≤ 1099511627776 := ok.lt
  have hu1 : s.used ≤ s.lim := Int.le_trans ok.uh ok.hl
  have hku : s.k2 ≤ s.used := by have := of_le ok 2; simpa [S.of] using this
  have hk0 : 0 ≤ s.k2 := m.p2.1
  have H := Lib.hid h
  by_cases hc : n > s.k2
  · rw [if_pos hc]
    obtain ⟨x, hx⟩ : ∃ x, s.k2 = x := ⟨_, rfl⟩
    obtain ⟨u, hu⟩ : ∃ u, s.used = u := ⟨_, rfl⟩
    obtain ⟨l, hll⟩ : ∃ l, s.lim = l := ⟨_, rfl⟩
    rw [hx] at HCK hku hk0
    try rw [hx] at hc
    rw [hu] at HU hu1 hku
    try rw [hu] at hc
    rw [hll] at HC0 hl hu1
    try rw [hll] at hc
    clear hr ok h m hx hu hll
    have c0 := HC0.out _ H.out
    have ck := HCK.out _ H.out
    go_enter Try.func61, Try.ntmps61
    go_wp2
    go_ret
    exact ⟨rfl, H.out, (grown_refl _ _)⟩
  · rw [if_neg hc]
    obtain ⟨s', hs'⟩ : ∃ s', s.put 2 (s.k2 - n) = s' := ⟨_, rfl⟩
    have HS1 := Lib.hid (fun W (hW : RAt W r s) => HS.out W hW (s.k2 - n) (by omega))
    rw [hs'] at HS1 ⊢
    obtain ⟨x, hx⟩ : ∃ x, s.k2 = x := ⟨_, rfl⟩
    obtain ⟨u, hu⟩ : ∃ u, s.used = u := ⟨_, rfl⟩
    obtain ⟨l, hll⟩ : ∃ l, s.lim = l := ⟨_, rfl⟩
    rw [hx] at HCK hku hk0
    try rw [hx] at hc
    try rw [hx] at HS1
    rw [hu] at HU hu1 hku
    try rw [hu] at hc
    rw [hll] at HC0 hl hu1
    try rw [hll] at hc
    clear hr ok h m hx hu hll hs' HS
    have c0 := HC0.out _ H.out
    have ck := HCK.out _ H.out
    go_enter Try.func61, Try.ntmps61
    go_wp2_with fail
    refine (HS1.out _ H.out).mono ?_
    rintro e w5 ⟨rfl, hA, hg⟩
    have HA := Lib.hid hA
    have HG := Lib.hid (grown_trans (grown_refl _ _) hg)
    clear hA hg
    go_wp2
    go_ret
    exact ⟨rfl, HA.out, HG.out⟩

set_option maxHeartbeats 1000000 in
theorem rrelease3 {w : World} {r : Nat} {s : S} (h : RAt w r s) (ok : Ok s) (n : Int) (h0 : ¬ n < 0) (hn : n ≤ 9223372036854775807) :
    Calls Try.prog 61 #[.pointer (some ⟨r, 0, none⟩), .int .i64 3, .int .i64 n] w (ROut w r (release 3 n s)) := by
  have m := Sm.of_ok ok
  have hr : release 3 n s = (if n > s.k3 then (2, s) else (0, s.put 3 (s.k3 - n))) := by
    unfold release
    rw [if_neg (show ¬ bad 3 n by unfold bad known; omega)]
    rfl
  rw [hr]
  have HU := Lib.hid (fun W (hW : RAt W r s) => m.used hW)
  have HS := Lib.hid (fun W (hW : RAt W r s) v hv => rset3 hW m v hv)
  have HCK : Hid (∀ W, RAt W r s → W.cell? ⟨r, 4, none⟩ = some (.int .i64 s.k3)) := fun W hW => hW.cell 4
  have HC0 : Hid (∀ W, RAt W r s → W.cell? ⟨r, 0, none⟩ = some (.int .i64 s.lim)) := fun W hW => hW.cell 0
  have hl : s.lim ≤ 1099511627776 := ok.lt
  have hu1 : s.used ≤ s.lim := Int.le_trans ok.uh ok.hl
  have hku : s.k3 ≤ s.used := by have := of_le ok 3; simpa [S.of] using this
  have hk0 : 0 ≤ s.k3 := m.p3.1
  have H := Lib.hid h
  by_cases hc : n > s.k3
  · rw [if_pos hc]
    obtain ⟨x, hx⟩ : ∃ x, s.k3 = x := ⟨_, rfl⟩
    obtain ⟨u, hu⟩ : ∃ u, s.used = u := ⟨_, rfl⟩
    obtain ⟨l, hll⟩ : ∃ l, s.lim = l := ⟨_, rfl⟩
    rw [hx] at HCK hku hk0
    try rw [hx] at hc
    rw [hu] at HU hu1 hku
    try rw [hu] at hc
    rw [hll] at HC0 hl hu1
    try rw [hll] at hc
    clear hr ok h m hx hu hll
    have c0 := HC0.out _ H.out
    have ck := HCK.out _ H.out
    go_enter Try.func61, Try.ntmps61
    go_wp2
    go_ret
    exact ⟨rfl, H.out, (grown_refl _ _)⟩
  · rw [if_neg hc]
    obtain ⟨s', hs'⟩ : ∃ s', s.put 3 (s.k3 - n) = s' := ⟨_, rfl⟩
    have HS1 := Lib.hid (fun W (hW : RAt W r s) => HS.out W hW (s.k3 - n) (by omega))
    rw [hs'] at HS1 ⊢
    obtain ⟨x, hx⟩ : ∃ x, s.k3 = x := ⟨_, rfl⟩
    obtain ⟨u, hu⟩ : ∃ u, s.used = u := ⟨_, rfl⟩
    obtain ⟨l, hll⟩ : ∃ l, s.lim = l := ⟨_, rfl⟩
    rw [hx] at HCK hku hk0
    try rw [hx] at hc
    try rw [hx] at HS1
    rw [hu] at HU hu1 hku
    try rw [hu] at hc
    rw [hll] at HC0 hl hu1
    try rw [hll] at hc
    clear hr ok h m hx hu hll hs' HS
    have c0 := HC0.out _ H.out
    have ck := HCK.out _ H.out
    go_enter Try.func61, Try.ntmps61
    go_wp2_with fail
    refine (HS1.out _ H.out).mono ?_
    rintro e w5 ⟨rfl, hA, hg⟩
    have HA := Lib.hid hA
    have HG := Lib.hid (grown_trans (grown_refl _ _) hg)
    clear hA hg
    go_wp2
    go_ret
    exact ⟨rfl, HA.out, HG.out⟩

theorem rrelease_bad {w : World} {r : Nat} {s : S} (h : RAt w r s) (k n : Int) (hb : bad k n) :
    Calls Try.prog 61 #[.pointer (some ⟨r, 0, none⟩), .int .i64 k, .int .i64 n] w (ROut w r (release k n s)) := by
  have hr : release k n s = (2, s) := by unfold release; rw [if_pos hb]
  rw [hr]
  unfold bad known at hb
  by_cases h1 : k < 0
  · clear hb hr
    go_enter Try.func61, Try.ntmps61
    go_wp2
    go_ret
    exact ⟨rfl, h, grown_refl _ _⟩
  · by_cases h2 : 3 < k
    · clear hb hr
      go_enter Try.func61, Try.ntmps61
      go_wp2
      go_ret
      exact ⟨rfl, h, grown_refl _ _⟩
    · have h3 : n < 0 := by omega
      clear hb hr
      go_enter Try.func61, Try.ntmps61
      go_wp2
      go_ret
      exact ⟨rfl, h, grown_refl _ _⟩

theorem rrelease_any {w : World} {r : Nat} {s : S} (h : RAt w r s) (ok : Ok s) (k n : Int) (hn : n ≤ 9223372036854775807) :
    Calls Try.prog 61 #[.pointer (some ⟨r, 0, none⟩), .int .i64 k, .int .i64 n] w (ROut w r (release k n s)) := by
  by_cases hb : bad k n
  · exact rrelease_bad h k n hb
  · have hk : known k := by unfold bad at hb; by_cases hk : known k <;> simp_all
    have hn0 : ¬ n < 0 := fun hh => hb (Or.inr hh)
    rcases known_cases hk with rfl | rfl | rfl | rfl
    · exact rrelease0 h ok n hn0 hn
    · exact rrelease1 h ok n hn0 hn
    · exact rrelease2 h ok n hn0 hn
    · exact rrelease3 h ok n hn0 hn

set_option maxHeartbeats 1000000 in
theorem rchange0 {w : World} {r : Nat} {s : S} (h : RAt w r s) (ok : Ok s) (n : Int) (h0 : ¬ n < 0) (hn : n ≤ 9223372036854775807) :
    Calls Try.prog 33 #[.pointer (some ⟨r, 0, none⟩), .int .i64 0, .int .i64 n] w (ROut w r (change 0 n s)) := by
  have m := Sm.of_ok ok
  have hr : change 0 n s = (if n > s.lim - (s.used - s.k0) then (14, s) else (0, s.put 0 n)) := by
    unfold change
    rw [if_neg (show ¬ bad 0 n by unfold bad known; omega)]
    rfl
  rw [hr]
  have HU := Lib.hid (fun W (hW : RAt W r s) => m.used hW)
  have HS := Lib.hid (fun W (hW : RAt W r s) v hv => rset0 hW m v hv)
  have HCK : Hid (∀ W, RAt W r s → W.cell? ⟨r, 1, none⟩ = some (.int .i64 s.k0)) := fun W hW => hW.cell 1
  have HC0 : Hid (∀ W, RAt W r s → W.cell? ⟨r, 0, none⟩ = some (.int .i64 s.lim)) := fun W hW => hW.cell 0
  have hl : s.lim ≤ 1099511627776 := ok.lt
  have hu1 : s.used ≤ s.lim := Int.le_trans ok.uh ok.hl
  have hku : s.k0 ≤ s.used := by have := of_le ok 0; simpa [S.of] using this
  have hk0 : 0 ≤ s.k0 := m.p0.1
  have H := Lib.hid h
  by_cases hc : n > s.lim - (s.used - s.k0)
  · rw [if_pos hc]
    obtain ⟨x, hx⟩ : ∃ x, s.k0 = x := ⟨_, rfl⟩
    obtain ⟨u, hu⟩ : ∃ u, s.used = u := ⟨_, rfl⟩
    obtain ⟨l, hll⟩ : ∃ l, s.lim = l := ⟨_, rfl⟩
    rw [hx] at HCK hku hk0
    try rw [hx] at hc
    rw [hu] at HU hu1 hku
    try rw [hu] at hc
    rw [hll] at HC0 hl hu1
    try rw [hll] at hc
    clear hr ok h m hx hu hll
    go_enter Try.func33, Try.ntmps33
    go_wp2_with fail
    refine (HU.out _ H.out).mono ?_
    rintro e w2 ⟨rfl, nq, rfl⟩
    have HA2 := Lib.hid (H.out.drewN nq)
    have HG2 := Lib.hid (grown_drewN (grown_refl w (some r)) nq)
    generalize w.drewN nq = w3 at HA2 HG2 ⊢
    have c0 := HC0.out _ HA2.out
    have ck := HCK.out _ HA2.out
    go_wp2
    go_ret
    exact ⟨rfl, HA2.out, HG2.out⟩
  · rw [if_neg hc]
    obtain ⟨s', hs'⟩ : ∃ s', s.put 0 (n) = s' := ⟨_, rfl⟩
    have HS1 := Lib.hid (fun W (hW : RAt W r s) => HS.out W hW (n) (by omega))
    rw [hs'] at HS1 ⊢
    obtain ⟨x, hx⟩ : ∃ x, s.k0 = x := ⟨_, rfl⟩
    obtain ⟨u, hu⟩ : ∃ u, s.used = u := ⟨_, rfl⟩
    obtain ⟨l, hll⟩ : ∃ l, s.lim = l := ⟨_, rfl⟩
    rw [hx] at HCK hku hk0
    try rw [hx] at hc
    try rw [hx] at HS1
    rw [hu] at HU hu1 hku
    try rw [hu] at hc
    rw [hll] at HC0 hl hu1
    try rw [hll] at hc
    clear hr ok h m hx hu hll hs' HS
    go_enter Try.func33, Try.ntmps33
    go_wp2_with fail
    refine (HU.out _ H.out).mono ?_
    rintro e w2 ⟨rfl, nq, rfl⟩
    have HA2 := Lib.hid (H.out.drewN nq)
    have HG2 := Lib.hid (grown_drewN (grown_refl w (some r)) nq)
    generalize w.drewN nq = w3 at HA2 HG2 ⊢
    have c0 := HC0.out _ HA2.out
    have ck := HCK.out _ HA2.out
    go_wp2_with fail
    refine (HS1.out _ HA2.out).mono ?_
    rintro e w5 ⟨rfl, hA, hg⟩
    have HA := Lib.hid hA
    have HG := Lib.hid (grown_trans HG2.out hg)
    clear hA hg
    go_wp2
    go_ret
    exact ⟨rfl, HA.out, HG.out⟩

set_option maxHeartbeats 1000000 in
theorem rchange1 {w : World} {r : Nat} {s : S} (h : RAt w r s) (ok : Ok s) (n : Int) (h0 : ¬ n < 0) (hn : n ≤ 9223372036854775807) :
    Calls Try.prog 33 #[.pointer (some ⟨r, 0, none⟩), .int .i64 1, .int .i64 n] w (ROut w r (change 1 n s)) := by
  have m := Sm.of_ok ok
  have hr : change 1 n s = (if n > s.lim - (s.used - s.k1) then (14, s) else (0, s.put 1 n)) := by
    unfold change
    rw [if_neg (show ¬ bad 1 n by unfold bad known; omega)]
    rfl
  rw [hr]
  have HU := Lib.hid (fun W (hW : RAt W r s) => m.used hW)
  have HS := Lib.hid (fun W (hW : RAt W r s) v hv => rset1 hW m v hv)
  have HCK : Hid (∀ W, RAt W r s → W.cell? ⟨r, 2, none⟩ = some (.int .i64 s.k1)) := fun W hW => hW.cell 2
  have HC0 : Hid (∀ W, RAt W r s → W.cell? ⟨r, 0, none⟩ = some (.int .i64 s.lim)) := fun W hW => hW.cell 0
  have hl : s.lim ≤ 1099511627776 := ok.lt
  have hu1 : s.used ≤ s.lim := Int.le_trans ok.uh ok.hl
  have hku : s.k1 ≤ s.used := by have := of_le ok 1; simpa [S.of] using this
  have hk0 : 0 ≤ s.k1 := m.p1.1
  have H := Lib.hid h
  by_cases hc : n > s.lim - (s.used - s.k1)
  · rw [if_pos hc]
    obtain ⟨x, hx⟩ : ∃ x, s.k1 = x := ⟨_, rfl⟩
    obtain ⟨u, hu⟩ : ∃ u, s.used = u := ⟨_, rfl⟩
    obtain ⟨l, hll⟩ : ∃ l, s.lim = l := ⟨_, rfl⟩
    rw [hx] at HCK hku hk0
    try rw [hx] at hc
    rw [hu] at HU hu1 hku
    try rw [hu] at hc
    rw [hll] at HC0 hl hu1
    try rw [hll] at hc
    clear hr ok h m hx hu hll
    go_enter Try.func33, Try.ntmps33
    go_wp2_with fail
    refine (HU.out _ H.out).mono ?_
    rintro e w2 ⟨rfl, nq, rfl⟩
    have HA2 := Lib.hid (H.out.drewN nq)
    have HG2 := Lib.hid (grown_drewN (grown_refl w (some r)) nq)
    generalize w.drewN nq = w3 at HA2 HG2 ⊢
    have c0 := HC0.out _ HA2.out
    have ck := HCK.out _ HA2.out
    go_wp2
    go_ret
    exact ⟨rfl, HA2.out, HG2.out⟩
  · rw [if_neg hc]
    obtain ⟨s', hs'⟩ : ∃ s', s.put 1 (n) = s' := ⟨_, rfl⟩
    have HS1 := Lib.hid (fun W (hW : RAt W r s) => HS.out W hW (n) (by omega))
    rw [hs'] at HS1 ⊢
    obtain ⟨x, hx⟩ : ∃ x, s.k1 = x := ⟨_, rfl⟩
    obtain ⟨u, hu⟩ : ∃ u, s.used = u := ⟨_, rfl⟩
    obtain ⟨l, hll⟩ : ∃ l, s.lim = l := ⟨_, rfl⟩
    rw [hx] at HCK hku hk0
    try rw [hx] at hc
    try rw [hx] at HS1
    rw [hu] at HU hu1 hku
    try rw [hu] at hc
    rw [hll] at HC0 hl hu1
    try rw [hll] at hc
    clear hr ok h m hx hu hll hs' HS
    go_enter Try.func33, Try.ntmps33
    go_wp2_with fail
    refine (HU.out _ H.out).mono ?_
    rintro e w2 ⟨rfl, nq, rfl⟩
    have HA2 := Lib.hid (H.out.drewN nq)
    have HG2 := Lib.hid (grown_drewN (grown_refl w (some r)) nq)
    generalize w.drewN nq = w3 at HA2 HG2 ⊢
    have c0 := HC0.out _ HA2.out
    have ck := HCK.out _ HA2.out
    go_wp2_with fail
    refine (HS1.out _ HA2.out).mono ?_
    rintro e w5 ⟨rfl, hA, hg⟩
    have HA := Lib.hid hA
    have HG := Lib.hid (grown_trans HG2.out hg)
    clear hA hg
    go_wp2
    go_ret
    exact ⟨rfl, HA.out, HG.out⟩

set_option maxHeartbeats 1000000 in
theorem rchange2 {w : World} {r : Nat} {s : S} (h : RAt w r s) (ok : Ok s) (n : Int) (h0 : ¬ n < 0) (hn : n ≤ 9223372036854775807) :
    Calls Try.prog 33 #[.pointer (some ⟨r, 0, none⟩), .int .i64 2, .int .i64 n] w (ROut w r (change 2 n s)) := by
  have m := Sm.of_ok ok
  have hr : change 2 n s = (if n > s.lim - (s.used - s.k2) then (14, s) else (0, s.put 2 n)) := by
    unfold change
    rw [if_neg (show ¬ bad 2 n by unfold bad known; omega)]
    rfl
  rw [hr]
  have HU := Lib.hid (fun W (hW : RAt W r s) => m.used hW)
  have HS := Lib.hid (fun W (hW : RAt W r s) v hv => rset2 hW m v hv)
  have HCK : Hid (∀ W, RAt W r s → W.cell? ⟨r, 3, none⟩ = some (.int .i64 s.k2)) := fun W hW => hW.cell 3
  have HC0 : Hid (∀ W, RAt W r s → W.cell? ⟨r, 0, none⟩ = some (.int .i64 s.lim)) := fun W hW => hW.cell 0
  have hl : s.lim ≤ 1099511627776 := ok.lt
  have hu1 : s.used ≤ s.lim := Int.le_trans ok.uh ok.hl
  have hku : s.k2 ≤ s.used := by have := of_le ok 2; simpa [S.of] using this
  have hk0 : 0 ≤ s.k2 := m.p2.1
  have H := Lib.hid h
  by_cases hc : n > s.lim - (s.used - s.k2)
  · rw [if_pos hc]
    obtain ⟨x, hx⟩ : ∃ x, s.k2 = x := ⟨_, rfl⟩
    obtain ⟨u, hu⟩ : ∃ u, s.used = u := ⟨_, rfl⟩
    obtain ⟨l, hll⟩ : ∃ l, s.lim = l := ⟨_, rfl⟩
    rw [hx] at HCK hku hk0
    try rw [hx] at hc
    rw [hu] at HU hu1 hku
    try rw [hu] at hc
    rw [hll] at HC0 hl hu1
    try rw [hll] at hc
    clear hr ok h m hx hu hll
    go_enter Try.func33, Try.ntmps33
    go_wp2_with fail
    refine (HU.out _ H.out).mono ?_
    rintro e w2 ⟨rfl, nq, rfl⟩
    have HA2 := Lib.hid (H.out.drewN nq)
    have HG2 := Lib.hid (grown_drewN (grown_refl w (some r)) nq)
    generalize w.drewN nq = w3 at HA2 HG2 ⊢
    have c0 := HC0.out _ HA2.out
    have ck := HCK.out _ HA2.out
    go_wp2
    go_ret
    exact ⟨rfl, HA2.out, HG2.out⟩
  · rw [if_neg hc]
    obtain ⟨s', hs'⟩ : ∃ s', s.put 2 (n) = s' := ⟨_, rfl⟩
    have HS1 := Lib.hid (fun W (hW : RAt W r s) => HS.out W hW (n) (by omega))
    rw [hs'] at HS1 ⊢
    obtain ⟨x, hx⟩ : ∃ x, s.k2 = x := ⟨_, rfl⟩
    obtain ⟨u, hu⟩ : ∃ u, s.used = u := ⟨_, rfl⟩
    obtain ⟨l, hll⟩ : ∃ l, s.lim = l := ⟨_, rfl⟩
    rw [hx] at HCK hku hk0
    try rw [hx] at hc
    try rw [hx] at HS1
    rw [hu] at HU hu1 hku
    try rw [hu] at hc
    rw [hll] at HC0 hl hu1
    try rw [hll] at hc
    clear hr ok h m hx hu hll hs' HS
    go_enter Try.func33, Try.ntmps33
    go_wp2_with fail
    refine (HU.out _ H.out).mono ?_
    rintro e w2 ⟨rfl, nq, rfl⟩
    have HA2 := Lib.hid (H.out.drewN nq)
    have HG2 := Lib.hid (grown_drewN (grown_refl w (some r)) nq)
    generalize w.drewN nq = w3 at HA2 HG2 ⊢
    have c0 := HC0.out _ HA2.out
    have ck := HCK.out _ HA2.out
    go_wp2_with fail
    refine (HS1.out _ HA2.out).mono ?_
    rintro e w5 ⟨rfl, hA, hg⟩
    have HA := Lib.hid hA
    have HG := Lib.hid (grown_trans HG2.out hg)
    clear hA hg
    go_wp2
    go_ret
    exact ⟨rfl, HA.out, HG.out⟩

set_option maxHeartbeats 1000000 in
theorem rchange3 {w : World} {r : Nat} {s : S} (h : RAt w r s) (ok : Ok s) (n : Int) (h0 : ¬ n < 0) (hn : n ≤ 9223372036854775807) :
    Calls Try.prog 33 #[.pointer (some ⟨r, 0, none⟩), .int .i64 3, .int .i64 n] w (ROut w r (change 3 n s)) := by
  have m := Sm.of_ok ok
  have hr : change 3 n s = (if n > s.lim - (s.used - s.k3) then (14, s) else (0, s.put 3 n)) := by
    unfold change
    rw [if_neg (show ¬ bad 3 n by unfold bad known; omega)]
    rfl
  rw [hr]
  have HU := Lib.hid (fun W (hW : RAt W r s) => m.used hW)
  have HS := Lib.hid (fun W (hW : RAt W r s) v hv => rset3 hW m v hv)
  have HCK : Hid (∀ W, RAt W r s → W.cell? ⟨r, 4, none⟩ = some (.int .i64 s.k3)) := fun W hW => hW.cell 4
  have HC0 : Hid (∀ W, RAt W r s → W.cell? ⟨r, 0, none⟩ = some (.int .i64 s.lim)) := fun W hW => hW.cell 0
  have hl : s.lim ≤ 1099511627776 := ok.lt
  have hu1 : s.used ≤ s.lim := Int.le_trans ok.uh ok.hl
  have hku : s.k3 ≤ s.used := by have := of_le ok 3; simpa [S.of] using this
  have hk0 : 0 ≤ s.k3 := m.p3.1
  have H := Lib.hid h
  by_cases hc : n > s.lim - (s.used - s.k3)
  · rw [if_pos hc]
    obtain ⟨x, hx⟩ : ∃ x, s.k3 = x := ⟨_, rfl⟩
    obtain ⟨u, hu⟩ : ∃ u, s.used = u := ⟨_, rfl⟩
    obtain ⟨l, hll⟩ : ∃ l, s.lim = l := ⟨_, rfl⟩
    rw [hx] at HCK hku hk0
    try rw [hx] at hc
    rw [hu] at HU hu1 hku
    try rw [hu] at hc
    rw [hll] at HC0 hl hu1
    try rw [hll] at hc
    clear hr ok h m hx hu hll
    go_enter Try.func33, Try.ntmps33
    go_wp2_with fail
    refine (HU.out _ H.out).mono ?_
    rintro e w2 ⟨rfl, nq, rfl⟩
    have HA2 := Lib.hid (H.out.drewN nq)
    have HG2 := Lib.hid (grown_drewN (grown_refl w (some r)) nq)
    generalize w.drewN nq = w3 at HA2 HG2 ⊢
    have c0 := HC0.out _ HA2.out
    have ck := HCK.out _ HA2.out
    go_wp2
    go_ret
    exact ⟨rfl, HA2.out, HG2.out⟩
  · rw [if_neg hc]
    obtain ⟨s', hs'⟩ : ∃ s', s.put 3 (n) = s' := ⟨_, rfl⟩
    have HS1 := Lib.hid (fun W (hW : RAt W r s) => HS.out W hW (n) (by omega))
    rw [hs'] at HS1 ⊢
    obtain ⟨x, hx⟩ : ∃ x, s.k3 = x := ⟨_, rfl⟩
    obtain ⟨u, hu⟩ : ∃ u, s.used = u := ⟨_, rfl⟩
    obtain ⟨l, hll⟩ : ∃ l, s.lim = l := ⟨_, rfl⟩
    rw [hx] at HCK hku hk0
    try rw [hx] at hc
    try rw [hx] at HS1
    rw [hu] at HU hu1 hku
    try rw [hu] at hc
    rw [hll] at HC0 hl hu1
    try rw [hll] at hc
    clear hr ok h m hx hu hll hs' HS
    go_enter Try.func33, Try.ntmps33
    go_wp2_with fail
    refine (HU.out _ H.out).mono ?_
    rintro e w2 ⟨rfl, nq, rfl⟩
    have HA2 := Lib.hid (H.out.drewN nq)
    have HG2 := Lib.hid (grown_drewN (grown_refl w (some r)) nq)
    generalize w.drewN nq = w3 at HA2 HG2 ⊢
    have c0 := HC0.out _ HA2.out
    have ck := HCK.out _ HA2.out
    go_wp2_with fail
    refine (HS1.out _ HA2.out).mono ?_
    rintro e w5 ⟨rfl, hA, hg⟩
    have HA := Lib.hid hA
    have HG := Lib.hid (grown_trans HG2.out hg)
    clear hA hg
    go_wp2
    go_ret
    exact ⟨rfl, HA.out, HG.out⟩

theorem rchange_bad {w : World} {r : Nat} {s : S} (h : RAt w r s) (k n : Int) (hb : bad k n) :
    Calls Try.prog 33 #[.pointer (some ⟨r, 0, none⟩), .int .i64 k, .int .i64 n] w (ROut w r (change k n s)) := by
  have hr : change k n s = (2, s) := by unfold change; rw [if_pos hb]
  rw [hr]
  unfold bad known at hb
  by_cases h1 : k < 0
  · clear hb hr
    go_enter Try.func33, Try.ntmps33
    go_wp2
    go_ret
    exact ⟨rfl, h, grown_refl _ _⟩
  · by_cases h2 : 3 < k
    · clear hb hr
      go_enter Try.func33, Try.ntmps33
      go_wp2
      go_ret
      exact ⟨rfl, h, grown_refl _ _⟩
    · have h3 : n < 0 := by omega
      clear hb hr
      go_enter Try.func33, Try.ntmps33
      go_wp2
      go_ret
      exact ⟨rfl, h, grown_refl _ _⟩

theorem rchange_any {w : World} {r : Nat} {s : S} (h : RAt w r s) (ok : Ok s) (k n : Int) (hn : n ≤ 9223372036854775807) :
    Calls Try.prog 33 #[.pointer (some ⟨r, 0, none⟩), .int .i64 k, .int .i64 n] w (ROut w r (change k n s)) := by
  by_cases hb : bad k n
  · exact rchange_bad h k n hb
  · have hk : known k := by unfold bad at hb; by_cases hk : known k <;> simp_all
    have hn0 : ¬ n < 0 := fun hh => hb (Or.inr hh)
    rcases known_cases hk with rfl | rfl | rfl | rfl
    · exact rchange0 h ok n hn0 hn
    · exact rchange1 h ok n hn0 hn
    · exact rchange2 h ok n hn0 hn
    · exact rchange3 h ok n hn0 hn
end Go.Proofs.Ytlfhjbilnfkabaa
