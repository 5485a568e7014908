/- A budget and the document's beside one another; same. -/
import Derived.Test.YtapncnbildampaaBl
namespace Go.Proofs.Ytapncnbildampaa
open Go.RowKit
open BM

/-- a budget in state s, the document's in state t -/
structure Bo (W w : World) (b r : Nat) (s t : S) : Prop where
  lv : Lv W w b s
  at_ : RAt w r t
  le : W.heap.size ≤ r
  ok : Ok t

section
variable {W w w' : World} {b r : Nat} {s t : S}
theorem Bo.ne (h : Bo W w b r s t) : b ≠ r := h.lv.at_.ne h.at_
theorem Bo.below (h : Bo W w b r s t) (hb : Below w.heap.size w w') : Bo W w' b r s t := ⟨h.lv.trans hb, h.at_.below hb, h.le, h.ok⟩
theorem Bo.drewN (h : Bo W w b r s t) (n : Nat) : Bo W (w.drewN n) b r s t := h.below (below_drewN (Below.refl _ _) n)
theorem Bo.drew (h : Bo W w b r s t) : Bo W w.drew b r s t := h.below (Below.refl _ _).drew
theorem Bo.alloc (h : Bo W w b r s t) (o : Obj) : Bo W (w.alloc o) b r s t := h.below ((Below.refl _ _).alloc (Nat.le_refl _) o)

/-- what a budget's call leaves beside the document's -/
def BOut (W w : World) (b r : Nat) (x : Int × S) (t : S) (e : Ending) (w' : World) : Prop := e = .returned (.int .i64 x.1) ∧ Bo W w' b r x.2 t ∧ w.grownBy w' (some b)
def DOut (W w : World) (b r : Nat) (s : S) (x : Int × S) (e : Ending) (w' : World) : Prop := e = .returned (.int .i64 x.1) ∧ Bo W w' b r s x.2 ∧ w.grownBy w' (some r)

theorem Bo.of_b (h : Bo W w b r s t) {x : Int × S} (ok : Ok x.2) {e : Ending} (ho : Out w b 0 x e w') : BOut W w b r x t e w' :=
  ⟨ho.1, ⟨(h.lv.of_out ok ho).2, h.at_.kept ho.2.2 (by simpa using h.ne.symm), h.le, h.ok⟩, ho.2.2⟩
theorem Bo.of_r (h : Bo W w b r s t) {x : Int × S} (ok : Ok x.2) {e : Ending} (ho : ROut w r x e w') : DOut W w b r s x e w' :=
  ⟨ho.1, ⟨h.lv.grown ho.2.2 h.le h.ne, ho.2.1, h.le, ok⟩, ho.2.2⟩
end

section
variable {W w : World} {b r : Nat} {s t : S} (h : Bo W w b r s t) (k n : Int) (hn : n ≤ 9223372036854775807)
include h hn
theorem Bo.reserve : Calls Try.prog 14 #[.pointer (some ⟨b, 0, none⟩), .int .i64 k, .int .i64 n] w (BOut W w b r (BM.reserve k n s) t) :=
  (reserve_any h.lv.at_ h.lv.ok k n hn).mono fun _ _ ho => h.of_b (ok_reserve h.lv.ok k n) ho
theorem Bo.release : Calls Try.prog 15 #[.pointer (some ⟨b, 0, none⟩), .int .i64 k, .int .i64 n] w (BOut W w b r (BM.release k n s) t) :=
  (release_any h.lv.at_ h.lv.ok k n hn).mono fun _ _ ho => h.of_b (ok_release h.lv.ok k n) ho
theorem Bo.change : Calls Try.prog 16 #[.pointer (some ⟨b, 0, none⟩), .int .i64 k, .int .i64 n] w (BOut W w b r (BM.change k n s) t) :=
  (change_any h.lv.at_ h.lv.ok k n hn).mono fun _ _ ho => h.of_b (ok_change h.lv.ok k n) ho
theorem Bo.rreserve : Calls Try.prog 23 #[.pointer (some ⟨r, 0, none⟩), .int .i64 k, .int .i64 n] w (DOut W w b r s (BM.reserve k n t)) :=
  (rreserve_any h.at_ h.ok k n hn).mono fun _ _ ho => h.of_r (ok_reserve h.ok k n) ho
theorem Bo.rrelease : Calls Try.prog 21 #[.pointer (some ⟨r, 0, none⟩), .int .i64 k, .int .i64 n] w (DOut W w b r s (BM.release k n t)) :=
  (rrelease_any h.at_ h.ok k n hn).mono fun _ _ ho => h.of_r (ok_release h.ok k n) ho
theorem Bo.rchange : Calls Try.prog 22 #[.pointer (some ⟨r, 0, none⟩), .int .i64 k, .int .i64 n] w (DOut W w b r s (BM.change k n t)) :=
  (rchange_any h.at_ h.ok k n hn).mono fun _ _ ho => h.of_r (ok_change h.ok k n) ho
end

theorem of_q {w : World} {b : Nat} {c : Int} {s : S} (h : BAt w b c s) (k v : Int) (hv : s.of k = v) : Calls Try.prog 13 #[.pointer (some ⟨b, 0, none⟩), .int .i64 k] w fun e w' => e = .returned (.int .i64 v) ∧ w' = w := by
  subst hv
  exact (of_any h k).mono fun _ _ h => ⟨h.1, h.2.symm⟩
theorem used_q {w : World} {b : Nat} {c : Int} {s : S} (h : BAt w b c s) (v : Int) (hv : s.used = v) : Calls Try.prog 17 #[.pointer (some ⟨b, 0, none⟩)] w fun e w' => e = .returned (.int .i64 v) ∧ w' = w := by
  subst hv
  exact (used_any h).mono fun _ _ h => ⟨h.1, h.2.symm⟩
theorem high_q {w : World} {b : Nat} {c : Int} {s : S} (h : BAt w b c s) (v : Int) (hv : s.high = v) : Calls Try.prog 18 #[.pointer (some ⟨b, 0, none⟩)] w fun e w' => e = .returned (.int .i64 v) ∧ w' = w := by
  subst hv
  exact (high_any h).mono fun _ _ h => ⟨h.1, h.2.symm⟩
theorem left_v {w : World} {b : Nat} {c : Int} {s : S} (h : BAt w b c s) (ok : Ok s) (l v : Int) (hl : s.lim = l) (hv : s.used = v) : Calls Try.prog 19 #[.pointer (some ⟨b, 0, none⟩)] w fun e w' => e = .returned (.int .i64 (l - v)) ∧ ∃ n, w' = w.drewN n := by
  subst hv; subst hl
  exact left_q h ok

set_option maxRecDepth 100000 in
set_option maxHeartbeats 4000000 in
theorem same_any {W w : World} {b r : Nat} {s : S} (h : Bo W w b r s s) : Calls Try.prog 11 #[.pointer (some ⟨b, 0, none⟩), .pointer (some ⟨r, 0, none⟩)] w fun e w' => e = .returned (.bool true) ∧ Below w.heap.size w w' := by
  have hBr : ∀ wr, Below w.heap.size w wr → BAt wr b 0 s ∧ RAt wr r s := fun wr hB => ⟨h.lv.at_.below hB, h.at_.below hB⟩
  have HBR := Lib.hid hBr
  have OK := Lib.hid h.lv.ok
  have HS := Lib.hid (Sm.of_ok h.ok)
  have hlim := h.ok.lt
  have huh := h.ok.uh
  have hhl := h.ok.hl
  have hu0 : 0 ≤ s.used := by have h0 := h.ok.p0; have h1 := h.ok.p1; have h2 := h.ok.p2; have h3 := h.ok.p3; unfold S.used; omega
  obtain ⟨u, hu⟩ : ∃ u, s.used = u := ⟨_, rfl⟩
  obtain ⟨g, hg⟩ : ∃ u, s.high = u := ⟨_, rfl⟩
  obtain ⟨l, hll⟩ : ∃ u, s.lim = u := ⟨_, rfl⟩
  obtain ⟨x0, e0⟩ : ∃ a, s.k0 = a := ⟨_, rfl⟩
  obtain ⟨x1, e1⟩ : ∃ a, s.k1 = a := ⟨_, rfl⟩
  obtain ⟨x2, e2⟩ : ∃ a, s.k2 = a := ⟨_, rfl⟩
  obtain ⟨x3, e3⟩ : ∃ a, s.k3 = a := ⟨_, rfl⟩
  have HO0 := Lib.hid (fun (W' : World) (hB : BAt W' b 0 s) => of_q hB 0 x0 (by simpa [S.of] using e0))
  have HO1 := Lib.hid (fun (W' : World) (hB : BAt W' b 0 s) => of_q hB 1 x1 (by simpa [S.of] using e1))
  have HO2 := Lib.hid (fun (W' : World) (hB : BAt W' b 0 s) => of_q hB 2 x2 (by simpa [S.of] using e2))
  have HO3 := Lib.hid (fun (W' : World) (hB : BAt W' b 0 s) => of_q hB 3 x3 (by simpa [S.of] using e3))
  have HC0 : Hid (∀ W' : World, RAt W' r s → W'.cell? ⟨r, 1, none⟩ = some (.int .i64 x0)) := fun W' hR => by rw [← e0]; exact hR.cell 1
  have HC1 : Hid (∀ W' : World, RAt W' r s → W'.cell? ⟨r, 2, none⟩ = some (.int .i64 x1)) := fun W' hR => by rw [← e1]; exact hR.cell 2
  have HC2 : Hid (∀ W' : World, RAt W' r s → W'.cell? ⟨r, 3, none⟩ = some (.int .i64 x2)) := fun W' hR => by rw [← e2]; exact hR.cell 3
  have HC3 : Hid (∀ W' : World, RAt W' r s → W'.cell? ⟨r, 4, none⟩ = some (.int .i64 x3)) := fun W' hR => by rw [← e3]; exact hR.cell 4
  have HCL : Hid (∀ W' : World, RAt W' r s → W'.cell? ⟨r, 0, none⟩ = some (.int .i64 l)) := fun W' hR => by rw [← hll]; exact hR.cell 0
  have HCH : Hid (∀ W' : World, RAt W' r s → W'.cell? ⟨r, 5, none⟩ = some (.int .i64 g)) := fun W' hR => by rw [← hg]; exact hR.cell 5
  have HUS := Lib.hid (fun (W' : World) (hB : BAt W' b 0 s) => used_q hB u hu)
  have HHI := Lib.hid (fun (W' : World) (hB : BAt W' b 0 s) => high_q hB g hg)
  have HLE := Lib.hid (fun (W' : World) (hB : BAt W' b 0 s) => left_v hB OK.out l u hll hu)
  have HRU : Hid (∀ W' : World, RAt W' r s → Calls Try.prog 20 #[.pointer (some ⟨r, 0, none⟩)] W' fun e w' => e = .returned (.int .i64 u) ∧ ∃ n, w' = W'.drewN n) := fun W' hR => by rw [← hu]; exact HS.out.used hR
  rw [hu] at huh hu0
  rw [hg] at huh hhl
  rw [hll] at hlim hhl
  clear h hBr hu hg hll e0 e1 e2 e3
  go_enter Try.func11, Try.ntmps11
  go_wp2_with fail
  go_loopw [7] (fun i wr => ∃ k : Nat, k ≤ 4 ∧ i = .int .i64 k ∧ Below w.heap.size w wr) (fun i _ => 4 - (intOf i).toNat)
  case atStart => exact ⟨0, by omega, rfl, Below.refl _ _⟩
  case round =>
    obtain ⟨k, hk, rfl, hB⟩ := hrel
    obtain ⟨hb, hr⟩ := HBR.out wr hB
    have HB := Lib.hid hB
    have HBA := Lib.hid hb
    have HRA := Lib.hid hr
    clear hB hb hr
    have hkc : k = 0 ∨ k = 1 ∨ k = 2 ∨ k = 3 ∨ k = 4 := by omega
    rcases hkc with rfl | rfl | rfl | rfl | rfl
    · have ck := HC0.out _ HRA.out
      go_wp2_with fail
      go_quiet ((go_at_call 13; exact Calls.quiet_of_same (HO0.out _ HBA.out)))
      go_wp2
      go_roundw
      case rel => exact ⟨1, by omega, rfl, below_drewN HB.out _⟩
      case measure => simp [intOf]
    · have ck := HC1.out _ HRA.out
      go_wp2_with fail
      go_quiet ((go_at_call 13; exact Calls.quiet_of_same (HO1.out _ HBA.out)))
      go_wp2
      go_roundw
      case rel => exact ⟨2, by omega, rfl, below_drewN HB.out _⟩
      case measure => simp [intOf]
    · have ck := HC2.out _ HRA.out
      go_wp2_with fail
      go_quiet ((go_at_call 13; exact Calls.quiet_of_same (HO2.out _ HBA.out)))
      go_wp2
      go_roundw
      case rel => exact ⟨3, by omega, rfl, below_drewN HB.out _⟩
      case measure => simp [intOf]
    · have ck := HC3.out _ HRA.out
      go_wp2_with fail
      go_quiet ((go_at_call 13; exact Calls.quiet_of_same (HO3.out _ HBA.out)))
      go_wp2
      go_roundw
      case rel => exact ⟨4, by omega, rfl, below_drewN HB.out _⟩
      case measure => simp [intOf]
    · go_wp2_with fail
      refine (HRU.out _ HRA.out).mono ?_
      rintro e w2 ⟨rfl, n, rfl⟩
      have HB2 := Lib.hid (below_drewN HB.out n)
      generalize wr.drewN n = w3 at HB2 ⊢
      obtain ⟨hb, hr⟩ := HBR.out w3 HB2.out
      have cl := HCL.out _ hr
      have ch := HCH.out _ hr
      have HBA2 := Lib.hid hb
      clear hb hr
      go_wp2_with fail
      go_quiet ((first
        | (go_at_call 17; exact Calls.quiet_of_same (HUS.out _ HBA2.out))
        | (go_at_call 18; exact Calls.quiet_of_same (HHI.out _ HBA2.out))
        | (go_at_call 19; exact Calls.quiet_of (HLE.out _ HBA2.out))))
      go_wp2
      go_ret
      exact ⟨rfl, below_drewN HB2.out _⟩
end Go.Proofs.Ytapncnbildampaa
