/- The log that wakes makes, walked. -/
import Derived.Test.YtgknkldhjejjmaaDoorWc
namespace Go.Proofs.YtgknkldhjejjmaaDoor
open Go.RowKit Go.Maps
open DM

theorem tab_live {B : Nat} {w0 w : World} {d : Nat} {s : St} {N M : Nat} (ht : Tab w0) (h : Live B w0 w d s N M) (hB : B = w0.heap.size) : Tab w := ht.below (by subst hB; exact h.moves.below)

set_option maxRecDepth 100000 in
set_option maxHeartbeats 2000000 in
theorem wakes_any (w : World) (ht : Tab w) : Calls Tryd.prog 9 #[] w fun e w' => e = .returned (.bool true) ∧ Below w.heap.size w w' := by
  have HT := Lib.hid ht
  obtain ⟨B, hB⟩ : ∃ B, w.heap.size = B := ⟨_, rfl⟩
  have HTL : Hid (∀ W d s N M, Live B w W d s N M → Tab W) := Lib.hid fun W d s N M h => tab_live ht h hB.symm
  have HNEW : Hid (Calls Tryd.prog 13 #[.int .i64 100] w fun e w' => ∃ d, e = .returned (.pointer (some ⟨d, 0, none⟩)) ∧ Live B w w' d (DM.new 100) 0 0) := Lib.hid (by
    subst hB
    exact (live_new 100 w w w.heap.size (Moves.refl _ _) (Nat.le_refl _) (by unfold fits; omega) 0 0 (by omega)).mono fun _ _ ⟨he, hl⟩ => ⟨_, he, hl⟩)
  have HNM := Lib.hid (fun W (hW : Tab W) => wname_any 7 W (by omega) hW)
  have HCR := Lib.hid (fun W d (h : Live B w W d (DM.new 100) 0 0) => h.wcreate (by omega) 7 (by omega) (HTL.out _ _ _ _ _ h) WL.wk_create)
  have HAP := Lib.hid (fun W d (h : Live B w W d (WL.wkA []) 2 0) => h.wappend (by omega) 7 (by omega) (HTL.out _ _ _ _ _ h) ⟨#[120]⟩ (by decide) WL.wk_append)
  have HRD := Lib.hid (fun W d (h : Live B w W d (WL.wkA (FM.frame [120])) 4 0) => h.wread 7 (by omega) (HTL.out _ _ _ _ _ h) WL.wk_read)
  rw [hB]
  clear hB
  clear ht
  obtain ⟨k, hk, hkl⟩ := encS_text (l := WN.file [108, 111, 103] 7)
  obtain rfl : k = ⟨#[108, 111, 103, 45, 48, 48, 48, 48, 48, 48, 48, 55]⟩ := str_ext (hkl.trans WN.log7)
  clear hkl
  go_enter Tryd.func9, Tryd.ntmps9
  go_wp2_with fail
  refine HNEW.out.mono ?_
  rintro e w1 ⟨d, rfl, hl⟩
  have HL := Lib.hid hl
  clear hl HNEW
  go_wp2_with fail
  refine (HNM.out _ (HTL.out _ _ _ _ _ HL.out)).mono ?_
  rintro e w2 ⟨he, hB⟩
  have he : e = .returned (.string ⟨#[108, 111, 103, 45, 48, 48, 48, 48, 48, 48, 48, 55]⟩) := he.trans (by rw [hk])
  subst he
  have HL2 := Lib.hid (HL.out.still hB)
  clear hB HL HNM hk
  go_wp2_with fail
  refine (HCR.out _ _ HL2.out).mono ?_
  rintro e w3 ⟨rfl, hl⟩
  have HL3 := Lib.hid hl
  clear hl HL2 HCR
  go_wp2_with fail
  refine (HAP.out _ _ HL3.out).mono ?_
  rintro e w4 ⟨rfl, hl⟩
  have HL4 := Lib.hid hl
  clear hl HL3 HAP
  go_wp2_with fail
  refine (HRD.out _ _ HL4.out).mono ?_
  rintro e w5 ⟨v, rfl, hown, hl⟩
  have HL5 := Lib.hid hl.moves.below
  clear hl HL4 HRD
  rcases hown.2 with ⟨_, h1⟩ | ⟨g, c, cur, rfl, _⟩
  · exact absurd h1 (by decide)
  have c0 : w5.cell? ⟨g, 0, none⟩ = some (.string ⟨#[120]⟩) := hown.cellAt 0 (by decide)
  clear hown
  go_wp2_with fail
  go_ret
  exact ⟨rfl, HL5.out⟩
end Go.Proofs.YtgknkldhjejjmaaDoor
