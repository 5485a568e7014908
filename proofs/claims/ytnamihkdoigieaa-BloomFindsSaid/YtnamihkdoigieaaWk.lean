/- The filter that the document fixes. -/
import Derived.Test.YtnamihkdoigieaaHs
namespace Go.Proofs.Ytnamihkdoigieaa
open Go.RowKit

theorem wakes_new : (BL.new 10 (keysOf [⟨#[97]⟩])).2 = 0 ∧ (BL.new 10 (keysOf [⟨#[97]⟩])).1 = BL.filter 10 [[97]] := ⟨by decide +kernel, rfl⟩
theorem wakes_len : (BL.filter 10 [[97]]).length = 9 := by rw [BL.filter_len]; rfl
theorem wakes_places : (BL.places [97] 3 64).length = 3 := rfl

set_option maxRecDepth 100000 in
theorem wakes_any (w : World) : Calls Try.prog 10 #[] w fun e w' => e = .returned (.bool true) ∧ Below w.heap.size w w' := by
  obtain ⟨f, hf⟩ : ∃ f : ByteArray, (⟨(BL.filter 10 [[97]]).toArray⟩ : ByteArray) = f := ⟨_, rfl⟩
  have hfd : f.data.toList = BL.filter 10 [[97]] := by rw [← hf]
  have hfs : f.size = 9 := by rw [← size_list, hfd, wakes_len]
  have h0 : f[0]'(by omega) = 6 := by
    have := byte_of f 0 (by omega)
    rw [← this]
    simp only [hfd]
    rfl
  have hhas : BL.has f.data.toList [97] = true := by rw [hfd]; exact BL.finds 10 [[97]] [97] (by simp)
  have H1 : Hid (∀ W g, W.heap[g]? = some (.cells #[.string ⟨#[97]⟩] 9 (0, 0)) → Calls Try.prog 11 #[.int .i64 10, .slice (some ⟨g, 0, none⟩) 1 1] W fun e w' => e = .returned (.tuple #[.string f, .int .i64 0]) ∧ Below W.heap.size W w') := Lib.hid fun W g hg => by
    have h := new_any 10 (some ⟨g, 0, none⟩) 1 1 [⟨#[97]⟩] W (by decide) (by decide) rfl (fun _ => ⟨g, 0, rfl, (Array.getElem?_eq_some_iff.1 hg).1, fun j hj => by
      have hj0 : j = 0 := by simpa using hj
      subst hj0
      rw [cell_of_row _ _ _ _ _ _ hg]
      rfl⟩) (by decide) (fun q hq => by
      simp only [List.mem_singleton] at hq
      subst hq
      decide)
    unfold NewOut at h
    rw [wakes_new.1, wakes_new.2, hf] at h
    exact h
  have H2 := Lib.hid (fun W => has_any f ⟨#[97]⟩ W (by omega) (by decide))
  rw [show (⟨#[97]⟩ : ByteArray).data.toList = [97] from rfl, hhas] at H2
  have H3 := Lib.hid (fun W => places_any ⟨#[97]⟩ 3 64 W (by decide) (by decide) (by decide) (by decide) (by decide))
  unfold PlacesOut at H3
  rw [show (⟨#[97]⟩ : ByteArray).data.toList = [97] from rfl, wakes_places] at H3
  have HW := Lib.hid (heap_alloc_new w (.cells #[.string ⟨#[97]⟩] 9))
  have hpos : 0 < f.size := by omega
  clear hf hfd hhas
  go_enter Try.func10, Try.ntmps10
  go_wp2_with fail
  refine (H1.out _ _ HW.out).mono ?_
  rintro e w1 ⟨rfl, hB1⟩
  have HB1 : Hid (Below w.heap.size w w1) := Lib.hid (((Below.refl _ _).alloc (Nat.le_refl _) _).trans (hB1.mono (by simp)))
  clear hB1
  go_wp2_with fail
  refine (H2.out _).mono ?_
  rintro e w2 ⟨rfl, hB2⟩
  have HB2 := Lib.hid (HB1.out.trans (hB2.mono HB1.out.size))
  clear hB2
  go_wp2_with fail
  refine (H3.out _).mono ?_
  rintro e w3 ⟨v, rfl, hown, hB3⟩
  obtain ⟨A, c, rfl⟩ : ∃ A c, v = .slice A 3 c := by
    rcases hown.2 with ⟨rfl, h⟩ | ⟨g, cap, cur, rfl, _⟩
    · cases h
    · exact ⟨_, _, rfl⟩
  have HB3 := Lib.hid (HB2.out.trans (hB3.mono HB2.out.size))
  clear hB3 hown
  go_wp2
  go_ret
  exact ⟨rfl, HB3.out⟩
end Go.Proofs.Ytnamihkdoigieaa
