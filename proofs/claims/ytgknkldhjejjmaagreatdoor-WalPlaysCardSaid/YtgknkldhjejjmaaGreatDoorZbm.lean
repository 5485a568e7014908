/- Texts joined by bundle.py: FHeadR. -/
import Derived.Test.YtgknkldhjejjmaaGreatDoorZat
import Derived.Test.YtgknkldhjejjmaaGreatDoorZbl

/- Taken over from stage 3, by mk.py. -/
namespace Go.Proofs.YtgknkldhjejjmaaGreatDoor
open Go.RowKit

set_option maxRecDepth 100000 in
theorem frput_any (s : ByteArray) (w : World) (hs : s.size ≤ 9223372036854775807) :
    Calls Tryz.prog 30 #[.string s] w fun e w' => e = .returned (putOut s) ∧ Below w.heap.size w w' := by
  by_cases hlong : 65535 < s.size
  · have HO := Lib.hid (putOut_long hlong)
    go_enter Tryz.func30, Tryz.ntmps30
    go_wp2
    go_ret2
    exact ⟨by rw [HO.out]; rfl, Below.refl _ _⟩
  · have HO := Lib.hid (putOut_good (s := s) (by omega))
    have hsl := FM.sum_lt s.data.toList
    have HS := Lib.hid (fun W => frsum_any s W (by omega))
    have hrow := fun c hc hcl => row8_of s.data.toList s.size c (size_list s) hc (by omega) hcl
    have HF := Lib.hid (frame_str s)
    obtain ⟨c, hc⟩ : ∃ c, FM.sum s.data.toList = c := ⟨_, rfl⟩
    rw [hc] at hsl HS
    have hcv := frow_string (w.alloc (.cells (row8 s.data.toList) 5)) _ _ _ s.data.toList (heap_alloc_new w _)
    rw [hrow c hc hsl] at hcv
    obtain ⟨h8, hh⟩ : ∃ h8, (⟨(FM.head s.data.toList).toArray⟩ : ByteArray) = h8 := ⟨_, rfl⟩
    have hl8 : h8.size = 8 := by rw [← hh]; rfl
    rw [hh] at hcv HF
    have n1 : ¬ 9223372036854775807 < h8.size + s.size := by omega
    clear hrow hc hh
    go_enter Tryz.func30, Tryz.ntmps30
    go_wp2_with fail
    refine (HS.out _).mono ?_
    rintro e w1 ⟨rfl, rfl⟩
    go_wp2
    go_ret2
    exact ⟨by rw [HO.out, ← HF.out]; rfl, (Below.refl _ _).alloc (Nat.le_refl _) _⟩

end Go.Proofs.YtgknkldhjejjmaaGreatDoor

