/- Texts joined by bundle.py: FMeas. -/
import Derived.Test.YtgknkldhjejjmaaGreatDoorZat
import Derived.Deep.QuietTactic
import Derived.BigQuiet

/- The walk of measure. -/
namespace Go.Proofs.YtgknkldhjejjmaaGreatDoor
open Go.RowKit

def measOut (s : ByteArray) : Value := .tuple #[.int .i64 ((FM.meas s.data.toList).1 : Nat), .int .i64 (FM.meas s.data.toList).2]

theorem measOut_of {s : ByteArray} {a : Nat} {b : Int} (h : FM.meas s.data.toList = (a, b)) : measOut s = .tuple #[.int .i64 (a : Int), .int .i64 b] := by
  unfold measOut; rw [h]

theorem at_of (s : ByteArray) (i : Nat) (h : i < s.size) : FM.at_ s.data.toList i = s[i].toNat := by
  unfold FM.at_
  rw [List.getD_eq_getElem?_getD, List.getElem?_eq_getElem (by rw [size_list]; exact h), Option.getD_some, byte_of s i h]

theorem meas_none {l : List UInt8} (h : l.length = 0) : FM.meas l = (0, 10) := by unfold FM.meas; rw [if_pos h]
theorem meas_few {l : List UInt8} (h0 : l.length ≠ 0) (h : l.length < 4) : FM.meas l = (0, 3) := by unfold FM.meas; rw [if_neg h0, if_pos h]
theorem meas_form {l : List UInt8} (h : 4 ≤ l.length) (hf : FM.at_ l 0 + FM.at_ l 2 ≠ 255 ∨ FM.at_ l 1 + FM.at_ l 3 ≠ 255) : FM.meas l = (0, 4) := by
  unfold FM.meas; rw [if_neg (by omega), if_neg (by omega), if_pos hf]
theorem meas_short {l : List UInt8} (h : 4 ≤ l.length) (h0 : FM.at_ l 0 + FM.at_ l 2 = 255) (h1 : FM.at_ l 1 + FM.at_ l 3 = 255) (hs : l.length < 8 + (256 * FM.at_ l 0 + FM.at_ l 1)) : FM.meas l = (0, 3) := by
  unfold FM.meas; rw [if_neg (by omega), if_neg (by omega), if_neg (by omega), if_pos hs]
theorem meas_good {l : List UInt8} (h : 4 ≤ l.length) (h0 : FM.at_ l 0 + FM.at_ l 2 = 255) (h1 : FM.at_ l 1 + FM.at_ l 3 = 255) (hs : 8 + (256 * FM.at_ l 0 + FM.at_ l 1) ≤ l.length) : FM.meas l = (8 + (256 * FM.at_ l 0 + FM.at_ l 1), 0) := by
  unfold FM.meas; rw [if_neg (by omega), if_neg (by omega), if_neg (by omega), if_neg (by omega)]

set_option maxRecDepth 100000 in
theorem fmeasure_any (s : ByteArray) (w : World) (hs : s.size ≤ 9223372036854775807) :
    Calls Tryz.prog 93 #[.string s] w fun e w' => e = .returned (measOut s) ∧ Below w.heap.size w w' := by
  have HSL := Lib.hid (size_list s)
  by_cases h0 : s.size = 0
  · have hs0 : s = ⟨#[]⟩ := by
      apply ByteArray.ext
      exact Array.eq_empty_of_size_eq_zero h0
    subst hs0
    have HO := Lib.hid (measOut_of (s := ⟨#[]⟩) (meas_none rfl))
    clear h0 hs
    go_enter Tryz.func93, Tryz.ntmps93
    go_wp2
    go_ret2
    exact ⟨by rw [HO.out]; rfl, Below.refl _ _⟩
  have hne : s.toList.isEmpty = false := by
    rw [Lib.toList_data]
    cases hh : s.data.toList with
    | nil => have := size_list s; rw [hh] at this; simp at this; omega
    | cons a b => rfl
  by_cases h4 : s.size < 4
  · have HO := Lib.hid (measOut_of (s := s) (meas_few (by rw [HSL.out]; exact h0) (by rw [HSL.out]; exact h4)))
    clear h0
    go_enter Tryz.func93, Tryz.ntmps93
    go_wp2
    go_ret2
    exact ⟨by rw [HO.out]; rfl, Below.refl _ _⟩
  have a0 := at_of s 0 (by omega)
  have a1 := at_of s 1 (by omega)
  have a2 := at_of s 2 (by omega)
  have a3 := at_of s 3 (by omega)
  have i0 : (0 : Int) < (s.size : Int) := by omega
  have i1 : (1 : Int) < (s.size : Int) := by omega
  have i2 : (2 : Int) < (s.size : Int) := by omega
  have i3 : (3 : Int) < (s.size : Int) := by omega
  have j0 : 0 < s.size := by omega
  have l0 := s[0].toNat_lt
  have l1 := s[1].toNat_lt
  have l2 := s[2].toNat_lt
  have l3 := s[3].toNat_lt
  have x0 := u8_not s[0].toNat (by omega)
  have x1 := u8_not s[1].toNat (by omega)
  have y0 : bits .xor .u8 (if IntKind.u8.signed = true then -1 else IntKind.u8.max) (s[0].toNat : Int) = ((255 - s[0].toNat : Nat) : Int) := x0
  have y1 : bits .xor .u8 (if IntKind.u8.signed = true then -1 else IntKind.u8.max) (s[1].toNat : Int) = ((255 - s[1].toNat : Nat) : Int) := x1
  by_cases hf : FM.at_ s.data.toList 0 + FM.at_ s.data.toList 2 ≠ 255
  · have HO := Lib.hid (measOut_of (s := s) (meas_form (by rw [HSL.out]; omega) (.inl hf)))
    rw [a0, a2] at hf
    have t1 : ((s[2].toNat : Int) != ((255 - s[0].toNat : Nat) : Int)) = true := by rw [bne_iff_ne]; omega
    clear a0 a1 a2 a3 hf h0
    go_enter Tryz.func93, Tryz.ntmps93
    go_wp2_with fail
    go_quiet (fail)
    go_wp2
    go_ret2
    exact ⟨by rw [HO.out]; rfl, below_drewN (Below.refl _ _) _⟩
  by_cases hf1 : FM.at_ s.data.toList 1 + FM.at_ s.data.toList 3 ≠ 255
  · have HO := Lib.hid (measOut_of (s := s) (meas_form (by rw [HSL.out]; omega) (.inr hf1)))
    rw [a0, a2] at hf
    rw [a1, a3] at hf1
    have t1 : ((s[2].toNat : Int) != ((255 - s[0].toNat : Nat) : Int)) = false := by rw [bne_eq_false_iff_eq]; omega
    have t2 : ((s[3].toNat : Int) != ((255 - s[1].toNat : Nat) : Int)) = true := by rw [bne_iff_ne]; omega
    clear a0 a1 a2 a3 hf hf1 h0
    go_enter Tryz.func93, Tryz.ntmps93
    go_wp2_with fail
    go_quiet (fail)
    go_wp2
    go_ret2
    exact ⟨by rw [HO.out]; rfl, below_drewN (Below.refl _ _) _⟩
  by_cases hs8 : s.size < 8 + (256 * FM.at_ s.data.toList 0 + FM.at_ s.data.toList 1)
  · have HO := Lib.hid (measOut_of (s := s) (meas_short (by rw [HSL.out]; omega) (by omega) (by omega) (by rw [HSL.out]; exact hs8)))
    rw [a0, a2] at hf
    rw [a1, a3] at hf1
    rw [a0, a1] at hs8
    have t1 : ((s[2].toNat : Int) != ((255 - s[0].toNat : Nat) : Int)) = false := by rw [bne_eq_false_iff_eq]; omega
    have t2 : ((s[3].toNat : Int) != ((255 - s[1].toNat : Nat) : Int)) = false := by rw [bne_eq_false_iff_eq]; omega
    clear a0 a1 a2 a3 hf hf1 h0
    go_enter Tryz.func93, Tryz.ntmps93
    go_wp2_with fail
    go_quiet (fail)
    go_wp2_with fail
    go_quiet (fail)
    go_wp2
    go_ret2
    exact ⟨by rw [HO.out]; rfl, below_drewN (Below.refl _ _) _⟩
  · have HO := Lib.hid (measOut_of (s := s) (meas_good (by rw [HSL.out]; omega) (by omega) (by omega) (by rw [HSL.out]; omega)))
    rw [a0, a2] at hf
    rw [a1, a3] at hf1
    rw [a0, a1] at hs8 HO
    have hcast : ((8 + (256 * s[0].toNat + s[1].toNat) : Nat) : Int) = 8 + (s[0].toNat : Int) * 256 + (s[1].toNat : Int) := by omega
    rw [hcast] at HO
    have t1 : ((s[2].toNat : Int) != ((255 - s[0].toNat : Nat) : Int)) = false := by rw [bne_eq_false_iff_eq]; omega
    have t2 : ((s[3].toNat : Int) != ((255 - s[1].toNat : Nat) : Int)) = false := by rw [bne_eq_false_iff_eq]; omega
    clear a0 a1 a2 a3 hf hf1 h0
    go_enter Tryz.func93, Tryz.ntmps93
    go_wp2_with fail
    go_quiet (fail)
    go_wp2_with fail
    go_quiet (fail)
    go_wp2
    go_ret2
    exact ⟨by rw [HO.out]; rfl, below_drewN (Below.refl _ _) _⟩
end Go.Proofs.YtgknkldhjejjmaaGreatDoor

