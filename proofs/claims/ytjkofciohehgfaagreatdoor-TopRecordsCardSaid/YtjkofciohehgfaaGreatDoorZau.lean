/- Texts joined by bundle.py: YDFMeas, YDFGet, YDFAll, YDFTxt, YDWa. -/
import Derived.Test.YtjkofciohehgfaaGreatDoorZat
import Derived.Deep.QuietTactic
import Derived.BigQuiet
import Derived.Test.YtjkofciohehgfaaGreatDoorZam
import Derived.Test.YtjkofciohehgfaaGreatDoorZas
import Derived.Test.YtjkofciohehgfaaGreatDoorRows
import Derived.WalkKit
import Derived.ProofKit
import Derived.OpenShut
import Derived.JoinedCond
import Derived.SizedLaws
import Derived.Deep.Slices
import Derived.Deep.Strs
import Derived.ChangeSame
import Derived.Deep.CondSized
import Derived.Test.YtjkofciohehgfaaGreatDoorZaj
import Derived.Test.YtjkofciohehgfaaGreatDoorZar
import Derived.Sort.OwnSorted
import Derived.Sort.KeysCollected
import Derived.Laws.IdiomRangeMap
import Derived.Laws.BitsAllLaws

/- The walk of measure. -/
namespace Go.Proofs.YtjkofciohehgfaaGreatDoor.L8
open Go.RowKit

def measOut (s : ByteArray) : Value := .tuple #[.int .i64 ((FM.meas s.data.toList).1 : Nat), .int .i64 (FM.meas s.data.toList).2]

theorem measOut_of {s : ByteArray} {a : Nat} {b : Int} (h : FM.meas s.data.toList = (a, b)) : measOut s = .tuple #[.int .i64 (a : Int), .int .i64 b] := by
  unfold measOut; rw [h]

theorem at_of (s : ByteArray) (i : Nat) (h : i < s.size) : FM.at_ s.data.toList i = s[i].toNat := by
  unfold FM.at_
  rw [List.getD_eq_getElem?_getD, List.getElem?_eq_getElem (by rw [size_list]; exact h), Option.getD_some, byte_of s i h]

theorem meas_none {l : List UInt8} (h : l.length = 0) : FM.meas l = (0, 10) := by unfold FM.meas; rw [if_pos h]
theorem meas_few {l : List UInt8} (h0 : l.length ≠ 0) (h : l.length < 4) : FM.meas l = (0, 3) := by unfold FM.meas; rw [if_neg h0, if_pos h]
theorem meas_form {l : List UInt8} (h : 4 ≤ l.length) (hf : FM.at_ l 0 + FM.at_ l 2 ≠ 255 ∨ FM.at_ l 1 + FM.at_ l 3 ≠ 255) : FM.meas l = (0, 4) := by
  unfold FM.meas; rw [if_neg (by omega), if_neg (by omega), if_pos hf]
theorem meas_short {l : List UInt8} (h : 4 ≤ l.length) (h0 : FM.at_ l 0 + FM.at_ l 2 = 255) (h1 : FM.at_ l 1 + FM.at_ l 3 = 255) (hs : l.length < 8 + (256 * FM.at_ l 0 + FM.at_ l 1)) : FM.meas l = (0, 3) := by
  unfold FM.meas; rw [if_neg (by omega), if_neg (by omega), if_neg (by omega), if_pos hs]
theorem meas_good {l : List UInt8} (h : 4 ≤ l.length) (h0 : FM.at_ l 0 + FM.at_ l 2 = 255) (h1 : FM.at_ l 1 + FM.at_ l 3 = 255) (hs : 8 + (256 * FM.at_ l 0 + FM.at_ l 1) ≤ l.length) : FM.meas l = (8 + (256 * FM.at_ l 0 + FM.at_ l 1), 0) := by
  unfold FM.meas; rw [if_neg (by omega), if_neg (by omega), if_neg (by omega), if_neg (by omega)]

set_option maxRecDepth 100000 in
theorem fmeasure_any (s : ByteArray) (w : World) (hs : s.size ≤ 9223372036854775807) :
    Calls Tryz.prog 112 #[.string s] w fun e w' => e = .returned (measOut s) ∧ Below w.heap.size w w' := by
  have HSL := Lib.hid (size_list s)
  by_cases h0 : s.size = 0
  · have hs0 : s = ⟨#[]⟩ := by
      apply ByteArray.ext
      exact Array.eq_empty_of_size_eq_zero h0
    subst hs0
    have HO := Lib.hid (measOut_of (s := ⟨#[]⟩) (meas_none rfl))
    clear h0 hs
    go_enter Tryz.func112, Tryz.ntmps112
    go_wp2
    go_ret2
    exact ⟨by rw [HO.out]; rfl, Below.refl _ _⟩
  have hne : s.toList.isEmpty = false := by
    rw [Lib.toList_data]
    cases hh : s.data.toList with
    | nil => have := size_list s; rw [hh] at this; simp at this; omega
    | cons a b => rfl
  by_cases h4 : s.size < 4
  · have HO := Lib.hid (measOut_of (s := s) (meas_few (by rw [HSL.out]; exact h0) (by rw [HSL.out]; exact h4)))
    clear h0
    go_enter Tryz.func112, Tryz.ntmps112
    go_wp2
    go_ret2
    exact ⟨by rw [HO.out]; rfl, Below.refl _ _⟩
  have a0 := at_of s 0 (by omega)
  have a1 := at_of s 1 (by omega)
  have a2 := at_of s 2 (by omega)
  have a3 := at_of s 3 (by omega)
  have i0 : (0 : Int) < (s.size : Int) := by omega
  have i1 : (1 : Int) < (s.size : Int) := by omega
  have i2 : (2 : Int) < (s.size : Int) := by omega
  have i3 : (3 : Int) < (s.size : Int) := by omega
  have j0 : 0 < s.size := by omega
  have l0 := s[0].toNat_lt
  have l1 := s[1].toNat_lt
  have l2 := s[2].toNat_lt
  have l3 := s[3].toNat_lt
  have x0 := u8_not s[0].toNat (by omega)
  have x1 := u8_not s[1].toNat (by omega)
  have y0 : bits .xor .u8 (if IntKind.u8.signed = true then -1 else IntKind.u8.max) (s[0].toNat : Int) = ((255 - s[0].toNat : Nat) : Int) := x0
  have y1 : bits .xor .u8 (if IntKind.u8.signed = true then -1 else IntKind.u8.max) (s[1].toNat : Int) = ((255 - s[1].toNat : Nat) : Int) := x1
  by_cases hf : FM.at_ s.data.toList 0 + FM.at_ s.data.toList 2 ≠ 255
  · have HO := Lib.hid (measOut_of (s := s) (meas_form (by rw [HSL.out]; omega) (.inl hf)))
    rw [a0, a2] at hf
    have t1 : ((s[2].toNat : Int) != ((255 - s[0].toNat : Nat) : Int)) = true := by rw [bne_iff_ne]; omega
    clear a0 a1 a2 a3 hf h0
    go_enter Tryz.func112, Tryz.ntmps112
    go_wp2_with fail
    go_quiet (fail)
    go_wp2
    go_ret2
    exact ⟨by rw [HO.out]; rfl, below_drewN (Below.refl _ _) _⟩
  by_cases hf1 : FM.at_ s.data.toList 1 + FM.at_ s.data.toList 3 ≠ 255
  · have HO := Lib.hid (measOut_of (s := s) (meas_form (by rw [HSL.out]; omega) (.inr hf1)))
    rw [a0, a2] at hf
    rw [a1, a3] at hf1
    have t1 : ((s[2].toNat : Int) != ((255 - s[0].toNat : Nat) : Int)) = false := by rw [bne_eq_false_iff_eq]; omega
    have t2 : ((s[3].toNat : Int) != ((255 - s[1].toNat : Nat) : Int)) = true := by rw [bne_iff_ne]; omega
    clear a0 a1 a2 a3 hf hf1 h0
    go_enter Tryz.func112, Tryz.ntmps112
    go_wp2_with fail
    go_quiet (fail)
    go_wp2
    go_ret2
    exact ⟨by rw [HO.out]; rfl, below_drewN (Below.refl _ _) _⟩
  by_cases hs8 : s.size < 8 + (256 * FM.at_ s.data.toList 0 + FM.at_ s.data.toList 1)
  · have HO := Lib.hid (measOut_of (s := s) (meas_short (by rw [HSL.out]; omega) (by omega) (by omega) (by rw [HSL.out]; exact hs8)))
    rw [a0, a2] at hf
    rw [a1, a3] at hf1
    rw [a0, a1] at hs8
    have t1 : ((s[2].toNat : Int) != ((255 - s[0].toNat : Nat) : Int)) = false := by rw [bne_eq_false_iff_eq]; omega
    have t2 : ((s[3].toNat : Int) != ((255 - s[1].toNat : Nat) : Int)) = false := by rw [bne_eq_false_iff_eq]; omega
    clear a0 a1 a2 a3 hf hf1 h0
    go_enter Tryz.func112, Tryz.ntmps112
    go_wp2_with fail
    go_quiet (fail)
    go_wp2_with fail
    go_quiet (fail)
    go_wp2
    go_ret2
    exact ⟨by rw [HO.out]; rfl, below_drewN (Below.refl _ _) _⟩
  · have HO := Lib.hid (measOut_of (s := s) (meas_good (by rw [HSL.out]; omega) (by omega) (by omega) (by rw [HSL.out]; omega)))
    rw [a0, a2] at hf
    rw [a1, a3] at hf1
    rw [a0, a1] at hs8 HO
    have hcast : ((8 + (256 * s[0].toNat + s[1].toNat) : Nat) : Int) = 8 + (s[0].toNat : Int) * 256 + (s[1].toNat : Int) := by omega
    rw [hcast] at HO
    have t1 : ((s[2].toNat : Int) != ((255 - s[0].toNat : Nat) : Int)) = false := by rw [bne_eq_false_iff_eq]; omega
    have t2 : ((s[3].toNat : Int) != ((255 - s[1].toNat : Nat) : Int)) = false := by rw [bne_eq_false_iff_eq]; omega
    clear a0 a1 a2 a3 hf hf1 h0
    go_enter Tryz.func112, Tryz.ntmps112
    go_wp2_with fail
    go_quiet (fail)
    go_wp2_with fail
    go_quiet (fail)
    go_wp2
    go_ret2
    exact ⟨by rw [HO.out]; rfl, below_drewN (Below.refl _ _) _⟩
end Go.Proofs.YtjkofciohehgfaaGreatDoor.L8


/- The walk of Get. -/
namespace Go.Proofs.YtjkofciohehgfaaGreatDoor.L8
open Go.RowKit

/-- what is read at a place: the body, the place behind it, the error -/
def vget (l : List UInt8) (p : Int) : List UInt8 × Int × Int :=
  if p < 0 ∨ (l.length : Int) < p then ([], 0, 2)
  else if (FM.get (l.drop p.toNat)).2.2 = 0 then ((FM.get (l.drop p.toNat)).1, p + (FM.get (l.drop p.toNat)).2.1, 0)
  else ([], 0, (FM.get (l.drop p.toNat)).2.2)

def getOut (s : ByteArray) (p : Int) : Value := .tuple #[.string ⟨(vget s.data.toList p).1.toArray⟩, .int .i64 (vget s.data.toList p).2.1, .int .i64 (vget s.data.toList p).2.2]

theorem getOut_of {s : ByteArray} {p : Int} {b : List UInt8} {n e : Int} (h : vget s.data.toList p = (b, n, e)) : getOut s p = .tuple #[.string ⟨b.toArray⟩, .int .i64 n, .int .i64 e] := by
  unfold getOut; rw [h]

theorem vget_arg {l : List UInt8} {p : Int} (h : p < 0 ∨ (l.length : Int) < p) : vget l p = ([], 0, 2) := by unfold vget; rw [if_pos h]
theorem vget_nat {l : List UInt8} {k : Nat} (h : k ≤ l.length) : vget l (k : Int) = if (FM.get (l.drop k)).2.2 = 0 then ((FM.get (l.drop k)).1, (k : Int) + (FM.get (l.drop k)).2.1, 0) else ([], 0, (FM.get (l.drop k)).2.2) := by
  unfold vget; rw [if_neg (by omega), Int.toNat_natCast]
theorem vget_meas {l : List UInt8} {k : Nat} (h : k ≤ l.length) {m : Nat} {c : Int} (hm : FM.meas (l.drop k) = (m, c)) (hc : c ≠ 0) : vget l (k : Int) = ([], 0, c) := by
  have e : FM.get (l.drop k) = ([], 0, c) := by unfold FM.get; rw [hm, if_pos hc]
  rw [vget_nat h, e]
  simp only [if_neg hc]
theorem vget_sum {l : List UInt8} {k : Nat} (h : k ≤ l.length) {m : Nat} (hm : FM.meas (l.drop k) = (m, 0)) {b : List UInt8} (hb : (l.drop (k + 8)).take (m - 8) = b) (hs : (l.drop k).take 8 ≠ FM.head b) : vget l (k : Int) = ([], 0, 6) := by
  have e : FM.get (l.drop k) = ([], 0, 6) := by
    unfold FM.get; rw [hm, if_neg (by simp), if_pos]
    rw [List.drop_drop]
    simp only
    rw [hb]; exact hs
  rw [vget_nat h, e]
  simp
theorem vget_good {l : List UInt8} {k : Nat} (h : k ≤ l.length) {m : Nat} (hm : FM.meas (l.drop k) = (m, 0)) {b : List UInt8} (hb : (l.drop (k + 8)).take (m - 8) = b) (hs : (l.drop k).take 8 = FM.head b) : vget l (k : Int) = (b, (k : Int) + m, 0) := by
  have e : FM.get (l.drop k) = (b, m, 0) := by
    unfold FM.get; rw [hm, if_neg (by simp), if_neg]
    · rw [List.drop_drop]; simp only; rw [hb]
    · rw [List.drop_drop]
      simp only
      rw [hb]; simpa using hs
  rw [vget_nat h, e]
  simp

/-- 's[a:b]' of a text -/
theorem fstr_slice (W : World) (s : ByteArray) (a b : Nat) (x y : Int) (hx : x = a) (hy : y = b) (h1 : a ≤ b) (h2 : b ≤ s.size) :
    (Instr.slice 9 (.string s) (some (.int .i64 x)) (some (.int .i64 y)) none).run Tryz.prog W = .ok (.string (s.extract a b)) W := by
  subst hx hy
  have i1 : (0 : Int) ≤ (a : Int) := by omega
  have i2 : (0 : Int) ≤ (b : Int) := by omega
  have i3 : (a : Int) ≤ (b : Int) := by omega
  have i4 : (b : Int) ≤ (s.size : Int) := by omega
  simp [Instr.slice, run_underlying Tryz.underlying9, Instr.sliceBounds, run_sliceBound, i1, i2, i3, i4]

theorem fstr_tail (W : World) (s : ByteArray) (a : Nat) (h : a ≤ s.size) :
    (Instr.slice 9 (.string s) (some (.int .i64 (a : Int))) none none).run Tryz.prog W = .ok (.string (s.extract a s.size)) W := by
  have i1 : (0 : Int) ≤ (a : Int) := by omega
  have i4 : (a : Int) ≤ (s.size : Int) := by omega
  simp [Instr.slice, run_underlying Tryz.underlying9, Instr.sliceBounds, run_sliceBound, i1, i4]

theorem tail_list (s : ByteArray) (a : Nat) : (s.extract a s.size).data.toList = s.data.toList.drop a := by
  rw [Lib.extract_data, List.take_of_length_le (by rw [List.length_drop, size_list]; omega)]

set_option maxRecDepth 100000 in
theorem fget_any (s : ByteArray) (p : Int) (w : World) (hs : s.size ≤ 281474976710656) (hp0 : -9223372036854775808 ≤ p) (hp1 : p ≤ 9223372036854775807) :
    Calls Tryz.prog 82 #[.string s, .int .i64 p] w fun e w' => e = .returned (getOut s p) ∧ Below w.heap.size w w' := by
  have HSL := Lib.hid (size_list s)
  by_cases harg : p < 0 ∨ (s.size : Int) < p
  · have HO := Lib.hid (getOut_of (s := s) (vget_arg (by rw [HSL.out]; exact harg)))
    rcases harg with h | h
    · go_enter Tryz.func82, Tryz.ntmps82
      go_wp2
      go_ret3
      exact ⟨by rw [HO.out]; rfl, Below.refl _ _⟩
    · have h0 : ¬ p < 0 := by omega
      go_enter Tryz.func82, Tryz.ntmps82
      go_wp2
      go_ret3
      exact ⟨by rw [HO.out]; rfl, Below.refl _ _⟩
  obtain ⟨k, rfl⟩ : ∃ k : Nat, p = (k : Int) := ⟨p.toNat, by omega⟩
  have hk : k ≤ s.size := by omega
  have HAL := Lib.hid (show k ≤ s.data.toList.length by rw [HSL.out]; exact hk)
  have HT := Lib.hid (tail_list s k)
  have htl := fun W => fstr_tail W s k hk
  have HM := Lib.hid (fun W => fmeasure_any (s.extract k s.size) W (by rw [ByteArray.size_extract]; omega))
  unfold measOut at HM
  rw [HT.out] at HM
  obtain ⟨m, c, hm⟩ : ∃ m c, FM.meas (s.data.toList.drop k) = (m, c) := ⟨_, _, rfl⟩
  rw [hm] at HM
  clear harg hp0 hp1
  by_cases hc : c = 0
  · subst hc
    obtain ⟨hm8, hml, -, -, -⟩ := FM.meas_ok hm
    rw [List.length_drop, HSL.out] at hml
    have hmk : k + m ≤ s.size := by omega
    have hm64 : m ≤ 65543 := by
      obtain ⟨-, -, h2, h3, h4⟩ := FM.meas_ok hm
      omega
    have hsl1 := fun W => fstr_slice W s (k + 8) (k + m) ((k : Int) + 8) ((k : Int) + m) (by omega) (by omega) (by omega) hmk
    have hsl2 := fun W => fstr_slice W s k (k + 8) (k : Int) ((k : Int) + 8) (by omega) (by omega) (by omega) (by omega)
    have hb : (s.extract (k + 8) (k + m)).data.toList = (s.data.toList.drop (k + 8)).take (m - 8) := by
      rw [Lib.extract_data, show k + m - (k + 8) = m - 8 by omega]
    have ha : (s.extract k (k + 8)).data.toList = (s.data.toList.drop k).take 8 := by
      rw [Lib.extract_data, show k + 8 - k = 8 by omega]
    have hbs : (s.extract (k + 8) (k + m)).size = m - 8 := by rw [ByteArray.size_extract]; omega
    obtain ⟨B, hB⟩ : ∃ B, s.extract (k + 8) (k + m) = B := ⟨_, rfl⟩
    obtain ⟨A, hA⟩ : ∃ A, s.extract k (k + 8) = A := ⟨_, rfl⟩
    rw [hB] at hsl1 hb hbs
    rw [hA] at hsl2 ha
    have HH := Lib.hid (fun W => fhead_any B W (by omega))
    have HC := Lib.hid (fun W => clone_any B W (by omega))
    have HMM := Lib.hid hm
    have HBL := Lib.hid hb
    have HAA := Lib.hid ha
    clear hm hb ha hB hA
    by_cases hsum : A.data.toList = FM.head B.data.toList
    · have HO := Lib.hid (getOut_of (s := s) (vget_good HAL.out HMM.out HBL.out.symm (by rw [← HAA.out]; exact hsum)))
      rw [str_mk] at HO
      have hcmp : (A.toList == (⟨(FM.head B.data.toList).toArray⟩ : ByteArray).toList) = true := by
        rw [beq_iff_eq, Lib.toList_data, Lib.toList_data]; exact hsum
      obtain ⟨h8, hh⟩ : ∃ h8, (⟨(FM.head B.data.toList).toArray⟩ : ByteArray) = h8 := ⟨_, rfl⟩
      rw [hh] at hcmp
      go_enter Tryz.func82, Tryz.ntmps82
      go_wp2_with fail
      refine (HM.out _).mono ?_
      rintro e w1 ⟨rfl, hB1⟩
      go_wp2_with fail
      refine (HH.out _).mono ?_
      rintro e w2 ⟨rfl, hB2⟩
      have hst := run_store8 w2 B.data.toList
      unfold zero8 at hst
      have has := fun W => arr_slice8 W w2.heap.size
      have hcv := fun n => frow_string ((rowWorld w2 B.data.toList).drewN n) _ _ _ B.data.toList (rowWorld_row w2 _)
      rw [hh] at hcv
      have HB := Lib.hid ((hB1.trans (hB2.mono hB1.size)).trans ((rowWorld_below w2 B.data.toList).mono (Nat.le_trans hB1.size hB2.size)))
      have hle := HB.out.size
      clear hB1 hB2 hh hsum
      go_wp2_with fail
      go_quiet (fail)
      go_wp2_with fail
      refine (HC.out _).mono ?_
      rintro e w3 ⟨rfl, hB3⟩
      go_wp2
      go_ret3
      exact ⟨by rw [HO.out]; rfl, (below_drewN HB.out _).trans (hB3.mono hle)⟩
    · have HO := Lib.hid (getOut_of (s := s) (vget_sum HAL.out HMM.out HBL.out.symm (by rw [← HAA.out]; exact hsum)))
      have hcmp : (A.toList == (⟨(FM.head B.data.toList).toArray⟩ : ByteArray).toList) = false := by
        rw [beq_eq_false_iff_ne, Lib.toList_data, Lib.toList_data]; exact hsum
      obtain ⟨h8, hh⟩ : ∃ h8, (⟨(FM.head B.data.toList).toArray⟩ : ByteArray) = h8 := ⟨_, rfl⟩
      rw [hh] at hcmp
      go_enter Tryz.func82, Tryz.ntmps82
      go_wp2_with fail
      refine (HM.out _).mono ?_
      rintro e w1 ⟨rfl, hB1⟩
      go_wp2_with fail
      refine (HH.out _).mono ?_
      rintro e w2 ⟨rfl, hB2⟩
      have hst := run_store8 w2 B.data.toList
      unfold zero8 at hst
      have has := fun W => arr_slice8 W w2.heap.size
      have hcv := fun n => frow_string ((rowWorld w2 B.data.toList).drewN n) _ _ _ B.data.toList (rowWorld_row w2 _)
      rw [hh] at hcv
      have HB := Lib.hid ((hB1.trans (hB2.mono hB1.size)).trans ((rowWorld_below w2 B.data.toList).mono (Nat.le_trans hB1.size hB2.size)))
      have hle := HB.out.size
      clear hB1 hB2 hh hsum
      go_wp2_with fail
      go_quiet (fail)
      go_wp2
      go_ret3
      exact ⟨by rw [HO.out]; rfl, below_drewN HB.out _⟩
  · have HO := Lib.hid (getOut_of (s := s) (vget_meas HAL.out hm hc))
    have t2 : (c == 0) = false := beq_eq_false_iff_ne.2 hc
    have t2' : (c != 0) = true := by rw [bne_iff_ne]; exact hc
    clear hm hc
    go_enter Tryz.func82, Tryz.ntmps82
    go_wp2_with fail
    refine (HM.out _).mono ?_
    rintro e w1 ⟨rfl, hB1⟩
    go_wp2
    go_ret3
    exact ⟨by rw [HO.out]; rfl, hB1⟩
end Go.Proofs.YtjkofciohehgfaaGreatDoor.L8


/- The walks of All: the code's, and the document's. -/
namespace Go.Proofs.YtjkofciohehgfaaGreatDoor.L8
open Go.RowKit

/-- a list of texts as cells -/
def strs (l : List (List UInt8)) : List Value := l.map fun b => Value.string ⟨b.toArray⟩

theorem strs_snoc (l : List (List UInt8)) (b : List UInt8) : strs (l ++ [b]) = strs l ++ [.string ⟨b.toArray⟩] := by simp [strs]

theorem info_str : (Tryz.prog.info? 9).map (fun i => (i.zero, i.size, i.bytes)) = some (some (.string ⟨#[]⟩), 1, 16) := by kernel_rfl

theorem fone_cell (w : World) (v : Value) (t : TypeId) : ∀ j u, [v][j]? = some u → (w.alloc (.cells #[v] t)).cell? ((⟨w.heap.size, 0, none⟩ : Addr).add j) = some u := by
  intro j u hj
  match j, hj with
  | 0, hj => simp at hj; subst hj; simp [Addr.add]
  | j + 1, hj => simp at hj

def alls (s : ByteArray) : List (List UInt8) × Nat × Int := FM.all (s.size + 1) s.data.toList

def AllOut (s : ByteArray) (w : World) (e : Ending) (w' : World) : Prop :=
  ∃ v, e = .returned (.tuple #[v, .int .i64 ((alls s).2.1 : Nat), .int .i64 (alls s).2.2]) ∧ w'.ownsRow w.heap.size 9 1 v (alls s).1.length (strs (alls s).1) ∧ Below w.heap.size w w'

theorem allOut {s : ByteArray} {w w' : World} {v : Value} {X : List (List UInt8)} {k : Nat} {c : Int} (h : alls s = (X, k, c)) (hown : w'.ownsRow w.heap.size 9 1 v X.length (strs X)) (hB : Below w.heap.size w w') :
    AllOut s w (.returned (.tuple #[v, .int .i64 (k : Nat), .int .i64 c])) w' := by
  refine ⟨v, by rw [h], by rw [h]; exact hown, hB⟩

/-- what is read so far, and what comes -/
def Glue (s : ByteArray) (X : List (List UInt8)) (k f : Nat) : Prop :=
  alls s = (X ++ (FM.all f (s.data.toList.drop k)).1, k + (FM.all f (s.data.toList.drop k)).2.1, (FM.all f (s.data.toList.drop k)).2.2)

theorem glue_start (s : ByteArray) : Glue s [] 0 (s.size + 1) := by
  unfold Glue alls
  rw [List.drop_zero, List.nil_append, Nat.zero_add]

theorem glue_err {s : ByteArray} {X : List (List UInt8)} {k f : Nat} {c : Int} (h : Glue s X k (f + 1)) (hg : (FM.get (s.data.toList.drop k)).2.2 = c) (hc : c ≠ 0) : alls s = (X, k, c) := by
  unfold Glue at h
  rw [FM.all_err hg hc] at h
  simpa using h

theorem glue_step {s : ByteArray} {X : List (List UInt8)} {k f m : Nat} {b : List UInt8} (h : Glue s X k (f + 1)) (hg : FM.get (s.data.toList.drop k) = (b, m, 0)) : Glue s (X ++ [b]) (k + m) f := by
  unfold Glue at h ⊢
  rw [FM.all_step hg, List.drop_drop] at h
  rw [h, List.append_assoc, Nat.add_assoc]
  rfl

set_option maxRecDepth 100000 in
theorem fall_any (s : ByteArray) (w : World) (hs : s.size ≤ 17592186044416) :
    Calls Tryz.prog 40 #[.string s] w fun e w' => AllOut s w e w' := by
  obtain ⟨i0, hi, hz0, hz1, hz2⟩ := info_parts info_str
  have HSL := Lib.hid (size_list s)
  go_enter Tryz.func40, Tryz.ntmps40
  go_wp2_with fail
  go_loopw [5, 6] (fun v p wr => ∃ (k f : Nat) (X : List (List UInt8)), k ≤ s.size ∧ s.size - k < f ∧ p = .int .i64 k ∧ X.length * 8 ≤ k ∧ Hid (Glue s X k f) ∧ wr.ownsRow w.heap.size 9 1 v X.length (strs X) ∧ Below w.heap.size w wr) (fun _ p _ => s.size - (intOf p).toNat)
  case atStart => exact ⟨0, s.size + 1, [], by omega, by omega, rfl, by simp, Lib.hid (glue_start s), World.ownsRow_nil _ _ _ _, Below.refl _ _⟩
  case round =>
    obtain ⟨k, f, X, hk, hf, rfl, hX, HG, hown, hB⟩ := hrel
    obtain ⟨f, rfl⟩ : ∃ g, f = g + 1 := ⟨f - 1, by omega⟩
    have HOWN := Lib.hid hown
    have HB := Lib.hid hB
    have hBs := hB.size
    clear hown hB
    have HC := Lib.hid (fget_any s (k : Int) wr (by omega) (by omega) (by omega))
    have HV := vget_nat (l := s.data.toList) (k := k) (by rw [HSL.out]; exact hk)
    obtain ⟨b, m, c, hg⟩ : ∃ b m c, FM.get (s.data.toList.drop k) = (b, m, c) := ⟨_, _, _, rfl⟩
    rw [hg] at HV
    by_cases hc : c = 0
    · subst hc
      rw [if_pos rfl] at HV
      rw [getOut_of HV] at HC
      obtain ⟨hm, -, -⟩ := FM.get_ok hg
      obtain ⟨hm8, hml, -, -, -⟩ := FM.meas_ok hm
      rw [List.length_drop, HSL.out] at hml
      have HG2 := Lib.hid (glue_step HG.out hg)
      have HSN := Lib.hid (strs_snoc X b)
      obtain ⟨t, ht⟩ : ∃ t : ByteArray, (⟨b.toArray⟩ : ByteArray) = t := ⟨_, rfl⟩
      rw [ht] at HSN
      simp only [ht] at HC
      clear hg HV hm ht HG
      go_wp2_with fail
      refine HC.out.mono ?_
      rintro e w1 ⟨rfl, hB1⟩
      have hs1 := hB1.size
      have HO1 := Lib.hid (own_below HOWN.out hB1)
      have HB1 := Lib.hid (HB.out.trans (hB1.mono hBs))
      clear hB1
      go_wp2_with (at_builtin; refine wpList_append_own _ rfl _ _ 39 rfl w.heap.size 9 i0 _ 1 16 Tryz.underlying39 hi hz0 hz1 hz2 rfl (by decide) _ _ _ rfl (own_below HO1.out ((Below.refl _ _).alloc (Nat.le_refl _) _)) ⟨w1.heap.size, 0, none⟩ 1 1 [.string t] rfl ?c1 ?c2 ?c3 ?c4 ?c5 ?c6 ?_)
      case c1 => rfl
      case c2 => exact fone_cell w1 _ _
      case c3 => intro u hu; simp at hu; subst hu; rfl
      case c4 => unfold maxLen; omega
      case c5 => omega
      case c6 => simp; omega
      intro v' w2 hown3 hgrow hnil
      clear hnil
      have hB3 : Below w.heap.size w w2 := (HB1.out.alloc (by omega) _).grown hgrow (by simp; omega) (fun g hg => (HO1.out.lt g hg).1)
      have HB3 := Lib.hid hB3
      have HR : Hid (w2.ownsRow w.heap.size 9 1 v' (X ++ [b]).length (strs (X ++ [b]))) := by
        rw [HSN.out, List.length_append]; exact hown3
      clear hown3 hgrow hB3
      go_wp2
      go_roundw
      case rel => exact ⟨k + m, f, X ++ [b], by omega, by omega, by go_num, by simp; omega, HG2, HR.out, HB3.out⟩
      case measure => simp [intOf]; omega
    · simp only [if_neg hc] at HV
      rw [getOut_of HV] at HC
      have HA := Lib.hid (glue_err HG.out (by rw [hg]) hc)
      have t2 : (c == 0) = false := beq_eq_false_iff_ne.2 hc
      have t2' : (c != 0) = true := by rw [bne_iff_ne]; exact hc
      clear HV hg hc HG
      go_wp2_with fail
      refine HC.out.mono ?_
      rintro e w1 ⟨rfl, hB1⟩
      have HO1 := Lib.hid (own_below HOWN.out hB1)
      have HB1 := Lib.hid (HB.out.trans (hB1.mono hBs))
      clear hB1
      go_wp2
      go_ret3
      exact allOut HA.out HO1.out HB1.out
end Go.Proofs.YtjkofciohehgfaaGreatDoor.L8


/- FrameAlls, where what comes in is of bulk up to the bound: of every bytes the bodies, where they end, and why, are the document's. -/
namespace Go.Proofs.YtjkofciohehgfaaGreatDoor.L8
open Go.ChangeShapes Go.WideShapes Go.ChangeAt Go.RowKit Go.Deep

/-- a slice of texts that lies below block B: nil and empty ones too -/
def StrsIn (w : World) (B : Nat) (A : Option Addr) (l : List ByteArray) : Prop :=
  0 < l.length → ∃ b off, A = some ⟨b, off, none⟩ ∧ b < B ∧ ∀ j, (h : j < l.length) → w.cell? ⟨b, off + j, none⟩ = some (.string l[j])

theorem StrsIn.below {w w' : World} {B : Nat} {A : Option Addr} {l : List ByteArray} (h : StrsIn w B A l) (hb : Below B w w') : StrsIn w' B A l := by
  intro hn
  obtain ⟨b, off, hA, hlt, hc⟩ := h hn
  exact ⟨b, off, hA, hlt, fun j hj => (hb.cell (p := ⟨b, off + j, none⟩) hlt).trans (hc j hj)⟩

def texts (l : List (List UInt8)) : List ByteArray := l.map fun b => ⟨b.toArray⟩

theorem texts_length (l : List (List UInt8)) : (texts l).length = l.length := by simp [texts]

/-- a row that the call owns, as a slice of texts -/
theorem strs_of_own {w : World} {base : Nat} {e : TypeId} {v : Value} {n : Nat} {l : List (List UInt8)} (hn : l.length = n) (h : w.ownsRow base e 1 v n (strs l)) : ∃ A c, v = .slice A n c ∧ StrsIn w w.heap.size A (texts l) := by
  subst hn
  have h' := h
  rcases h.2 with ⟨rfl, h0⟩ | ⟨g, cap, cur, rfl, _, hg, _, _, _, _⟩
  · exact ⟨none, 0, by rw [h0], fun hn => by rw [texts_length] at hn; omega⟩
  · refine ⟨some ⟨g, 0, none⟩, cap, rfl, fun _ => ⟨g, 0, rfl, (Array.getElem?_eq_some_iff.1 hg).1, fun j hj => ?_⟩⟩
    rw [texts_length] at hj
    have hc := h'.cells (g := g) rfl j (.string ⟨l[j].toArray⟩) (by simp [strs, hj])
    rw [addr_add0] at hc
    rw [Nat.zero_add, hc]
    simp [texts]

theorem own_slice {w : World} {base : Nat} {e : TypeId} {size : Nat} {v : Value} {n : Nat} {xs : List Value} (h : w.ownsRow base e size v n xs) : ∃ A c, v = .slice A n c := by
  rcases h.2 with ⟨rfl, h0⟩ | ⟨g, cap, cur, rfl, _⟩
  · exact ⟨none, 0, by rw [h0]⟩
  · exact ⟨_, _, rfl⟩

section
variable {H : Type} {enc : TypeId × Value → H} {w : World}

end

end Go.Proofs.YtjkofciohehgfaaGreatDoor.L8


/- The calls of a log, over a disk: first, and the closures that it is handed. -/
namespace Go.Proofs.YtjkofciohehgfaaGreatDoor.L8
open Go.RowKit Go.Maps
open DM

/-- what a call leaves that answers a number -/
def NumEnds (P : Int → World → Prop) (e : Ending) (w' : World) : Prop := ∃ r, e = .returned (.int .i64 r) ∧ P r w'

set_option maxRecDepth 100000 in
theorem first_two {w : World} {b : Nat} {f1 f2 : FuncId} {C1 B2 C2 : Array Value} (h1 : w.cell? ⟨b, 0, none⟩ = some (.func (.func f1) #[] C1)) (h2 : w.cell? ⟨b, 1, none⟩ = some (.func (.func f2) B2 C2))
    (cf1 : ∀ W, (callFunc f1 C1).run Tryz.prog W = .ok (.enter f1 C1) W) (cf2 : ∀ W, (callFunc f2 (B2 ++ C2)).run Tryz.prog W = .ok (.enter f2 (B2 ++ C2)) W)
    {P1 P2 : Int → World → Prop} (hc1 : Calls Tryz.prog f1 C1 w (NumEnds fun r w' => P1 r w' ∧ w'.cell? ⟨b, 1, none⟩ = some (.func (.func f2) B2 C2)))
    (hc2 : ∀ w', P1 0 w' → Calls Tryz.prog f2 (B2 ++ C2) w' (NumEnds P2)) :
    Calls Tryz.prog 21 #[.slice (some ⟨b, 0, none⟩) 2 2] w (NumEnds fun r w' => (r ≠ 0 ∧ P1 r w') ∨ P2 r w') := by
  have HC1 := Lib.hid hc1
  have HC2 := Lib.hid hc2
  clear hc1 hc2
  go_enter Tryz.func21, Tryz.ntmps21
  go_wp2_with fail
  go_loopw [8] (fun v wr => (v = .int .i64 0 ∧ wr = w) ∨ (v = .int .i64 1 ∧ Hid (P1 0 wr) ∧ wr.cell? ⟨b, 1, none⟩ = some (.func (.func f2) B2 C2)) ∨ (v = .int .i64 2 ∧ Hid (P2 0 wr))) (fun v _ => 2 - (intOf v).toNat)
  case atStart => exact .inl ⟨rfl, rfl⟩
  case round =>
    rcases hrel with ⟨rfl, rfl⟩ | ⟨rfl, HP, h2'⟩ | ⟨rfl, HP⟩
    · go_wp2_with fail
      refine HC1.out.mono ?_
      rintro e w1 ⟨r, rfl, hp, hk⟩
      have HP := Lib.hid hp
      have HK := Lib.hid hk
      clear hp hk
      by_cases hr : r = 0
      · subst hr
        go_wp2
        go_roundw
        case rel => exact .inr (.inl ⟨rfl, HP, HK.out⟩)
        case measure => decide
      · go_wp2
        go_ret
        exact ⟨r, rfl, .inl ⟨hr, HP.out⟩⟩
    · go_wp2_with fail
      refine (HC2.out _ HP.out).mono ?_
      rintro e w1 ⟨r, rfl, hp⟩
      have HQ := Lib.hid hp
      clear hp
      by_cases hr : r = 0
      · subst hr
        go_wp2
        go_roundw
        case rel => exact .inr (.inr ⟨rfl, HQ⟩)
        case measure => decide
      · go_wp2
        go_ret
        exact ⟨r, rfl, .inr HQ.out⟩
    · go_wp2
      go_ret
      exact ⟨0, rfl, .inr HP.out⟩
end Go.Proofs.YtjkofciohehgfaaGreatDoor.L8


