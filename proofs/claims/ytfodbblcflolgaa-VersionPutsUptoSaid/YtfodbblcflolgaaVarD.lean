/- The walk of Get. -/
import Derived.Test.YtfodbblcflolgaaVarC
namespace Go.Proofs.Ytfodbblcflolgaa
open Go.RowKit

theorem extract_rest (s : ByteArray) (a : Nat) : (s.extract a s.size).data.toList = s.data.toList.drop a := by
  rw [Lib.extract_data, List.take_of_length_le (by rw [List.length_drop, size_list]; omega)]

/-- 's[a:b]' of a text -/
theorem str_slice (W : World) (s : ByteArray) (a b : Nat) (x : Int) (hx : x = b) (h1 : a ≤ b) (h2 : b ≤ s.size) :
    (Instr.slice 9 (.string s) (some (.int .i64 (a : Int))) (some (.int .i64 x)) none).run Try.prog W = .ok (.string (s.extract a b)) W := by
  subst hx
  have i1 : (0 : Int) ≤ (a : Int) := by omega
  have i2 : (0 : Int) ≤ (b : Int) := by omega
  have i3 : (a : Int) ≤ (b : Int) := by omega
  have i4 : (b : Int) ≤ (s.size : Int) := by omega
  simp [Instr.slice, run_underlying Try.underlying9, Instr.sliceBounds, run_sliceBound, i1, i2, i3, i4]

def GetOut (s : ByteArray) (p : Int) (e : Ending) : Prop :=
  e = .returned (.tuple #[.int .i64 (VM.vget s.data.toList p).1, .int .i64 (VM.vget s.data.toList p).2.1, .int .i64 (VM.vget s.data.toList p).2.2])

theorem getOut {s : ByteArray} {p a b c : Int} (h : VM.vget s.data.toList p = (a, b, c)) : GetOut s p (.returned (.tuple #[.int .i64 a, .int .i64 b, .int .i64 c])) := by
  unfold GetOut; rw [h]

theorem vget_out {l : List UInt8} {p : Int} (h : p < 0 ∨ (l.length : Int) < p) : VM.vget l p = (0, 0, 2) := by unfold VM.vget; rw [if_pos h]
theorem vget_fault {l : List UInt8} {p : Nat} (h : p ≤ l.length) (hm : (VM.meas (l.drop p)).2 ≠ 0) : VM.vget l p = (0, 0, (VM.meas (l.drop p)).2) := by
  unfold VM.vget; rw [if_neg (by omega), Int.toNat_natCast, if_neg hm]
theorem vget_good {l : List UInt8} {p : Nat} (h : p ≤ l.length) (hm : (VM.meas (l.drop p)).2 = 0) : VM.vget l p = (VM.unzig (VM.val ((l.drop p).take (VM.meas (l.drop p)).1)), (p : Int) + (VM.meas (l.drop p)).1, 0) := by
  unfold VM.vget; rw [if_neg (by omega), Int.toNat_natCast, if_pos hm]

set_option maxRecDepth 100000 in
theorem get_any (s : ByteArray) (p : Int) (w : World) (hs : s.size ≤ 9223372036854775807) (hp0 : -9223372036854775808 ≤ p) (hp1 : p ≤ 9223372036854775807) :
    Calls Try.prog 77 #[.string s, .int .i64 p] w fun e w' => GetOut s p e ∧ w = w' := by
  have HSL := Lib.hid (size_list s)
  by_cases hneg : p < 0
  · have HO := Lib.hid (getOut (s := s) (vget_out (Or.inl hneg)))
    go_enter Try.func77, Try.ntmps77
    go_wp2
    go_ret3
    exact ⟨HO.out, rfl⟩
  by_cases hgt : (s.size : Int) < p
  · have HO := Lib.hid (getOut (s := s) (vget_out (Or.inr (by rw [HSL.out]; exact hgt))))
    have hge : 0 ≤ p := by omega
    go_enter Try.func77, Try.ntmps77
    go_wp2
    go_ret3
    exact ⟨HO.out, rfl⟩
  obtain ⟨a, rfl⟩ := Int.eq_ofNat_of_zero_le (show 0 ≤ p by omega)
  have ha : a ≤ s.size := by omega
  clear hneg hgt hp0 hp1
  have hsz : (s.extract a s.size).size ≤ 9223372036854775807 := by rw [ByteArray.size_extract]; omega
  have HE := Lib.hid (extract_rest s a)
  have hal : a ≤ s.data.toList.length := by rw [HSL.out]; exact ha
  have HAL := Lib.hid hal
  obtain ⟨m1, m2, hm⟩ : ∃ m1 m2, VM.meas (s.data.toList.drop a) = (m1, m2) := ⟨_, _, rfl⟩
  have HMc := Lib.hid (measure_any (s.extract a s.size) w hsz)
  clear hal
  by_cases h2 : m2 = 0
  · have hok := VM.meas_ok (l := s.data.toList.drop a) (by rw [hm]; exact h2)
    rw [hm, List.length_drop, HSL.out] at hok
    obtain ⟨k1, k10, kle, -, kv, -⟩ := hok
    have HO := Lib.hid (getOut (s := s) (vget_good HAL.out (by rw [hm]; exact h2)))
    rw [hm] at HO
    have hle : a + m1 ≤ s.size := by have : m1 ≤ s.size - a := kle; omega
    have hm1 : m1 ≤ 10 := k10
    have HEX : Hid ((s.extract a (a + m1)).data.toList = (s.data.toList.drop a).take m1) := by
      have h := Lib.extract_data s a (a + m1)
      rw [show a + m1 - a = m1 by omega] at h
      exact h
    have hjs : (s.extract a (a + m1)).size ≤ 10 := by rw [ByteArray.size_extract]; omega
    have hjv : VM.val (s.extract a (a + m1)).data.toList < 18446744073709551616 := by rw [HEX.out]; exact kv
    have HJ := Lib.hid (fun W => join_any (s.extract a (a + m1)) W hjs hjv)
    have hsl := fun W => str_slice W s a (a + m1) ((a : Int) + m1) (by omega) (by omega) hle
    have HM := Lib.hid hm
    clear hm kle k10 kv k1 hjs hjv
    subst h2
    go_enter Try.func77, Try.ntmps77
    go_wp2_with fail
    refine HMc.out.mono ?_
    rintro e w1 ⟨he, rfl⟩
    unfold MeasOut at he
    rw [HE.out, HM.out] at he
    subst he
    go_wp2_with fail
    refine (HJ.out _).mono ?_
    rintro e w1 ⟨rfl, rfl⟩
    rw [HEX.out]
    go_wp2
    go_ret3
    exact ⟨HO.out, rfl⟩
  · have HO := Lib.hid (getOut (s := s) (vget_fault HAL.out (by rw [hm]; exact h2)))
    rw [hm] at HO
    have HM := Lib.hid hm
    have t2 : (m2 == 0) = false := beq_eq_false_iff_ne.2 h2
    have t2' : (m2 != 0) = true := by rw [bne_iff_ne]; exact h2
    clear hm
    go_enter Try.func77, Try.ntmps77
    go_wp2_with fail
    refine HMc.out.mono ?_
    rintro e w1 ⟨he, rfl⟩
    unfold MeasOut at he
    rw [HE.out, HM.out] at he
    subst he
    go_wp2
    go_ret3
    exact ⟨HO.out, rfl⟩
end Go.Proofs.Ytfodbblcflolgaa
