/- The walks of measure, join and Get. -/
import Derived.Test.YtfodbblcflolgaaVarA
namespace Go.Proofs.Ytfodbblcflolgaa
open Go.RowKit
open Go.Lib (zigzag zigzag_lt uvarint uvarint_small uvarint_big u8_or128_any)

theorem meas_if10 {l : List UInt8} (h : VM.lead 10 l = 10) : VM.meas l = (0, 4) := by unfold VM.meas; rw [if_pos h]
theorem meas_iflen {l : List UInt8} {k : Nat} (h : VM.lead 10 l = k) (h10 : k ≠ 10) (hl : k = l.length) : VM.meas l = (0, 3) := by
  unfold VM.meas; rw [if_neg (by omega), if_pos (by omega)]
theorem meas_if9 {l : List UInt8} {k : Nat} (h : VM.lead 10 l = k) (h9 : k = 9) (hl : k < l.length) (hc : 1 < l[k].toNat) : VM.meas l = (0, 4) := by
  subst h9
  have hg : l.getD 9 0 = l[9] := by simp [List.getD, hl]
  unfold VM.meas; rw [if_neg (by omega), if_neg (by omega), if_pos ⟨h, by rw [hg]; exact hc⟩]
theorem meas_if0 {l : List UInt8} {k : Nat} (h : VM.lead 10 l = k) (h10 : k < 10) (hl : k < l.length) (h9 : ¬(k = 9 ∧ 1 < l[k].toNat)) (h0 : 0 < k) (hc : l[k].toNat = 0) : VM.meas l = (0, 4) := by
  have hg : l.getD k 0 = l[k] := by simp [List.getD, hl]
  unfold VM.meas
  rw [if_neg (by omega), if_neg (by omega), if_neg (by rintro ⟨a, b⟩; rw [h] at a; subst a; rw [hg] at b; exact h9 ⟨rfl, b⟩), if_pos ⟨by omega, by rw [h, hg]; exact hc⟩]
theorem meas_else {l : List UInt8} {k : Nat} (h : VM.lead 10 l = k) (h10 : k < 10) (hl : k < l.length) (h9 : ¬(k = 9 ∧ 1 < l[k].toNat)) (h0 : ¬(0 < k ∧ l[k].toNat = 0)) : VM.meas l = (k + 1, 0) := by
  have hg : l.getD k 0 = l[k] := by simp [List.getD, hl]
  unfold VM.meas
  rw [if_neg (by omega), if_neg (by omega), if_neg (by rintro ⟨a, b⟩; rw [h] at a; subst a; rw [hg] at b; exact h9 ⟨rfl, b⟩), if_neg (by rw [h, hg]; exact h0), h]

def MeasOut (s : ByteArray) (e : Ending) : Prop := e = .returned (.tuple #[.int .i64 (VM.meas s.data.toList).1, .int .i64 (VM.meas s.data.toList).2])

theorem measOut {s : ByteArray} {a : Nat} {b : Int} (h : VM.meas s.data.toList = (a, b)) : MeasOut s (.returned (.tuple #[.int .i64 (a : Int), .int .i64 b])) := by
  unfold MeasOut; rw [h]

set_option maxRecDepth 100000 in
theorem measure_any (s : ByteArray) (w : World) (hs : s.size ≤ 9223372036854775807) :
    Calls Try.prog 105 #[.string s] w fun e w' => MeasOut s e ∧ w = w' := by
  have hsl := size_list s
  have HSL := Lib.hid hsl
  clear hsl
  go_enter Try.func105, Try.ntmps105
  go_wp2
  go_loop [4] (fun i => ∃ k : Nat, k ≤ 10 ∧ k ≤ s.size ∧ i = .int .i64 k ∧ VM.lead 10 s.data.toList = k + VM.lead (10 - k) (s.data.toList.drop k)) (fun i => 10 - (intOf i).toNat)
  case atStart => exact ⟨0, by omega, by omega, rfl, by simp⟩
  case round =>
    obtain ⟨k, hk10, hks, rfl, hl⟩ := hrel
    have HL := Lib.hid hl
    clear hl
    by_cases h10 : k = 10
    · have HO := Lib.hid (measOut (s := s) (meas_if10 (by rw [VM.lead_stop (Or.inl h10) HL.out, h10])))
      obtain rfl : 10 = k := h10.symm
      clear HL
      by_cases hlt : 10 < s.size
      all_goals
        go_wp2
        go_ret2
        exact ⟨HO.out, rfl⟩
    have t10 : ((k : Int) == 10) = false := beq_eq_false_iff_ne.2 (by omega)
    by_cases hlen : k = s.size
    · have HO := Lib.hid (measOut (s := s) (meas_iflen (VM.lead_stop (Or.inr (Or.inl (by rw [HSL.out]; exact hlen))) HL.out) h10 (by rw [HSL.out]; exact hlen)))
      have tlen : ((k : Int) == (s.size : Int)) = true := beq_iff_eq.2 (by omega)
      have hge : s.size ≤ k := by omega
      clear hlen HL
      go_wp2
      go_ret2
      exact ⟨HO.out, rfl⟩
    have tlen : ((k : Int) == (s.size : Int)) = false := beq_eq_false_iff_ne.2 (by omega)
    have hlt : k < s.size := by omega
    have hk9 : k ≤ 9 := by omega
    clear hlen h10
    by_cases hc : 128 ≤ s[k].toNat
    · have HR := Lib.hid (VM.lead_step (l := s.data.toList) (by rw [HSL.out]; exact hlt) (by omega) hc HL.out)
      go_wp2
      go_round
      case rel => exact ⟨k + 1, by omega, by omega, by go_num, HR.out⟩
      case measure => simp [intOf]; omega
    have HS := Lib.hid (VM.lead_stop (Or.inr (Or.inr ⟨by rw [HSL.out]; exact hlt, by rw [byte_of s k hlt]; omega⟩)) HL.out)
    have HLL := Lib.hid (show k < s.data.toList.length by rw [HSL.out]; exact hlt)
    by_cases h9 : k = 9 ∧ 1 < s[k].toNat
    · have HO := Lib.hid (measOut (s := s) (meas_if9 HS.out h9.1 HLL.out h9.2))
      obtain ⟨h9', h9c⟩ := h9
      obtain rfl : 9 = k := h9'.symm
      clear HL HS
      go_wp2
      go_ret2
      exact ⟨HO.out, rfl⟩
    by_cases h0 : 0 < k ∧ s[k].toNat = 0
    · have HO := Lib.hid (measOut (s := s) (meas_if0 HS.out (by omega) HLL.out h9 h0.1 h0.2))
      obtain ⟨h0', h0c⟩ := h0
      have tz : ((s[k].toNat : Int) == 0) = true := beq_iff_eq.2 (by omega)
      have hz : s[k].toNat ≤ 0 := by omega
      by_cases h9' : k = 9
      · obtain rfl : 9 = k := h9'.symm
        clear HL HS h9 h0c
        go_wp2
        go_ret2
        exact ⟨HO.out, rfl⟩
      · have t9 : ((k : Int) == 9) = false := beq_eq_false_iff_ne.2 (by omega)
        clear HL HS h9 h0c h9'
        go_wp2
        go_ret2
        exact ⟨HO.out, rfl⟩
    have HO := Lib.hid (measOut (s := s) (meas_else HS.out (by omega) HLL.out h9 h0))
    by_cases h9' : k = 9
    · obtain rfl : 9 = k := h9'.symm
      have h1 : s[9].toNat ≤ 1 := by omega
      have tz : ((s[9].toNat : Int) == 0) = false := beq_eq_false_iff_ne.2 (by omega)
      clear HL HS h9 h0 h9'
      go_wp2
      go_ret2
      exact ⟨HO.out, rfl⟩
    · have t9 : ((k : Int) == 9) = false := beq_eq_false_iff_ne.2 (by omega)
      by_cases hk0 : k = 0
      · obtain rfl : 0 = k := hk0.symm
        clear HL HS h9 h0 h9'
        go_wp2
        go_ret2
        exact ⟨HO.out, rfl⟩
      · have tz : ((s[k].toNat : Int) == 0) = false := beq_eq_false_iff_ne.2 (by omega)
        have hkp : 0 < k := by omega
        clear HL HS h9 h0 h9' hk0
        go_wp2
        go_ret2
        exact ⟨HO.out, rfl⟩

theorem join_step (s : ByteArray) (k : Nat) (hlt : k < s.size) (hv : VM.val s.data.toList < 18446744073709551616) :
    bits .or .u64 ((VM.val (s.data.toList.take k) : Nat) : Int) (IntKind.u64.wrap ((s[k].toNat : Int) % 128 * 2 ^ (7 * k))) = ((VM.val (s.data.toList.take (k + 1)) : Nat) : Int) := by
  have hl : k < s.data.toList.length := by rw [size_list]; exact hlt
  have hle := VM.val_take_le s.data.toList (k + 1)
  have hb := VM.val_lt (s.data.toList.take k)
  have hlen : (s.data.toList.take k).length = k := by rw [List.length_take]; omega
  rw [hlen] at hb
  have hsucc := VM.val_take_succ hl
  rw [byte_of s k hlt] at hsucc
  have h := VM.or_step (u := VM.val (s.data.toList.take k)) (k := k) (m := s[k].toNat % 128) hb (by omega)
  rw [hsucc]
  exact h

theorem join_any (s : ByteArray) (w : World) (hs : s.size ≤ 10) (hv : VM.val s.data.toList < 18446744073709551616) :
    Calls Try.prog 106 #[.string s] w fun e w' => e = .returned (.int .i64 (VM.unzig (VM.val s.data.toList))) ∧ w = w' := by
  have HSL := Lib.hid (size_list s)
  go_enter Try.func106, Try.ntmps106
  go_wp2
  go_loop [3, 7] (fun u i => ∃ k : Nat, k ≤ s.size ∧ i = .int .i64 k ∧ u = .int .u64 (VM.val (s.data.toList.take k) : Nat)) (fun _ i => s.size - (intOf i).toNat)
  case atStart => exact ⟨0, by omega, rfl, rfl⟩
  case round =>
    obtain ⟨k, hk, rfl, rfl⟩ := hrel
    by_cases hlt : k < s.size
    · have HR := Lib.hid (join_step s k hlt hv)
      have hand := VM.andNot128 s[k]
      go_wp2
      go_round
      case rel => exact ⟨k + 1, by omega, by go_num, by rw [HR.out]⟩
      case measure => simp [intOf]; omega
    · have htk : s.data.toList.take k = s.data.toList := List.take_of_length_le (by rw [HSL.out]; omega)
      rw [htk]
      go_wp2_with (go_at_call 117; refine (turnBack_any _ _ hv).mono ?_; rintro e w' ⟨rfl, rfl⟩)
      go_ret
      exact ⟨rfl, rfl⟩
end Go.Proofs.Ytfodbblcflolgaa
