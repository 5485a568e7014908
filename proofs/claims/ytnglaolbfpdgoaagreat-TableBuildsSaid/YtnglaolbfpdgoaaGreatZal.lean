/- Texts joined by bundle.py: NSum. -/
import Derived.Test.YtnglaolbfpdgoaaGreatZaa
import Derived.Test.YtnglaolbfpdgoaaGreatZak
import Derived.Laws.BitsAllLaws

/- The walks of Sum: the code's, and the document's. -/
namespace Go.Proofs.YtnglaolbfpdgoaaGreat.B9
open Go.RowKit

theorem reg_and1 (a : Nat) (ha : a < 4294967296) : bits .and .u32 (a : Int) 1 = ((a % 2 : Nat) : Int) := by
  have h := u32_and_nat a 1 ha (by decide)
  rw [Nat.and_one_is_mod] at h
  exact h

theorem reg_poly (a : Nat) (ha : a < 4294967296) : bits .xor .u32 ((a : Int) / 2) 3988292384 = ((a / 2 ^^^ 3988292384 : Nat) : Int) := by
  have h := u32_xor_nat (a / 2) 3988292384 (by omega) (by decide)
  rw [← h]
  rw [Int.natCast_ediv]
  rfl

theorem xor_ones32 (b : Nat) (hb : b < 2 ^ 32) : (2 ^ 32 - 1) ^^^ b = 2 ^ 32 - 1 - b := by
  apply Nat.eq_of_testBit_eq
  intro i
  rw [Nat.testBit_xor, Nat.testBit_two_pow_sub_one, show 2 ^ 32 - 1 - b = 2 ^ 32 - (b + 1) by omega, Nat.testBit_two_pow_sub_succ hb]
  by_cases hi : i < 32
  · simp [hi]
  · have : b.testBit i = false := Nat.testBit_lt_two_pow (Nat.lt_of_lt_of_le hb (Nat.pow_le_pow_right (by decide) (by omega)))
    simp [hi, this]

theorem reg_not (a : Nat) (ha : a < 4294967296) : bits .xor .u32 IntKind.u32.max (a : Int) = ((4294967295 - a : Nat) : Int) := by
  have e : IntKind.u32.max = ((4294967295 : Nat) : Int) := by decide
  rw [e, u32_xor_nat _ a (by decide) ha]
  exact congrArg (fun n : Nat => (n : Int)) (xor_ones32 a (by omega))

set_option maxRecDepth 100000 in
theorem sum_any (s : ByteArray) (w : World) (hs : s.size ≤ 9223372036854775807) :
    Calls Tryz.prog 99 #[.string s] w fun e w' => e = .returned (.int .u32 (FM.sum s.data.toList : Nat)) ∧ w = w' := by
  have HSL := Lib.hid (size_list s)
  go_enter Tryz.func99, Tryz.ntmps99
  go_wp2
  go_loop [3, 8] (fun r i => ∃ (k R : Nat), k ≤ s.size ∧ i = .int .i64 k ∧ r = .int .u32 R ∧ R < 4294967296 ∧ Hid (FM.reg (s.data.toList.take k) = R)) (fun _ i => s.size - (intOf i).toNat)
  case atStart => exact ⟨0, 4294967295, by omega, rfl, rfl, by omega, Lib.hid rfl⟩
  case round =>
    obtain ⟨k, R, hk, rfl, rfl, hR, HR⟩ := hrel
    by_cases hlt : k < s.size
    · have hst := FM.reg_snoc s.data.toList k (by rw [HSL.out]; exact hlt)
      rw [byte_of s k hlt, HR.out] at hst
      obtain ⟨c, hc⟩ : ∃ c, s[k] = c := ⟨_, rfl⟩
      rw [hc] at hst
      have hcl := c.toNat_lt
      have hx := u32_xor_nat R c.toNat hR (by omega)
      have hxl := FM.xor_byte_lt hR c
      unfold FM.byte at hst
      obtain ⟨X, hX⟩ : ∃ X, R ^^^ c.toNat = X := ⟨_, rfl⟩
      rw [hX] at hx hxl hst
      have HST := Lib.hid hst
      have HC : Hid ((s[k].toNat : Int) % 4294967296 = (c.toNat : Int)) := by rw [hc]; exact Lib.hid (by omega)
      clear hst hX hc HR
      go_wp2
      go_loop [3, 17] (fun r i => ∃ (j Y : Nat), j ≤ 8 ∧ i = .int .i64 j ∧ r = .int .u32 Y ∧ Y < 4294967296 ∧ Hid (FM.turns j X = Y)) (fun _ i => 8 - (intOf i).toNat)
      case atStart => exact ⟨0, X, by omega, rfl, by rw [HC.out, hx], hxl, Lib.hid rfl⟩
      case round =>
        obtain ⟨j, Y, hj, rfl, rfl, hY, HY⟩ := hrel
        by_cases hj8 : j < 8
        · have ha := reg_and1 Y hY
          have hp := reg_poly Y hY
          have htl : FM.turns (j + 1) X = FM.turn Y := by rw [← HY.out]; rfl
          have htlt := FM.turn_lt hY
          by_cases hodd : Y % 2 = 1
          · have ht : FM.turn Y = Y / 2 ^^^ 3988292384 := by unfold FM.turn; rw [if_pos hodd]
            rw [hodd] at ha
            rw [ht] at htlt htl
            have HTL := Lib.hid htl
            clear htl ht
            go_wp2
            go_round
            case rel => exact ⟨j + 1, _, by omega, by go_num, by first | rfl | rw [hp], htlt, HTL⟩
            case measure => simp [intOf]; omega
          · have ht : FM.turn Y = Y / 2 := by unfold FM.turn; rw [if_neg hodd]
            have h0 : Y % 2 = 0 := by omega
            rw [h0] at ha
            rw [ht] at htlt htl
            have HTL := Lib.hid htl
            clear htl ht
            go_wp2
            go_round
            case rel => exact ⟨j + 1, _, by omega, by go_num, by rw [Int.natCast_ediv]; rfl, htlt, HTL⟩
            case measure => simp [intOf]; omega
        · obtain rfl : j = 8 := by omega
          have HR2 : Hid (FM.reg (s.data.toList.take (k + 1)) = Y) := by rw [HST.out]; exact HY
          go_wp2
          go_round
          case rel => exact ⟨k + 1, Y, by omega, by go_num, rfl, hY, HR2⟩
          case measure => simp [intOf]; omega
    · have htk : s.data.toList.take k = s.data.toList := List.take_of_length_le (by rw [HSL.out]; omega)
      rw [htk] at HR
      have hn := reg_not R hR
      have HS : Hid (FM.sum s.data.toList = 4294967295 - R) := by unfold FM.sum; rw [HR.out]; exact Lib.hid rfl
      go_wp2
      go_ret
      exact ⟨by rw [HS.out]; first | rfl | exact ret_int hn, rfl⟩
set_option maxRecDepth 100000 in
theorem rsum_any (s : ByteArray) (w : World) (hs : s.size ≤ 9223372036854775807) :
    Calls Tryz.prog 73 #[.string s] w fun e w' => e = .returned (.int .u32 (FM.sum s.data.toList : Nat)) ∧ w = w' := by
  have HSL := Lib.hid (size_list s)
  go_enter Tryz.func73, Tryz.ntmps73
  go_wp2
  go_loop [3, 4] (fun r i => ∃ (k R : Nat), k ≤ s.size ∧ i = .int .i64 k ∧ r = .int .u32 R ∧ R < 4294967296 ∧ Hid (FM.reg (s.data.toList.take k) = R)) (fun _ i => s.size - (intOf i).toNat)
  case atStart => exact ⟨0, 4294967295, by omega, rfl, rfl, by omega, Lib.hid rfl⟩
  case round =>
    obtain ⟨k, R, hk, rfl, rfl, hR, HR⟩ := hrel
    by_cases hlt : k < s.size
    · have hst := FM.reg_snoc s.data.toList k (by rw [HSL.out]; exact hlt)
      rw [byte_of s k hlt, HR.out] at hst
      obtain ⟨c, hc⟩ : ∃ c, s[k] = c := ⟨_, rfl⟩
      rw [hc] at hst
      have hcl := c.toNat_lt
      have hx := u32_xor_nat R c.toNat hR (by omega)
      have hxl := FM.xor_byte_lt hR c
      unfold FM.byte at hst
      obtain ⟨X, hX⟩ : ∃ X, R ^^^ c.toNat = X := ⟨_, rfl⟩
      rw [hX] at hx hxl hst
      have HST := Lib.hid hst
      have HC : Hid ((s[k].toNat : Int) % 4294967296 = (c.toNat : Int)) := by rw [hc]; exact Lib.hid (by omega)
      clear hst hX hc HR
      go_wp2
      go_loop [3, 5] (fun r i => ∃ (j Y : Nat), j ≤ 8 ∧ i = .int .i64 j ∧ r = .int .u32 Y ∧ Y < 4294967296 ∧ Hid (FM.turns j X = Y)) (fun _ i => 8 - (intOf i).toNat)
      case atStart => exact ⟨0, X, by omega, rfl, by rw [HC.out, hx], hxl, Lib.hid rfl⟩
      case round =>
        obtain ⟨j, Y, hj, rfl, rfl, hY, HY⟩ := hrel
        by_cases hj8 : j < 8
        · have ha := reg_and1 Y hY
          have hp := reg_poly Y hY
          have htl : FM.turns (j + 1) X = FM.turn Y := by rw [← HY.out]; rfl
          have htlt := FM.turn_lt hY
          by_cases hodd : Y % 2 = 1
          · have ht : FM.turn Y = Y / 2 ^^^ 3988292384 := by unfold FM.turn; rw [if_pos hodd]
            have t1 : ((Y : Int) % 2 == 1) = true := beq_iff_eq.2 (by omega)
            rw [ht] at htlt htl
            have HTL := Lib.hid htl
            clear htl ht
            go_wp2
            go_round
            case rel => exact ⟨j + 1, _, by omega, by go_num, by first | rfl | rw [hp], htlt, HTL⟩
            case measure => simp [intOf]; omega
          · have ht : FM.turn Y = Y / 2 := by unfold FM.turn; rw [if_neg hodd]
            have h0 : Y % 2 = 0 := by omega
            have t1 : ((Y : Int) % 2 == 1) = false := beq_eq_false_iff_ne.2 (by omega)
            rw [ht] at htlt htl
            have HTL := Lib.hid htl
            clear htl ht
            go_wp2
            go_round
            case rel => exact ⟨j + 1, _, by omega, by go_num, by rw [Int.natCast_ediv]; rfl, htlt, HTL⟩
            case measure => simp [intOf]; omega
        · obtain rfl : j = 8 := by omega
          have HR2 : Hid (FM.reg (s.data.toList.take (k + 1)) = Y) := by rw [HST.out]; exact HY
          go_wp2
          go_round
          case rel => exact ⟨k + 1, Y, by omega, by go_num, rfl, hY, HR2⟩
          case measure => simp [intOf]; omega
    · have htk : s.data.toList.take k = s.data.toList := List.take_of_length_le (by rw [HSL.out]; omega)
      rw [htk] at HR
      have hn : (4294967295 : Int) - (R : Int) = ((4294967295 - R : Nat) : Int) := by omega
      have HS : Hid (FM.sum s.data.toList = 4294967295 - R) := by unfold FM.sum; rw [HR.out]; exact Lib.hid rfl
      go_wp2
      go_ret
      exact ⟨by rw [HS.out]; first | rfl | exact ret_int hn, rfl⟩
end Go.Proofs.YtnglaolbfpdgoaaGreat.B9

