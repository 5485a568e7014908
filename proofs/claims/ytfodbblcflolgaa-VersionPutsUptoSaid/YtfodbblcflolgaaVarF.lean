/- The walks of the document's Get and GetText. -/
import Derived.Test.YtfodbblcflolgaaVarE
namespace Go.Proofs.Ytfodbblcflolgaa
open Go.RowKit

theorem drop_at {s : ByteArray} {a k : Nat} (h : a + k < s.size) : ∃ h' : k < (s.data.toList.drop a).length, (s.data.toList.drop a)[k] = s[a + k] := by
  refine ⟨by rw [List.length_drop, size_list]; omega, ?_⟩
  rw [List.getElem_drop]
  rfl

/-- the document's sum, from the last byte on -/
def HornRel (s : ByteArray) (a k : Nat) (u i : Value) : Prop :=
  (∃ m : Nat, m ≤ k ∧ i = .int .i64 m ∧ u = .int .u64 (VM.val (((s.data.toList.drop a).take (k + 1)).drop (m + 1)) : Nat)) ∨
  (i = .int .i64 (-1) ∧ u = .int .u64 (VM.val ((s.data.toList.drop a).take (k + 1)) : Nat))

theorem horn_start {s : ByteArray} {a k : Nat} : HornRel s a k (.int .u64 0) (.int .i64 (k : Int)) := by
  refine Or.inl ⟨k, Nat.le_refl _, rfl, ?_⟩
  rw [List.drop_eq_nil_of_le (by rw [List.length_take]; omega)]
  rfl

theorem horn_step {s : ByteArray} {a k m : Nat} (h : a + k < s.size) (hm : m ≤ k) (hv : VM.val ((s.data.toList.drop a).take (k + 1)) < 18446744073709551616) :
    VM.val (((s.data.toList.drop a).take (k + 1)).drop m) = VM.val (((s.data.toList.drop a).take (k + 1)).drop (m + 1)) * 128 + s[a + m].toNat % 128 ∧
      VM.val (((s.data.toList.drop a).take (k + 1)).drop (m + 1)) * 128 + s[a + m].toNat % 128 < 18446744073709551616 := by
  obtain ⟨h', hb⟩ := drop_at (s := s) (a := a) (k := m) (by omega)
  have hl : m < ((s.data.toList.drop a).take (k + 1)).length := by rw [List.length_take]; omega
  have e : VM.val (((s.data.toList.drop a).take (k + 1)).drop m) = VM.val (((s.data.toList.drop a).take (k + 1)).drop (m + 1)) * 128 + s[a + m].toNat % 128 := by
    rw [List.drop_eq_getElem_cons hl]
    simp only [VM.val, List.getElem_take, hb]
    omega
  refine ⟨e, ?_⟩
  rw [← e]
  have h2 := VM.val_append (((s.data.toList.drop a).take (k + 1)).take m) (((s.data.toList.drop a).take (k + 1)).drop m)
  rw [List.take_append_drop] at h2
  have h3 : VM.val (((s.data.toList.drop a).take (k + 1)).drop m) ≤ 128 ^ (((s.data.toList.drop a).take (k + 1)).take m).length * VM.val (((s.data.toList.drop a).take (k + 1)).drop m) :=
    Nat.le_mul_of_pos_left _ (Nat.pow_pos (by decide))
  omega

theorem horn_next {s : ByteArray} {a k m : Nat} (hm : m ≤ k) {h : a + m < s.size}
    (e : VM.val (((s.data.toList.drop a).take (k + 1)).drop m) = VM.val (((s.data.toList.drop a).take (k + 1)).drop (m + 1)) * 128 + s[a + m].toNat % 128) :
    HornRel s a k (.int .u64 ((VM.val (((s.data.toList.drop a).take (k + 1)).drop (m + 1)) : Nat) * 128 + (s[a + m].toNat : Int) % 128)) (.int .i64 ((m : Int) - 1)) := by
  have e' : ((VM.val (((s.data.toList.drop a).take (k + 1)).drop (m + 1)) : Nat) : Int) * 128 + (s[a + m].toNat : Int) % 128 = ((VM.val (((s.data.toList.drop a).take (k + 1)).drop m) : Nat) : Int) := by
    rw [e]; omega
  rw [e']
  cases m with
  | zero => exact Or.inr ⟨rfl, rfl⟩
  | succ q => exact Or.inl ⟨q, by omega, by simp, rfl⟩

set_option maxRecDepth 100000 in
set_option maxHeartbeats 1000000 in
theorem refGet_any (s : ByteArray) (p : Int) (w : World) (hs : s.size ≤ 140737488351232) (hp0 : -9223372036854775808 ≤ p) (hp1 : p ≤ 9223372036854775807) :
    Calls Try.prog 61 #[.string s, .int .i64 p] w fun e w' => GetOut s p e ∧ w = w' := by
  have HSL := Lib.hid (size_list s)
  by_cases hneg : p < 0
  · have HO := Lib.hid (getOut (s := s) (vget_out (Or.inl hneg)))
    go_enter Try.func61, Try.ntmps61
    go_wp2
    go_ret3
    exact ⟨HO.out, rfl⟩
  by_cases hgt : (s.size : Int) < p
  · have HO := Lib.hid (getOut (s := s) (vget_out (Or.inr (by rw [HSL.out]; exact hgt))))
    have hge : 0 ≤ p := by omega
    go_enter Try.func61, Try.ntmps61
    go_wp2
    go_ret3
    exact ⟨HO.out, rfl⟩
  obtain ⟨a, rfl⟩ := Int.eq_ofNat_of_zero_le (show 0 ≤ p by omega)
  have ha : a ≤ s.size := by omega
  have HAL := Lib.hid (show a ≤ s.data.toList.length by rw [HSL.out]; exact ha)
  have HDL := Lib.hid (show (s.data.toList.drop a).length = s.size - a by rw [List.length_drop, HSL.out])
  clear hneg hgt hp0 hp1
  have d1 : decide (s.size < a) = false := decide_eq_false (by omega)
  have d2 : decide ((a : Int) < 0) = false := decide_eq_false (by omega)
  go_enter Try.func61, Try.ntmps61
  go_wp2
  go_loop [7, 8] (fun l i => ∃ k : Nat, k ≤ 10 ∧ a + k ≤ s.size ∧ i = .int .i64 k ∧ l = .int .i64 (-1) ∧ VM.lead 10 (s.data.toList.drop a) = k + VM.lead (10 - k) ((s.data.toList.drop a).drop k)) (fun _ i => 10 - (intOf i).toNat)
  case atStart => exact ⟨0, by omega, by omega, rfl, rfl, by simp⟩
  case round =>
    obtain ⟨k, hk10, hks, rfl, rfl, hl⟩ := hrel
    have HL := Lib.hid hl
    clear hl
    by_cases h10 : k = 10
    · have HO := Lib.hid (getOut (s := s) (vget_fault HAL.out (by rw [meas_if10 (by rw [VM.lead_stop (Or.inl h10) HL.out, h10])]; decide)))
      rw [meas_if10 (by rw [VM.lead_stop (Or.inl h10) HL.out, h10])] at HO
      obtain rfl : 10 = k := h10.symm
      clear HL
      go_wp2
      go_ret3
      exact ⟨HO.out, rfl⟩
    by_cases hlen : a + k = s.size
    · have hm := meas_iflen (VM.lead_stop (Or.inr (Or.inl (by rw [HDL.out]; omega))) HL.out) h10 (by rw [HDL.out]; omega)
      have HO := Lib.hid (getOut (s := s) (vget_fault HAL.out (by rw [hm]; decide)))
      rw [hm] at HO
      have hge : s.size ≤ a + k := by omega
      have hk9 : k < 10 := by omega
      clear hlen HL h10 hm
      go_wp2
      go_ret3
      exact ⟨HO.out, rfl⟩
    have hlt : a + k < s.size := by omega
    have hk9 : k < 10 := by omega
    obtain ⟨hlt', hbyte⟩ := drop_at hlt
    have HBY := Lib.hid hbyte
    clear hlen h10 hbyte
    by_cases hc : 128 ≤ s[a + k].toNat
    · have HR := Lib.hid (VM.lead_step hlt' hk9 (by rw [HBY.out]; exact hc) HL.out)
      go_wp2
      go_round
      case rel => exact ⟨k + 1, by omega, by omega, by go_num, rfl, HR.out⟩
      case measure => simp [intOf]; omega
    have HS := Lib.hid (VM.lead_stop (Or.inr (Or.inr ⟨hlt', by rw [HBY.out]; omega⟩)) HL.out)
    by_cases h9 : k = 9 ∧ 1 < s[a + k].toNat
    · have hm := meas_if9 HS.out h9.1 hlt' (by rw [HBY.out]; exact h9.2)
      have HO := Lib.hid (getOut (s := s) (vget_fault HAL.out (by rw [hm]; decide)))
      rw [hm] at HO
      obtain ⟨h9', h9c⟩ := h9
      obtain rfl : 9 = k := h9'.symm
      clear HL HS HBY hm hlt'
      have tz : ((s[a + 9].toNat : Int) == 0) = false := beq_eq_false_iff_ne.2 (by omega)
      go_wp2
      go_ret3
      exact ⟨HO.out, rfl⟩
    by_cases h0 : 0 < k ∧ s[a + k].toNat = 0
    · have hm := meas_if0 HS.out hk9 hlt' (by rw [HBY.out]; exact h9) h0.1 (by rw [HBY.out]; exact h0.2)
      have HO := Lib.hid (getOut (s := s) (vget_fault HAL.out (by rw [hm]; decide)))
      rw [hm] at HO
      obtain ⟨h0', h0c⟩ := h0
      have tz : ((s[a + k].toNat : Int) == 0) = true := beq_iff_eq.2 (by omega)
      clear HL HS h9 h0c hm
      go_wp2
      go_ret3
      exact ⟨HO.out, rfl⟩
    have hm := meas_else HS.out hk9 hlt' (by rw [HBY.out]; exact h9) (by rw [HBY.out]; exact h0)
    have hok := VM.meas_ok (l := s.data.toList.drop a) (by rw [hm])
    rw [hm] at hok
    obtain ⟨-, -, -, -, hvl, -⟩ := hok
    have hgood := vget_good HAL.out (l := s.data.toList) (by rw [hm])
    rw [hm] at hgood
    have hvl' : VM.val ((s.data.toList.drop a).take (k + 1)) < 18446744073709551616 := hvl
    have hgood' : VM.vget s.data.toList (a : Int) = (VM.unzig (VM.val ((s.data.toList.drop a).take (k + 1))), (a : Int) + ((k + 1 : Nat) : Int), 0) := hgood
    obtain ⟨v, hv⟩ : ∃ v, VM.val ((s.data.toList.drop a).take (k + 1)) = v := ⟨_, rfl⟩
    rw [hv] at hvl' hgood'
    have HV := Lib.hid hv
    have HGD := Lib.hid hgood'
    clear hv hvl hgood hgood' hm
    have hm9 : k ≤ 9 := by omega
    obtain ⟨X, hX⟩ : ∃ X : Int, X = VM.unzig v := ⟨_, rfl⟩
    have HO : Hid (GetOut s (a : Int) (.returned (.tuple #[.int .i64 X, .int .i64 ((a : Int) + (k : Int) + 1), .int .i64 0]))) := by
      refine getOut ?_
      rw [HGD.out, hX]
      simp
      omega
    have hcase : (k = 0 ∨ (0 < k ∧ 0 < s[a + k].toNat ∧ k ≠ 9)) ∨ (k = 9 ∧ 0 < s[a + k].toNat ∧ s[a + k].toNat ≤ 1) := by omega
    clear h9 h0 HL
    rcases hcase with (hk0 | ⟨hk0, hz0, hn9⟩) | ⟨hk9', hz0, hz1⟩
    · have t9 : ((k : Int) == 9) = false := beq_eq_false_iff_ne.2 (by omega)
      have d3 : decide ((k : Int) < 0) = false := decide_eq_false (by omega)
      have d7 : decide ((s[a + k].toNat : Int) < 128) = true := decide_eq_true (by omega)
      have hk00 : k ≤ 0 := by omega
      clear hk0
      go_wp2
      go_loop [9, 10] (fun u i => HornRel s a k u i) (fun _ i => (intOf i + 1).toNat)
      case atStart => exact horn_start
      case round =>
        rcases hrel with ⟨m, hm, rfl, rfl⟩ | ⟨rfl, rfl⟩
        · obtain ⟨hstep, hbound⟩ := horn_step (s := s) (show a + k < s.size by omega) hm (by rw [HV.out]; exact hvl')
          have HR := Lib.hid (horn_next hm hstep)
          clear hstep
          go_wp2
          go_round
          case rel => exact HR.out
          case measure => first | (simp [intOf]; done) | (simp [intOf]; omega)
        · rw [HV.out]
          by_cases hodd : v % 2 = 0
          · have HXV := Lib.hid (show X = (v : Int) / 2 by rw [hX]; unfold VM.unzig; rw [if_pos hodd]; simp)
            have to : (((v : Int) % 2) == 1) = false := beq_eq_false_iff_ne.2 (by omega)
            clear hodd hX
            go_wp2
            go_ret3
            exact ⟨by rw [← HXV.out]; exact HO.out, rfl⟩
          · have HXV := Lib.hid (show X = -((v : Int) / 2) - 1 by rw [hX]; unfold VM.unzig; rw [if_neg hodd]; simp)
            have to : (((v : Int) % 2) == 1) = true := beq_iff_eq.2 (by omega)
            clear hodd hX
            go_wp2
            go_ret3
            exact ⟨by rw [← HXV.out]; exact HO.out, rfl⟩
    · have t9 : ((k : Int) == 9) = false := beq_eq_false_iff_ne.2 (by omega)
      have d3 : decide ((k : Int) < 0) = false := decide_eq_false (by omega)
      have d7 : decide ((s[a + k].toNat : Int) < 128) = true := decide_eq_true (by omega)
      have tz : ((s[a + k].toNat : Int) == 0) = false := beq_eq_false_iff_ne.2 (by omega)
      have d4 : decide (0 < k) = true := decide_eq_true (by omega)
      clear hn9
      go_wp2
      go_loop [9, 10] (fun u i => HornRel s a k u i) (fun _ i => (intOf i + 1).toNat)
      case atStart => exact horn_start
      case round =>
        rcases hrel with ⟨m, hm, rfl, rfl⟩ | ⟨rfl, rfl⟩
        · obtain ⟨hstep, hbound⟩ := horn_step (s := s) (show a + k < s.size by omega) hm (by rw [HV.out]; exact hvl')
          have HR := Lib.hid (horn_next hm hstep)
          clear hstep
          go_wp2
          go_round
          case rel => exact HR.out
          case measure => first | (simp [intOf]; done) | (simp [intOf]; omega)
        · rw [HV.out]
          by_cases hodd : v % 2 = 0
          · have HXV := Lib.hid (show X = (v : Int) / 2 by rw [hX]; unfold VM.unzig; rw [if_pos hodd]; simp)
            have to : (((v : Int) % 2) == 1) = false := beq_eq_false_iff_ne.2 (by omega)
            clear hodd hX
            go_wp2
            go_ret3
            exact ⟨by rw [← HXV.out]; exact HO.out, rfl⟩
          · have HXV := Lib.hid (show X = -((v : Int) / 2) - 1 by rw [hX]; unfold VM.unzig; rw [if_neg hodd]; simp)
            have to : (((v : Int) % 2) == 1) = true := beq_iff_eq.2 (by omega)
            clear hodd hX
            go_wp2
            go_ret3
            exact ⟨by rw [← HXV.out]; exact HO.out, rfl⟩
    · have t9 : ((k : Int) == 9) = true := beq_iff_eq.2 (by omega)
      have d3 : decide ((k : Int) < 0) = false := decide_eq_false (by omega)
      have d7 : decide ((s[a + k].toNat : Int) < 128) = true := decide_eq_true (by omega)
      have tz : ((s[a + k].toNat : Int) == 0) = false := beq_eq_false_iff_ne.2 (by omega)
      have hk99 : 9 ≤ k := by omega
      have h99 : a + 9 < s.size := by omega
      have hz9 : s[a + 9].toNat ≤ 1 := by have e : a + k = a + 9 := by omega
                                          simpa [e] using hz1
      have d4 : decide (0 < k) = true := decide_eq_true (by omega)
      have d5 : decide (1 < (s[a + 9].toNat : Int)) = false := decide_eq_false (by omega)
      have d6 : decide (1 < s[a + 9].toNat) = false := decide_eq_false (by omega)
      clear hk9'
      go_wp2
      go_loop [9, 10] (fun u i => HornRel s a k u i) (fun _ i => (intOf i + 1).toNat)
      case atStart => exact horn_start
      case round =>
        rcases hrel with ⟨m, hm, rfl, rfl⟩ | ⟨rfl, rfl⟩
        · obtain ⟨hstep, hbound⟩ := horn_step (s := s) (show a + k < s.size by omega) hm (by rw [HV.out]; exact hvl')
          have HR := Lib.hid (horn_next hm hstep)
          clear hstep
          go_wp2
          go_round
          case rel => exact HR.out
          case measure => first | (simp [intOf]; done) | (simp [intOf]; omega)
        · rw [HV.out]
          by_cases hodd : v % 2 = 0
          · have HXV := Lib.hid (show X = (v : Int) / 2 by rw [hX]; unfold VM.unzig; rw [if_pos hodd]; simp)
            have to : (((v : Int) % 2) == 1) = false := beq_eq_false_iff_ne.2 (by omega)
            clear hodd hX
            go_wp2
            go_ret3
            exact ⟨by rw [← HXV.out]; exact HO.out, rfl⟩
          · have HXV := Lib.hid (show X = -((v : Int) / 2) - 1 by rw [hX]; unfold VM.unzig; rw [if_neg hodd]; simp)
            have to : (((v : Int) % 2) == 1) = true := beq_iff_eq.2 (by omega)
            clear hodd hX
            go_wp2
            go_ret3
            exact ⟨by rw [← HXV.out]; exact HO.out, rfl⟩
end Go.Proofs.Ytfodbblcflolgaa
