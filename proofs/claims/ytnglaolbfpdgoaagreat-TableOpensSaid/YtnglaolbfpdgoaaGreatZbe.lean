/- Texts joined by bundle.py: FRGet. -/
import Derived.Test.YtnglaolbfpdgoaaGreatZaj
import Derived.Test.YtnglaolbfpdgoaaGreatZah

/- The walk of the document's Get. -/
namespace Go.Proofs.YtnglaolbfpdgoaaGreat.F3
open Go.RowKit

theorem at_drop (s : ByteArray) (k i q : Nat) (hq : k + i = q) (h : q < s.size) : FM.at_ (s.data.toList.drop k) i = s[q].toNat := by
  subst hq
  unfold FM.at_
  rw [List.getD_eq_getElem?_getD, List.getElem?_drop, List.getElem?_eq_getElem (by rw [size_list]; exact h), Option.getD_some, byte_of s _ h]

set_option maxRecDepth 100000 in
set_option maxHeartbeats 1000000 in
theorem rget_any (s : ByteArray) (p : Int) (w : World) (hs : s.size ≤ 281474976710656) (hp0 : -9223372036854775808 ≤ p) (hp1 : p ≤ 9223372036854775807) :
    Calls Tryz.prog 78 #[.string s, .int .i64 p] w fun e w' => e = .returned (getOut s p) ∧ Below w.heap.size w w' := by
  have HSL := Lib.hid (size_list s)
  by_cases harg : p < 0 ∨ (s.size : Int) < p
  · have HO := Lib.hid (getOut_of (s := s) (vget_arg (by rw [HSL.out]; exact harg)))
    rcases harg with h | h
    · go_enter Tryz.func78, Tryz.ntmps78
      go_wp2
      go_ret3
      exact ⟨by rw [HO.out]; rfl, Below.refl _ _⟩
    · have h0 : ¬ p < 0 := by omega
      go_enter Tryz.func78, Tryz.ntmps78
      go_wp2
      go_ret3
      exact ⟨by rw [HO.out]; rfl, Below.refl _ _⟩
  obtain ⟨k, rfl⟩ : ∃ k : Nat, p = (k : Int) := ⟨p.toNat, by omega⟩
  have hk : k ≤ s.size := by omega
  have HAL := Lib.hid (show k ≤ s.data.toList.length by rw [HSL.out]; exact hk)
  have hll : (s.data.toList.drop k).length = s.size - k := by rw [List.length_drop, HSL.out]
  obtain ⟨n, hn⟩ : ∃ n, s.size - k = n := ⟨_, rfl⟩
  have hleft : (s.size : Int) - (k : Int) = (n : Int) := by omega
  rw [hn] at hll
  clear harg hp0 hp1
  by_cases h0 : n = 0
  · have HO := Lib.hid (getOut_of (s := s) (vget_meas HAL.out (meas_none (by omega)) (by decide)))
    subst h0
    clear hll
    go_enter Tryz.func78, Tryz.ntmps78
    go_wp2
    go_ret3
    exact ⟨by rw [HO.out]; rfl, Below.refl _ _⟩
  have t0 : ((n : Int) == 0) = false := beq_eq_false_iff_ne.2 (by omega)
  by_cases h4 : n < 4
  · have HO := Lib.hid (getOut_of (s := s) (vget_meas HAL.out (meas_few (by omega) (by omega)) (by decide)))
    clear hll
    go_enter Tryz.func78, Tryz.ntmps78
    go_wp2
    go_ret3
    exact ⟨by rw [HO.out]; rfl, Below.refl _ _⟩
  obtain ⟨k1, hk1⟩ : ∃ k1, k + 1 = k1 := ⟨_, rfl⟩
  obtain ⟨k2, hk2⟩ : ∃ k2, k + 2 = k2 := ⟨_, rfl⟩
  obtain ⟨k3, hk3⟩ : ∃ k3, k + 3 = k3 := ⟨_, rfl⟩
  have e1 : (k : Int) + 1 = (k1 : Int) := by omega
  have e2 : (k : Int) + 2 = (k2 : Int) := by omega
  have e3 : (k : Int) + 3 = (k3 : Int) := by omega
  have j0 : k < s.size := by omega
  have j1 : k1 < s.size := by omega
  have j2 : k2 < s.size := by omega
  have j3 : k3 < s.size := by omega
  have a0 := at_drop s k 0 k rfl j0
  have a1 := at_drop s k 1 k1 hk1 j1
  have a2 := at_drop s k 2 k2 hk2 j2
  have a3 := at_drop s k 3 k3 hk3 j3
  have z0 : (0 : Int) ≤ (k : Int) := by omega
  have z1 : (0 : Int) ≤ (k1 : Int) := by omega
  have z2 : (0 : Int) ≤ (k2 : Int) := by omega
  have z3 : (0 : Int) ≤ (k3 : Int) := by omega
  have i0 : (k : Int) < (s.size : Int) := by omega
  have i1 : (k1 : Int) < (s.size : Int) := by omega
  have i2 : (k2 : Int) < (s.size : Int) := by omega
  have i3 : (k3 : Int) < (s.size : Int) := by omega
  obtain ⟨c0, hc0⟩ : ∃ c, s[k] = c := ⟨_, rfl⟩
  obtain ⟨c1, hc1⟩ : ∃ c, s[k1] = c := ⟨_, rfl⟩
  obtain ⟨c2, hc2⟩ : ∃ c, s[k2] = c := ⟨_, rfl⟩
  obtain ⟨c3, hc3⟩ : ∃ c, s[k3] = c := ⟨_, rfl⟩
  rw [hc0] at a0
  rw [hc1] at a1
  rw [hc2] at a2
  rw [hc3] at a3
  have l0 := c0.toNat_lt
  have l1 := c1.toNat_lt
  have l2 := c2.toNat_lt
  have l3 := c3.toNat_lt
  by_cases hf : c0.toNat + c2.toNat ≠ 255
  · have HO := Lib.hid (getOut_of (s := s) (vget_meas HAL.out (meas_form (by omega) (.inl (by omega))) (by decide)))
    have t1 : (((c0.toNat : Int) + (c2.toNat : Int)) % 256 != 255) = true := by rw [bne_iff_ne]; omega
    have t1' : (((c0.toNat : Int) + (c2.toNat : Int)) % 256 == 255) = false := beq_eq_false_iff_ne.2 (by omega)
    clear a0 a1 a2 a3 hf hk1 hk2 hk3 hll
    go_enter Tryz.func78, Tryz.ntmps78
    go_wp2_with fail
    go_quiet (fail)
    go_wp2
    go_ret3
    exact ⟨by rw [HO.out]; rfl, below_drewN (Below.refl _ _) _⟩
  by_cases hf1 : c1.toNat + c3.toNat ≠ 255
  · have HO := Lib.hid (getOut_of (s := s) (vget_meas HAL.out (meas_form (by omega) (.inr (by omega))) (by decide)))
    have t1 : (((c0.toNat : Int) + (c2.toNat : Int)) % 256 != 255) = false := by rw [bne_eq_false_iff_eq]; omega
    have t1' : (((c0.toNat : Int) + (c2.toNat : Int)) % 256 == 255) = true := beq_iff_eq.2 (by omega)
    have t2 : (((c1.toNat : Int) + (c3.toNat : Int)) % 256 != 255) = true := by rw [bne_iff_ne]; omega
    have t2' : (((c1.toNat : Int) + (c3.toNat : Int)) % 256 == 255) = false := beq_eq_false_iff_ne.2 (by omega)
    clear a0 a1 a2 a3 hf hf1 hk1 hk2 hk3 hll
    go_enter Tryz.func78, Tryz.ntmps78
    go_wp2_with fail
    go_quiet (fail)
    go_wp2
    go_ret3
    exact ⟨by rw [HO.out]; rfl, below_drewN (Below.refl _ _) _⟩
  have t1 : (((c0.toNat : Int) + (c2.toNat : Int)) % 256 != 255) = false := by rw [bne_eq_false_iff_eq]; omega
  have t1' : (((c0.toNat : Int) + (c2.toNat : Int)) % 256 == 255) = true := beq_iff_eq.2 (by omega)
  have t2 : (((c1.toNat : Int) + (c3.toNat : Int)) % 256 != 255) = false := by rw [bne_eq_false_iff_eq]; omega
  have t2' : (((c1.toNat : Int) + (c3.toNat : Int)) % 256 == 255) = true := beq_iff_eq.2 (by omega)
  obtain ⟨N, hN⟩ : ∃ N, 256 * c0.toNat + c1.toNat = N := ⟨_, rfl⟩
  have e8 : 256 * (c0.toNat : Int) + (c1.toNat : Int) = (N : Int) := by omega
  by_cases hsh : n < 8 + N
  · have HO := Lib.hid (getOut_of (s := s) (vget_meas HAL.out (meas_short (by omega) (by omega) (by omega) (by omega)) (by decide)))
    clear a0 a1 a2 a3 hf hf1 hk1 hk2 hk3 hll hN
    go_enter Tryz.func78, Tryz.ntmps78
    go_wp2_with fail
    go_quiet (fail)
    go_wp2_with fail
    go_quiet (fail)
    go_wp2
    go_ret3
    exact ⟨by rw [HO.out]; rfl, below_drewN (Below.refl _ _) _⟩
  have hm : FM.meas (s.data.toList.drop k) = (8 + N, 0) := by
    rw [meas_good (by omega) (by omega) (by omega) (by omega), a0, a1, hN]
  have hsl := fun W => str_slice W s (k + 8) (k + 8 + N) ((k : Int) + 8) ((k : Int) + 8 + (N : Int)) (by omega) (by omega) (by omega) (by omega)
  have hb : (s.extract (k + 8) (k + 8 + N)).data.toList = (s.data.toList.drop (k + 8)).take (8 + N - 8) := by
    rw [Lib.extract_data, show k + 8 + N - (k + 8) = 8 + N - 8 by omega]
  have hbs : (s.extract (k + 8) (k + 8 + N)).size = N := by rw [ByteArray.size_extract]; omega
  obtain ⟨B, hB⟩ : ∃ B, s.extract (k + 8) (k + 8 + N) = B := ⟨_, rfl⟩
  rw [hB] at hsl hb hbs
  have hbd : ((s.data.toList.drop k).drop 8).take (8 + N - 8) = B.data.toList := by rw [List.drop_drop]; exact hb.symm
  have hiff := FM.head_iff hm hbd
  have hac := FM.acc_four (fun i => FM.at_ (s.data.toList.drop k) (4 + i))
  simp only [Nat.add_zero, show 4 + 1 = 5 by rfl, show 4 + 2 = 6 by rfl, show 4 + 3 = 7 by rfl] at hac
  rw [← hac] at hiff
  have HC := Lib.hid (fun W => rsum_any B W (by omega))
  have hsl32 := FM.sum_lt B.data.toList
  have HI := Lib.hid hiff
  have HM := Lib.hid hm
  have HBL := Lib.hid hb
  obtain ⟨c, hc⟩ : ∃ c, FM.sum B.data.toList = c := ⟨_, rfl⟩
  rw [hc] at HC HI hsl32
  have HAT := Lib.hid (fun i q h1 h2 => at_drop s k i q h1 h2)
  have h8 : k + 8 ≤ s.size := by omega
  obtain ⟨F, hF⟩ : ∃ F : Nat → Nat, (fun i => FM.at_ (s.data.toList.drop k) (4 + i)) = F := ⟨_, rfl⟩
  have HFlt := Lib.hid (fun i => show F i < 256 by rw [← hF]; exact FM.at_lt _ _)
  have HFat := Lib.hid (fun i => show FM.at_ (s.data.toList.drop k) (4 + i) = F i by rw [← hF])
  rw [hF] at HI
  clear a0 a1 a2 a3 hf hf1 hk1 hk2 hk3 hll hN hm hbd hiff hac hb hB hc hF
  go_enter Tryz.func78, Tryz.ntmps78
  go_wp2_with fail
  go_quiet (fail)
  go_wp2_with fail
  go_quiet (fail)
  go_wp2_with fail
  simp only [decide_eq_false (show ¬ s.size < k by omega), Bool.or_false]
  go_loop [10, 11] (fun v i => ∃ j V : Nat, j ≤ 4 ∧ i = .int .i64 (j + 4 : Nat) ∧ v = .int .u32 V ∧ Hid (FM.acc F j = V) ∧ V < 4294967296) (fun _ i => 8 - (intOf i).toNat)
  case atStart => exact ⟨0, 0, by omega, rfl, rfl, Lib.hid rfl, by decide⟩
  case round =>
    obtain ⟨j, V, hj, rfl, rfl, HV, hV⟩ := hrel
    by_cases hj4 : j < 4
    · obtain ⟨q, hq⟩ : ∃ q, k + (j + 4) = q := ⟨_, rfl⟩
      have hqs : q < s.size := by omega
      have hc := HAT.out (4 + j) q (by omega) hqs
      rw [HFat.out] at hc
      have hVs : V < 16777216 := by rw [← HV.out]; exact FM.acc_small F HFlt.out j (by omega)
      have hst : FM.acc F (j + 1) = V * 256 + F j := by rw [FM.acc, HV.out]
      rw [hc] at hst
      obtain ⟨d, hd⟩ : ∃ d, s[q] = d := ⟨_, rfl⟩
      rw [hd] at hst
      have hdl := d.toNat_lt
      have eq : (k : Int) + ((j + 4 : Nat) : Int) = (q : Int) := by omega
      have HST := Lib.hid hst
      have hN : V * 256 + d.toNat < 4294967296 := by omega
      clear hc hst
      go_wp2_with fail
      go_round
      case rel => exact ⟨j + 1, V * 256 + d.toNat, by omega, by go_num, by first | go_num | simp | rfl, HST, hN⟩
      case measure => simp [intOf]; omega
    · obtain rfl : j = 4 := by omega
      go_wp2_with fail
      refine (HC.out _).mono ?_
      rintro e w2 ⟨rfl, rfl⟩
      by_cases hcv : c = V
      · have HO := Lib.hid (getOut_of (s := s) (vget_good HAL.out HM.out HBL.out.symm (HI.out.2 (by rw [HV.out]; exact hcv))))
        rw [str_mk] at HO
        have t3 : ((c : Int) != (V : Int)) = false := by rw [bne_eq_false_iff_eq]; omega
        have t3' : ((c : Int) == (V : Int)) = true := beq_iff_eq.2 (by omega)
        have hz : (k : Int) + ((8 + N : Nat) : Int) = (k : Int) + 8 + (N : Int) := by omega
        rw [hz] at HO
        clear hcv
        go_wp2
        go_ret3
        exact ⟨by rw [HO.out]; rfl, below_drewN (Below.refl _ _) _⟩
      · have HO := Lib.hid (getOut_of (s := s) (vget_sum HAL.out HM.out HBL.out.symm (fun h => hcv (by rw [← HV.out]; exact HI.out.1 h))))
        have t3 : ((c : Int) != (V : Int)) = true := by rw [bne_iff_ne]; omega
        have t3' : ((c : Int) == (V : Int)) = false := beq_eq_false_iff_ne.2 (by omega)
        clear hcv
        go_wp2
        go_ret3
        exact ⟨by rw [HO.out]; rfl, below_drewN (Below.refl _ _) _⟩
end Go.Proofs.YtnglaolbfpdgoaaGreat.F3

