/- Texts joined by bundle.py: NRh. -/
import Derived.Test.YtnglaolbfpdgoaaGreatZaq
import Derived.Test.YtnglaolbfpdgoaaGreatZan

/- Has: the document's walk. -/
namespace Go.Proofs.YtnglaolbfpdgoaaGreat.B9
open Go.RowKit

/-- a bit looked at by the document -/
theorem bit_shift (c : UInt8) (R : Nat) : (((c.toNat : Int) / (2 : Int) ^ R).tmod 2 == 0) = !(c.toNat.testBit R) := by
  have e : (c.toNat : Int) / (2 : Int) ^ R = ((c.toNat / 2 ^ R : Nat) : Int) := by rw [Int.natCast_ediv, Int.natCast_pow]; rfl
  rw [e, Nat.testBit_eq_decide_div_mod_eq]
  obtain ⟨X, hX⟩ : ∃ X, c.toNat / 2 ^ R = X := ⟨_, rfl⟩
  rw [hX, Int.tmod_eq_emod_of_nonneg (by omega)]
  by_cases h : X % 2 = 1
  · rw [decide_eq_true h]
    simp only [Bool.not_true, beq_eq_false_iff_ne, ne_eq]
    omega
  · rw [decide_eq_false h]
    simp only [Bool.not_false, beq_iff_eq]
    omega

set_option maxRecDepth 100000 in
theorem rhas_any (f k : ByteArray) (w : World) (hf : f.size ≤ 140737488351232) (hk : k.size ≤ 140737488351232) :
    Calls Tryz.prog 14 #[.string f, .string k] w fun e w' => e = .returned (.bool (BL.has f.data.toList k.data.toList)) ∧ Below w.heap.size w w' := by
  by_cases h0 : f.size = 0
  · have hs0 : f = ⟨#[]⟩ := by
      apply ByteArray.ext
      exact Array.eq_empty_of_size_eq_zero h0
    subst hs0
    clear h0
    go_enter Tryz.func14, Tryz.ntmps14
    go_wp2
    go_ret
    exact ⟨rfl, Below.refl _ _⟩
  have hpos : 0 < f.size := by omega
  have htx := text_cons f hpos
  have hes : (f.extract 1 f.size).size = f.size - 1 := by rw [ByteArray.size_extract]; omega
  obtain ⟨a, hae⟩ : ∃ a, f[0] = a := ⟨_, rfl⟩
  rw [hae] at htx
  rw [htx, BL.has_cons, size_list, hes]
  have hfb : ∀ K, (h : K + 1 < f.size) → (f.extract 1 f.size).data.toList.getD K 0 = f[K + 1] := by
    intro K h
    rw [List.getD_eq_getElem?_getD, List.getElem?_eq_getElem (by rw [size_list, hes]; omega), Option.getD_some, byte_of _ K (by rw [hes]; omega), extract_at]
    simp only [Nat.add_comm]
  obtain ⟨S, hS⟩ : ∃ S, (f.extract 1 f.size).data.toList = S := ⟨_, rfl⟩
  rw [hS] at hfb ⊢
  have HFB := Lib.hid hfb
  have hal := a.toNat_lt
  clear htx hes hS hfb
  have HB0 : ∀ b : Bool, (∀ x : List Nat, x = [] → x.all (BL.bit S) = true) := fun _ x h => by rw [h]; rfl
  by_cases h1 : f.size < 2
  · have HO : Hid ((BL.places k.data.toList (a.toNat : Nat) (8 * (f.size - 1) : Nat)).all (BL.bit S) = true) := Lib.hid (by rw [BL.places_none (by omega)]; rfl)
    rw [HO.out]
    clear HB0 hae
    go_enter Tryz.func14, Tryz.ntmps14
    go_wp2
    go_ret
    exact ⟨rfl, Below.refl _ _⟩
  obtain ⟨N, hN⟩ : ∃ N, f.size - 1 = N := ⟨_, rfl⟩
  have hNi : (f.size : Int) - 1 = (N : Int) := by omega
  rw [hN]
  by_cases h2 : 2097152 < N
  · have HO : Hid ((BL.places k.data.toList (a.toNat : Nat) (8 * N : Nat)).all (BL.bit S) = true) := Lib.hid (by rw [BL.places_none (by omega)]; rfl)
    rw [HO.out]
    clear HB0 hae
    go_enter Tryz.func14, Tryz.ntmps14
    go_wp2
    go_ret
    exact ⟨rfl, Below.refl _ _⟩
  by_cases h3 : a.toNat < 1
  · have HO : Hid ((BL.places k.data.toList (a.toNat : Nat) (8 * N : Nat)).all (BL.bit S) = true) := Lib.hid (by rw [BL.places_none (by omega)]; rfl)
    rw [HO.out]
    clear HB0
    go_enter Tryz.func14, Tryz.ntmps14
    go_wp2
    go_ret
    exact ⟨rfl, Below.refl _ _⟩
  by_cases h4 : 8 < a.toNat
  · have HO : Hid ((BL.places k.data.toList (a.toNat : Nat) (8 * N : Nat)).all (BL.bit S) = true) := Lib.hid (by rw [BL.places_none (by omega)]; rfl)
    rw [HO.out]
    clear HB0
    go_enter Tryz.func14, Tryz.ntmps14
    go_wp2
    go_ret
    exact ⟨rfl, Below.refl _ _⟩
  have HC := Lib.hid (fun W => rplaces_any k (a.toNat : Int) (8 * (N : Int)) W hk (by omega) (by omega) (by omega) (by omega))
  unfold PlacesOut at HC
  rw [show ((8 * N : Nat) : Int) = 8 * (N : Int) by omega]
  have hpl := BL.places_len k.data.toList (a.toNat : Int) (8 * (N : Int))
  have hpt := fun q => @BL.places_lt k.data.toList (a.toNat : Int) (8 * (N : Int)) q
  obtain ⟨pl, hpd⟩ : ∃ pl, BL.places k.data.toList (a.toNat : Int) (8 * (N : Int)) = pl := ⟨_, rfl⟩
  rw [hpd] at HC hpl hpt ⊢
  have HPT := Lib.hid hpt
  have HN := Lib.hid hN
  clear HB0 hpt hpd
  go_enter Tryz.func14, Tryz.ntmps14
  go_wp2_with fail
  refine (HC.out _).mono ?_
  rintro e w2 ⟨v, rfl, hown, hB2⟩
  obtain ⟨A1, c1, rfl, hz1⟩ := own_nums hown
  have HZ := Lib.hid hz1
  have HB2 := Lib.hid hB2
  clear hown hz1 hB2 hN
  go_wp2_with fail
  go_loop [7] (fun i => ∃ q : Nat, q ≤ pl.length ∧ i = .int .i64 q ∧ Hid ((pl.take q).all (BL.bit S) = true)) (fun i => pl.length - (intOf i).toNat)
  case atStart => exact ⟨0, by omega, rfl, Lib.hid rfl⟩
  case round =>
    obtain ⟨q, hq, rfl, hall⟩ := hrel
    by_cases hql : q < pl.length
    · obtain ⟨b, hA, -, -, hc⟩ := HZ.out (by omega)
      have hcq := hc q hql
      have hst : (pl.take (q + 1)).all (BL.bit S) = BL.bit S pl[q] := by rw [List.take_succ_eq_append_getElem hql, List.all_append, hall.out]; simp
      have hp8 := HPT.out pl[q] (List.getElem_mem _)
      have HLL : Hid (pl.all (BL.bit S) = ((pl.take (q + 1)).all (BL.bit S) && (pl.drop (q + 1)).all (BL.bit S))) := Lib.hid (by rw [← List.all_append, List.take_append_drop])
      obtain ⟨p, hp⟩ : ∃ p, pl[q] = p := ⟨_, rfl⟩
      rw [hp] at hcq hst hp8
      obtain ⟨K, hK⟩ : ∃ K, p / 8 = K := ⟨_, rfl⟩
      have hKi : (p : Int) / 8 = (K : Int) := by omega
      have hKf : K + 1 < f.size := by have := HN.out; omega
      have hbt : BL.bit S p = (f[K + 1]).toNat.testBit (p % 8) := by unfold BL.bit; rw [hK, HFB.out K hKf]
      obtain ⟨x, hx⟩ : ∃ x, f[K + 1] = x := ⟨_, rfl⟩
      have hx1 : f[1 + K]'(by omega) = x := by rw [← hx]; simp only [Nat.add_comm]
      rw [hx] at hbt
      have hsh := bit_shift x (p % 8)
      obtain ⟨B, hB⟩ : ∃ B, x.toNat.testBit (p % 8) = B := ⟨_, rfl⟩
      rw [hB] at hsh hbt
      have HST := Lib.hid (hst.trans hbt)
      have i0 : (0 : Int) ≤ (q : Int) := by omega
      have i1 : (q : Int) < (pl.length : Int) := by omega
      subst hA
      clear hc hst hp hK hall hbt hx hB
      cases B
      · have hl := HLL.out
        rw [HST.out, Bool.false_and] at hl
        have HL := Lib.hid hl
        rw [Bool.not_false] at hsh
        clear hl
        go_wp2
        go_ret
        exact ⟨by rw [HL.out]; rfl, HB2.out⟩
      · rw [Bool.not_true] at hsh
        go_wp2
        go_round
        case rel => exact ⟨q + 1, by omega, by go_num, HST⟩
        case measure => simp [intOf]; omega
    · obtain rfl : q = pl.length := by omega
      rw [List.take_length] at hall
      go_wp2
      go_ret
      exact ⟨by rw [hall.out]; rfl, HB2.out⟩
end Go.Proofs.YtnglaolbfpdgoaaGreat.B9

