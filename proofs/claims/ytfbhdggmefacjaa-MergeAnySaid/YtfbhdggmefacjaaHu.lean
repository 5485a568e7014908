/- container/heap over sources: down. -/
import Derived.Test.YtfbhdggmefacjaaHt
namespace Go.Proofs.Ytfbhdggmefacjaa
open Go.RowKit
open SK HP
attribute [local go_sem ↓] Go.wp_at_zero Go.wp_at_succ

def atL (L : List Src) (k : Nat) : Src := L.getD k Src.dft
theorem atL_lt {L : List Src} {k : Nat} (h : k < L.length) : atL L k = L[k] := by simp [atL, List.getD_eq_getElem?_getD, h]
def ifc (p : Nat) : Value := .iface 55 (.pointer (some ⟨p, 0, none⟩))

theorem Hp.cell {W0 w : World} {p : Nat} {v : Value} {L : List Src} (h : Hp W0 w p v L) : w.cell? ⟨p, 0, none⟩ = some v := cell_of_row _ _ _ _ _ _ h.box

/-- what the heap's functions keep: M is L in another order; what is from n on is as it was -/
structure Turn (W0 w0 w : World) (p : Nat) (v : Value) (L M : List Src) (n : Nat) : Prop where
  hp : Hp W0 w p v M
  perm : M.Perm L
  rest : ∀ k, n ≤ k → atL M k = atL L k
  kp : Kp W0.heap.size w0 w

section
variable {W0 w0 w w' : World} {p : Nat} {v : Value} {L M : List Src} {n : Nat}
theorem Turn.len (h : Turn W0 w0 w p v L M n) : M.length = L.length := h.perm.length_eq
theorem Turn.bel (h : Turn W0 w0 w p v L M n) (hb : Below w.heap.size w w') : Turn W0 w0 w' p v L M n := ⟨h.hp.bel hb, h.perm, h.rest, h.kp.trans (.of hb)⟩
theorem Turn.swap (h : Turn W0 w0 w p v L M n) {i j : Nat} (hi : i < n) (hj : j < n) (hn : n ≤ L.length) (hp : Hp W0 w' p v (swL M i j)) (hk : Kp W0.heap.size w w') : Turn W0 w0 w' p v L (swL M i j) n :=
  ⟨hp, (swL_perm (by have := h.len; omega) (by have := h.len; omega)).trans h.perm, fun k hk => by
    rw [← h.rest k hk]
    have := swL_at (L := M) (i := i) (j := j) (by have := h.len; omega) (by have := h.len; omega) k
    unfold atL
    rw [this]
    simp only [sw]
    rw [if_neg (by omega), if_neg (by omega)], h.kp.trans hk⟩
end

theorem atL_sw {L : List Src} {i j : Nat} (hi : i < L.length) (hj : j < L.length) : atL (swL L i j) = sw (atL L) i j := by
  funext k; exact swL_at hi hj k

set_option maxRecDepth 100000 in
set_option maxHeartbeats 4000000 in
theorem hdown_any {W0 w : World} {p : Nat} {v : Value} {L : List Src} (h : Hp W0 w p v L) (i0 n lo : Nat) (hn : n ≤ L.length) (hi0 : i0 ≤ 1000000) (hd : Dn ltS lo n (atL L) i0) :
    Calls Try.prog 43 #[ifc p, .int .i64 i0, .int .i64 n] w fun e w' => (∃ b, e = .returned (.bool b)) ∧ ∃ M, Turn W0 w w' p v L M n ∧ From ltS lo n (atL M) := by
  have HT0 : Hid (Turn W0 w w p v L L n) := Lib.hid ⟨h, List.Perm.refl _, fun _ _ => rfl, .refl _⟩
  have HD0 := Lib.hid hd
  have hfew := h.few
  have HN := Lib.hid hn
  have hn6 : n ≤ 1000000 := by omega
  have HLESS : Hid (∀ W M (_ : Turn W0 w W p v L M n) (a b : Nat), a < n → b < n → Calls Try.prog 81 #[v, .int .i64 a, .int .i64 b] W fun e w' => e = .returned (.bool (ltS (atL M a) (atL M b))) ∧ Below W.heap.size W w') := Lib.hid fun W M hT a b ha hb => by
    have hl := hT.len
    have := hless_any hT.hp a b (by omega) (by omega)
    rwa [← atL_lt (L := M), ← atL_lt (L := M)] at this
  have HSWAP : Hid (∀ W M (_ : Turn W0 w W p v L M n) (a b : Nat), a < n → b < n → Calls Try.prog 84 #[v, .int .i64 a, .int .i64 b] W fun e w' => e = .returned (.tuple #[]) ∧ Turn W0 w w' p v L (swL M a b) n) := Lib.hid fun W M hT a b ha hb => by
    have hl := hT.len
    exact (hswap_any hT.hp a b (by omega) (by omega)).mono fun e w' ⟨h1, h2, h3⟩ => ⟨h1, hT.swap ha hb hn h2 h3⟩
  have HML := Lib.hid fun W h => m_less W p v h
  have HMS := Lib.hid fun W h => m_swap W p v h
  clear h hd hfew hn
  unfold ifc
  go_enter Try.func43, Try.ntmps43
  go_wp2_with fail
  go_loopw [7] (fun i wr => ∃ (k : Nat) (M : List Src), i = .int .i64 k ∧ k ≤ 1000000 ∧ Turn W0 w wr p v L M n ∧ Dn ltS lo n (atL M) k) (fun i _ => 1000000 - (intOf i).toNat)
  case atStart => exact ⟨i0, L, rfl, hi0, HT0.out, HD0.out⟩
  case round =>
    obtain ⟨k, M, rfl, hk6, hT, hD⟩ := hrel
    have HT := Lib.hid hT
    have HD := Lib.hid hD
    have hml := HML.out wr hT.hp.cell
    have hms := HMS.out wr hT.hp.cell
    clear hT hD
    obtain ⟨j1, hj1⟩ : ∃ j, 2 * k + 1 = j := ⟨_, rfl⟩
    obtain ⟨j2, hj2⟩ : ∃ j, 2 * k + 2 = j := ⟨_, rfl⟩
    have hw1 : IntKind.i64.wrap (2 * (k : Int)) = 2 * (k : Int) := by rw [IntKind.wrap_i64]; omega
    have hw2 : IntKind.i64.wrap (2 * (k : Int) + 1) = (j1 : Int) := by rw [IntKind.wrap_i64]; omega
    have hw3 : IntKind.i64.wrap ((j1 : Int) + 1) = (j2 : Int) := by rw [IntKind.wrap_i64]; omega
    have HJ1 := Lib.hid hj1
    have HJ2 := Lib.hid hj2
    by_cases hlt : j1 < n
    · have t1 : ¬ (n : Int) ≤ (j1 : Int) := by omega
      have t2 : ¬ (j1 : Int) < 0 := by omega
      by_cases hlt2 : j2 < n
      · have HL1 := Lib.hid (HLESS.out _ _ HT.out j2 j1 hlt2 hlt)
        have HKL : Hid (ltS (atL M j2) (atL M j1) = false → Kid ltS n (atL M) k j1) := Lib.hid (fun h => by rw [← hj1]; exact Kid.left2 ltS_ord (by omega) (by rw [hj2, hj1]; exact h))
        have HKR : Hid (ltS (atL M j2) (atL M j1) = true → Kid ltS n (atL M) k j2) := Lib.hid (fun h => by rw [← hj2]; exact Kid.right ltS_ord (by omega) (by rw [hj2, show 2 * k + 1 = j1 from hj1]; exact h))
        obtain ⟨B, hB⟩ : ∃ B, ltS (atL M j2) (atL M j1) = B := ⟨_, rfl⟩
        rw [hB] at HL1 HKL HKR
        clear hj1 hj2 hB
        go_wp2_with fail
        refine HL1.out.mono ?_
        rintro e w1 ⟨rfl, hb1⟩
        have HT1 := Lib.hid (HT.out.bel hb1)
        clear hb1
        cases B
        · obtain ⟨j, hj⟩ : ∃ j, j1 = j := ⟨_, rfl⟩
          have HK := Lib.hid (HKL.out rfl)
          have hjn := hlt
          rw [hj] at HK hjn
          have hkn : k < n := by have := HJ1.out; omega
          subst hj
          have hml1 := HML.out w1 HT1.out.hp.cell
          have HLE := Lib.hid (HLESS.out _ _ HT1.out j1 k hjn hkn)
          have HST : Hid (ltS (atL M j1) (atL M k) = true → Dn ltS lo n (atL (swL M k j1)) j1) := Lib.hid (fun h => by
            have hl := HT1.out.len
            have hn := HN.out
            rw [atL_sw (by omega) (by omega)]
            exact HD.out.step ltS_ord HK.out h)
          have HSP : Hid (ltS (atL M j1) (atL M k) = false → From ltS lo n (atL M)) := Lib.hid (fun h => HD.out.stop ltS_ord HK.out h)
          have HKJ : Hid (k < j1) := Lib.hid (by have := HK.out.one; omega)
          obtain ⟨C, hC⟩ : ∃ C, ltS (atL M j1) (atL M k) = C := ⟨_, rfl⟩
          rw [hC] at HLE HST HSP
          clear hC
          go_wp2_with fail
          refine HLE.out.mono ?_
          rintro e w2 ⟨rfl, hb2⟩
          have HT2 := Lib.hid (HT1.out.bel hb2)
          clear hb2
          cases C
          · have HF := Lib.hid (HSP.out rfl)
            go_wp2
            go_ret
            exact ⟨⟨_, rfl⟩, M, HT2.out, HF.out⟩
          · have hms2 := HMS.out w2 HT2.out.hp.cell
            have HSW := Lib.hid (HSWAP.out _ _ HT2.out k j1 hkn hjn)
            have HD2 := Lib.hid (HST.out rfl)
            go_wp2_with fail
            refine HSW.out.mono ?_
            rintro e w3 ⟨rfl, hT3⟩
            have HT3 := Lib.hid hT3
            clear hT3
            go_wp2
            go_roundw
            case rel => exact ⟨j1, _, by go_num, by omega, HT3.out, HD2.out⟩
            case measure => have := HKJ.out; simp [intOf]; omega
        · obtain ⟨j, hj⟩ : ∃ j, j2 = j := ⟨_, rfl⟩
          have HK := Lib.hid (HKR.out rfl)
          have hjn := hlt2
          rw [hj] at HK hjn
          have hkn : k < n := by have := HJ1.out; omega
          subst hj
          have hml1 := HML.out w1 HT1.out.hp.cell
          have HLE := Lib.hid (HLESS.out _ _ HT1.out j2 k hjn hkn)
          have HST : Hid (ltS (atL M j2) (atL M k) = true → Dn ltS lo n (atL (swL M k j2)) j2) := Lib.hid (fun h => by
            have hl := HT1.out.len
            have hn := HN.out
            rw [atL_sw (by omega) (by omega)]
            exact HD.out.step ltS_ord HK.out h)
          have HSP : Hid (ltS (atL M j2) (atL M k) = false → From ltS lo n (atL M)) := Lib.hid (fun h => HD.out.stop ltS_ord HK.out h)
          have HKJ : Hid (k < j2) := Lib.hid (by have := HK.out.one; omega)
          obtain ⟨C, hC⟩ : ∃ C, ltS (atL M j2) (atL M k) = C := ⟨_, rfl⟩
          rw [hC] at HLE HST HSP
          clear hC
          go_wp2_with fail
          refine HLE.out.mono ?_
          rintro e w2 ⟨rfl, hb2⟩
          have HT2 := Lib.hid (HT1.out.bel hb2)
          clear hb2
          cases C
          · have HF := Lib.hid (HSP.out rfl)
            go_wp2
            go_ret
            exact ⟨⟨_, rfl⟩, M, HT2.out, HF.out⟩
          · have hms2 := HMS.out w2 HT2.out.hp.cell
            have HSW := Lib.hid (HSWAP.out _ _ HT2.out k j2 hkn hjn)
            have HD2 := Lib.hid (HST.out rfl)
            go_wp2_with fail
            refine HSW.out.mono ?_
            rintro e w3 ⟨rfl, hT3⟩
            have HT3 := Lib.hid hT3
            clear hT3
            go_wp2
            go_roundw
            case rel => exact ⟨j2, _, by go_num, by omega, HT3.out, HD2.out⟩
            case measure => have := HKJ.out; simp [intOf]; omega
      · have hkl : Kid ltS n (atL M) k j1 := by rw [← hj1]; exact Kid.left ltS_ord (by omega) (by omega)
        have t3 : ¬ (j2 : Int) < (n : Int) := by omega
        obtain ⟨j, hj⟩ : ∃ j, j1 = j := ⟨_, rfl⟩
        have HK := Lib.hid hkl
        have hjn := hlt
        rw [hj] at HK hjn
        have hkn : k < n := by omega
        have HT1 := HT
        clear hj1 hj2 hkl
        subst hj
        have hml1 := HML.out wr HT1.out.hp.cell
        have HLE := Lib.hid (HLESS.out _ _ HT1.out j1 k hjn hkn)
        have HST : Hid (ltS (atL M j1) (atL M k) = true → Dn ltS lo n (atL (swL M k j1)) j1) := Lib.hid (fun h => by
          have hl := HT1.out.len
          have hn := HN.out
          rw [atL_sw (by omega) (by omega)]
          exact HD.out.step ltS_ord HK.out h)
        have HSP : Hid (ltS (atL M j1) (atL M k) = false → From ltS lo n (atL M)) := Lib.hid (fun h => HD.out.stop ltS_ord HK.out h)
        have HKJ : Hid (k < j1) := Lib.hid (by have := HK.out.one; omega)
        obtain ⟨C, hC⟩ : ∃ C, ltS (atL M j1) (atL M k) = C := ⟨_, rfl⟩
        rw [hC] at HLE HST HSP
        clear hC
        go_wp2_with fail
        refine HLE.out.mono ?_
        rintro e w2 ⟨rfl, hb2⟩
        have HT2 := Lib.hid (HT1.out.bel hb2)
        clear hb2
        cases C
        · have HF := Lib.hid (HSP.out rfl)
          go_wp2
          go_ret
          exact ⟨⟨_, rfl⟩, M, HT2.out, HF.out⟩
        · have hms2 := HMS.out w2 HT2.out.hp.cell
          have HSW := Lib.hid (HSWAP.out _ _ HT2.out k j1 hkn hjn)
          have HD2 := Lib.hid (HST.out rfl)
          go_wp2_with fail
          refine HSW.out.mono ?_
          rintro e w3 ⟨rfl, hT3⟩
          have HT3 := Lib.hid hT3
          clear hT3
          go_wp2
          go_roundw
          case rel => exact ⟨j1, _, by go_num, by omega, HT3.out, HD2.out⟩
          case measure => have := HKJ.out; simp [intOf]; omega
    · have HF := Lib.hid (HD.out.none (by omega))
      have t1 : (n : Int) ≤ (j1 : Int) := by omega
      clear hj1 hj2
      go_wp2
      go_ret
      exact ⟨⟨_, rfl⟩, M, HT.out, HF.out⟩
end Go.Proofs.Ytfbhdggmefacjaa
