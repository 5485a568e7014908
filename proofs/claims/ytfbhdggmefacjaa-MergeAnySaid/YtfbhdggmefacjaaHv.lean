/- container/heap over sources: up, Init, Pop, Push. -/
import Derived.Test.YtfbhdggmefacjaaHu
namespace Go.Proofs.Ytfbhdggmefacjaa
open Go.RowKit
open SK HP
attribute [local go_sem ↓] Go.wp_at_zero Go.wp_at_succ

theorem Hp.shape {W0 w : World} {p : Nat} {v : Value} {L : List Src} (h : Hp W0 w p v L) : ∃ A c, v = .slice A L.length c := by
  rcases h.own.2 with ⟨e, h0⟩ | ⟨g, cap, cur, e, _⟩
  · exact ⟨none, 0, by rw [e, h0]⟩
  · exact ⟨_, _, e⟩

theorem hlen_any {W0 w : World} {p : Nat} {v : Value} {L : List Src} (h : Hp W0 w p v L) :
    Calls Try.prog 22 #[v] w fun e w' => e = .returned (.int .i64 (L.length : Nat)) ∧ w = w' := by
  obtain ⟨A, c, rfl⟩ := h.shape
  clear h
  go_enter Try.func22, Try.ntmps22
  go_wp2
  go_ret
  exact ⟨rfl, rfl⟩

set_option maxRecDepth 100000 in
set_option maxHeartbeats 4000000 in
theorem hup_any {W0 w : World} {p : Nat} {v : Value} {L : List Src} (h : Hp W0 w p v L) (j0 : Nat) (hj : j0 < L.length) (hd : Up ltS L.length (atL L) j0) :
    Calls Try.prog 44 #[ifc p, .int .i64 j0] w fun e w' => e = .returned (.tuple #[]) ∧ ∃ M, Turn W0 w w' p v L M L.length ∧ From ltS 0 L.length (atL M) := by
  have HT0 : Hid (Turn W0 w w p v L L L.length) := Lib.hid ⟨h, List.Perm.refl _, fun _ _ => rfl, .refl _⟩
  have HD0 := Lib.hid hd
  have hfew := h.few
  obtain ⟨n, hn⟩ : ∃ n, L.length = n := ⟨_, rfl⟩
  have HN := Lib.hid hn
  rw [hn] at HT0 HD0 hj hfew ⊢
  have HLESS : Hid (∀ W M (_ : Turn W0 w W p v L M n) (a b : Nat), a < n → b < n → Calls Try.prog 81 #[v, .int .i64 a, .int .i64 b] W fun e w' => e = .returned (.bool (ltS (atL M a) (atL M b))) ∧ Below W.heap.size W w') := Lib.hid fun W M hT a b ha hb => by
    have hl := hT.len
    have := hless_any hT.hp a b (by omega) (by omega)
    rwa [← atL_lt (L := M), ← atL_lt (L := M)] at this
  have HSWAP : Hid (∀ W M (_ : Turn W0 w W p v L M n) (a b : Nat), a < n → b < n → Calls Try.prog 84 #[v, .int .i64 a, .int .i64 b] W fun e w' => e = .returned (.tuple #[]) ∧ Turn W0 w w' p v L (swL M a b) n) := Lib.hid fun W M hT a b ha hb => by
    have hl := hT.len
    exact (hswap_any hT.hp a b (by omega) (by omega)).mono fun e w' ⟨h1, h2, h3⟩ => ⟨h1, hT.swap ha hb (by omega) h2 h3⟩
  have HML := Lib.hid fun W h => m_less W p v h
  have HMS := Lib.hid fun W h => m_swap W p v h
  clear h hd hn
  unfold ifc
  go_enter Try.func44, Try.ntmps44
  go_wp2_with fail
  go_loopw [1] (fun i wr => ∃ (k : Nat) (M : List Src), i = .int .i64 k ∧ k < n ∧ Turn W0 w wr p v L M n ∧ Up ltS n (atL M) k) (fun i _ => (intOf i).toNat)
  case atStart => exact ⟨j0, L, rfl, hj, HT0.out, HD0.out⟩
  case round =>
    obtain ⟨k, M, rfl, hkn, hT, hD⟩ := hrel
    have HT := Lib.hid hT
    have HD := Lib.hid hD
    have hml := HML.out wr hT.hp.cell
    clear hT hD
    by_cases hk0 : k = 0
    · subst hk0
      have HF := Lib.hid (HD.out.stop (.inl rfl))
      have hw1 : IntKind.i64.wrap (((0 : Nat) : Int) - 1) = -1 := by rw [IntKind.wrap_i64]; omega
      clear hml
      go_wp2
      go_end0
      exact ⟨rfl, M, HT.out, HF.out⟩
    · obtain ⟨i, hi⟩ : ∃ i, (k - 1) / 2 = i := ⟨_, rfl⟩
      obtain ⟨k1, hk1⟩ : ∃ k1, k - 1 = k1 := ⟨_, rfl⟩
      have hw1 : IntKind.i64.wrap ((k : Int) - 1) = (k1 : Int) := by rw [IntKind.wrap_i64]; omega
      have hw2 : (k1 : Int) / 2 = (i : Int) := by omega
      have hw4 : (k1 : Int).tdiv 2 = (i : Int) := by rw [Int.tdiv_eq_ediv_of_nonneg (by omega)]; exact hw2
      have hne : ¬ (i : Int) = (k : Int) := by omega
      have hnb : ((i : Int) == (k : Int)) = false := by simpa using hne
      have hin : i < n := by omega
      have HL1 := Lib.hid (HLESS.out _ _ HT.out k i hkn hin)
      have HI : Hid ((k - 1) / 2 = i ∧ i < k) := Lib.hid ⟨hi, by omega⟩
      have HST : Hid (ltS (atL M k) (atL M i) = true → Up ltS n (atL (swL M i k)) i) := Lib.hid (fun h => by
        have hl := HT.out.len
        have hn := HN.out
        rw [atL_sw (by omega) (by omega)]
        have := HD.out.step ltS_ord (by omega) hkn (by rw [hi]; exact h)
        rw [hi] at this
        exact this)
      have HSP : Hid (ltS (atL M k) (atL M i) = false → From ltS 0 n (atL M)) := Lib.hid (fun h => HD.out.stop (.inr (by rw [hi]; exact h)))
      obtain ⟨C, hC⟩ : ∃ C, ltS (atL M k) (atL M i) = C := ⟨_, rfl⟩
      rw [hC] at HL1 HST HSP
      clear hC hi hk1 hk0
      go_wp2_with fail
      refine HL1.out.mono ?_
      rintro e w2 ⟨rfl, hb2⟩
      have HT2 := Lib.hid (HT.out.bel hb2)
      clear hb2
      cases C
      · have HF := Lib.hid (HSP.out rfl)
        go_wp2
        go_end0
        exact ⟨rfl, M, HT2.out, HF.out⟩
      · have hms2 := HMS.out w2 HT2.out.hp.cell
        have HSW := Lib.hid (HSWAP.out _ _ HT2.out i k hin hkn)
        have HD2 := Lib.hid (HST.out rfl)
        go_wp2_with fail
        refine HSW.out.mono ?_
        rintro e w3 ⟨rfl, hT3⟩
        have HT3 := Lib.hid hT3
        clear hT3
        go_wp2
        go_roundw
        case rel => exact ⟨i, _, rfl, hin, HT3.out, HD2.out⟩
        case measure => have := HI.out; simp [intOf]; omega
end Go.Proofs.Ytfbhdggmefacjaa
