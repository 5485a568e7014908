/- container/heap over sources: Init, Pop, Push. -/
import Derived.Test.YtfbhdggmefacjaaHv
namespace Go.Proofs.Ytfbhdggmefacjaa
open Go.RowKit
open SK HP
attribute [local go_sem ↓] Go.wp_at_zero Go.wp_at_succ

theorem last_split {L : List Src} {n : Nat} (h : L.length = n + 1) : L.take n ++ [atL L n] = L := by
  rw [atL_lt (by omega), ← List.take_succ_eq_append_getElem (by omega)]
  exact List.take_of_length_le (by omega)
theorem atL_take {L : List Src} {n k : Nat} (h : k < n) : atL (L.take n) k = atL L k := by
  simp [atL, List.getD_eq_getElem?_getD, List.getElem?_take_of_lt h]
theorem atL_append {L : List Src} {s : Src} {k : Nat} (h : k < L.length) : atL (L ++ [s]) k = atL L k := by
  simp [atL, List.getD_eq_getElem?_getD, List.getElem?_append_left h]
theorem Hp.stayD {W0 w : World} {p : Nat} {v : Value} {L : List Src} (h : Hp W0 w p v L) : Hp W0 w.drew p v L := h.stay (Ks.refl _).drew

set_option maxRecDepth 100000 in
set_option maxHeartbeats 4000000 in
theorem hinit_any {W0 w : World} {p : Nat} {v : Value} {L : List Src} (h : Hp W0 w p v L) :
    Calls Try.prog 35 #[ifc p] w fun e w' => e = .returned (.tuple #[]) ∧ ∃ M, Turn W0 w w' p v L M L.length ∧ From ltS 0 L.length (atL M) := by
  have HT0 : Hid (Turn W0 w w p v L L L.length) := Lib.hid ⟨h, List.Perm.refl _, fun _ _ => rfl, .refl _⟩
  have hfew := h.few
  have HLN := Lib.hid (hlen_any h)
  have hml := m_len w p v h.cell
  obtain ⟨n, hn⟩ : ∃ n, L.length = n := ⟨_, rfl⟩
  have HN := Lib.hid hn
  rw [hn] at HT0 hfew HLN ⊢
  have HDN : Hid (∀ W M (_ : Turn W0 w W p v L M n) (a : Nat), a ≤ 1000000 → From ltS (a + 1) n (atL M) → Calls Try.prog 43 #[ifc p, .int .i64 a, .int .i64 n] W fun e w' => (∃ b, e = .returned (.bool b)) ∧ ∃ M', Turn W0 w w' p v L M' n ∧ From ltS a n (atL M')) := Lib.hid fun W M hT a ha hF =>
    (hdown_any hT.hp a n a (by have := hT.len; have := HN.out; omega) ha (Dn.start hF)).mono fun e w' ⟨h1, M', h2, h3⟩ => ⟨h1, M', ⟨h2.hp, h2.perm.trans hT.perm, fun k hk => (h2.rest k hk).trans (hT.rest k hk), hT.kp.trans h2.kp⟩, h3⟩
  have HST : Hid (From ltS (n / 2) n (atL L)) := Lib.hid (fun k h0 h1 h2 => by omega)
  clear h hn
  obtain ⟨h2, hh2⟩ : ∃ h2, n / 2 = h2 := ⟨_, rfl⟩
  rw [hh2] at HST
  have hq1 : (n : Int).tdiv 2 = (h2 : Int) := by rw [Int.tdiv_eq_ediv_of_nonneg (by omega)]; omega
  have hq2 : (n : Int) / 2 = (h2 : Int) := by omega
  have hw1 : IntKind.i64.wrap ((h2 : Int) - 1) = (h2 : Int) - 1 := by rw [IntKind.wrap_i64]; omega
  have hh6 : h2 ≤ 1000000 := by omega
  clear hh2
  unfold ifc at HDN ⊢
  go_enter Try.func35, Try.ntmps35
  go_wp2_with fail
  refine HLN.out.mono ?_
  rintro e w1 ⟨rfl, rfl⟩
  clear hml
  go_wp2_with fail
  go_loopw [3] (fun i wr => ∃ (k : Nat) (M : List Src), i = .int .i64 ((k : Int) - 1) ∧ k ≤ h2 ∧ Turn W0 w wr p v L M n ∧ From ltS k n (atL M)) (fun i _ => (intOf i + 1).toNat)
  case atStart => exact ⟨h2, L, rfl, Nat.le_refl _, HT0.out, HST.out⟩
  case round =>
    obtain ⟨k, M, rfl, hk2, hT, hF⟩ := hrel
    have HT := Lib.hid hT
    have HF := Lib.hid hF
    clear hT hF
    cases k with
    | zero =>
      go_wp2
      go_end0
      exact ⟨rfl, M, HT.out, HF.out⟩
    | succ m =>
      have HDM := Lib.hid (HDN.out _ _ HT.out m (by omega) HF.out)
      have hz : ((m + 1 : Nat) : Int) - 1 = (m : Int) := by omega
      have hw2 : IntKind.i64.wrap ((m : Int) - 1) = (m : Int) - 1 := by rw [IntKind.wrap_i64]; omega
      rw [hz]
      have hge : (0 : Int) ≤ (m : Int) := by omega
      clear hz
      go_wp2_with fail
      refine HDM.out.mono ?_
      rintro e w3 ⟨⟨b, rfl⟩, M3, hT3, hF3⟩
      have HT3 := Lib.hid hT3
      have HF3 := Lib.hid hF3
      clear hT3 hF3
      go_wp2
      go_roundw
      case rel => exact ⟨m, _, rfl, by omega, HT3.out, HF3.out⟩
      case measure => simp [intOf]

/-- what Pop leaves -/
structure Popped (W0 w w' : World) (p : Nat) (L : List Src) (s : Src) (M : List Src) : Prop where
  hp : ∃ v', Hp W0 w' p v' M
  perm : (s :: M).Perm L
  least : ∀ u ∈ M, ltS u s = false
  heap : From ltS 0 M.length (atL M)
  kp : Kp W0.heap.size w w'
  obj : w'.heap[s.b]? = some (objS s)

set_option maxRecDepth 100000 in
set_option maxHeartbeats 4000000 in
theorem hPop_any {W0 w : World} {p : Nat} {v : Value} {L : List Src} (h : Hp W0 w p v L) (hne : 0 < L.length) (hF : From ltS 0 L.length (atL L)) :
    Calls Try.prog 36 #[ifc p] w fun e w' => ∃ s M, e = .returned (.iface 77 (ptrS s)) ∧ Popped W0 w w' p L s M := by
  obtain ⟨n, hn⟩ : ∃ n, L.length = n + 1 := ⟨L.length - 1, by omega⟩
  have HLN := Lib.hid (hlen_any h)
  have hml := m_len w p v h.cell
  have hms := m_swap w p v h.cell
  have HSW := Lib.hid (hswap_any h 0 n (by omega) (by omega))
  have hfew := h.few
  have hpm := swL_perm (L := L) (i := 0) (j := n) (by omega) (by omega)
  have hl1 : (swL L 0 n).length = n + 1 := by rw [swL_len, hn]
  have hdn : Dn ltS 0 n (atL (swL L 0 n)) 0 := by
    rw [atL_sw (by omega) (by omega)]
    refine Dn.root hF (by omega) fun k h0 h1 => ?_
    simp only [sw]
    rw [if_neg (by omega), if_neg (by omega)]
  have hat : atL (swL L 0 n) n = atL L 0 := by
    rw [atL_sw (by omega) (by omega)]
    simp only [sw]
    by_cases h0 : n = 0
    · rw [if_pos h0, h0]
    · rw [if_neg h0]; simp
  have hmin := hF.least ltS_ord
  obtain ⟨L1, hL1⟩ : ∃ L1, swL L 0 n = L1 := ⟨_, rfl⟩
  rw [hL1] at HSW hpm hl1 hdn hat
  have HDN : Hid (∀ W (_ : Hp W0 W p v L1), Calls Try.prog 43 #[ifc p, .int .i64 0, .int .i64 n] W fun e w' => (∃ b, e = .returned (.bool b)) ∧ ∃ M, Turn W0 W w' p v L1 M n ∧ From ltS 0 n (atL M)) := Lib.hid fun W hW => hdown_any hW 0 n 0 (by omega) (by omega) hdn
  have HEND : Hid (∀ W W1 W2 M, Kp W0.heap.size w W → Turn W0 W W1 p v L1 M n → From ltS 0 n (atL M) → (∃ v', Hp W0 W2 p v' (M.take n)) → Kp W0.heap.size W1 W2 → W2.heap[(atL M n).b]? = some (objS (atL M n)) → Popped W0 w W2 p L (atL M n) (M.take n)) := Lib.hid fun W W1 W2 M hk hT hf hv hk2 ho => by
    have hlm : M.length = n + 1 := by rw [hT.len, hl1]
    have e1 : atL M n = atL L 0 := (hT.rest n (Nat.le_refl _)).trans hat
    have hp2 : (atL M n :: M.take n).Perm L := by
      refine (List.perm_append_singleton _ _).symm.trans ?_
      rw [last_split hlm]
      exact hT.perm.trans hpm
    refine ⟨hv, hp2, fun u hu => ?_, ?_, (hk.trans hT.kp).trans hk2, ho⟩
    · rw [e1]
      have hul : u ∈ L := hp2.mem_iff.1 (by simp [hu])
      obtain ⟨k, hk, rfl⟩ := List.mem_iff_getElem.1 hul
      have := hmin k hk
      rwa [atL_lt hk] at this
    · rw [List.length_take, Nat.min_eq_left (by omega)]
      exact hf.congr fun k hk => atL_take hk
  have HPM : Hid (∀ W M (_ : Turn W0 W W p v L1 M n), True) := Lib.hid fun _ _ _ => trivial
  have HPOP : Hid (∀ W0' W M (_ : Turn W0 W0' W p v L1 M n), Calls Try.prog 82 #[.pointer (some ⟨p, 0, none⟩)] W fun e w' => e = .returned (.iface 77 (ptrS (atL M n))) ∧ (∃ v', Hp W0 w' p v' (M.take n)) ∧ Kp W0.heap.size W w' ∧ w'.heap[(atL M n).b]? = some (objS (atL M n))) := Lib.hid fun W0' W M hT => by
    have hlm : M.length = n + 1 := by rw [hT.len, hl1]
    exact hpop_any (by rw [last_split hlm]; exact hT.hp)
  have hmp := m_pop
  have hw1 : IntKind.i64.wrap (((n + 1 : Nat) : Int) - 1) = (n : Int) := by rw [IntKind.wrap_i64]; omega
  rw [hn] at HLN
  obtain ⟨m, hm⟩ : ∃ m, n + 1 = m := ⟨_, rfl⟩
  rw [hm] at HLN hw1
  clear h hn hF hne hfew hpm hl1 hdn hat hmin hL1 hm HPM
  unfold ifc at HDN ⊢
  go_enter Try.func36, Try.ntmps36
  go_wp2_with fail
  refine HLN.out.mono ?_
  rintro e w1 ⟨rfl, rfl⟩
  go_wp2_with fail
  refine HSW.out.mono ?_
  rintro e w2 ⟨rfl, hp2, hk2⟩
  have HP2 := Lib.hid hp2
  have HK2 := Lib.hid hk2
  clear hp2 hk2 hml hms
  go_wp2_with fail
  refine (HDN.out _ HP2.out).mono ?_
  rintro e w3 ⟨⟨b, rfl⟩, M, hT3, hF3⟩
  have HT3 := Lib.hid hT3
  have HF3 := Lib.hid hF3
  have hmp3 := hmp w3 p
  clear hT3 hF3 hmp
  go_wp2_with fail
  refine (HPOP.out _ _ _ HT3.out).mono ?_
  rintro e w4 ⟨rfl, hv4, hk4, ho4⟩
  have HPP := Lib.hid (HEND.out _ _ _ _ HK2.out HT3.out HF3.out hv4 hk4 ho4)
  clear hv4 hk4 ho4 hmp3
  go_wp2
  go_ret
  exact ⟨_, _, rfl, HPP.out⟩

set_option maxRecDepth 100000 in
set_option maxHeartbeats 4000000 in
theorem hPush_any {W0 w : World} {p : Nat} {v : Value} {L : List Src} (h : Hp W0 w p v L) (s : Src) (hso : w.heap[s.b]? = some (objS s)) (hsB : W0.heap.size ≤ s.b) (hsn : s.b ∉ L.map (·.b)) (hse : EntsIn W0 s.A s.left ∧ s.left.length ≤ s.c ∧ s.left ≠ [] ∧ s.place ≤ 1000000) (hfew : L.length < 1000000) (hF : From ltS 0 L.length (atL L)) :
    Calls Try.prog 37 #[ifc p, .iface 77 (ptrS s)] w fun e w' => e = .returned (.tuple #[]) ∧ ∃ v' M, Hp W0 w' p v' M ∧ M.Perm (L ++ [s]) ∧ From ltS 0 M.length (atL M) ∧ Kp W0.heap.size w w' := by
  have HPU := Lib.hid (hpush_any h s hso hsB hsn hse hfew)
  have HUP : Hid (∀ W v', Hp W0 W p v' (L ++ [s]) → Calls Try.prog 44 #[ifc p, .int .i64 (L.length : Nat)] W fun e w' => e = .returned (.tuple #[]) ∧ ∃ M, Turn W0 W w' p v' (L ++ [s]) M (L ++ [s]).length ∧ From ltS 0 (L ++ [s]).length (atL M)) := Lib.hid fun W v' hW => hup_any hW L.length (by simp) (by
    rw [List.length_append]
    exact Up.start hF fun k hk => atL_append hk)
  have HLN : Hid (∀ W v', Hp W0 W p v' (L ++ [s]) → Calls Try.prog 22 #[v'] W fun e w' => e = .returned (.int .i64 ((L.length + 1 : Nat) : Int)) ∧ W = w') := Lib.hid fun W v' hW => by
    have := hlen_any hW
    rwa [List.length_append] at this
  obtain ⟨L', hL'⟩ : ∃ L', L ++ [s] = L' := ⟨_, rfl⟩
  rw [hL'] at HPU HUP HLN ⊢
  obtain ⟨n, hn⟩ : ∃ n, L.length = n := ⟨_, rfl⟩
  obtain ⟨m, hm⟩ : ∃ m, n + 1 = m := ⟨_, rfl⟩
  rw [hn] at HUP HLN hfew
  rw [hm] at HLN
  have hw1 : IntKind.i64.wrap ((m : Int) - 1) = (n : Int) := by rw [IntKind.wrap_i64]; omega
  have hmp := m_push w p
  have HML := Lib.hid fun W v h => m_len W p v h
  clear h hso hsB hsn hse hfew hF hL' hn hm
  simp only [ptrS] at HPU ⊢
  unfold ifc at HUP ⊢
  go_enter Try.func37, Try.ntmps37
  go_wp2_with fail
  refine HPU.out.mono ?_
  rintro e w2 ⟨rfl, v2, hp2, hk2⟩
  have HP2 := Lib.hid hp2
  have HK2 := Lib.hid hk2
  have hml := HML.out w2 _ hp2.cell
  clear hp2 hk2 hmp
  go_wp2_with fail
  refine (HLN.out _ _ HP2.out).mono ?_
  rintro e w3 ⟨rfl, rfl⟩
  clear hml
  go_wp2_with fail
  refine (HUP.out _ _ HP2.out).mono ?_
  rintro e w4 ⟨rfl, M, hT4, hF4⟩
  have HT4 := Lib.hid hT4
  have HF4 : Hid (From ltS 0 M.length (atL M)) := Lib.hid (by rw [hT4.len]; exact hF4)
  clear hT4 hF4
  go_wp2
  go_end0
  exact ⟨rfl, _, M, HT4.out.hp, HT4.out.perm, HF4.out, HK2.out.trans HT4.out.kp⟩
end Go.Proofs.Ytfbhdggmefacjaa
