/- Reserve, Release, Change; New. -/
import Derived.Test.YtlfhjbilnfkabaaBb
namespace Go.Proofs.Ytlfhjbilnfkabaa
open Go.RowKit Go.MuLone
open BM

theorem lock_any {w : World} {b : Nat} {s : S} (h : BAt w b 0 s) : Calls Try.prog 52 #[.pointer (some ⟨b, 1, none⟩)] w fun e w' => e = .returned (.tuple #[]) ∧ BAt w' b 1 s ∧ w.grownBy w' (some b) := by
  refine (lock_free muLib ⟨b, 1, none⟩ w (h.cell 1) (h.frozen 1)).mono ?_
  rintro e w' ⟨he, hw⟩
  refine ⟨he, ?_, ?_⟩
  · have := heap_set_fr h 1 (.int .i32 1)
    rw [hw]; exact this
  · rw [hw]; exact grownBy_setCell w ⟨b, 1, none⟩ _

theorem unlock_any {w : World} {b : Nat} {s : S} (h : BAt w b 1 s) (u : FrameMode) : CallsD Try.prog 53 #[.pointer (some ⟨b, 1, none⟩)] u w fun e u' w' => u' = u ∧ e = .returned (.tuple #[]) ∧ BAt w' b 0 s ∧ w.grownBy w' (some b) := by
  refine (unlock_deferred muLib ⟨b, 1, none⟩ u w (h.cell 1) (h.frozen 1)).mono ?_
  rintro e u' w' ⟨hu, he, hw⟩
  refine ⟨hu, he, ?_, ?_⟩
  · have := heap_set_fr h 1 (.int .i32 0)
    rw [hw]; exact this
  · rw [hw]; exact grownBy_setCell w ⟨b, 1, none⟩ _

theorem reserve_nil (k n : Int) (w : World) : Calls Try.prog 40 #[.pointer none, .int .i64 k, .int .i64 n] w fun e w' => e = .returned (.int .i64 1) ∧ w = w' := by
  go_enter_defers Try.func40, Try.ntmps40
  go_wp2_with (go_at_call 51; refine (check_nil _ _ _).mono ?_; rintro e w' ⟨rfl, rfl⟩)
  exact ⟨_, results_tmp rfl _ _ _, rfl, rfl⟩

set_option maxHeartbeats 1000000 in
theorem reserve_any {w : World} {b : Nat} {s : S} (h : BAt w b 0 s) (ok : Ok s) (k n : Int) (hn : n ≤ 9223372036854775807) :
    Calls Try.prog 40 #[.pointer (some ⟨b, 0, none⟩), .int .i64 k, .int .i64 n] w (Out w b 0 (reserve k n s)) := by
  have HC := Lib.hid (check_any b k n)
  by_cases hb : bad k n
  · have hr : reserve k n s = (2, s) := by unfold reserve; rw [if_pos hb]
    rw [hr]
    rw [if_pos hb] at HC
    clear hr
    go_enter_defers Try.func40, Try.ntmps40
    go_wp2_with (go_at_call 51; refine (HC.out _).mono ?_; rintro e w' ⟨rfl, rfl⟩)
    exact ⟨_, results_tmp rfl _ _ _, rfl, h, grown_refl _ _⟩
  · have hr : reserve k n s = (if n > s.lim - s.used then (14, s) else (0, s.put k (s.of k + n))) := by unfold reserve; rw [if_neg hb]
    rw [hr]
    rw [if_neg hb] at HC
    have hk : known k := by unfold bad at hb; by_cases hk : known k <;> simp_all
    have hn0 : 0 ≤ n := by unfold bad at hb; by_cases hk : n < 0 <;> simp_all
    have hof := of_nonneg ok k
    have HAD := Lib.hid (fun W (hW : BAt W b 1 s) => add_any hW ok k n hk (by omega))
    obtain ⟨r, hrr⟩ : ∃ r, (if n > s.lim - s.used then ((14 : Int), s) else (0, s.put k (s.of k + n))) = r := ⟨_, rfl⟩
    rw [hrr] at HAD ⊢
    have HLK := Lib.hid (lock_any h)
    clear hr hrr ok h hb
    go_enter_defers Try.func40, Try.ntmps40
    go_wp2_with fail
    refine (HC.out _).mono ?_
    rintro e w' ⟨rfl, rfl⟩
    go_wp2_with fail
    refine HLK.out.mono ?_
    rintro e w1 ⟨rfl, hB1, hG1⟩
    have HG1 := Lib.hid hG1
    have HAD1 := Lib.hid (HAD.out _ hB1)
    clear hG1 hB1
    go_wp2_with fail
    refine HAD1.out.mono ?_
    rintro e w2 ⟨rfl, hB2, hG2⟩
    have HUN := Lib.hid (unlock_any hB2)
    have HG2 := Lib.hid (grown_trans HG1.out hG2)
    clear hB2 hG2
    go_wp2_with fail
    refine leaves_cons (f := 53) (args := #[.pointer (some ⟨b, 1, none⟩)]) (by simp) (by simp [go_sem]) ?_
    refine (HUN.out .returning).mono ?_
    rintro e u' w3 ⟨rfl, rfl, hB3, hG3⟩
    exact ⟨_, results_tmp rfl _ _ _, rfl, hB3, grown_trans HG2.out hG3⟩

theorem release_nil (k n : Int) (w : World) : Calls Try.prog 60 #[.pointer none, .int .i64 k, .int .i64 n] w fun e w' => e = .returned (.int .i64 1) ∧ w = w' := by
  go_enter_defers Try.func60, Try.ntmps60
  go_wp2_with (go_at_call 51; refine (check_nil _ _ _).mono ?_; rintro e w' ⟨rfl, rfl⟩)
  exact ⟨_, results_tmp rfl _ _ _, rfl, rfl⟩
theorem change_nil (k n : Int) (w : World) : Calls Try.prog 32 #[.pointer none, .int .i64 k, .int .i64 n] w fun e w' => e = .returned (.int .i64 1) ∧ w = w' := by
  go_enter_defers Try.func32, Try.ntmps32
  go_wp2_with (go_at_call 51; refine (check_nil _ _ _).mono ?_; rintro e w' ⟨rfl, rfl⟩)
  exact ⟨_, results_tmp rfl _ _ _, rfl, rfl⟩

set_option maxHeartbeats 1000000 in
theorem release_any {w : World} {b : Nat} {s : S} (h : BAt w b 0 s) (ok : Ok s) (k n : Int) (hn : n ≤ 9223372036854775807) :
    Calls Try.prog 60 #[.pointer (some ⟨b, 0, none⟩), .int .i64 k, .int .i64 n] w (Out w b 0 (release k n s)) := by
  have HC := Lib.hid (check_any b k n)
  by_cases hb : bad k n
  · have hr : release k n s = (2, s) := by unfold release; rw [if_pos hb]
    rw [hr]
    rw [if_pos hb] at HC
    clear hr
    go_enter_defers Try.func60, Try.ntmps60
    go_wp2_with (go_at_call 51; refine (HC.out _).mono ?_; rintro e w' ⟨rfl, rfl⟩)
    exact ⟨_, results_tmp rfl _ _ _, rfl, h, grown_refl _ _⟩
  · have hr : release k n s = (if n > s.of k then (2, s) else (0, s.put k (s.of k - n))) := by unfold release; rw [if_neg hb]
    rw [hr]
    rw [if_neg hb] at HC
    have hk : known k := by unfold bad at hb; by_cases hk : known k <;> simp_all
    have hn0 : 0 ≤ n := by unfold bad at hb; by_cases hk : n < 0 <;> simp_all
    have HLK := Lib.hid (lock_any h)
    have HOF := Lib.hid (fun W (hW : BAt W b 1 s) => of_any hW k)
    by_cases hgt : n > s.of k
    · rw [if_pos hgt]
      obtain ⟨q, hq⟩ : ∃ q, s.of k = q := ⟨_, rfl⟩
      rw [hq] at hgt HOF
      clear hr hq ok h hb
      go_enter_defers Try.func60, Try.ntmps60
      go_wp2_with fail
      refine (HC.out _).mono ?_
      rintro e w' ⟨rfl, rfl⟩
      go_wp2_with fail
      refine HLK.out.mono ?_
      rintro e w1 ⟨rfl, hB1, hG1⟩
      have HG1 := Lib.hid hG1
      have HB1 := Lib.hid hB1
      clear hG1 hB1
      go_wp2_with fail
      refine (HOF.out _ HB1.out).mono ?_
      rintro e w2 ⟨rfl, rfl⟩
      have HUN := Lib.hid (unlock_any HB1.out)
      go_wp2_with fail
      refine leaves_cons (f := 53) (args := #[.pointer (some ⟨b, 1, none⟩)]) (by simp) (by simp [go_sem]) ?_
      refine (HUN.out .returning).mono ?_
      rintro e u' w3 ⟨rfl, rfl, hB3, hG3⟩
      exact ⟨_, results_tmp rfl _ _ _, rfl, hB3, grown_trans HG1.out hG3⟩
    · rw [if_neg hgt]
      have hof := of_nonneg ok k
      have hA : (if -n > s.lim - s.used then ((14 : Int), s) else (0, s.put k (s.of k + -n))) = (0, s.put k (s.of k - n)) := by
        have := ok.uh; have := ok.hl
        rw [if_neg (by omega)]; rfl
      have HAD := Lib.hid (fun W (hW : BAt W b 1 s) => add_any hW ok k (-n) hk (by omega))
      rw [hA] at HAD
      obtain ⟨r, hrr⟩ : ∃ r, ((0 : Int), s.put k (s.of k - n)) = r := ⟨_, rfl⟩
      rw [hrr] at HAD ⊢
      obtain ⟨q, hq⟩ : ∃ q, s.of k = q := ⟨_, rfl⟩
      rw [hq] at hgt HOF hof
      obtain ⟨m, hm⟩ : ∃ m, -n = m := ⟨_, rfl⟩
      rw [hm] at HAD
      clear hr hrr hA hq ok h hb
      go_enter_defers Try.func60, Try.ntmps60
      go_wp2_with fail
      refine (HC.out _).mono ?_
      rintro e w' ⟨rfl, rfl⟩
      go_wp2_with fail
      refine HLK.out.mono ?_
      rintro e w1 ⟨rfl, hB1, hG1⟩
      have HG1 := Lib.hid hG1
      have HB1 := Lib.hid hB1
      have HAD1 := Lib.hid (HAD.out _ hB1)
      clear hG1 hB1
      go_wp2_with fail
      refine (HOF.out _ HB1.out).mono ?_
      rintro e w2 ⟨rfl, rfl⟩
      go_wp2_with fail
      refine HAD1.out.mono ?_
      rintro e w2 ⟨rfl, hB2, hG2⟩
      have HUN := Lib.hid (unlock_any hB2)
      have HG2 := Lib.hid (grown_trans HG1.out hG2)
      clear hB2 hG2
      go_wp2_with fail
      refine leaves_cons (f := 53) (args := #[.pointer (some ⟨b, 1, none⟩)]) (by simp) (by simp [go_sem]) ?_
      refine (HUN.out .returning).mono ?_
      rintro e u' w3 ⟨rfl, rfl, hB3, hG3⟩
      exact ⟨_, results_tmp rfl _ _ _, rfl, hB3, grown_trans HG2.out hG3⟩

set_option maxHeartbeats 1000000 in
theorem change_any {w : World} {b : Nat} {s : S} (h : BAt w b 0 s) (ok : Ok s) (k n : Int) (hn : n ≤ 9223372036854775807) :
    Calls Try.prog 32 #[.pointer (some ⟨b, 0, none⟩), .int .i64 k, .int .i64 n] w (Out w b 0 (change k n s)) := by
  have HC := Lib.hid (check_any b k n)
  by_cases hb : bad k n
  · have hr : change k n s = (2, s) := by unfold change; rw [if_pos hb]
    rw [hr]
    rw [if_pos hb] at HC
    clear hr
    go_enter_defers Try.func32, Try.ntmps32
    go_wp2_with (go_at_call 51; refine (HC.out _).mono ?_; rintro e w' ⟨rfl, rfl⟩)
    exact ⟨_, results_tmp rfl _ _ _, rfl, h, grown_refl _ _⟩
  · have hr : change k n s = (if n > s.lim - (s.used - s.of k) then (14, s) else (0, s.put k n)) := by unfold change; rw [if_neg hb]
    rw [hr]
    rw [if_neg hb] at HC
    have hk : known k := by unfold bad at hb; by_cases hk : known k <;> simp_all
    have hn0 : 0 ≤ n := by unfold bad at hb; by_cases hk : n < 0 <;> simp_all
    have HLK := Lib.hid (lock_any h)
    have HOF := Lib.hid (fun W (hW : BAt W b 1 s) => of_any hW k)
    have hof := of_nonneg ok k
    have hA : (if n - s.of k > s.lim - s.used then ((14 : Int), s) else (0, s.put k (s.of k + (n - s.of k)))) = (if n > s.lim - (s.used - s.of k) then (14, s) else (0, s.put k n)) := by
      rw [show s.of k + (n - s.of k) = n from by omega]
      by_cases hh : n > s.lim - (s.used - s.of k)
      · rw [if_pos hh, if_pos (by omega)]
      · rw [if_neg hh, if_neg (by omega)]
    have HAD := Lib.hid (fun W (hW : BAt W b 1 s) => add_any hW ok k (n - s.of k) hk (by omega))
    rw [hA] at HAD
    obtain ⟨r, hrr⟩ : ∃ r, (if n > s.lim - (s.used - s.of k) then ((14 : Int), s) else (0, s.put k n)) = r := ⟨_, rfl⟩
    rw [hrr] at HAD ⊢
    have hofl : s.of k ≤ 1099511627776 := by have := of_le ok k; have := ok.uh; have := ok.hl; have := ok.lt; omega
    obtain ⟨q, hq⟩ : ∃ q, s.of k = q := ⟨_, rfl⟩
    rw [hq] at HOF hof hofl HAD
    clear hr hrr hA hq ok h hb
    go_enter_defers Try.func32, Try.ntmps32
    go_wp2_with fail
    refine (HC.out _).mono ?_
    rintro e w' ⟨rfl, rfl⟩
    go_wp2_with fail
    refine HLK.out.mono ?_
    rintro e w1 ⟨rfl, hB1, hG1⟩
    have HG1 := Lib.hid hG1
    have HB1 := Lib.hid hB1
    have HAD1 := Lib.hid (HAD.out _ hB1)
    clear hG1 hB1
    go_wp2_with fail
    refine (HOF.out _ HB1.out).mono ?_
    rintro e w2 ⟨rfl, rfl⟩
    go_wp2_with fail
    refine HAD1.out.mono ?_
    rintro e w2 ⟨rfl, hB2, hG2⟩
    have HUN := Lib.hid (unlock_any hB2)
    have HG2 := Lib.hid (grown_trans HG1.out hG2)
    clear hB2 hG2
    go_wp2_with fail
    refine leaves_cons (f := 53) (args := #[.pointer (some ⟨b, 1, none⟩)]) (by simp) (by simp [go_sem]) ?_
    refine (HUN.out .returning).mono ?_
    rintro e u' w3 ⟨rfl, rfl, hB3, hG3⟩
    exact ⟨_, results_tmp rfl _ _ _, rfl, hB3, grown_trans HG2.out hG3⟩

theorem new_at (w : World) (x y : Int) (hy : y = x) : BAt (w.alloc (.cells (bC y 0 0 0 0 0 0 0) 72)) w.heap.size 0 ⟨x, 0, 0, 0, 0, 0⟩ := by
  subst hy
  exact heap_alloc_new w _

theorem new_any (l : Int) (w : World) : Calls Try.prog 8 #[.int .i64 l] w fun e w' => e = .returned (.pointer (some ⟨w.heap.size, 0, none⟩)) ∧ BAt w' w.heap.size 0 (new l) ∧ Below w.heap.size w w' := by
  have HN := Lib.hid (fun y (hy : y = top l) => new_at w (top l) y hy)
  have HT : Hid (top l = min (max l 0) 1099511627776) := rfl
  go_enter Try.func8, Try.ntmps8
  go_wp2
  all_goals
    go_ret
    exact ⟨rfl, HN.out _ (by rw [HT.out]; omega), (Below.refl _ _).alloc (Nat.le_refl _) _⟩
end Go.Proofs.Ytlfhjbilnfkabaa
