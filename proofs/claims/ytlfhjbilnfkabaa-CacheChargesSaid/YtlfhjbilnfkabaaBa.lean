/- The walks of a budget's functions. -/
import Derived.Test.YtlfhjbilnfkabaaLk
namespace Go.Proofs.Ytlfhjbilnfkabaa
open Go.RowKit Go.MuLone
open BM

theorem known_any (k : Int) (w : World) : Calls Try.prog 36 #[.int .i64 k] w fun e w' => e = .returned (.bool (decide (known k))) ∧ w = w' := by
  by_cases h1 : 0 ≤ k
  · by_cases h2 : k < 4
    · have h : decide (known k) = true := by simp [known, h1, h2]
      rw [h]
      have h1' : k ≥ 0 := h1
      clear h
      go_enter Try.func36, Try.ntmps36
      go_wp2
      go_ret
      exact ⟨ret_bool (by simp), rfl⟩
    · have h : decide (known k) = false := by simp [known, h2]
      rw [h]
      clear h
      go_enter Try.func36, Try.ntmps36
      go_wp2
      go_ret
      exact ⟨ret_bool (by simp), rfl⟩
  · have h : decide (known k) = false := by simp [known, h1]
    rw [h]
    clear h
    go_enter Try.func36, Try.ntmps36
    go_wp2
    go_ret
    exact ⟨ret_bool (by simp), rfl⟩

theorem of_nil (k : Int) (w : World) : Calls Try.prog 17 #[.pointer none, .int .i64 k] w fun e w' => e = .returned (.int .i64 0) ∧ w = w' := by
  go_enter Try.func17, Try.ntmps17
  go_wp2
  go_ret
  exact ⟨rfl, rfl⟩
theorem used_nil (w : World) : Calls Try.prog 18 #[.pointer none] w fun e w' => e = .returned (.int .i64 0) ∧ w = w' := by
  go_enter Try.func18, Try.ntmps18
  go_wp2
  go_ret
  exact ⟨rfl, rfl⟩
theorem high_nil (w : World) : Calls Try.prog 27 #[.pointer none] w fun e w' => e = .returned (.int .i64 0) ∧ w = w' := by
  go_enter Try.func27, Try.ntmps27
  go_wp2
  go_ret
  exact ⟨rfl, rfl⟩
theorem left_nil (w : World) : Calls Try.prog 21 #[.pointer none] w fun e w' => e = .returned (.int .i64 0) ∧ w = w' := by
  go_enter Try.func21, Try.ntmps21
  go_wp2
  go_ret
  exact ⟨rfl, rfl⟩

section
variable {w : World} {b : Nat} {c : Int} {s : S}
theorem used_any (h : BAt w b c s) : Calls Try.prog 18 #[.pointer (some ⟨b, 0, none⟩)] w fun e w' => e = .returned (.int .i64 s.used) ∧ w = w' := by
  have c3 : w.cell? ⟨b, 3, none⟩ = some (.int .i64 s.used) := h.cell 3
  go_enter Try.func18, Try.ntmps18
  go_wp2_with fail
  refine (load_any b 3 _ _ c3).mono ?_
  rintro e w' ⟨rfl, rfl⟩
  go_wp2
  go_ret
  exact ⟨rfl, rfl⟩
theorem high_any (h : BAt w b c s) : Calls Try.prog 27 #[.pointer (some ⟨b, 0, none⟩)] w fun e w' => e = .returned (.int .i64 s.high) ∧ w = w' := by
  have c3 : w.cell? ⟨b, 4, none⟩ = some (.int .i64 s.high) := h.cell 4
  go_enter Try.func27, Try.ntmps27
  go_wp2_with fail
  refine (load_any b 4 _ _ c3).mono ?_
  rintro e w' ⟨rfl, rfl⟩
  go_wp2
  go_ret
  exact ⟨rfl, rfl⟩
theorem left_q (h : BAt w b c s) (ok : Ok s) : Calls Try.prog 21 #[.pointer (some ⟨b, 0, none⟩)] w fun e w' => e = .returned (.int .i64 (s.lim - s.used)) ∧ ∃ n, w' = w.drewN n := by
  have c0 : w.cell? ⟨b, 0, none⟩ = some (.int .i64 s.lim) := h.cell 0
  have c3 : w.cell? ⟨b, 3, none⟩ = some (.int .i64 s.used) := h.cell 3
  obtain ⟨p0, p1, p2, p3, uh, h1, h2⟩ := ok
  have hu : 0 ≤ s.used := by unfold S.used; omega
  have HL := Lib.hid (fun W h => load_any b 3 s.used W h)
  obtain ⟨u, hu'⟩ : ∃ u, s.used = u := ⟨_, rfl⟩
  obtain ⟨l, hl'⟩ : ∃ l, s.lim = l := ⟨_, rfl⟩
  rw [hu'] at c3 hu uh HL ⊢
  rw [hl'] at c0 h1 h2 ⊢
  clear h hu' hl'
  go_enter Try.func21, Try.ntmps21
  go_wp2
  go_quiet ((go_at_call 37; exact Calls.quiet_of_same ((HL.out _ (by simpa using c3)).mono fun _ _ h => ⟨h.1, h.2.symm⟩)))
  go_wp2
  go_ret
  exact ⟨rfl, _, rfl⟩
theorem left_any (h : BAt w b c s) (ok : Ok s) : Calls Try.prog 21 #[.pointer (some ⟨b, 0, none⟩)] w fun e w' => e = .returned (.int .i64 (s.lim - s.used)) ∧ Below w.heap.size w w' :=
  (left_q h ok).mono fun _ _ ⟨h1, n, h2⟩ => ⟨h1, by rw [h2]; exact below_drewN (Below.refl _ _) _⟩
theorem of_other {w : World} {b : Nat} (k : Int) (hk : ¬ known k) : Calls Try.prog 17 #[.pointer (some ⟨b, 0, none⟩), .int .i64 k] w fun e w' => e = .returned (.int .i64 0) ∧ w = w' := by
  have HK := Lib.hid (known_any k)
  have hd : decide (known k) = false := by simp [hk]
  rw [hd] at HK
  clear hd
  go_enter Try.func17, Try.ntmps17
  go_wp2_with fail
  refine (HK.out _).mono ?_
  rintro e w' ⟨rfl, rfl⟩
  go_wp2
  go_ret
  exact ⟨rfl, rfl⟩
theorem of_known (h : BAt w b c s) (k : Int) (hk : known k) : Calls Try.prog 17 #[.pointer (some ⟨b, 0, none⟩), .int .i64 k] w fun e w' => e = .returned (.int .i64 (s.of k)) ∧ w = w' := by
  have HK := Lib.hid (known_any k)
  have hd : decide (known k) = true := by simp [hk]
  rw [hd] at HK
  clear hd
  rcases known_cases hk with rfl | rfl | rfl | rfl
  · have c3 : w.cell? ⟨b, 5, none⟩ = some (.int .i64 s.k0) := h.cell 5
    go_enter Try.func17, Try.ntmps17
    go_wp2_with (first | (go_at_call 36; refine (HK.out _).mono ?_; rintro e w' ⟨rfl, rfl⟩) | (go_at_call 37; refine (load_any b 5 _ _ c3).mono ?_; rintro e w' ⟨rfl, rfl⟩))
    go_ret
    exact ⟨by simp [S.of], rfl⟩
  · have c3 : w.cell? ⟨b, 6, none⟩ = some (.int .i64 s.k1) := h.cell 6
    go_enter Try.func17, Try.ntmps17
    go_wp2_with (first | (go_at_call 36; refine (HK.out _).mono ?_; rintro e w' ⟨rfl, rfl⟩) | (go_at_call 37; refine (load_any b 6 _ _ c3).mono ?_; rintro e w' ⟨rfl, rfl⟩))
    go_ret
    exact ⟨by simp [S.of], rfl⟩
  · have c3 : w.cell? ⟨b, 7, none⟩ = some (.int .i64 s.k2) := h.cell 7
    go_enter Try.func17, Try.ntmps17
    go_wp2_with (first | (go_at_call 36; refine (HK.out _).mono ?_; rintro e w' ⟨rfl, rfl⟩) | (go_at_call 37; refine (load_any b 7 _ _ c3).mono ?_; rintro e w' ⟨rfl, rfl⟩))
    go_ret
    exact ⟨by simp [S.of], rfl⟩
  · have c3 : w.cell? ⟨b, 8, none⟩ = some (.int .i64 s.k3) := h.cell 8
    go_enter Try.func17, Try.ntmps17
    go_wp2_with (first | (go_at_call 36; refine (HK.out _).mono ?_; rintro e w' ⟨rfl, rfl⟩) | (go_at_call 37; refine (load_any b 8 _ _ c3).mono ?_; rintro e w' ⟨rfl, rfl⟩))
    go_ret
    exact ⟨by simp [S.of], rfl⟩
theorem of_any (h : BAt w b c s) (k : Int) : Calls Try.prog 17 #[.pointer (some ⟨b, 0, none⟩), .int .i64 k] w fun e w' => e = .returned (.int .i64 (s.of k)) ∧ w = w' := by
  by_cases hk : known k
  · exact of_known h k hk
  · have : s.of k = 0 := by
      unfold S.of; unfold known at hk
      repeat' split
      all_goals omega
    rw [this]
    exact of_other k hk
end

theorem check_nil (k n : Int) (w : World) : Calls Try.prog 51 #[.pointer none, .int .i64 k, .int .i64 n] w fun e w' => e = .returned (.int .i64 1) ∧ w = w' := by
  go_enter Try.func51, Try.ntmps51
  go_wp2
  go_ret
  exact ⟨rfl, rfl⟩
theorem check_any (b : Nat) (k n : Int) (w : World) : Calls Try.prog 51 #[.pointer (some ⟨b, 0, none⟩), .int .i64 k, .int .i64 n] w fun e w' => e = .returned (.int .i64 (if bad k n then 2 else 0)) ∧ w = w' := by
  have HK := Lib.hid (known_any k)
  by_cases hk : known k
  · have hd : decide (known k) = true := by simp [hk]
    rw [hd] at HK
    by_cases hn : n < 0
    · have hb : (if bad k n then (2 : Int) else 0) = 2 := by rw [if_pos (show bad k n from Or.inr hn)]
      rw [hb]
      clear hd hb
      go_enter Try.func51, Try.ntmps51
      go_wp2_with (go_at_call 36; refine (HK.out _).mono ?_; rintro e w' ⟨rfl, rfl⟩)
      go_ret
      exact ⟨rfl, rfl⟩
    · have hb : (if bad k n then (2 : Int) else 0) = 0 := by rw [if_neg (show ¬ bad k n by unfold bad; simp [hk, hn])]
      rw [hb]
      clear hd hb
      go_enter Try.func51, Try.ntmps51
      go_wp2_with (go_at_call 36; refine (HK.out _).mono ?_; rintro e w' ⟨rfl, rfl⟩)
      go_ret
      exact ⟨rfl, rfl⟩
  · have hd : decide (known k) = false := by simp [hk]
    rw [hd] at HK
    have hb : (if bad k n then (2 : Int) else 0) = 2 := by rw [if_pos (show bad k n from Or.inl hk)]
    rw [hb]
    clear hd hb
    go_enter Try.func51, Try.ntmps51
    go_wp2_with (go_at_call 36; refine (HK.out _).mono ?_; rintro e w' ⟨rfl, rfl⟩)
    go_ret
    exact ⟨rfl, rfl⟩
end Go.Proofs.Ytlfhjbilnfkabaa
