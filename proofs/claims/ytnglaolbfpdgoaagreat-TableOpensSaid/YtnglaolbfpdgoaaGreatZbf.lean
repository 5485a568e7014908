/- Texts joined by bundle.py: Ra. -/
import Derived.Test.YtnglaolbfpdgoaaGreatZbd
import Derived.Test.YtnglaolbfpdgoaaGreatZbe

/- The document's side: body, number. -/
namespace Go.Proofs.YtnglaolbfpdgoaaGreat
open Go.RowKit
open SK
open TB (Bs Sp)

set_option maxRecDepth 100000 in
set_option maxHeartbeats 1000000 in
theorem rbody_any (s : ByteArray) (a n : Int) (w : World) (hs : s.size ≤ 281474976710656) (ha0 : -9223372036854775808 ≤ a) (ha1 : a ≤ 9223372036854775807) (hn0 : -9223372036854775808 ≤ n) (hn1 : n ≤ 9223372036854775807) :
    Calls Tryz.prog 41 #[.string s, .int .i64 a, .int .i64 n] w fun e w' => e = .returned (codeV (TB.bodyOf s.data.toList a n)) ∧ Below w.heap.size w w' := by
  have HS := Lib.hid (fun W => part_any s a n W hs ha0 ha1 hn0 hn1)
  have HSS := Lib.hid hs
  clear hs
  unfold TB.bodyOf
  cases hp : TB.part s.data.toList a n with
  | error c =>
    have hc := part_range hp
    subst hc
    have HS2 : Hid (∀ W, Calls Tryz.prog 64 #[.string s, .int .i64 a, .int .i64 n] W fun e w' => e = .returned (.tuple #[.string ⟨#[]⟩, .int .i64 2]) ∧ W = w') := Lib.hid (by intro W; have := HS.out W; rw [hp] at this; exact this)
    clear hp HS
    go_enter Tryz.func41, Tryz.ntmps41
    go_wp2_with fail
    refine (HS2.out _).mono ?_
    rintro e w1 ⟨rfl, rfl⟩
    go_wp2
    go_ret2
    exact ⟨rfl, Below.refl _ _⟩
  | ok p =>
    have HS2 : Hid (∀ W, Calls Tryz.prog 64 #[.string s, .int .i64 a, .int .i64 n] W fun e w' => e = .returned (.tuple #[.string ⟨p.toArray⟩, .int .i64 0]) ∧ W = w') := Lib.hid (by intro W; have := HS.out W; rw [hp] at this; exact this)
    have hpl : p.length ≤ 281474976710656 := by
      unfold TB.part at hp
      split at hp
      · cases hp
      · simp only [Except.ok.injEq] at hp
        have := HSS.out
        rw [← hp, List.length_take, List.length_drop, size_list]
        omega
    have HG0 := Lib.hid (fun W => F3.rget_any ⟨p.toArray⟩ 0 W (by show p.toArray.size ≤ _; rw [List.size_toArray]; exact hpl) (by omega) (by omega))
    clear hp HS hpl
    obtain ⟨b, m, c, hv⟩ : ∃ b m c, F3.vget p 0 = (b, m, c) := ⟨_, _, _, rfl⟩
    have HG : Hid (∀ W, Calls Tryz.prog 78 #[.string ⟨p.toArray⟩, .int .i64 0] W fun e w' => e = .returned (.tuple #[.string ⟨b.toArray⟩, .int .i64 m, .int .i64 c]) ∧ Below W.heap.size W w') := Lib.hid (fun W => (HG0.out W).mono fun e w' h => ⟨by have h1 := h.1; unfold F3.getOut at h1; simp only [hv] at h1; exact h1, h.2⟩)
    have HX : Hid (TB.one p n = if c ≠ 0 then .error c else if m ≠ n then .error 4 else .ok b) := Lib.hid (by unfold TB.one; rw [hv])
    clear HG0 hv
    by_cases hc : c = 0
    · subst hc
      by_cases hm : m = n
      · subst hm
        have hmn : (m == m) = true := beq_self_eq_true _
        have hmn' : (m != m) = false := by simp
        go_enter Tryz.func41, Tryz.ntmps41
        go_wp2_with fail
        refine (HS2.out _).mono ?_
        rintro e w1 ⟨rfl, rfl⟩
        go_wp2_with fail
        refine (HG.out _).mono ?_
        rintro e w1 ⟨rfl, hb⟩
        have HB := Lib.hid hb
        clear hb
        go_wp2
        go_ret2
        refine ⟨?_, HB.out⟩
        simp [TB.one', HX.out, codeV]
      · have hmn : (m == n) = false := by simpa using hm
        have hmn' : (m != n) = true := by simpa using hm
        go_enter Tryz.func41, Tryz.ntmps41
        go_wp2_with fail
        refine (HS2.out _).mono ?_
        rintro e w1 ⟨rfl, rfl⟩
        go_wp2_with fail
        refine (HG.out _).mono ?_
        rintro e w1 ⟨rfl, hb⟩
        have HB := Lib.hid hb
        clear hb
        go_wp2
        go_ret2
        refine ⟨?_, HB.out⟩
        simp [TB.one', HX.out, codeV, hm]
    · have hcn : (c == 0) = false := by simpa using hc
      have hcn' : (c != 0) = true := by simpa using hc
      go_enter Tryz.func41, Tryz.ntmps41
      go_wp2_with fail
      refine (HS2.out _).mono ?_
      rintro e w1 ⟨rfl, rfl⟩
      go_wp2_with fail
      refine (HG.out _).mono ?_
      rintro e w1 ⟨rfl, hb⟩
      have HB := Lib.hid hb
      clear hb
      go_wp2
      go_ret2
      refine ⟨?_, HB.out⟩
      simp [TB.one', HX.out, codeV, hc]

set_option maxRecDepth 100000 in
theorem rnumber_any (s : ByteArray) (w : World) (hs : s.size = 8) :
    Calls Tryz.prog 67 #[.string s] w fun e w' => e = .returned (.int .i64 (if 1152921504606846976 < TB.big s.data.toList then -1 else (TB.big s.data.toList : Nat))) ∧ w = w' := by
  have HSL := Lib.hid (size_list s)
  obtain ⟨X, hX⟩ : ∃ X, TB.big s.data.toList = X := ⟨_, rfl⟩
  rw [hX]
  have HXX := Lib.hid hX
  clear hX
  go_enter Tryz.func67, Tryz.ntmps67
  go_wp2
  go_loop [3, 4] (fun r i => ∃ (k R : Nat), k ≤ 8 ∧ i = .int .i64 k ∧ r = .int .u64 R ∧ Hid (TB.big (s.data.toList.take k) = R)) (fun _ i => 8 - (intOf i).toNat)
  case atStart => exact ⟨0, 0, by omega, rfl, rfl, Lib.hid rfl⟩
  case round =>
    obtain ⟨k, R, hk, rfl, rfl, HR⟩ := hrel
    by_cases hlt : k < 8
    · have hlt2 : k < s.size := by omega
      have hst := big_snoc s.data.toList k (by rw [HSL.out]; omega)
      rw [byte_of s k hlt2, HR.out] at hst
      have hRl := big_lt s.data.toList k (by rw [HSL.out]; omega)
      rw [HR.out] at hRl
      have hp : 256 ^ k ≤ 256 ^ 7 := Nat.pow_le_pow_right (by decide) (by omega)
      have hRs : R < 72057594037927936 := by omega
      obtain ⟨c, hc⟩ : ∃ c, s[k] = c := ⟨_, rfl⟩
      rw [hc] at hst
      have hcl := c.toNat_lt
      have HX1 : Hid (IntKind.u64.wrap ((R : Int) * 256 + (c.toNat : Int)) = ((R * 256 + c.toNat : Nat) : Int)) := Lib.hid (by rw [IntKind.wrap_u64]; omega)
      have HC : Hid (IntKind.u64.wrap (s[k].toNat : Int) = (c.toNat : Int)) := by rw [hc]; exact Lib.hid (by rw [IntKind.wrap_u64]; omega)
      have HM : Hid (IntKind.u64.wrap ((R : Int) * 256) = (R : Int) * 256) := Lib.hid (by rw [IntKind.wrap_u64]; omega)
      have HST := Lib.hid hst
      have HCC := Lib.hid hc
      clear hst hc HR hRl hp hRs
      go_wp2
      go_round
      case rel => exact ⟨k + 1, R * 256 + c.toNat, by omega, by go_num, by first | rw [HC.out, HM.out, HX1.out] | rw [HCC.out, HM.out, HX1.out] | rw [HC.out, HX1.out] | rw [HCC.out, HX1.out] | rw [HCC.out]; rfl, HST⟩
      case measure => simp [intOf]; omega
    · obtain rfl : k = 8 := by omega
      have htk : s.data.toList.take 8 = s.data.toList := List.take_of_length_le (by rw [HSL.out]; omega)
      rw [htk] at HR
      have hbl := big_lt8 s.data.toList (by rw [HSL.out]; omega)
      rw [HR.out] at hbl HXX
      obtain rfl : R = X := HXX.out
      by_cases hg : 1152921504606846976 < R
      · have d1 : decide ((1152921504606846976 : Int) < (R : Int)) = true := by simpa using (by omega : (1152921504606846976 : Int) < (R : Int))
        have d1' : decide (1152921504606846976 < R) = true := by simpa using hg
        go_wp2
        go_ret
        exact ⟨rfl, rfl⟩
      · have d1 : decide ((1152921504606846976 : Int) < (R : Int)) = false := by simpa using (by omega : ¬ (1152921504606846976 : Int) < (R : Int))
        have d1' : decide (1152921504606846976 < R) = false := by simpa using hg
        have w1 : IntKind.i64.wrap (R : Int) = (R : Int) := IntWalk.i64_in _ ⟨by omega, by omega⟩
        go_wp2
        go_ret
        exact ⟨rfl, rfl⟩
end Go.Proofs.YtnglaolbfpdgoaaGreat

