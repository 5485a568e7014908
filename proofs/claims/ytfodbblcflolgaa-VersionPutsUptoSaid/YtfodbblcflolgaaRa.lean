/- The document's has, files, ahead. -/
import Derived.Test.YtfodbblcflolgaaVo
namespace Go.Proofs.Ytfodbblcflolgaa
open Go.RowKit
open VS
attribute [local go_sem ↓] Go.wp_at_zero Go.wp_at_succ

set_option maxRecDepth 100000 in
set_option maxHeartbeats 2000000 in
theorem has_any (D : Option Addr) (m d : Nat) (l : List Int) (z : Int) (w : World) (hm : l.length = m) (hin : IntsIn w w.heap.size D l) (hb : m ≤ 100000000) :
    Calls Try.prog 33 #[.slice D m d, .int .i64 z] w fun r w' => r = .returned (.bool (decide (z ∈ l))) ∧ w = w' := by
  have HM := Lib.hid hm
  have HIN := Lib.hid hin
  obtain ⟨R, hR⟩ : ∃ R, decide (z ∈ l) = R := ⟨_, rfl⟩
  rw [hR]
  have HR := Lib.hid hR
  clear hm hin hR
  go_enter Try.func33, Try.ntmps33
  go_wp2
  go_loopw [5] (fun i wr => ∃ j : Nat, j ≤ m ∧ i = .int .i64 j ∧ w = wr ∧ Hid (z ∉ l.take j)) (fun i _ => m - (intOf i).toNat)
  case atStart => exact ⟨0, by omega, rfl, rfl, Lib.hid (by simp)⟩
  case round =>
    obtain ⟨j, hj, rfl, rfl, HS⟩ := hrel
    by_cases hlt : j < m
    · have hjl : j < l.length := by rw [HM.out]; exact hlt
      obtain ⟨c, off, hA, hbl, hc⟩ := HIN.out.2 (by omega)
      have c0 := hc j hjl
      have HTK := Lib.hid (List.take_succ_eq_append_getElem hjl)
      have HMEM := Lib.hid (List.getElem_mem hjl)
      obtain ⟨y, hy⟩ : ∃ y, l[j] = y := ⟨_, rfl⟩
      rw [hy] at c0 HTK HMEM
      subst hA
      clear hc hy
      by_cases heq : y = z
      · have HRT : Hid (true = R) := Lib.hid (by rw [← HR.out, decide_eq_true (heq ▸ HMEM.out)])
        subst heq
        go_wp2
        go_ret
        exact ⟨by rw [← HRT.out]; rfl, rfl⟩
      · have hne : (y == z) = false := by simpa using heq
        have HS2 : Hid (z ∉ l.take (j + 1)) := Lib.hid (by rw [HTK.out]; simp only [List.mem_append, List.mem_singleton, not_or]; exact ⟨HS.out, fun e => heq e.symm⟩)
        clear heq
        go_wp2
        go_roundw
        case rel => exact ⟨j + 1, by omega, by go_num, trivial, HS2⟩
        case measure => simp [intOf]; omega
    · obtain rfl : j = m := by omega
      have htk : l.take j = l := List.take_of_length_le (by rw [HM.out]; exact Nat.le_refl _)
      have HRF : Hid (false = R) := Lib.hid (by rw [← HR.out, decide_eq_false (by have := HS.out; rwa [htk] at this)])
      clear htk
      go_wp2
      go_ret
      exact ⟨by rw [← HRF.out]; rfl, rfl⟩

theorem files_snoc (l : List M) (j : Nat) (h : j < l.length) : nums (files (l.take (j + 1))) = nums (files (l.take j)) ++ [.int .i64 l[j].file] := by
  rw [files_take h, nums_snoc]

set_option maxRecDepth 100000 in
set_option maxHeartbeats 2000000 in
theorem files_any (A : Option Addr) (n c : Nat) (l : List M) (w : World) (hn : l.length = n) (hin : In5 w A l) (hb : n ≤ 100000000) :
    Calls Try.prog 32 #[.slice A n c] w fun r w' => ∃ B d, r = .returned (.slice B n d) ∧ IntsIn w' w'.heap.size B (files l) ∧ Below w.heap.size w w' := by
  obtain ⟨i0, hi, hz0, hz1, hz2⟩ := info_parts info_i64
  have HN := Lib.hid hn
  have HIN := Lib.hid hin
  clear hn hin
  go_enter Try.func32, Try.ntmps32
  go_wp2
  go_loopw [3, 4] (fun v i wr => ∃ j : Nat, j ≤ n ∧ i = .int .i64 j ∧ wr.ownsRow w.heap.size 2 1 v j (nums (files (l.take j))) ∧ Below w.heap.size w wr) (fun _ i _ => n - (intOf i).toNat)
  case atStart => exact ⟨0, by omega, rfl, World.ownsRow_nil _ _ _ _, Below.refl _ _⟩
  case round =>
    obtain ⟨j, hj, rfl, hown, hbw⟩ := hrel
    by_cases hlt : j < n
    · have hjl : j < l.length := by rw [HN.out]; exact hlt
      obtain ⟨cb, off, hA, hbl, hc⟩ := (HIN.out.below hbw).at_ (by omega)
      obtain ⟨-, c1, -, -, -⟩ := hc j hjl
      have HSN := Lib.hid (files_snoc l j hjl)
      obtain ⟨q, hq⟩ : ∃ q, l[j].file = q := ⟨_, rfl⟩
      rw [hq] at c1 HSN
      obtain ⟨X, hX⟩ : ∃ X, nums (files (l.take j)) = X := ⟨_, rfl⟩
      rw [hX] at hown HSN
      have HB := Lib.hid hbw
      subst hA
      clear hc hq hX hbw
      go_wp2_with (at_builtin; refine wpList_append_own _ rfl _ _ 31 rfl w.heap.size 2 i0 _ 1 8 Try.underlying31 hi hz0 hz1 hz2 rfl (by decide) _ _ _ rfl (hown.alloc _) ⟨wr.heap.size, 0, none⟩ 1 1 [.int .i64 q] rfl ?c1 ?c2 ?c3 ?c4 ?c5 ?c6 ?_)
      case c1 => rfl
      case c2 => exact cell_one_new _ _ _
      case c3 => simp [Value.oneCell']
      case c4 => unfold maxLen; omega
      case c5 => omega
      case c6 => have := HB.out.size; simp; omega
      intro v' w6 hown6 hgrow6 hnil6
      have HO6 : Hid (w6.ownsRow w.heap.size 2 1 v' (j + 1) (nums (files (l.take (j + 1))))) := Lib.hid (by rw [HSN.out]; exact hown6)
      have HB6 : Hid (Below w.heap.size w w6) := Lib.hid ((HB.out.alloc HB.out.size _).grown hgrow6 (by have := HB.out.size; simp; omega) (fun g hg => (hown.lt g hg).1))
      clear hown6 hgrow6 hnil6 hown
      go_wp2
      go_roundw
      case rel => exact ⟨j + 1, by omega, by go_num, HO6.out, HB6.out⟩
      case measure => simp [intOf]; omega
    · obtain rfl : j = n := by omega
      have htk : l.take j = l := List.take_of_length_le (by rw [HN.out]; exact Nat.le_refl _)
      rw [htk] at hown
      have hfi : ∀ x ∈ files l, i64 x := fun x hx => by
        obtain ⟨m, hm, rfl⟩ := List.mem_map.1 hx
        exact (HIN.out.wf m hm).file
      obtain ⟨B, d, rfl, hints, -, -⟩ := own_nums hfi (by simpa [files] using HN.out) hown
      have HI := Lib.hid hints
      have HB := Lib.hid hbw
      clear hown htk hints hbw
      go_wp2
      go_ret
      exact ⟨B, d, rfl, HI.out, HB.out⟩

set_option maxRecDepth 100000 in
set_option maxHeartbeats 2000000 in
theorem ahead_any (a b : M) (w : World) :
    Calls Try.prog 57 #[.agg #[.int .i64 a.lvl, .int .i64 a.file, .int .i64 a.size, .string a.lo, .string a.hi], .agg #[.int .i64 b.lvl, .int .i64 b.file, .int .i64 b.size, .string b.lo, .string b.hi]] w fun r w' => r = .returned (.bool (VS.ahead a b)) ∧ Below w.heap.size w w' := by
  obtain ⟨R, hR⟩ : ∃ R, VS.ahead a b = R := ⟨_, rfl⟩
  rw [hR]
  obtain ⟨l1, f1, z1, s1, t1⟩ := a
  obtain ⟨l2, f2, z2, s2, t2⟩ := b
  have hend : Hid (Below w.heap.size w ((w.alloc (.cells #[.int .i64 l1, .int .i64 f1, .int .i64 z1, .string s1, .string t1] 66)).alloc (.cells #[.int .i64 l2, .int .i64 f2, .int .i64 z2, .string s2, .string t2] 66))) := Lib.hid (((Below.refl _ w).alloc (Nat.le_refl _) _).alloc (by simp) _)
  unfold VS.ahead at hR
  simp only at hR ⊢
  by_cases h1 : l1 = l2
  · subst h1
    rw [if_pos rfl] at hR
    by_cases h0 : l1 = 0
    · subst h0
      rw [if_pos rfl] at hR
      have HR := Lib.hid hR
      clear hR
      go_enter Try.func57, Try.ntmps57
      go_wp2
      go_ret
      exact ⟨by rw [← HR.out]; rfl, hend.out⟩
    · rw [if_neg h0] at hR
      have hne : (l1 == 0) = false := by simpa using h0
      have HR : Hid (Op.bytesLess s1.toList s2.toList = R) := Lib.hid (by rw [text_less]; exact hR)
      clear hR h0
      go_enter Try.func57, Try.ntmps57
      go_wp2
      go_ret
      exact ⟨by rw [← HR.out]; rfl, hend.out⟩
  · rw [if_neg h1] at hR
    have hne : (l1 == l2) = false := by simpa using h1
    have hne2 : (l1 != l2) = true := by simpa using h1
    have HR := Lib.hid hR
    clear hR h1
    go_enter Try.func57, Try.ntmps57
    go_wp2
    go_ret
    exact ⟨by rw [← HR.out]; rfl, hend.out⟩
end Go.Proofs.Ytfodbblcflolgaa
