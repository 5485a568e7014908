/- Files: the files of a version, in order. -/
import Derived.Test.YtfodbblcflolgaaVi
import Derived.Test.YtfodbblcflolgaaRa
import Derived.Test.YtfodbblcflolgaaVe
namespace Go.Proofs.Ytfodbblcflolgaa
open Go.RowKit Go.Maps
open VS
attribute [local go_sem ↓] Go.wp_at_zero Go.wp_at_succ

set_option maxRecDepth 100000 in
set_option maxHeartbeats 4000000 in
theorem pfiles_any (A : Nat → Option Addr) (N C : Nat → Nat) (L : List M) (lg nx sq : Int) (w : World) (h : VerIn w A N C L) (hL : L.length ≤ 10000000) :
    Calls Try.prog 22 #[.agg #[.slice (A 0) (N 0) (C 0), .slice (A 1) (N 1) (C 1), .slice (A 2) (N 2) (C 2), .slice (A 3) (N 3) (C 3), .int .i64 lg, .int .i64 nx, .int .i64 sq]] w fun r w' => ∃ v ys, r = .returned v ∧ ys.Perm (files (front L 4)) ∧ ys.Pairwise (fun a b => a ≤ b) ∧ w'.ownsRow w.heap.size 2 1 v (front L 4).length (nums ys) ∧ Below w.heap.size w w' := by
  obtain ⟨i0, hi, hz0, hz1, hz2⟩ := info_parts info_i64
  have HIX := Lib.hid (fun (k : Nat) (hk : k < 4) W => arr_index A N C hk W)
  have HV := Lib.hid h
  have HFL := Lib.hid (fun k : Nat => front_len L k)
  have HLL := Lib.hid hL
  obtain ⟨S0, hS0⟩ : ∃ S0, Value.slice (A 0) (N 0) (C 0) = S0 := ⟨_, rfl⟩
  obtain ⟨S1, hS1⟩ : ∃ S1, Value.slice (A 1) (N 1) (C 1) = S1 := ⟨_, rfl⟩
  obtain ⟨S2, hS2⟩ : ∃ S2, Value.slice (A 2) (N 2) (C 2) = S2 := ⟨_, rfl⟩
  obtain ⟨S3, hS3⟩ : ∃ S3, Value.slice (A 3) (N 3) (C 3) = S3 := ⟨_, rfl⟩
  rw [hS0, hS1, hS2, hS3] at HIX
  rw [hS0, hS1, hS2, hS3]
  clear hS0 hS1 hS2 hS3 h hL
  go_enter Try.func22, Try.ntmps22
  go_wp2_with fail
  have hal : Below w.heap.size w (w.alloc (.cells #[S0, S1, S2, S3, .int .i64 lg, .int .i64 nx, .int .i64 sq] 26)) := (Below.refl _ w).alloc (Nat.le_refl _) _
  have hr0 := heap_alloc_new w (.cells #[S0, S1, S2, S3, .int .i64 lg, .int .i64 nx, .int .i64 sq] 26)
  generalize w.alloc (.cells #[S0, S1, S2, S3, .int .i64 lg, .int .i64 nx, .int .i64 sq] 26) = w0 at hal hr0 ⊢
  have q0 : w0.cell? ⟨w.heap.size, 0, none⟩ = some S0 := cell_of_row _ _ _ _ _ _ hr0
  have q1 : w0.cell? ⟨w.heap.size, 1, none⟩ = some S1 := cell_of_row _ _ _ _ _ _ hr0
  have q2 : w0.cell? ⟨w.heap.size, 2, none⟩ = some S2 := cell_of_row _ _ _ _ _ _ hr0
  have q3 : w0.cell? ⟨w.heap.size, 3, none⟩ = some S3 := cell_of_row _ _ _ _ _ _ hr0
  have HAL := Lib.hid hal
  clear hal hr0
  go_wp2_with fail
  go_loopw [3, 10] (fun v i wr => ∃ k : Nat, k ≤ 4 ∧ i = .int .i64 k ∧ wr.ownsRow w.heap.size 2 1 v (front L k).length (nums (files (front L k))) ∧ Below w.heap.size w wr) (fun _ i _ => 4 - (intOf i).toNat)
  case atStart => exact ⟨0, by omega, rfl, World.ownsRow_nil _ _ _ _, HAL.out⟩
  case round =>
    obtain ⟨k, hk, rfl, hown, hbw⟩ := hrel
    clear q0 q1 q2 q3
    by_cases hk4 : k < 4
    · have hd4 : decide ((k : Int) < 4) = true := decide_eq_true (by omega)
      have hd4' : decide (k < 4) = true := decide_eq_true hk4
      have hix := HIX.out k hk4
      have hlen := HV.out.len k hk4
      have HIN := Lib.hid (HV.out.at_ k hk4)
      have HFK : Hid (front L (k + 1) = front L k ++ lev k L) := Lib.hid rfl
      have HB0 := Lib.hid hbw
      have HOW := Lib.hid hown
      have hfl := HFL.out k
      obtain ⟨F, hF⟩ : ∃ F, front L k = F := ⟨_, rfl⟩
      obtain ⟨l, hl⟩ : ∃ l, lev k L = l := ⟨_, rfl⟩
      have hll : l.length ≤ 10000000 := by rw [← hl]; exact Nat.le_trans (lev_len _ _) HLL.out
      have hF4 : F.length ≤ 40000000 := by
        rw [← hF]
        have := HLL.out
        have h2 : k * L.length ≤ 4 * L.length := Nat.mul_le_mul_right _ (by omega)
        omega
      rw [hF] at HOW
      rw [hF, hl] at HFK
      rw [hl] at HIN hlen
      obtain ⟨ak, hak⟩ : ∃ x, A k = x := ⟨_, rfl⟩
      obtain ⟨nk, hnk⟩ : ∃ x, N k = x := ⟨_, rfl⟩
      obtain ⟨ck, hck⟩ : ∃ x, C k = x := ⟨_, rfl⟩
      rw [hak, hnk, hck] at hix
      rw [hak] at HIN
      rw [hnk] at hlen
      have HLEN := Lib.hid hlen
      have HSM : Hid (l.length ≤ 10000000 ∧ F.length ≤ 40000000) := Lib.hid ⟨hll, hF4⟩
      have hnb : nk ≤ 10000000 := by omega
      clear hown hbw hlen hF hl hak hnk hck hfl hll hF4
      go_wp2_with fail
      go_loopw [3, 15] (fun v i wr => ∃ j : Nat, j ≤ nk ∧ i = .int .i64 j ∧ wr.ownsRow w.heap.size 2 1 v (F.length + j) (nums (files (F ++ l.take j))) ∧ Below w.heap.size w wr) (fun _ i _ => nk - (intOf i).toNat)
      case atStart => exact ⟨0, by omega, rfl, by simpa using HOW.out, HB0.out⟩
      case round =>
        obtain ⟨j, hj, rfl, hown, hbw⟩ := hrel
        have HB := Lib.hid hbw
        by_cases hlt : j < nk
        · have hjl : j < l.length := by rw [← HLEN.out]; exact hlt
          obtain ⟨c, off, hA, hbl, hc⟩ := (HIN.out.below hbw).at_ (by omega)
          obtain ⟨c0, c1, c2, c3⟩ := hc j hjl
          have HTK : Hid (nums (files (F ++ l.take (j + 1))) = nums (files (F ++ l.take j)) ++ [.int .i64 l[j].file]) := Lib.hid (by rw [List.take_succ_eq_append_getElem hjl, ← List.append_assoc, files_append]; simp [files, nums])
          obtain ⟨e, he⟩ : ∃ e, l[j] = e := ⟨_, rfl⟩
          rw [he] at c0 c1 c2 c3 HTK
          obtain ⟨lv, q, g, s, t⟩ := e
          simp only at c0 c1 c2 c3 HTK
          have hal := (Below.refl wr.heap.size wr).alloc (Nat.le_refl _) (.cells #[.int .i64 q, .int .i64 g, .string s, .string t] 64)
          have hra := heap_alloc_new wr (.cells #[.int .i64 q, .int .i64 g, .string s, .string t] 64)
          have hmb : F.length + j ≤ 50000000 := by have := HSM.out; omega
          subst hA
          clear hc he hbw
          go_upto_region 8 with fail
          generalize wr.alloc (.cells #[.int .i64 q, .int .i64 g, .string s, .string t] 64) = wa at hal hra ⊢
          have y0 : wa.cell? ⟨wr.heap.size, 0, none⟩ = some (.int .i64 q) := cell_of_row _ _ _ _ _ _ hra
          have HBA : Hid (Below w.heap.size w wa) := Lib.hid (HB.out.trans (hal.mono HB.out.size))
          have hoa := own_below hown hal
          obtain ⟨X, hX⟩ : ∃ X, nums (files (F ++ l.take j)) = X := ⟨_, rfl⟩
          rw [hX] at hoa HTK
          clear hal hra c0 c1 c2 c3 hX
          go_wp2_with (at_builtin; refine wpList_append_own _ rfl _ _ 31 rfl w.heap.size 2 i0 _ 1 8 Try.underlying31 hi hz0 hz1 hz2 rfl (by decide) _ _ _ rfl (hoa.alloc _) ⟨wa.heap.size, 0, none⟩ 1 1 [.int .i64 q] rfl ?c1 ?c2 ?c3 ?c4 ?c5 ?c6 ?_)
          case c1 => rfl
          case c2 => exact cell_one_new _ _ _
          case c3 => simp [Value.oneCell']
          case c4 => unfold maxLen; omega
          case c5 => omega
          case c6 => have := HBA.out.size; simp; omega
          intro v' w6 hown6 hgrow6 _
          have HO6 : Hid (w6.ownsRow w.heap.size 2 1 v' (F.length + (j + 1)) (nums (files (F ++ l.take (j + 1))))) := Lib.hid (by rw [HTK.out]; exact hown6)
          have HB6 : Hid (Below w.heap.size w w6) := Lib.hid ((HBA.out.alloc HBA.out.size _).grown hgrow6 (by have := HBA.out.size; simp; omega) (fun g hg => (hoa.lt g hg).1))
          clear hown6 hgrow6 hoa hown y0
          go_wp2
          go_roundw
          case rel => exact ⟨j + 1, by omega, by go_num, HO6.out, HB6.out⟩
          case measure => simp [intOf]; omega
        · obtain rfl : j = nk := by omega
          have htk : l.take j = l := List.take_of_length_le (by rw [← HLEN.out]; exact Nat.le_refl _)
          rw [htk] at hown
          have HO3 : Hid (wr.ownsRow w.heap.size 2 1 _ (front L (k + 1)).length (nums (files (front L (k + 1))))) := Lib.hid (by rw [HFK.out, List.length_append, ← HLEN.out]; exact hown)
          have HB3 := Lib.hid hbw
          clear hown hbw htk
          go_wp2
          go_roundw
          case rel => exact ⟨k + 1, by omega, by go_num, HO3.out, HB3.out⟩
          case measure => simp [intOf]; omega
    · obtain rfl : k = 4 := by omega
      have h4 : (front L 4).length ≤ 40000000 := by have := HFL.out 4; have := HLL.out; omega
      have HSO := Lib.hid (fun v (ho : wr.ownsRow w.heap.size 2 1 v (front L 4).length (nums (files (front L 4)))) => sort64_any w.heap.size v (front L 4).length (files (front L 4)) wr (by simp [files]) ho hbw.size (by omega))
      have HOW := Lib.hid hown
      have HB3 := Lib.hid hbw
      clear hbw hown
      go_wp2_with fail
      refine (HSO.out _ HOW.out).mono ?_
      rintro r w9 ⟨rfl, ⟨ys, hp, hs, ho9⟩, hb9⟩
      have HEND : Hid (ys.Perm (files (front L 4)) ∧ ys.Pairwise (fun a b => a ≤ b) ∧ Below w.heap.size w w9) := Lib.hid ⟨hp, hs, HB3.out.trans hb9⟩
      have HO9 := Lib.hid ho9
      clear hp hs ho9 hb9
      go_wp2
      go_ret
      exact ⟨_, ys, rfl, HEND.out.1, HEND.out.2.1, HO9.out, HEND.out.2.2⟩
end Go.Proofs.Ytfodbblcflolgaa
