/- fates: the files that are there. -/
import Derived.Test.YtfodbblcflolgaaVd
namespace Go.Proofs.Ytfodbblcflolgaa
open Go.RowKit Go.Maps
open VS
attribute [local go_sem ↓] Go.wp_at_zero Go.wp_at_succ

set_option maxRecDepth 100000 in
set_option maxHeartbeats 4000000 in
theorem fates_any (A : Nat → Option Addr) (N C : Nat → Nat) (L : List M) (lg nx sq : Int) (w : World) (h : VerIn w A N C L) (hL : L.length ≤ 10000000) :
    Calls Try.prog 26 #[.agg #[.slice (A 0) (N 0) (C 0), .slice (A 1) (N 1) (C 1), .slice (A 2) (N 2) (C 2), .slice (A 3) (N 3) (C 3), .int .i64 lg, .int .i64 nx, .int .i64 sq]] w fun r w' => ∃ b n, r = .returned (.map (some b)) ∧ w.heap.size ≤ b ∧ n ≤ 40000000 ∧ Fm w' b n (stays (front L 4)) ∧ Below w.heap.size w w' := by
  have hmm := @run_makeMap Try.prog
  have HIX := Lib.hid (fun (k : Nat) (hk : k < 4) W => arr_index A N C hk W)
  have HV := Lib.hid h
  have HFL := Lib.hid (fun k : Nat => front_len L k)
  have HLL := Lib.hid hL
  obtain ⟨S0, hS0⟩ : ∃ S0, Value.slice (A 0) (N 0) (C 0) = S0 := ⟨_, rfl⟩
  obtain ⟨S1, hS1⟩ : ∃ S1, Value.slice (A 1) (N 1) (C 1) = S1 := ⟨_, rfl⟩
  obtain ⟨S2, hS2⟩ : ∃ S2, Value.slice (A 2) (N 2) (C 2) = S2 := ⟨_, rfl⟩
  obtain ⟨S3, hS3⟩ : ∃ S3, Value.slice (A 3) (N 3) (C 3) = S3 := ⟨_, rfl⟩
  rw [hS0, hS1, hS2, hS3] at HIX
  rw [hS0, hS1, hS2, hS3]
  clear hS0 hS1 hS2 hS3 h hL
  go_enter Try.func26, Try.ntmps26
  go_wp2
  have hal : Below w.heap.size w ((w.alloc (.cells #[S0, S1, S2, S3, .int .i64 lg, .int .i64 nx, .int .i64 sq] 26)).alloc (.map #[] 0)) := ((Below.refl _ w).alloc (Nat.le_refl _) _).alloc (by simp) _
  have hfm := Fm.made (w.alloc (.cells #[S0, S1, S2, S3, .int .i64 lg, .int .i64 nx, .int .i64 sq] 26))
  have hsz : (w.alloc (.cells #[S0, S1, S2, S3, .int .i64 lg, .int .i64 nx, .int .i64 sq] 26)).heap.size = w.heap.size + 1 := by simp
  rw [hsz] at hfm
  generalize (w.alloc (.cells #[S0, S1, S2, S3, .int .i64 lg, .int .i64 nx, .int .i64 sq] 26)).alloc (.map #[] 0) = w0 at hal hfm ⊢
  obtain ⟨b, hb⟩ : ∃ b, w.heap.size + 1 = b := ⟨_, rfl⟩
  rw [hb] at hfm ⊢
  have HB := Lib.hid hb
  have HFM := Lib.hid hfm
  have HAL := Lib.hid hal
  clear hal hfm hsz hb hmm
  go_loopw [11] (fun i wr => ∃ k n : Nat, k ≤ 4 ∧ i = .int .i64 k ∧ n ≤ (front L k).length ∧ Fm wr b n (stays (front L k)) ∧ Below w.heap.size w wr) (fun i _ => 4 - (intOf i).toNat)
  case atStart => exact ⟨0, 0, by omega, rfl, by simp [front], HFM.out, HAL.out⟩
  case round =>
    obtain ⟨k, n, hk, rfl, hn, hfm, hbw⟩ := hrel
    by_cases hk4 : k < 4
    · have hix := HIX.out k hk4
      have hlen := HV.out.len k hk4
      have HIN := Lib.hid (HV.out.at_ k hk4)
      have HFK : Hid (front L (k + 1) = front L k ++ lev k L) := Lib.hid rfl
      have HB0 := Lib.hid hbw
      have HFM0 := Lib.hid hfm
      have hfl := HFL.out k
      obtain ⟨F, hF⟩ : ∃ F, front L k = F := ⟨_, rfl⟩
      obtain ⟨l, hl⟩ : ∃ l, lev k L = l := ⟨_, rfl⟩
      have hll : l.length ≤ 10000000 := by rw [← hl]; exact Nat.le_trans (lev_len _ _) HLL.out
      have hF4 : F.length ≤ 40000000 := by
        rw [← hF]
        have := HLL.out
        have h2 : k * L.length ≤ 4 * L.length := Nat.mul_le_mul_right _ (by omega)
        omega
      rw [hF] at HFM0 hn
      rw [hF, hl] at HFK
      rw [hl] at HIN hlen
      obtain ⟨ak, hak⟩ : ∃ x, A k = x := ⟨_, rfl⟩
      obtain ⟨nk, hnk⟩ : ∃ x, N k = x := ⟨_, rfl⟩
      obtain ⟨ck, hck⟩ : ∃ x, C k = x := ⟨_, rfl⟩
      rw [hak, hnk, hck] at hix
      rw [hak] at HIN
      rw [hnk] at hlen
      have HN0 := Lib.hid hn
      have HLEN := Lib.hid hlen
      have HSM : Hid (l.length ≤ 10000000 ∧ F.length ≤ 40000000) := Lib.hid ⟨hll, hF4⟩
      have hnb : nk ≤ 10000000 := by omega
      clear hfm hn hbw hlen hF hl hak hnk hck hfl hll hF4
      go_wp2_with fail
      go_loopw [16] (fun i wr => ∃ j m : Nat, j ≤ nk ∧ i = .int .i64 j ∧ m ≤ (F ++ l.take j).length ∧ Fm wr b m (stays (F ++ l.take j)) ∧ Below w.heap.size w wr) (fun i _ => nk - (intOf i).toNat)
      case atStart => exact ⟨0, n, by omega, rfl, by simpa using HN0.out, by simpa using HFM0.out, HB0.out⟩
      case round =>
        obtain ⟨j, m, hj, rfl, hm, hfm, hbw⟩ := hrel
        by_cases hlt : j < nk
        · have hjl : j < l.length := by rw [← HLEN.out]; exact hlt
          obtain ⟨c, off, hA, hbl, hc⟩ := (HIN.out.below hbw).at_ (by omega)
          obtain ⟨c0, c1, c2, c3⟩ := hc j hjl
          have HTK : Hid (l.take (j + 1) = l.take j ++ [l[j]]) := Lib.hid (List.take_succ_eq_append_getElem hjl)
          have HWF := Lib.hid (HIN.out.wf l[j] (List.getElem_mem hjl))
          obtain ⟨e, he⟩ : ∃ e, l[j] = e := ⟨_, rfl⟩
          rw [he] at c0 c1 c2 c3 HTK HWF
          obtain ⟨lv, q, g, s, t⟩ := e
          simp only at c0 c1 c2 c3
          have hal := (Below.refl wr.heap.size wr).alloc (Nat.le_refl _) (.cells #[.int .i64 q, .int .i64 g, .string s, .string t] 64)
          have htl : (l.take j).length = j := by rw [List.length_take]; omega
          have hmb : m ≤ 50000000 := by have := HSM.out; rw [List.length_append, htl] at hm; omega
          obtain ⟨w3, hput, hfm3, hg3⟩ := (hfm.below hal).put (by unfold maxLen; omega) HWF.out.file (f := 1) (by constructor <;> omega)
          have hst := stays_snoc (F ++ l.take j) ⟨lv, q, g, s, t⟩
          simp only at hst
          rw [hst, List.append_assoc, ← HTK.out] at hfm3
          have HFM3 := Lib.hid hfm3
          have HB3 : Hid (Below w.heap.size w w3) := Lib.hid ((hbw.trans (hal.mono hbw.size)).grown hg3 (by have := hbw.size; have := hal.size; omega) (fun r e => by cases e; have := HB.out; omega))
          have HM3 : Hid (m + 1 ≤ (F ++ l.take (j + 1)).length) := Lib.hid (by rw [HTK.out]; simp only [List.length_append, List.length_singleton] at hm ⊢; omega)
          subst hA
          clear hfm hfm3 hg3 hbw hal hc he hm htl hst
          go_wp2
          go_roundw
          case rel => exact ⟨j + 1, m + 1, by omega, by go_num, HM3.out, HFM3.out, HB3.out⟩
          case measure => simp [intOf]; omega
        · obtain rfl : j = nk := by omega
          have htk : l.take j = l := List.take_of_length_le (by rw [← HLEN.out]; exact Nat.le_refl _)
          rw [htk] at hm hfm
          rw [← HFK.out] at hm hfm
          have HFM3 := Lib.hid hfm
          have HB3 := Lib.hid hbw
          have HM3 := Lib.hid hm
          clear hfm hbw htk hm
          go_wp2
          go_roundw
          case rel => exact ⟨k + 1, m, by omega, by go_num, HM3.out, HFM3.out, HB3.out⟩
          case measure => simp [intOf]; omega
    · obtain rfl : k = 4 := by omega
      have HFM3 := Lib.hid hfm
      have HB3 := Lib.hid hbw
      have HM3 : Hid (n ≤ 40000000) := Lib.hid (by have := HFL.out 4; have := HLL.out; omega)
      clear hfm hbw hn
      go_wp2
      go_ret
      exact ⟨b, n, rfl, by have := HB.out; omega, HM3.out, HFM3.out, HB3.out⟩
end Go.Proofs.Ytfodbblcflolgaa
