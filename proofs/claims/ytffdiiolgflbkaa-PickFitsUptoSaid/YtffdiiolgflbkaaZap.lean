/- Texts joined by bundle.py: Ve, Vf. -/
import Derived.Test.YtffdiiolgflbkaaZal

/- fates: the files that are there. -/
namespace Go.Proofs.Ytffdiiolgflbkaa
open Go.RowKit Go.Maps
open VS
attribute [local go_sem ↓] Go.wp_at_zero Go.wp_at_succ

set_option maxRecDepth 100000 in
set_option maxHeartbeats 4000000 in
theorem fates_any (A : Nat → Option Addr) (N C : Nat → Nat) (L : List M) (lg nx sq : Int) (w : World) (h : VerIn w A N C L) (hL : L.length ≤ 10000000) :
    Calls Try.prog 26 #[.agg #[.slice (A 0) (N 0) (C 0), .slice (A 1) (N 1) (C 1), .slice (A 2) (N 2) (C 2), .slice (A 3) (N 3) (C 3), .int .i64 lg, .int .i64 nx, .int .i64 sq]] w fun r w' => ∃ b n, r = .returned (.map (some b)) ∧ w.heap.size ≤ b ∧ n ≤ 40000000 ∧ Fm w' b n (stays (front L 4)) ∧ Below w.heap.size w w' := by
  have hmm := @run_makeMap Try.prog
  have HIX := Lib.hid (fun (k : Nat) (hk : k < 4) W => arr_index A N C hk W)
  have HV := Lib.hid h
  have HFL := Lib.hid (fun k : Nat => front_len L k)
  have HLL := Lib.hid hL
  obtain ⟨S0, hS0⟩ : ∃ S0, Value.slice (A 0) (N 0) (C 0) = S0 := ⟨_, rfl⟩
  obtain ⟨S1, hS1⟩ : ∃ S1, Value.slice (A 1) (N 1) (C 1) = S1 := ⟨_, rfl⟩
  obtain ⟨S2, hS2⟩ : ∃ S2, Value.slice (A 2) (N 2) (C 2) = S2 := ⟨_, rfl⟩
  obtain ⟨S3, hS3⟩ : ∃ S3, Value.slice (A 3) (N 3) (C 3) = S3 := ⟨_, rfl⟩
  rw [hS0, hS1, hS2, hS3] at HIX
  rw [hS0, hS1, hS2, hS3]
  clear hS0 hS1 hS2 hS3 h hL
  go_enter Try.func26, Try.ntmps26
  go_wp2
  have hal : Below w.heap.size w ((w.alloc (.cells #[S0, S1, S2, S3, .int .i64 lg, .int .i64 nx, .int .i64 sq] 26)).alloc (.map #[] 0)) := ((Below.refl _ w).alloc (Nat.le_refl _) _).alloc (by simp) _
  have hfm := Fm.made (w.alloc (.cells #[S0, S1, S2, S3, .int .i64 lg, .int .i64 nx, .int .i64 sq] 26))
  have hsz : (w.alloc (.cells #[S0, S1, S2, S3, .int .i64 lg, .int .i64 nx, .int .i64 sq] 26)).heap.size = w.heap.size + 1 := by simp
  rw [hsz] at hfm
  generalize (w.alloc (.cells #[S0, S1, S2, S3, .int .i64 lg, .int .i64 nx, .int .i64 sq] 26)).alloc (.map #[] 0) = w0 at hal hfm ⊢
  obtain ⟨b, hb⟩ : ∃ b, w.heap.size + 1 = b := ⟨_, rfl⟩
  rw [hb] at hfm ⊢
  have HB := Lib.hid hb
  have HFM := Lib.hid hfm
  have HAL := Lib.hid hal
  clear hal hfm hsz hb hmm
  go_loopw [11] (fun i wr => ∃ k n : Nat, k ≤ 4 ∧ i = .int .i64 k ∧ n ≤ (front L k).length ∧ Fm wr b n (stays (front L k)) ∧ Below w.heap.size w wr) (fun i _ => 4 - (intOf i).toNat)
  case atStart => exact ⟨0, 0, by omega, rfl, by simp [front], HFM.out, HAL.out⟩
  case round =>
    obtain ⟨k, n, hk, rfl, hn, hfm, hbw⟩ := hrel
    by_cases hk4 : k < 4
    · have hix := HIX.out k hk4
      have hlen := HV.out.len k hk4
      have HIN := Lib.hid (HV.out.at_ k hk4)
      have HFK : Hid (front L (k + 1) = front L k ++ lev k L) := Lib.hid rfl
      have HB0 := Lib.hid hbw
      have HFM0 := Lib.hid hfm
      have hfl := HFL.out k
      obtain ⟨F, hF⟩ : ∃ F, front L k = F := ⟨_, rfl⟩
      obtain ⟨l, hl⟩ : ∃ l, lev k L = l := ⟨_, rfl⟩
      have hll : l.length ≤ 10000000 := by rw [← hl]; exact Nat.le_trans (lev_len _ _) HLL.out
      have hF4 : F.length ≤ 40000000 := by
        rw [← hF]
        have := HLL.out
        have h2 : k * L.length ≤ 4 * L.length := Nat.mul_le_mul_right _ (by omega)
        omega
      rw [hF] at HFM0 hn
      rw [hF, hl] at HFK
      rw [hl] at HIN hlen
      obtain ⟨ak, hak⟩ : ∃ x, A k = x := ⟨_, rfl⟩
      obtain ⟨nk, hnk⟩ : ∃ x, N k = x := ⟨_, rfl⟩
      obtain ⟨ck, hck⟩ : ∃ x, C k = x := ⟨_, rfl⟩
      rw [hak, hnk, hck] at hix
      rw [hak] at HIN
      rw [hnk] at hlen
      have HN0 := Lib.hid hn
      have HLEN := Lib.hid hlen
      have HSM : Hid (l.length ≤ 10000000 ∧ F.length ≤ 40000000) := Lib.hid ⟨hll, hF4⟩
      have hnb : nk ≤ 10000000 := by omega
      clear hfm hn hbw hlen hF hl hak hnk hck hfl hll hF4
      go_wp2_with fail
      go_loopw [16] (fun i wr => ∃ j m : Nat, j ≤ nk ∧ i = .int .i64 j ∧ m ≤ (F ++ l.take j).length ∧ Fm wr b m (stays (F ++ l.take j)) ∧ Below w.heap.size w wr) (fun i _ => nk - (intOf i).toNat)
      case atStart => exact ⟨0, n, by omega, rfl, by simpa using HN0.out, by simpa using HFM0.out, HB0.out⟩
      case round =>
        obtain ⟨j, m, hj, rfl, hm, hfm, hbw⟩ := hrel
        by_cases hlt : j < nk
        · have hjl : j < l.length := by rw [← HLEN.out]; exact hlt
          obtain ⟨c, off, hA, hbl, hc⟩ := (HIN.out.below hbw).at_ (by omega)
          obtain ⟨c0, c1, c2, c3⟩ := hc j hjl
          have HTK : Hid (l.take (j + 1) = l.take j ++ [l[j]]) := Lib.hid (List.take_succ_eq_append_getElem hjl)
          have HWF := Lib.hid (HIN.out.wf l[j] (List.getElem_mem hjl))
          obtain ⟨e, he⟩ : ∃ e, l[j] = e := ⟨_, rfl⟩
          rw [he] at c0 c1 c2 c3 HTK HWF
          obtain ⟨lv, q, g, s, t⟩ := e
          simp only at c0 c1 c2 c3
          have hal := (Below.refl wr.heap.size wr).alloc (Nat.le_refl _) (.cells #[.int .i64 q, .int .i64 g, .string s, .string t] 64)
          have htl : (l.take j).length = j := by rw [List.length_take]; omega
          have hmb : m ≤ 50000000 := by have := HSM.out; rw [List.length_append, htl] at hm; omega
          obtain ⟨w3, hput, hfm3, hg3⟩ := (hfm.below hal).put (by unfold maxLen; omega) HWF.out.file (f := 1) (by constructor <;> omega)
          have hst := stays_snoc (F ++ l.take j) ⟨lv, q, g, s, t⟩
          simp only at hst
          rw [hst, List.append_assoc, ← HTK.out] at hfm3
          have HFM3 := Lib.hid hfm3
          have HB3 : Hid (Below w.heap.size w w3) := Lib.hid ((hbw.trans (hal.mono hbw.size)).grown hg3 (by have := hbw.size; have := hal.size; omega) (fun r e => by cases e; have := HB.out; omega))
          have HM3 : Hid (m + 1 ≤ (F ++ l.take (j + 1)).length) := Lib.hid (by rw [HTK.out]; simp only [List.length_append, List.length_singleton] at hm ⊢; omega)
          subst hA
          clear hfm hfm3 hg3 hbw hal hc he hm htl hst
          go_wp2
          go_roundw
          case rel => exact ⟨j + 1, m + 1, by omega, by go_num, HM3.out, HFM3.out, HB3.out⟩
          case measure => simp [intOf]; omega
        · obtain rfl : j = nk := by omega
          have htk : l.take j = l := List.take_of_length_le (by rw [← HLEN.out]; exact Nat.le_refl _)
          rw [htk] at hm hfm
          rw [← HFK.out] at hm hfm
          have HFM3 := Lib.hid hfm
          have HB3 := Lib.hid hbw
          have HM3 := Lib.hid hm
          clear hfm hbw htk hm
          go_wp2
          go_roundw
          case rel => exact ⟨k + 1, m, by omega, by go_num, HM3.out, HFM3.out, HB3.out⟩
          case measure => simp [intOf]; omega
    · obtain rfl : k = 4 := by omega
      have HFM3 := Lib.hid hfm
      have HB3 := Lib.hid hbw
      have HM3 : Hid (n ≤ 40000000) := Lib.hid (by have := HFL.out 4; have := HLL.out; omega)
      clear hfm hbw hn
      go_wp2
      go_ret
      exact ⟨b, n, rfl, by have := HB.out; omega, HM3.out, HFM3.out, HB3.out⟩
end Go.Proofs.Ytffdiiolgflbkaa

/- leadsTo, drop. -/
namespace Go.Proofs.Ytffdiiolgflbkaa
open Go.RowKit Go.Maps
open VS
attribute [local go_sem ↓] Go.wp_at_zero Go.wp_at_succ

def headB (vl vn vs el en es : Int) : Bool := decide (vl ≤ el ∧ vn ≤ en ∧ vs ≤ es ∧ (el < en ∨ el = 0 ∧ en = 0))

set_option maxRecDepth 100000 in
theorem leads_any (S0 S1 S2 S3 T0 T1 : Value) (vl vn vs el en es : Int) (w : World) :
    Calls Try.prog 27 #[.agg #[S0, S1, S2, S3, .int .i64 vl, .int .i64 vn, .int .i64 vs], .agg #[T0, T1, .int .i64 el, .int .i64 en, .int .i64 es]] w fun r w' => r = .returned (.bool (headB vl vn vs el en es)) ∧ Below w.heap.size w w' := by
  have hend : Hid (Below w.heap.size w ((w.alloc (.cells #[S0, S1, S2, S3, .int .i64 vl, .int .i64 vn, .int .i64 vs] 26)).alloc (.cells #[T0, T1, .int .i64 el, .int .i64 en, .int .i64 es] 36))) := Lib.hid (((Below.refl _ w).alloc (Nat.le_refl _) _).alloc (by simp) _)
  obtain ⟨R, hR⟩ : ∃ R, headB vl vn vs el en es = R := ⟨_, rfl⟩
  have hR' := hR
  unfold headB at hR
  by_cases h1 : el < vl
  · have HR : Hid (R = false) := Lib.hid (by rw [← hR]; simp; omega)
    rw [hR', HR.out]
    clear hR hR'
    go_enter Try.func27, Try.ntmps27
    go_wp2
    go_ret
    exact ⟨rfl, hend.out⟩
  by_cases h2 : en < vn
  · have HR : Hid (R = false) := Lib.hid (by rw [← hR]; simp; omega)
    rw [hR', HR.out]
    clear hR hR'
    go_enter Try.func27, Try.ntmps27
    go_wp2
    go_ret
    exact ⟨rfl, hend.out⟩
  by_cases h3 : es < vs
  · have HR : Hid (R = false) := Lib.hid (by rw [← hR]; simp; omega)
    rw [hR', HR.out]
    clear hR hR'
    go_enter Try.func27, Try.ntmps27
    go_wp2
    go_ret
    exact ⟨rfl, hend.out⟩
  by_cases h4 : el < en
  · have HR : Hid (R = true) := Lib.hid (by rw [← hR]; simp; omega)
    rw [hR', HR.out]
    clear hR hR'
    go_enter Try.func27, Try.ntmps27
    go_wp2
    go_ret
    exact ⟨rfl, hend.out⟩
  by_cases h5 : el = 0
  · by_cases h6 : en = 0
    · have HR : Hid (R = true) := Lib.hid (by rw [← hR]; simp; omega)
      rw [hR', HR.out]
      subst h5 h6
      clear hR hR'
      go_enter Try.func27, Try.ntmps27
      go_wp2
      go_ret
      exact ⟨rfl, hend.out⟩
    · have HR : Hid (R = false) := Lib.hid (by rw [← hR]; simp; omega)
      have h6' : (en == 0) = false := by simpa using h6
      rw [hR', HR.out]
      subst h5
      clear hR hR'
      go_enter Try.func27, Try.ntmps27
      go_wp2
      go_ret
      exact ⟨rfl, hend.out⟩
  · have HR : Hid (R = false) := Lib.hid (by rw [← hR]; simp; omega)
    have h5' : (el == 0) = false := by simpa using h5
    rw [hR', HR.out]
    clear hR hR'
    go_enter Try.func27, Try.ntmps27
    go_wp2
    go_ret
    exact ⟨rfl, hend.out⟩

namespace VS
/-- the fates behind the files that go -/
def gone (old : List Int) (pre : List Int) (z : Int) : Int := if z ∈ pre then 2 else if z ∈ old then 1 else 0
theorem gone_snoc (old pre : List Int) (n : Int) : (fun x => if x = n then 2 else gone old pre x) = gone old (pre ++ [n]) := by
  funext x
  unfold gone
  by_cases h : x = n
  · simp [h]
  · simp [h]
theorem gone_nil (l : List M) : gone (files l) [] = stays l := by
  funext x; simp [gone, stays]
theorem gone_stays {old pre : List Int} {n : Int} : gone old pre n = 1 ↔ n ∈ old ∧ n ∉ pre := by
  unfold gone
  by_cases h1 : n ∈ pre
  · simp [h1]
  · by_cases h2 : n ∈ old <;> simp [h1, h2]
theorem dropOk_step {old pre : List Int} {n : Int} {l : List Int} : dropOk old pre (n :: l) = (decide (n ∈ old ∧ n ∉ pre) && dropOk old (pre ++ [n]) l) := rfl
end VS

set_option maxRecDepth 100000 in
set_option maxHeartbeats 4000000 in
theorem drop_any (b : Nat) (D : Option Addr) (m d : Nat) (l old : List Int) (n0 : Nat) (w : World) (hm : l.length = m) (hin : IntsIn w w.heap.size D l) (hmb : m ≤ 10000000) (hn0 : n0 ≤ 100000000) (hf : Fm w b n0 (gone old [])) (hDb : 0 < l.length → ∀ a, D = some a → a.block ≠ b) :
    Calls Try.prog 28 #[.map (some b), .slice D m d] w fun r w' => r = .returned (.bool (dropOk old [] l)) ∧ Below b w w' ∧ (dropOk old [] l = true → ∃ n, n ≤ n0 + m ∧ Fm w' b n (gone old l)) := by
  have HM := Lib.hid hm
  have HIN := Lib.hid hin
  have HDB := Lib.hid hDb
  have HF0 := Lib.hid hf
  obtain ⟨R, hR⟩ : ∃ R, dropOk old [] l = R := ⟨_, rfl⟩
  rw [hR]
  have HR := Lib.hid hR
  clear hm hin hDb hf hR
  go_enter Try.func28, Try.ntmps28
  go_wp2
  go_loopw [9] (fun i wr => ∃ j n : Nat, j ≤ m ∧ i = .int .i64 j ∧ n ≤ n0 + j ∧ Fm wr b n (gone old (l.take j)) ∧ w.grownBy wr (some b) ∧ Hid (dropOk old (l.take j) (l.drop j) = R)) (fun i _ => m - (intOf i).toNat)
  case atStart => exact ⟨0, n0, by omega, rfl, by omega, HF0.out, World.grownBy.refl _ _, Lib.hid (by simpa using HR.out)⟩
  case round =>
    obtain ⟨j, n, hj, rfl, hn, hfm, hg, HS⟩ := hrel
    by_cases hlt : j < m
    · have hjl : j < l.length := by rw [HM.out]; exact hlt
      obtain ⟨c, off, hA, hbl, hc⟩ := HIN.out.2 (by omega)
      have hcb : c ≠ b := HDB.out (by omega) _ hA
      have c0 : wr.cell? ⟨c, off + j, none⟩ = some (.int .i64 l[j]) := by
        have := hc j hjl
        rw [← this]
        have hblk := hg.block c hbl (fun e => hcb (by injection e))
        simp [World.cell?, hblk]
      have HTK : Hid (l.take (j + 1) = l.take j ++ [l[j]]) := Lib.hid (List.take_succ_eq_append_getElem hjl)
      have hdr := HS.out
      rw [List.drop_eq_getElem_cons hjl, dropOk_step] at hdr
      have hz : i64 l[j] := HIN.out.1 _ (List.getElem_mem hjl)
      obtain ⟨z, hz0⟩ : ∃ z, l[j] = z := ⟨_, rfl⟩
      rw [hz0] at c0 HTK hdr hz
      have hlk := hfm.look hz
      have HFM := Lib.hid hfm
      have HG := Lib.hid hg
      subst hA
      clear hc hz0 hfm hg
      by_cases hst : gone old (l.take j) z = 1
      · have h1 := gone_stays.1 hst
        rw [decide_eq_true h1, Bool.true_and, ← HTK.out] at hdr
        rw [hst] at hlk
        obtain ⟨w3, hput, hfm3, hg3⟩ := HFM.out.put (by unfold maxLen; omega) hz (f := 2) (by constructor <;> omega)
        rw [gone_snoc, ← HTK.out] at hfm3
        have HFM3 := Lib.hid hfm3
        have HG3 : Hid (w.grownBy w3 (some b)) := Lib.hid (grown_trans HG.out hg3)
        have HDR := Lib.hid hdr
        clear hfm3 hg3 hdr hst h1
        go_wp2
        go_roundw
        case rel => exact ⟨j + 1, n + 1, by omega, by go_num, by omega, HFM3.out, HG3.out, HDR⟩
        case measure => simp [intOf]; omega
      · have h1 : ¬ (z ∈ old ∧ z ∉ l.take j) := fun h => hst (gone_stays.2 h)
        rw [decide_eq_false h1, Bool.false_and] at hdr
        obtain ⟨st, hst0⟩ : ∃ st, gone old (l.take j) z = st := ⟨_, rfl⟩
        rw [hst0] at hlk hst
        have hne : (st != 1) = true := by simpa using hst
        have hne2 : (st == 1) = false := by simpa using hst
        have HDR := Lib.hid hdr
        have HG3 : Hid (Below b w wr) := Lib.hid ⟨HG.out.os, HG.out.tape, HG.out.output, HG.out.size, fun x hx => HG.out.block x (by have := HF0.out.lt; omega) (fun e => by injection e with e; omega)⟩
        clear hst0 hdr h1 hst
        go_wp2
        go_ret
        exact ⟨by rw [← HDR.out]; rfl, HG3.out, fun h => by rw [← HDR.out] at h; cases h⟩
    · obtain rfl : j = m := by omega
      have htk : l.take j = l := List.take_of_length_le (by rw [HM.out]; exact Nat.le_refl _)
      have hdp : l.drop j = [] := List.drop_eq_nil_of_le (by rw [HM.out]; exact Nat.le_refl _)
      rw [htk] at hfm
      have HDR : Hid (true = R) := Lib.hid (by have := HS.out; rw [hdp] at this; exact this)
      have HFM := Lib.hid hfm
      have HG3 : Hid (Below b w wr) := Lib.hid ⟨hg.os, hg.tape, hg.output, hg.size, fun x hx => hg.block x (by have := HF0.out.lt; omega) (fun e => by injection e with e; omega)⟩
      clear hfm hg htk hdp
      go_wp2
      go_ret
      exact ⟨by rw [← HDR.out]; rfl, HG3.out, fun _ => ⟨n, hn, HFM.out⟩⟩
end Go.Proofs.Ytffdiiolgflbkaa

