/- Texts joined by bundle.py: Ke, Kf, Kg, Kh. -/
import Derived.Test.YtffdiiolgflbkaaZbe
import Derived.Test.YtffdiiolgflbkaaZbh
import Derived.BigRegion
import Derived.ArgAppend

/- span, files, isBottom. -/
namespace Go.Proofs.Ytffdiiolgflbkaa
open Go.RowKit Go.Maps
open VS
attribute [local go_sem ↓] Go.wp_at_zero Go.wp_at_succ

/-- 'l[1:]' of tables -/
theorem metas_tail {w : World} {A : Option Addr} {n c : Nat} {l : List M} (h : In4 w A l) (hn : l.length = n) (hp : 0 < n) (hc : n ≤ c) : ∃ A2 c2, (∀ W, (Instr.slice 23 (.slice A n c) (some (.int .i64 1)) none none).run Try.prog W = .ok (.slice A2 (n - 1) c2) W) ∧ In4 w A2 l.tail := by
  have hs : ∀ w, (sizeOf (Try.prog.elem 23)).run Try.prog w = .ok 4 w := fun w => by kernel_rfl
  obtain ⟨b, off, rfl, hlt, hcl⟩ := h.at_ (by omega)
  have hrun : ∀ W, (Instr.slice 23 (.slice (some ⟨b, off, none⟩) n c) (some (.int .i64 1)) none none).run Try.prog W = .ok (.slice (if c - 1 = 0 then some ⟨b, off, none⟩ else some ⟨b, off + 4, none⟩) (n - 1) (c - 1)) W := fun W => by
    rw [run_slice_l W 23 (some ⟨b, off, none⟩) n c (by kernel_rfl) .i64 1 (by omega) (by omega), hs]
    simp only [Result.andThen, sliced]
    have e1 : (1 : Int).toNat = 1 := rfl
    rw [e1]
    by_cases h1 : c - 1 = 0
    · rw [if_pos (show c = 1 by omega), if_pos h1]
    · rw [if_neg (show ¬ c = 1 by omega), if_neg h1, Option.map_some, add_off]
  refine ⟨_, _, hrun, ⟨fun e he => h.wf e (List.mem_of_mem_tail he), fun ht => ?_⟩⟩
  rw [List.length_tail] at ht
  rw [if_neg (by omega)]
  refine ⟨b, off + 4, rfl, hlt, fun j hj => ?_⟩
  rw [List.length_tail] at hj
  have := hcl (j + 1) (by omega)
  rw [List.getElem_tail]
  have e0 : off + (j + 1) * 4 = off + 4 + j * 4 := by omega
  rw [e0] at this
  exact this

set_option maxRecDepth 100000 in
set_option maxHeartbeats 4000000 in
theorem span_any (A : Option Addr) (n c : Nat) (l : List M) (w : World) (hin : In4 w A l) (hn : l.length = n) (hp : 0 < n) (hc : n ≤ c) (hnb : n ≤ 100000000) :
    Calls Try.prog 69 #[.slice A n c] w fun r w' => (∃ lo hi, r = .returned (.tuple #[.string lo, .string hi]) ∧ IsLo l lo ∧ IsHi l hi) ∧ Below w.heap.size w w' := by
  obtain ⟨A2, c2, hcut, hin2⟩ := metas_tail hin hn hp hc
  obtain ⟨b, off, rfl, hbl, hcl⟩ := hin.at_ (by omega)
  have HIN2 := Lib.hid hin2
  have HN := Lib.hid hn
  obtain ⟨c0, c1, c2', c3⟩ := hcl 0 (by omega)
  have HT1 : Hid (l.take 1 = [l[0]'(by omega)]) := Lib.hid (by rw [List.take_succ_eq_append_getElem (by omega)]; simp)
  obtain ⟨e, he⟩ : ∃ e, l[0]'(by omega) = e := ⟨_, rfl⟩
  rw [he] at c0 c1 c2' c3 HT1
  obtain ⟨lv, q, g, s, t⟩ := e
  simp only [Nat.zero_mul, Nat.add_zero] at c0 c1 c2' c3
  have HL : Hid (IsLo (l.take 1) s ∧ IsHi (l.take 1) t) := Lib.hid (by rw [HT1.out]; exact ⟨isLo_one _, isHi_one _⟩)
  have hpi : (0 : Int) < (n : Int) := by omega
  have HP := Lib.hid hp
  have hwn : ((n - 1 : Nat) : Int) = (n : Int) - 1 := by omega
  obtain ⟨m, hm⟩ : ∃ m, n - 1 = m := ⟨_, rfl⟩
  rw [hm] at hcut
  have HM : Hid (n = m + 1) := Lib.hid (by omega)
  have hmb : m ≤ 100000000 := by omega
  clear hin hn hc hin2 hcl he hwn hm
  go_enter Try.func69, Try.ntmps69
  go_wp2_with fail
  go_region
  have HB0 : Hid (Below w.heap.size w w.drew) := Lib.hid (Below.refl _ _).drew
  generalize w.drew = w0 at HB0 ⊢
  go_wp2_with fail
  clear hcut
  go_loopw [2, 3, 17] (fun x y i wr => ∃ (j : Nat) (lo hi : ByteArray), j ≤ m ∧ i = .int .i64 j ∧ x = .string lo ∧ y = .string hi ∧ Hid (IsLo (l.take (j + 1)) lo ∧ IsHi (l.take (j + 1)) hi) ∧ Below w.heap.size w wr) (fun _ _ i _ => m - (intOf i).toNat)
  case atStart => exact ⟨0, s, t, by omega, rfl, rfl, rfl, HL, HB0.out⟩
  case round =>
    obtain ⟨j, lo, hi, hj, rfl, rfl, rfl, HS, hbw⟩ := hrel
    have HB := Lib.hid hbw
    by_cases hlt : j < m
    · have hjl : j < l.tail.length := by rw [List.length_tail, HN.out]; have := HM.out; omega
      have hjl2 : j + 1 < l.length := by rw [HN.out]; have := HM.out; omega
      obtain ⟨b2, off2, hA2, hbl2, hc2⟩ := (HIN2.out.below hbw).at_ (by omega)
      obtain ⟨c0, c1, c2, c3⟩ := hc2 j hjl
      rw [List.getElem_tail] at c0 c1 c2 c3
      have HTK : Hid (l.take (j + 1 + 1) = l.take (j + 1) ++ [l[j + 1]]) := Lib.hid (List.take_succ_eq_append_getElem hjl2)
      obtain ⟨e, he⟩ : ∃ e, l[j + 1] = e := ⟨_, rfl⟩
      rw [he] at c0 c1 c2 c3 HTK
      obtain ⟨lv2, q2, g2, s2, t2⟩ := e
      simp only at c0 c1 c2 c3
      have HS2 : Hid (IsLo (l.take (j + 1 + 1)) (Lib.minS lo s2) ∧ IsHi (l.take (j + 1 + 1)) (Lib.maxS hi t2)) := Lib.hid (by rw [HTK.out]; exact ⟨HS.out.1.more ⟨lv2, q2, g2, s2, t2⟩, HS.out.2.more ⟨lv2, q2, g2, s2, t2⟩⟩)
      have hmn := fun W ts ty => Lib.run_min_strs (P := Try.prog) W ts ty lo s2
      have hmx := fun W ts ty => Lib.run_max_strs (P := Try.prog) W ts ty hi t2
      obtain ⟨lo2, hlo2⟩ : ∃ x, Lib.minS lo s2 = x := ⟨_, rfl⟩
      obtain ⟨hi2, hhi2⟩ : ∃ x, Lib.maxS hi t2 = x := ⟨_, rfl⟩
      rw [hlo2, hhi2] at HS2
      simp only [hlo2] at hmn
      simp only [hhi2] at hmx
      have hal := (Below.refl wr.heap.size wr).alloc (Nat.le_refl _) (.cells #[.int .i64 q2, .int .i64 g2, .string s2, .string t2] 64)
      have hra := heap_alloc_new wr (.cells #[.int .i64 q2, .int .i64 g2, .string s2, .string t2] 64)
      subst hA2
      clear hc2 he hbw hlo2 hhi2 hjl hjl2
      go_upto_region 5 with fail
      generalize wr.alloc (.cells #[.int .i64 q2, .int .i64 g2, .string s2, .string t2] 64) = wa at hal hra ⊢
      have y2 : wa.cell? ⟨wr.heap.size, 2, none⟩ = some (.string s2) := cell_of_row _ _ _ _ _ _ hra
      have y3 : wa.cell? ⟨wr.heap.size, 3, none⟩ = some (.string t2) := cell_of_row _ _ _ _ _ _ hra
      have HBA : Hid (Below w.heap.size w wa.drew) := Lib.hid (HB.out.trans (hal.mono HB.out.size)).drew
      clear hal hra c0 c1 c2 c3
      go_region
      clear hmn hmx y2 y3
      go_wp2
      go_roundw
      case rel => exact ⟨j + 1, lo2, hi2, by omega, by go_num, rfl, rfl, HS2, HBA.out⟩
      case measure => simp [intOf]; omega
    · obtain rfl : j = m := by omega
      have HFIN : Hid (IsLo l lo ∧ IsHi l hi) := Lib.hid (by have := HS.out; rwa [List.take_of_length_le (by rw [HN.out, HM.out]; exact Nat.le_refl _)] at this)
      clear hbw
      go_wp2
      go_ret2
      exact ⟨⟨lo, hi, rfl, HFIN.out.1, HFIN.out.2⟩, HB.out⟩
end Go.Proofs.Ytffdiiolgflbkaa

/- files, isBottom. -/
namespace Go.Proofs.Ytffdiiolgflbkaa
open Go.RowKit Go.Maps
open VS
attribute [local go_sem ↓] Go.wp_at_zero Go.wp_at_succ

set_option maxRecDepth 100000 in
set_option maxHeartbeats 4000000 in
theorem jfiles_any (A : Option Addr) (n c : Nat) (l : List M) (w : World) (hin : In4 w A l) (hn : l.length = n) (hnb : n ≤ 40000000) :
    Calls Try.prog 70 #[.slice A n c] w fun r w' => (∃ D d, r = .returned (.slice D n d) ∧ IntsIn w' w'.heap.size D (files l) ∧ n ≤ d ∧ (∀ g, D = some g → w.heap.size ≤ g.block)) ∧ Below w.heap.size w w' := by
  obtain ⟨i0, hi, hz0, hz1, hz2⟩ := info_parts info_i64
  have HIN := Lib.hid hin
  have HN := Lib.hid hn
  clear hin hn
  go_enter Try.func70, Try.ntmps70
  go_wp2_with fail
  go_loopw [3, 8] (fun v i wr => ∃ j : Nat, j ≤ n ∧ i = .int .i64 j ∧ wr.ownsRow w.heap.size 2 1 v j (nums (files (l.take j))) ∧ Below w.heap.size w wr) (fun _ i _ => n - (intOf i).toNat)
  case atStart => exact ⟨0, by omega, rfl, World.ownsRow_nil _ _ _ _, Below.refl _ _⟩
  case round =>
    obtain ⟨j, hj, rfl, hown, hbw⟩ := hrel
    have HB := Lib.hid hbw
    by_cases hlt : j < n
    · have hjl : j < l.length := by rw [HN.out]; exact hlt
      obtain ⟨cb, off, hA, hbl, hc⟩ := (HIN.out.below hbw).at_ (by omega)
      obtain ⟨c0, c1, c2, c3⟩ := hc j hjl
      have HSN := Lib.hid (files_snoc l j hjl)
      obtain ⟨e, he⟩ : ∃ e, l[j] = e := ⟨_, rfl⟩
      rw [he] at c0 c1 c2 c3 HSN
      obtain ⟨lv, q, g, s, t⟩ := e
      simp only at c0 c1 c2 c3 HSN
      have hal := (Below.refl wr.heap.size wr).alloc (Nat.le_refl _) (.cells #[.int .i64 q, .int .i64 g, .string s, .string t] 64)
      have hra := heap_alloc_new wr (.cells #[.int .i64 q, .int .i64 g, .string s, .string t] 64)
      obtain ⟨X, hX⟩ : ∃ X, nums (files (l.take j)) = X := ⟨_, rfl⟩
      rw [hX] at hown HSN
      subst hA
      clear hc he hbw hX
      go_upto_region 5 with fail
      generalize wr.alloc (.cells #[.int .i64 q, .int .i64 g, .string s, .string t] 64) = wa at hal hra ⊢
      have y0 : wa.cell? ⟨wr.heap.size, 0, none⟩ = some (.int .i64 q) := cell_of_row _ _ _ _ _ _ hra
      have HBA : Hid (Below w.heap.size w wa) := Lib.hid (HB.out.trans (hal.mono HB.out.size))
      have hoa := own_below hown hal
      clear hal hra c0 c1 c2 c3 hown
      go_wp2_with (at_builtin; refine wpList_append_own _ rfl _ _ 31 rfl w.heap.size 2 i0 _ 1 8 Try.underlying31 hi hz0 hz1 hz2 rfl (by decide) _ _ _ rfl (hoa.alloc _) ⟨wa.heap.size, 0, none⟩ 1 1 [.int .i64 q] rfl ?c1 ?c2 ?c3 ?c4 ?c5 ?c6 ?_)
      case c1 => rfl
      case c2 => exact cell_one_new _ _ _
      case c3 => simp [Value.oneCell']
      case c4 => unfold maxLen; omega
      case c5 => omega
      case c6 => have := HBA.out.size; simp; omega
      intro v' w6 hown6 hgrow6 _
      have HO6 : Hid (w6.ownsRow w.heap.size 2 1 v' (j + 1) (nums (files (l.take (j + 1))))) := Lib.hid (by rw [HSN.out]; exact hown6)
      have HB6 : Hid (Below w.heap.size w w6) := Lib.hid ((HBA.out.alloc HBA.out.size _).grown hgrow6 (by have := HBA.out.size; simp; omega) (fun g hg => (hoa.lt g hg).1))
      clear hown6 hgrow6 hoa y0
      go_wp2
      go_roundw
      case rel => exact ⟨j + 1, by omega, by go_num, HO6.out, HB6.out⟩
      case measure => simp [intOf]; omega
    · obtain rfl : j = n := by omega
      have htk : l.take j = l := List.take_of_length_le (by rw [HN.out]; exact Nat.le_refl _)
      rw [htk] at hown
      have hfi : ∀ x ∈ files l, i64 x := fun x hx => by
        obtain ⟨m, hm, rfl⟩ := List.mem_map.1 hx
        exact (HIN.out.wf m hm).file
      obtain ⟨D, d, rfl, hints, -, hnd⟩ := own_nums hfi (by simpa [files] using HN.out) hown
      have HDB : Hid (∀ g, D = some g → w.heap.size ≤ g.block) := Lib.hid fun g hg => (hown.lt g.block (by rw [hg]; rfl)).1
      have HI := Lib.hid hints
      have HD := Lib.hid hnd
      clear hown htk hints hbw hnd
      go_wp2
      go_ret
      exact ⟨⟨D, d, rfl, HI.out, HD.out, HDB.out⟩, HB.out⟩

set_option maxRecDepth 100000 in
set_option maxHeartbeats 4000000 in
theorem isBottom_any (A : Nat → Option Addr) (N C : Nat → Nat) (L : List M) (lg nx sq : Int) (k : Nat) (lo hi : ByteArray) (w : World) (h : VerIn w A N C L) (hk : k ≤ 4) (hL : L.length ≤ 10000000) :
    Calls Try.prog 71 #[.agg #[.slice (A 0) (N 0) (C 0), .slice (A 1) (N 1) (C 1), .slice (A 2) (N 2) (C 2), .slice (A 3) (N 3) (C 3), .int .i64 lg, .int .i64 nx, .int .i64 sq], .int .i64 k, .string lo, .string hi] w fun r w' => (∃ b, r = .returned (.bool b) ∧ ((∀ j : Nat, k ≤ j → j < 4 → over j lo hi L = []) → b = true)) ∧ Below w.heap.size w w' := by
  have HV := Lib.hid h
  have HOV : Hid (∀ (j : Nat) W, j < 4 → VerIn W A N C L → Calls Try.prog 20 #[.agg #[.slice (A 0) (N 0) (C 0), .slice (A 1) (N 1) (C 1), .slice (A 2) (N 2) (C 2), .slice (A 3) (N 3) (C 3), .int .i64 lg, .int .i64 nx, .int .i64 sq], .int .i64 j, .string lo, .string hi] W fun r w' => ∃ v, r = .returned v ∧ w'.ownsRow W.heap.size 64 4 v (over j lo hi L).length (cs4 (over j lo hi L)) ∧ Below W.heap.size W w') := Lib.hid fun j W hj hW => pover_in A N C L lg nx sq j lo hi W hW hj hL
  obtain ⟨S0, hS0⟩ : ∃ S0, Value.slice (A 0) (N 0) (C 0) = S0 := ⟨_, rfl⟩
  obtain ⟨S1, hS1⟩ : ∃ S1, Value.slice (A 1) (N 1) (C 1) = S1 := ⟨_, rfl⟩
  obtain ⟨S2, hS2⟩ : ∃ S2, Value.slice (A 2) (N 2) (C 2) = S2 := ⟨_, rfl⟩
  obtain ⟨S3, hS3⟩ : ∃ S3, Value.slice (A 3) (N 3) (C 3) = S3 := ⟨_, rfl⟩
  rw [hS0, hS1, hS2, hS3] at HOV
  rw [hS0, hS1, hS2, hS3]
  have hal : Below w.heap.size w (w.alloc (.cells #[S0, S1, S2, S3, .int .i64 lg, .int .i64 nx, .int .i64 sq] 26)) := (Below.refl _ w).alloc (Nat.le_refl _) _
  have hrp := heap_alloc_new w (.cells #[S0, S1, S2, S3, .int .i64 lg, .int .i64 nx, .int .i64 sq] 26)
  have hsz : (w.alloc (.cells #[S0, S1, S2, S3, .int .i64 lg, .int .i64 nx, .int .i64 sq] 26)).heap.size = w.heap.size + 1 := by simp
  clear hS0 hS1 hS2 hS3 h hL
  go_enter Try.func71, Try.ntmps71
  go_wp2_with fail
  generalize w.alloc (.cells #[S0, S1, S2, S3, .int .i64 lg, .int .i64 nx, .int .i64 sq] 26) = w0 at hal hrp hsz ⊢
  obtain ⟨p, hp⟩ : ∃ p, w.heap.size = p := ⟨_, rfl⟩
  have HVW : Hid (∀ W, Below (p + 1) w0 W → VerIn W A N C L) := Lib.hid fun W hW => HV.out.below (hal.trans (hW.mono (by omega)))
  have HEND : Hid (∀ W, Below (p + 1) w0 W → Below w.heap.size w W) := Lib.hid fun W hW => hal.trans (hW.mono (by omega))
  rw [hp] at hrp hsz ⊢
  have HROW : Hid (∀ W, Below (p + 1) w0 W → W.heap[p]? = some (.cells #[S0, S1, S2, S3, .int .i64 lg, .int .i64 nx, .int .i64 sq] 26 (0, 0))) := Lib.hid fun W hW => (hW.block p (by omega)).trans hrp
  have HSZ := Lib.hid hsz
  have HPP := Lib.hid hp
  clear hal hrp hsz hp
  go_loopw [1] (fun i wr => ∃ j : Nat, k ≤ j ∧ j ≤ 4 ∧ i = .int .i64 j ∧ Below (p + 1) w0 wr) (fun i _ => 4 - (intOf i).toNat)
  case atStart => exact ⟨k, Nat.le_refl _, hk, rfl, Below.refl _ _⟩
  case round =>
    obtain ⟨j, hkj, hj, rfl, hbw⟩ := hrel
    have HB := Lib.hid hbw
    by_cases hlt : j < 4
    · have hr := HROW.out wr hbw
      have q0 : wr.cell? ⟨p, 0, none⟩ = some S0 := cell_of_row _ _ _ _ _ _ hr
      have q1 : wr.cell? ⟨p, 1, none⟩ = some S1 := cell_of_row _ _ _ _ _ _ hr
      have q2 : wr.cell? ⟨p, 2, none⟩ = some S2 := cell_of_row _ _ _ _ _ _ hr
      have q3 : wr.cell? ⟨p, 3, none⟩ = some S3 := cell_of_row _ _ _ _ _ _ hr
      have q4 : wr.cell? ⟨p, 4, none⟩ = some (.int .i64 lg) := cell_of_row _ _ _ _ _ _ hr
      have q5 : wr.cell? ⟨p, 5, none⟩ = some (.int .i64 nx) := cell_of_row _ _ _ _ _ _ hr
      have q6 : wr.cell? ⟨p, 6, none⟩ = some (.int .i64 sq) := cell_of_row _ _ _ _ _ _ hr
      have HC := Lib.hid (HOV.out j wr hlt (HVW.out wr hbw))
      have HKJ : Hid (k ≤ j ∧ j < 4) := Lib.hid ⟨hkj, hlt⟩
      have d0 : decide ((j : Int) < 4) = true := decide_eq_true (by omega)
      have d1 : decide (j < 4) = true := decide_eq_true hlt
      clear hr hbw
      go_wp2_with fail
      refine HC.out.mono ?_
      rintro r w1 ⟨v, rfl, hown, hb1⟩
      obtain ⟨Av, cv, rfl⟩ := own_shape hown
      have HB1 : Hid (Below (p + 1) w0 w1) := Lib.hid (HB.out.trans (hb1.mono (by have := HB.out.size; have := HSZ.out; omega)))
      clear hown hb1 q0 q1 q2 q3 q4 q5 q6
      obtain ⟨O, hO⟩ : ∃ O, over j lo hi L = O := ⟨_, rfl⟩
      have HO := Lib.hid hO
      rw [hO]
      clear hO
      rcases Nat.eq_zero_or_pos O.length with h0 | h0
      · have d2 : decide ((0 : Int) < (O.length : Int)) = false := decide_eq_false (by omega)
        have d3 : decide (0 < O.length) = false := decide_eq_false (by omega)
        clear h0
        go_wp2
        go_roundw
        case rel => exact ⟨j + 1, by have := HKJ.out; omega, by have := HKJ.out; omega, by go_num, HB1.out⟩
        case measure => have := HKJ.out; simp [intOf]; omega
      · have d2 : decide ((0 : Int) < (O.length : Int)) = true := decide_eq_true (by omega)
        have d3 : decide (0 < O.length) = true := decide_eq_true h0
        have HNO : Hid (¬ ∀ j : Nat, k ≤ j → j < 4 → over j lo hi L = []) := Lib.hid fun hall => by
          have := hall j HKJ.out.1 HKJ.out.2
          rw [HO.out] at this
          rw [this] at h0
          simp at h0
        have HFIN := Lib.hid (HEND.out _ HB1.out)
        clear h0
        go_wp2
        go_ret
        exact ⟨⟨false, rfl, fun h => absurd h HNO.out⟩, HFIN.out⟩
    · obtain rfl : j = 4 := by omega
      have HFIN := Lib.hid (HEND.out _ hbw)
      clear hbw
      go_wp2
      go_ret
      exact ⟨⟨true, rfl, fun _ => rfl⟩, HFIN.out⟩
end Go.Proofs.Ytffdiiolgflbkaa

/- A list of tables put behind another one that has no room. -/
namespace Go.Proofs.Ytffdiiolgflbkaa
open Go.RowKit Go.Maps
open VS
attribute [local go_sem ↓] Go.wp_at_zero Go.wp_at_succ

theorem in4_cells {w : World} {A : Option Addr} {l : List M} (h : In4 w A l) (hp : 0 < l.length) : ∃ b off, A = some ⟨b, off, none⟩ ∧ b < w.heap.size ∧ ∀ j u, (cs4 l)[j]? = some u → w.cell? ((⟨b, off, none⟩ : Addr).add j) = some u := by
  obtain ⟨b, off, hA, hlt, hc⟩ := h.at_ hp
  refine ⟨b, off, hA, hlt, fun j u hu => ?_⟩
  have hj : j < (cs4 l).length := (List.getElem?_eq_some_iff.1 hu).1
  rw [cs4_len] at hj
  have hq : j / 4 < l.length := by omega
  have hr : j % 4 < 4 := Nat.mod_lt _ (by decide)
  have hje : j / 4 * 4 + j % 4 = j := by omega
  have h1 := cs4_at l (j / 4) hq (j % 4) hr
  rw [hje, hu] at h1
  obtain ⟨c0, c1, c2, c3⟩ := hc (j / 4) hq
  rw [add_off]
  obtain ⟨i, hi⟩ : ∃ i, j % 4 = i := ⟨_, rfl⟩
  rw [hi] at h1 hje hr
  rw [← hje]
  rcases (by omega : i = 0 ∨ i = 1 ∨ i = 2 ∨ i = 3) with rfl | rfl | rfl | rfl
  · simp only [M.c4, List.getElem?_cons_zero, Option.some.injEq] at h1
    rw [h1]; exact c0
  · simp only [M.c4, List.getElem?_cons_succ, List.getElem?_cons_zero, Option.some.injEq] at h1
    rw [h1]; exact c1
  · simp only [M.c4, List.getElem?_cons_succ, List.getElem?_cons_zero, Option.some.injEq] at h1
    rw [h1]; exact c2
  · simp only [M.c4, List.getElem?_cons_succ, List.getElem?_cons_zero, Option.some.injEq] at h1
    rw [h1]; exact c3
theorem one_cs4 (l : List M) : ∀ u ∈ cs4 l, u.oneCell' = true := by
  intro u hu
  obtain ⟨m, -, hm⟩ := List.mem_flatMap.1 hu
  exact one4 m u hm
theorem cs4_app (l k : List M) : cs4 (l ++ k) = cs4 l ++ cs4 k := by simp [cs4]

theorem app_metas {w : World} {A A2 : Option Addr} {c2 : Nat} {fr tw : List M} (h1 : In4 w A fr) (h2 : In4 w A2 tw) (hp : 0 < fr.length) (hn : fr.length ≤ 10000000) (hm : tw.length ≤ 10000000) :
    ∃ A3 c3 w', (Builtin.append_ #[23, 23] 23 #[.slice A fr.length fr.length, .slice A2 tw.length c2]).run Try.prog w = .ok (.slice A3 (fr.length + tw.length) c3) w' ∧ In4 w' A3 (fr ++ tw) ∧ fr.length + tw.length ≤ c3 ∧ Below w.heap.size w w' := by
  obtain ⟨i0, hi0, hz0, hz1, hz2⟩ := info_parts info_meta
  obtain ⟨b, off, rfl, hlt, hc⟩ := in4_cells h1 hp
  by_cases hm0 : tw = []
  · subst hm0
    refine ⟨some ⟨b, off, none⟩, fr.length, w, ?_, by simpa using h1, by simp, Below.refl _ _⟩
    cases A2 with
    | none => simp [Builtin.append_, run_underlying Try.underlying23, sizeOf, typeInfo, hi0, Builtin.lenOf, Builtin.firstCells, storeCells]
    | some a =>
      have hf := run_firstCells_some (P := Try.prog) w i0.size 0 a 0 c2 [] (by simp) (by simp)
      simp [Builtin.append_, run_underlying Try.underlying23, sizeOf, typeInfo, hi0, Builtin.lenOf, hf, storeCells]
  · have hp2 : 0 < tw.length := List.length_pos_iff.2 hm0
    obtain ⟨b2, off2, rfl, hlt2, hc2⟩ := in4_cells h2 hp2
    obtain ⟨v', w', hrun, hown, hg⟩ := run_append_arg_grows (P := Try.prog) w 23 23 64 i0 _ 4 48 Try.underlying23 hi0 hz0 hz1 hz2 rfl (by decide) ⟨b, off, none⟩ fr.length fr.length (cs4 fr) (cs4_len fr) hc
      ⟨b2, off2, none⟩ tw.length c2 (cs4 tw) (cs4_len tw) hc2 (by omega) (by unfold maxLen; omega) (by omega)
    rw [← cs4_app] at hown
    obtain ⟨A3, c3, rfl, hin, -, hle⟩ := own4 (l := fr ++ tw) (fun x hx => by
      rcases List.mem_append.1 hx with hx | hx
      · exact h1.wf x hx
      · exact h2.wf x hx) (by rw [List.length_append]) hown
    exact ⟨A3, c3, w', hrun, hin, hle, ⟨hg.os, hg.tape, hg.output, hg.size, fun k hk => hg.block k hk (by simp)⟩⟩

theorem list_app' {ops : Array Oper} {rest : List Oper} {o : Oper} {a : Act} {Q : Exit → Act → World → Prop} {w : World} (hgd : o.guard = none) (s x : Operand) (ty : TypeId) (ho : o.op = .call { callee := .builtin .append, args := #[s, x], argTypes := #[ty, ty] }) (hty : o.type = ty)
    (v1 v2 : Value) (hs : a.eval s = v1) (hx : a.eval x = v2) (v' : Value) (w' : World) (happ : (Builtin.append_ #[ty, ty] ty #[v1, v2]).run Try.prog w = .ok v' w') (h : wpList Try.prog ops Q rest (a.put o.dst v') w') : wpList Try.prog ops Q (o :: rest) a w := by
  refine wpList_plain hgd fun K hK => ?_
  unfold Oper.wp execOp
  simp only [ho, hty, resolve, invoke, builtin, Sem.run_bind, Sem.run_pure, Result.andThen_ok, List.map_toArray, List.map_cons, List.map_nil, hs, hx, happ]
  exact hK _ _ h

theorem jints_set {w : World} {A : Option Addr} {l : List Int} (h : IntsIn w w.heap.size A l) {x : Nat} (hA : ∀ g, A = some g → g.block ≠ x) (j : Nat) (u : Value) : IntsIn (w.setCell ⟨x, j, none⟩ u) (w.setCell ⟨x, j, none⟩ u).heap.size A l := by
  refine ⟨h.1, fun hn => ?_⟩
  obtain ⟨b, off, rfl, hlt, hc⟩ := h.2 hn
  have hne : b ≠ x := hA _ rfl
  refine ⟨b, off, rfl, by simpa [World.setCell] using hlt, fun i hi => ?_⟩
  rw [← hc i hi]
  unfold World.cell?
  rw [Below.heap_setCell _ _ _ _ hne]

/-- what job answers -/
def JobOut (v : V) (k B : Nat) (r : Ending) (w' : World) : Prop := ∃ fr tw bt A1 c1 A2 c2, r = .returned (.agg #[.int .i64 k, .slice A1 fr.length c1, .slice A2 tw.length c2, .bool bt]) ∧
  IntsIn w' w'.heap.size A1 (files fr) ∧ IntsIn w' w'.heap.size A2 (files tw) ∧ fr.length ≤ c1 ∧ tw.length ≤ c2 ∧ VS.Job v k fr tw ∧ (k = 0 → fr = lev 0 v.L) ∧ ((∀ m ∈ v.L, m.lvl < (k : Int) + 2) → bt = true) ∧ (∀ g, A1 = some g → B ≤ g.block) ∧ (∀ g, A2 = some g → B ≤ g.block)

set_option maxRecDepth 100000 in
set_option maxHeartbeats 4000000 in
theorem job_any (A : Nat → Option Addr) (N C : Nat → Nat) (v : V) (k : Nat) (cur : ByteArray) (w : World) (h : VerIn w A N C v.L) (hk : k < 3) (hL : v.L.length ≤ 10000000) (hne : lev k v.L ≠ []) (hok : Ok v) :
    Calls Try.prog 51 #[.agg #[.slice (A 0) (N 0) (C 0), .slice (A 1) (N 1) (C 1), .slice (A 2) (N 2) (C 2), .slice (A 3) (N 3) (C 3), .int .i64 v.log, .int .i64 v.next, .int .i64 v.seq], .int .i64 k, .string cur] w fun r w' => JobOut v k w.heap.size r w' ∧ Below w.heap.size w w' := by
  have HNX := Lib.hid (fun W (hW : VerIn W A N C v.L) => next_any A N C v.L v.log v.next v.seq k cur W hW (by omega) hL hne hok.nodup)
  have HOV : Hid (∀ lo hi W, VerIn W A N C v.L → Calls Try.prog 20 #[.agg #[.slice (A 0) (N 0) (C 0), .slice (A 1) (N 1) (C 1), .slice (A 2) (N 2) (C 2), .slice (A 3) (N 3) (C 3), .int .i64 v.log, .int .i64 v.next, .int .i64 v.seq], .int .i64 ((k : Int) + 1), .string lo, .string hi] W fun r w' => ∃ x, r = .returned x ∧ w'.ownsRow W.heap.size 64 4 x (over ((k : Int) + 1) lo hi v.L).length (cs4 (over ((k : Int) + 1) lo hi v.L)) ∧ Below W.heap.size W w') := Lib.hid fun lo hi W hW => pover_in A N C v.L v.log v.next v.seq (k + 1) lo hi W hW (by omega) hL
  have HBT : Hid (∀ lo hi W, VerIn W A N C v.L → Calls Try.prog 71 #[.agg #[.slice (A 0) (N 0) (C 0), .slice (A 1) (N 1) (C 1), .slice (A 2) (N 2) (C 2), .slice (A 3) (N 3) (C 3), .int .i64 v.log, .int .i64 v.next, .int .i64 v.seq], .int .i64 ((k : Int) + 2), .string lo, .string hi] W fun r w' => (∃ b, r = .returned (.bool b) ∧ ((∀ j : Nat, k + 2 ≤ j → j < 4 → over j lo hi v.L = []) → b = true)) ∧ Below W.heap.size W w') := Lib.hid fun lo hi W hW => isBottom_any A N C v.L v.log v.next v.seq (k + 2) lo hi W hW (by omega) hL
  have HV := Lib.hid h
  have HLW : Hid (∀ m ∈ v.L, m.wf) := Lib.hid fun m hm => by
    have hf := fine_num (hok.fine m hm)
    obtain ⟨j, hj⟩ : ∃ j : Nat, m.lvl = j := ⟨m.lvl.toNat, by omega⟩
    exact (h.at_ j (by omega)).wf m (List.mem_filter.2 ⟨hm, by rw [hj]; simp⟩)
  have HK : Hid (k < 3) := Lib.hid hk
  have HOVL : Hid (∀ lo hi, (over ((k : Int) + 1) lo hi v.L).length ≤ 10000000) := Lib.hid fun lo hi => Nat.le_trans (over_len _ _ _ _) hL
  have HLL : Hid (v.L.length ≤ 10000000) := Lib.hid hL
  have hw1 : IntKind.i64.wrap ((k : Int) + 1) = (k : Int) + 1 := IntWalk.i64_in _ ⟨by omega, by omega⟩
  have hw2 : IntKind.i64.wrap ((k : Int) + 2) = (k : Int) + 2 := IntWalk.i64_in _ ⟨by omega, by omega⟩
  obtain ⟨S0, hS0⟩ : ∃ S0, Value.slice (A 0) (N 0) (C 0) = S0 := ⟨_, rfl⟩
  obtain ⟨S1, hS1⟩ : ∃ S1, Value.slice (A 1) (N 1) (C 1) = S1 := ⟨_, rfl⟩
  obtain ⟨S2, hS2⟩ : ∃ S2, Value.slice (A 2) (N 2) (C 2) = S2 := ⟨_, rfl⟩
  obtain ⟨S3, hS3⟩ : ∃ S3, Value.slice (A 3) (N 3) (C 3) = S3 := ⟨_, rfl⟩
  rw [hS0, hS1, hS2, hS3] at HNX HOV HBT
  rw [hS0, hS1, hS2, hS3]
  obtain ⟨L, lg, nx, sq⟩ := v
  simp only at HNX HOV HBT HV HLW HOVL HLL ⊢
  have hal : Below w.heap.size w ((w.alloc (.cells #[S0, S1, S2, S3, .int .i64 lg, .int .i64 nx, .int .i64 sq] 26)).alloc (.cells #[.int .i64 0, .slice none 0 0, .slice none 0 0, .bool false] 76)) := ((Below.refl _ w).alloc (Nat.le_refl _) _).alloc (by simp) _
  have hrp : ((w.alloc (.cells #[S0, S1, S2, S3, .int .i64 lg, .int .i64 nx, .int .i64 sq] 26)).alloc (.cells #[.int .i64 0, .slice none 0 0, .slice none 0 0, .bool false] 76)).heap[w.heap.size]? = some (.cells #[S0, S1, S2, S3, .int .i64 lg, .int .i64 nx, .int .i64 sq] 26 (0, 0)) := (Below.heap_alloc _ _ _ (by simp)).trans (heap_alloc_new w _)
  have hrj : ((w.alloc (.cells #[S0, S1, S2, S3, .int .i64 lg, .int .i64 nx, .int .i64 sq] 26)).alloc (.cells #[.int .i64 0, .slice none 0 0, .slice none 0 0, .bool false] 76)).heap[w.heap.size + 1]? = some (.cells #[.int .i64 0, .slice none 0 0, .slice none 0 0, .bool false] 76 (0, 0)) := by
    have := heap_alloc_new (w.alloc (.cells #[S0, S1, S2, S3, .int .i64 lg, .int .i64 nx, .int .i64 sq] 26)) (.cells #[.int .i64 0, .slice none 0 0, .slice none 0 0, .bool false] 76)
    simpa using this
  have hsz : ((w.alloc (.cells #[S0, S1, S2, S3, .int .i64 lg, .int .i64 nx, .int .i64 sq] 26)).alloc (.cells #[.int .i64 0, .slice none 0 0, .slice none 0 0, .bool false] 76)).heap.size = w.heap.size + 2 := by simp
  clear hS0 hS1 hS2 hS3 h hL hne
  have HOK := Lib.hid hok
  clear hok
  go_enter Try.func51, Try.ntmps51
  go_upto_region 1 with fail
  generalize ((w.alloc (.cells #[S0, S1, S2, S3, .int .i64 lg, .int .i64 nx, .int .i64 sq] 26)).alloc (.cells #[.int .i64 0, .slice none 0 0, .slice none 0 0, .bool false] 76)) = w0 at hal hrp hrj hsz ⊢
  obtain ⟨p, hp⟩ : ∃ p, w.heap.size = p := ⟨_, rfl⟩
  have HVW : Hid (∀ W, Below (p + 2) w0 W → VerIn W A N C L) := Lib.hid fun W hW => HV.out.below (hal.trans (hW.mono (by omega)))
  have HEND : Hid (∀ W, Below (p + 2) w0 W → Below w.heap.size w W) := Lib.hid fun W hW => hal.trans (hW.mono (by omega))
  rw [hp] at hrp hrj hsz ⊢
  have HROW : Hid (∀ W, Below (p + 2) w0 W → W.heap[p]? = some (.cells #[S0, S1, S2, S3, .int .i64 lg, .int .i64 nx, .int .i64 sq] 26 (0, 0)) ∧ W.heap[p + 1]? = some (.cells #[.int .i64 0, .slice none 0 0, .slice none 0 0, .bool false] 76 (0, 0))) := Lib.hid fun W hW => ⟨(hW.block p (by omega)).trans hrp, (hW.block (p + 1) (by omega)).trans hrj⟩
  have HSTEP : Hid (∀ W W', Below (p + 2) w0 W → Below W.heap.size W W' → Below (p + 2) w0 W') := Lib.hid fun W W' h1 h2 => h1.trans (h2.mono (by have := h1.size; omega))
  have HPP : Hid (w.heap.size = p) := Lib.hid hp
  have q0 : w0.cell? ⟨p, 0, none⟩ = some S0 := cell_of_row _ _ _ _ _ _ hrp
  have q1 : w0.cell? ⟨p, 1, none⟩ = some S1 := cell_of_row _ _ _ _ _ _ hrp
  have q2 : w0.cell? ⟨p, 2, none⟩ = some S2 := cell_of_row _ _ _ _ _ _ hrp
  have q3 : w0.cell? ⟨p, 3, none⟩ = some S3 := cell_of_row _ _ _ _ _ _ hrp
  have q4 : w0.cell? ⟨p, 4, none⟩ = some (.int .i64 lg) := cell_of_row _ _ _ _ _ _ hrp
  have q5 : w0.cell? ⟨p, 5, none⟩ = some (.int .i64 nx) := cell_of_row _ _ _ _ _ _ hrp
  have q6 : w0.cell? ⟨p, 6, none⟩ = some (.int .i64 sq) := cell_of_row _ _ _ _ _ _ hrp
  have HB0 : Hid (Below (p + 2) w0 w0) := Lib.hid (Below.refl _ _)
  clear hal hrp hrj hsz hp
  go_wp2_with fail
  refine (HNX.out _ (HVW.out _ HB0.out)).mono ?_
  rintro r w1 ⟨⟨cb, off, fr, rfl, hin1, -, hfne, hfl, hfnd, hf0, hfle⟩, hb1⟩
  have HB1 := Lib.hid (HSTEP.out _ _ HB0.out hb1)
  have HIN1 := Lib.hid hin1
  have HFR : Hid (fr ≠ [] ∧ (∀ m ∈ fr, m ∈ lev k L) ∧ fr.Nodup ∧ (k = 0 → fr = lev 0 L)) := Lib.hid ⟨hfne, hfl, hfnd, hf0⟩
  have hfp : 0 < fr.length := List.length_pos_iff.2 hfne
  have HFN : Hid (fr.length ≤ 10000000) := Lib.hid (Nat.le_trans hfle (Nat.le_trans (lev_len _ _) HLL.out))
  have HFP := Lib.hid hfp
  clear hb1 hin1 hfne hfl hfnd hf0 hfp hfle q0 q1 q2 q3 q4 q5 q6
  go_wp2_with fail
  refine (span_any (some ⟨cb, off, none⟩) fr.length fr.length fr w1 HIN1.out rfl HFP.out (Nat.le_refl _) (by have := HFN.out; omega)).mono ?_
  rintro r w2 ⟨⟨lo, hi, rfl, hlo, hhi⟩, hb2⟩
  have HLH := Lib.hid (And.intro hlo hhi)
  have HB2 := Lib.hid (HSTEP.out _ _ HB1.out hb2)
  have HIN2 := Lib.hid (HIN1.out.below hb2)
  have hr := (HROW.out _ HB2.out).1
  have q0 : w2.cell? ⟨p, 0, none⟩ = some S0 := cell_of_row _ _ _ _ _ _ hr
  have q1 : w2.cell? ⟨p, 1, none⟩ = some S1 := cell_of_row _ _ _ _ _ _ hr
  have q2 : w2.cell? ⟨p, 2, none⟩ = some S2 := cell_of_row _ _ _ _ _ _ hr
  have q3 : w2.cell? ⟨p, 3, none⟩ = some S3 := cell_of_row _ _ _ _ _ _ hr
  have q4 : w2.cell? ⟨p, 4, none⟩ = some (.int .i64 lg) := cell_of_row _ _ _ _ _ _ hr
  have q5 : w2.cell? ⟨p, 5, none⟩ = some (.int .i64 nx) := cell_of_row _ _ _ _ _ _ hr
  have q6 : w2.cell? ⟨p, 6, none⟩ = some (.int .i64 sq) := cell_of_row _ _ _ _ _ _ hr
  clear hlo hhi hb2 hr
  go_wp2_with fail
  refine (HOV.out lo hi _ (HVW.out _ HB2.out)).mono ?_
  rintro r w3 ⟨xv, rfl, hown, hb3⟩
  have HTW : Hid (over ((k : Int) + 1) lo hi L = over ((k : Int) + 1) lo hi L) := Lib.hid rfl
  obtain ⟨A2, c2, rfl, hin2, -, -⟩ := own4 (fun m hm => HLW.out m (over_lvl hm).2) rfl hown
  have HB3 := Lib.hid (HSTEP.out _ _ HB2.out hb3)
  have HIN3 := Lib.hid (HIN2.out.below hb3)
  have htl := HOVL.out lo hi
  obtain ⟨tw, htw⟩ : ∃ tw, over ((k : Int) + 1) lo hi L = tw := ⟨_, rfl⟩
  have HTE := Lib.hid htw
  rw [htw] at hin2 htl
  rw [htw]
  have HINT := Lib.hid hin2
  have HTL := Lib.hid htl
  clear hown hb3 hin2 htl htw q0 q1 q2 q3 q4 q5 q6 HTW
  go_upto_region 4 with fail
  obtain ⟨A3, c3, w4, happ, hin4, hc3, hb4⟩ := app_metas (c2 := c2) HIN3.out HINT.out HFP.out HFN.out HTL.out
  have HAPP := Lib.hid happ
  have HB4 := Lib.hid (HSTEP.out _ _ HB3.out hb4)
  have HIN4 := Lib.hid hin4
  have HC3 := Lib.hid hc3
  have HINF := Lib.hid (HIN3.out.below hb4)
  have HINT4 := Lib.hid (HINT.out.below hb4)
  clear happ hin4 hc3 hb4
  go_wp2_with (at_builtin; refine list_app' rfl _ _ 23 rfl rfl _ _ rfl rfl _ _ HAPP.out ?_)
  go_wp2_with fail
  refine (span_any A3 (fr.length + tw.length) c3 (fr ++ tw) w4 HIN4.out (by rw [List.length_append]) (by have := HFP.out; omega) HC3.out (by have := HFN.out; have := HTL.out; omega)).mono ?_
  rintro r w5 ⟨⟨lo2, hi2, rfl, -, -⟩, hb5⟩
  have HB5 := Lib.hid (HSTEP.out _ _ HB4.out hb5)
  have HINF5 := Lib.hid (HINF.out.below hb5)
  have HINT5 := Lib.hid (HINT4.out.below hb5)
  obtain ⟨B5, hB5⟩ : ∃ B, w5.heap.size = B := ⟨_, rfl⟩
  have HB5E := Lib.hid hB5
  have HPB : Hid (p + 1 < B5) := Lib.hid (by rw [← hB5]; exact (Array.getElem?_eq_some_iff.1 (HROW.out _ HB5.out).2).1)
  have HGO : Hid (∀ W, Below B5 w5 W → Below (p + 2) w0 W) := Lib.hid fun W hW => HB5.out.trans (hW.mono (by have := HPB.out; omega))
  have HF1 : Hid (∀ W, Below B5 w5 W → Calls Try.prog 70 #[.slice (some ⟨cb, off, none⟩) fr.length fr.length] W fun r w' => (∃ D d, r = .returned (.slice D fr.length d) ∧ IntsIn w' w'.heap.size D (files fr) ∧ fr.length ≤ d ∧ (∀ g, D = some g → W.heap.size ≤ g.block)) ∧ Below W.heap.size W w') := Lib.hid fun W hW => jfiles_any _ _ _ fr W (HINF5.out.below (by rw [HB5E.out]; exact hW)) rfl (by have := HFN.out; omega)
  have HF2 : Hid (∀ W, Below B5 w5 W → Calls Try.prog 70 #[.slice A2 tw.length c2] W fun r w' => (∃ D d, r = .returned (.slice D tw.length d) ∧ IntsIn w' w'.heap.size D (files tw) ∧ tw.length ≤ d ∧ (∀ g, D = some g → W.heap.size ≤ g.block)) ∧ Below W.heap.size W w') := Lib.hid fun W hW => jfiles_any _ _ _ tw W (HINT5.out.below (by rw [HB5E.out]; exact hW)) rfl (by have := HTL.out; omega)
  have HBB : Hid (∀ W, Below B5 w5 W → Calls Try.prog 71 #[.agg #[S0, S1, S2, S3, .int .i64 lg, .int .i64 nx, .int .i64 sq], .int .i64 ((k : Int) + 2), .string lo2, .string hi2] W fun r w' => (∃ b, r = .returned (.bool b) ∧ ((∀ j : Nat, k + 2 ≤ j → j < 4 → over j lo2 hi2 L = []) → b = true)) ∧ Below W.heap.size W w') := Lib.hid fun W hW => HBT.out lo2 hi2 W (HVW.out W (HGO.out W hW))
  have HST5 : Hid (∀ W W', Below B5 w5 W → Below W.heap.size W W' → Below B5 w5 W') := Lib.hid fun W W' h1 h2 => h1.trans (h2.mono (by have := h1.size; have := HB5E.out; omega))
  have HX0 : Hid (Below B5 w5 w5.drew) := Lib.hid (Below.refl _ _).drew
  have HC5 : Hid (∀ W, Below B5 w5 W → W.cell? ⟨p, 0, none⟩ = some S0 ∧ W.cell? ⟨p, 1, none⟩ = some S1 ∧ W.cell? ⟨p, 2, none⟩ = some S2 ∧ W.cell? ⟨p, 3, none⟩ = some S3 ∧ W.cell? ⟨p, 4, none⟩ = some (.int .i64 lg) ∧ W.cell? ⟨p, 5, none⟩ = some (.int .i64 nx) ∧ W.cell? ⟨p, 6, none⟩ = some (.int .i64 sq)) := Lib.hid fun W hW => by
    have hr := (HROW.out W (HGO.out W hW)).1
    exact ⟨cell_of_row _ _ _ _ _ _ hr, cell_of_row _ _ _ _ _ _ hr, cell_of_row _ _ _ _ _ _ hr, cell_of_row _ _ _ _ _ _ hr, cell_of_row _ _ _ _ _ _ hr, cell_of_row _ _ _ _ _ _ hr, cell_of_row _ _ _ _ _ _ hr⟩
  have HS0 := Lib.hid (HC5.out _ HX0.out)
  clear hb5 hB5 HAPP HIN4 HINF HINT4 HIN3 HIN2 HIN1 HNX HOV
  go_wp2_with fail
  go_region_held3 (fun s => s.cell? ⟨p, 0, none⟩ = some S0 ∧ s.cell? ⟨p, 1, none⟩ = some S1 ∧ s.cell? ⟨p, 2, none⟩ = some S2 ∧ s.cell? ⟨p, 3, none⟩ = some S3 ∧ s.cell? ⟨p, 4, none⟩ = some (.int .i64 lg) ∧ s.cell? ⟨p, 5, none⟩ = some (.int .i64 nx) ∧ s.cell? ⟨p, 6, none⟩ = some (.int .i64 sq))
    (first | with_reducible exact HS3.out | with_reducible exact HS2.out | with_reducible exact HS1.out | with_reducible exact HS0.out | go_keep | fail)
    (first
      | (have h := HX2.out
         go_at_call 71
         refine (HBB.out _ h).mono ?_
         rintro r w8 ⟨⟨bt, rfl, hbt⟩, hb⟩
         have HX3 := Lib.hid (HST5.out _ _ h hb)
         have HS3 := Lib.hid (HC5.out _ HX3.out)
         have HI1'' := Lib.hid (HI1'.out.mono hb)
         have HI2'' := Lib.hid (HI2.out.mono hb)
         have HBT2 := Lib.hid hbt
         have hrj := (HROW.out _ (HGO.out _ HX3.out)).2
         have j0 : w8.cell? ⟨p + 1, 0, none⟩ = some (.int .i64 0) := cell_of_row _ _ _ _ _ _ hrj
         have j1 : w8.cell? ⟨p + 1, 1, none⟩ = some (.slice none 0 0) := cell_of_row _ _ _ _ _ _ hrj
         have j2 : w8.cell? ⟨p + 1, 2, none⟩ = some (.slice none 0 0) := cell_of_row _ _ _ _ _ _ hrj
         have j3 : w8.cell? ⟨p + 1, 3, none⟩ = some (.bool false) := cell_of_row _ _ _ _ _ _ hrj
         have z0 : w8.frozen? ⟨p + 1, 0, none⟩ = false := frozen_of_row _ _ _ _ _ hrj
         have z1 : w8.frozen? ⟨p + 1, 1, none⟩ = false := frozen_of_row _ _ _ _ _ hrj
         have z2 : w8.frozen? ⟨p + 1, 2, none⟩ = false := frozen_of_row _ _ _ _ _ hrj
         have z3 : w8.frozen? ⟨p + 1, 3, none⟩ = false := frozen_of_row _ _ _ _ _ hrj
         clear hb h hbt hrj)
      | (have h := HX1.out
         go_at_call 70
         refine (HF2.out _ h).mono ?_
         rintro r w7 ⟨⟨D2, d2, rfl, hi2, hd2, hg2⟩, hb⟩
         have HX2 := Lib.hid (HST5.out _ _ h hb)
         have HS2 := Lib.hid (HC5.out _ HX2.out)
         have HI1' := Lib.hid (HI1.out.mono hb)
         have HI2 := Lib.hid hi2
         have HD2 : Hid (tw.length ≤ d2 ∧ ∀ g, D2 = some g → p + 1 < g.block) := Lib.hid ⟨hd2, fun g e => by have := hg2 g e; have := h.size; have := HB5E.out; have := HPB.out; omega⟩
         clear hb h hi2 hd2 hg2)
      | (go_at_call 70
         refine (HF1.out _ HX0.out).mono ?_
         rintro r w6 ⟨⟨D1, d1, rfl, hi1, hd1, hg1⟩, hb⟩
         have HX1 := Lib.hid (HST5.out _ _ HX0.out hb)
         have HS1 := Lib.hid (HC5.out _ HX1.out)
         have HI1 := Lib.hid hi1
         have HD1 : Hid (fr.length ≤ d1 ∧ ∀ g, D1 = some g → p + 1 < g.block) := Lib.hid ⟨hd1, fun g e => by have := hg1 g e; have := HX0.out.size; have := HB5E.out; have := HPB.out; omega⟩
         clear hb hi1 hd1 hg1)
      | fail)
  have HFB : Hid (Below w.heap.size w w8) := Lib.hid (HEND.out _ (HGO.out _ HX3.out))
  have HOUT : Hid (∀ W, IntsIn W W.heap.size D1 (files fr) → IntsIn W W.heap.size D2 (files tw) → JobOut ⟨L, lg, nx, sq⟩ k w.heap.size (.returned (.agg #[.int .i64 k, .slice D1 fr.length d1, .slice D2 tw.length d2, .bool bt])) W) := Lib.hid fun W h1 h2 =>
    ⟨fr, tw, bt, D1, d1, D2, d2, rfl, h1, h2, HD1.out.1, HD2.out.1, ⟨HK.out, HFR.out.1, fun m hm => by
      have := lev_mem (HFR.out.2.1 m hm)
      exact ⟨this.2, this.1⟩, HFR.out.2.2.1, lo, hi, HLH.out.1, HLH.out.2, HTE.out.symm⟩, HFR.out.2.2.2, fun hall => HBT2.out fun j hj1 hj2 => by
      cases hov : over j lo2 hi2 L with
      | nil => rfl
      | cons x xs =>
        have hx : x ∈ over j lo2 hi2 L := by rw [hov]; exact List.mem_cons_self ..
        obtain ⟨h3, h4⟩ := over_lvl hx
        have := hall x h4
        omega, fun g e => by have := HD1.out.2 g e; have := HPP.out; omega, fun g e => by have := HD2.out.2 g e; have := HPP.out; omega⟩
  have HE1 : Hid (∀ g, D1 = some g → g.block ≠ p + 1) := Lib.hid fun g e => by have := HD1.out.2 g e; omega
  have HE2 : Hid (∀ g, D2 = some g → g.block ≠ p + 1) := Lib.hid fun g e => by have := HD2.out.2 g e; omega
  have HFI : Hid (∀ u0 u1 u2 u3, IntsIn ((((w8.setCell ⟨p + 1, 0, none⟩ u0).setCell ⟨p + 1, 1, none⟩ u1).setCell ⟨p + 1, 2, none⟩ u2).setCell ⟨p + 1, 3, none⟩ u3) ((((w8.setCell ⟨p + 1, 0, none⟩ u0).setCell ⟨p + 1, 1, none⟩ u1).setCell ⟨p + 1, 2, none⟩ u2).setCell ⟨p + 1, 3, none⟩ u3).heap.size D1 (files fr) ∧ IntsIn ((((w8.setCell ⟨p + 1, 0, none⟩ u0).setCell ⟨p + 1, 1, none⟩ u1).setCell ⟨p + 1, 2, none⟩ u2).setCell ⟨p + 1, 3, none⟩ u3) ((((w8.setCell ⟨p + 1, 0, none⟩ u0).setCell ⟨p + 1, 1, none⟩ u1).setCell ⟨p + 1, 2, none⟩ u2).setCell ⟨p + 1, 3, none⟩ u3).heap.size D2 (files tw)) := Lib.hid fun u0 u1 u2 u3 =>
    ⟨jints_set (jints_set (jints_set (jints_set HI1''.out HE1.out 0 u0) HE1.out 1 u1) HE1.out 2 u2) HE1.out 3 u3, jints_set (jints_set (jints_set (jints_set HI2''.out HE2.out 0 u0) HE2.out 1 u1) HE2.out 2 u2) HE2.out 3 u3⟩
  have HFE : Hid (∀ u0 u1 u2 u3, Below w.heap.size w ((((w8.setCell ⟨p + 1, 0, none⟩ u0).setCell ⟨p + 1, 1, none⟩ u1).setCell ⟨p + 1, 2, none⟩ u2).setCell ⟨p + 1, 3, none⟩ u3)) := Lib.hid fun u0 u1 u2 u3 => by
    have hle : w.heap.size ≤ p + 1 := by rw [HPP.out]; omega
    exact (((HFB.out.setCell (p := ⟨p + 1, 0, none⟩) hle u0).setCell (p := ⟨p + 1, 1, none⟩) hle u1).setCell (p := ⟨p + 1, 2, none⟩) hle u2).setCell (p := ⟨p + 1, 3, none⟩) hle u3
  go_wp2
  exact bodyPost_ret (v := .agg #[.int .i64 k, .slice D1 fr.length d1, .slice D2 tw.length d2, .bool bt]) (by simp [results, Try.results51, go_sem, *]) rfl ⟨HOUT.out _ (HFI.out _ _ _ _).1 (HFI.out _ _ _ _).2, HFE.out _ _ _ _⟩
end Go.Proofs.Ytffdiiolgflbkaa

/- Pick. -/
namespace Go.Proofs.Ytffdiiolgflbkaa
open Go.RowKit Go.Maps
open VS
attribute [local go_sem ↓] Go.wp_at_zero Go.wp_at_succ

theorem cur_index (s : Nat → ByteArray) {k : Nat} (hk : k < 4) (W : World) :
    (Instr.index 73 (.agg #[.string (s 0), .string (s 1), .string (s 2), .string (s 3)]) (.int .i64 k)).run Try.prog W = .ok (.string (s k)) W := by
  rcases (by omega : k = 0 ∨ k = 1 ∨ k = 2 ∨ k = 3) with rfl | rfl | rfl | rfl <;> kernel_rfl

def NotFull (zr : Int) (L : List M) : Prop := ¬ (max zr 1 ≤ ((lev 0 L).length : Int))

/-- what Pick answers -/
def PickOut (zr : Int) (v : V) (B : Nat) (r : Ending) (w' : World) : Prop :=
  (r = .returned (.tuple #[.agg #[.int .i64 0, .slice none 0 0, .slice none 0 0, .bool false], .bool false]) ∧ ¬ (max zr 1 ≤ ((lev 0 v.L).length : Int))) ∨
  ∃ k jv, r = .returned (.tuple #[jv, .bool true]) ∧ JobOut v k B (.returned jv) w' ∧ (max zr 1 ≤ ((lev 0 v.L).length : Int) → k = 0)

theorem JobOut.four {v : V} {k B : Nat} {r : Ending} {w : World} (h : JobOut v k B r w) {x : Nat} (hx : x < B) (u0 u1 u2 u3 : Value) : JobOut v k B r ((((w.setCell ⟨x, 0, none⟩ u0).setCell ⟨x, 1, none⟩ u1).setCell ⟨x, 2, none⟩ u2).setCell ⟨x, 3, none⟩ u3) := by
  obtain ⟨fr, tw, bt, A1, c1, A2, c2, h0, h1, h2, h3, h4, h5, h6, h7, h8, h9⟩ := h
  have n1 : ∀ g, A1 = some g → g.block ≠ x := fun g e => by have := h8 g e; omega
  have n2 : ∀ g, A2 = some g → g.block ≠ x := fun g e => by have := h9 g e; omega
  exact ⟨fr, tw, bt, A1, c1, A2, c2, h0, jints_set (jints_set (jints_set (jints_set h1 n1 0 u0) n1 1 u1) n1 2 u2) n1 3 u3, jints_set (jints_set (jints_set (jints_set h2 n2 0 u0) n2 1 u1) n2 2 u2) n2 3 u3, h3, h4, h5, h6, h7, h8, h9⟩
theorem JobOut.low {v : V} {k B B' : Nat} {r : Ending} {w : World} (h : JobOut v k B r w) (hb : B' ≤ B) : JobOut v k B' r w := by
  obtain ⟨fr, tw, bt, A1, c1, A2, c2, h0, h1, h2, h3, h4, h5, h6, h7, h8, h9⟩ := h
  exact ⟨fr, tw, bt, A1, c1, A2, c2, h0, h1, h2, h3, h4, h5, h6, h7, fun g e => Nat.le_trans hb (h8 g e), fun g e => Nat.le_trans hb (h9 g e)⟩

set_option maxRecDepth 100000 in
set_option maxHeartbeats 1000000 in
theorem pick_any (A : Nat → Option Addr) (N C : Nat → Nat) (v : V) (zr base ratio : Int) (s : Nat → ByteArray) (w : World) (h : VerIn w A N C v.L) (hL : v.L.length ≤ 10000000) (hok : Ok v) (hr : i64 ratio) :
    Calls Try.prog 24 #[.agg #[.slice (A 0) (N 0) (C 0), .slice (A 1) (N 1) (C 1), .slice (A 2) (N 2) (C 2), .slice (A 3) (N 3) (C 3), .int .i64 v.log, .int .i64 v.next, .int .i64 v.seq], .agg #[.int .i64 zr, .int .i64 base, .int .i64 ratio], .agg #[.string (s 0), .string (s 1), .string (s 2), .string (s 3)]] w fun r w' => PickOut zr v w.heap.size r w' ∧ Below w.heap.size w w' := by
  have HFU := Lib.hid (fun (k : Nat) W (hk : k < 4) (hW : VerIn W A N C v.L) => full_any A N C v.L v.log v.next v.seq zr base ratio k W hW hk hL (fun m hm => (fine_num (hok.fine m hm)).2.2.2.2) hr)
  have HJO := Lib.hid (fun (k : Nat) W (hk : k < 3) (hne : lev k v.L ≠ []) (hW : VerIn W A N C v.L) => job_any A N C v k (s k) W hW hk hL hne hok)
  have HIX := Lib.hid (fun (k : Nat) (hk : k < 4) W => cur_index s hk W)
  have HV := Lib.hid h
  obtain ⟨S0, hS0⟩ : ∃ S0, Value.slice (A 0) (N 0) (C 0) = S0 := ⟨_, rfl⟩
  obtain ⟨S1, hS1⟩ : ∃ S1, Value.slice (A 1) (N 1) (C 1) = S1 := ⟨_, rfl⟩
  obtain ⟨S2, hS2⟩ : ∃ S2, Value.slice (A 2) (N 2) (C 2) = S2 := ⟨_, rfl⟩
  obtain ⟨S3, hS3⟩ : ∃ S3, Value.slice (A 3) (N 3) (C 3) = S3 := ⟨_, rfl⟩
  rw [hS0, hS1, hS2, hS3] at HFU HJO
  rw [hS0, hS1, hS2, hS3]
  obtain ⟨s0, hs0⟩ : ∃ x, s 0 = x := ⟨_, rfl⟩
  obtain ⟨s1, hs1⟩ : ∃ x, s 1 = x := ⟨_, rfl⟩
  obtain ⟨s2, hs2⟩ : ∃ x, s 2 = x := ⟨_, rfl⟩
  obtain ⟨s3, hs3⟩ : ∃ x, s 3 = x := ⟨_, rfl⟩
  rw [hs0, hs1, hs2, hs3] at HIX
  rw [hs0, hs1, hs2, hs3]
  obtain ⟨L, lg, nx, sq⟩ := v
  simp only at HFU HJO HV ⊢
  obtain ⟨W4, hW4⟩ : ∃ W4, (((w.alloc (.cells #[S0, S1, S2, S3, .int .i64 lg, .int .i64 nx, .int .i64 sq] 26)).alloc (.cells #[.int .i64 zr, .int .i64 base, .int .i64 ratio] 79)).alloc (.cells #[.string s0, .string s1, .string s2, .string s3] 73)).alloc (.cells #[.int .i64 0, .slice none 0 0, .slice none 0 0, .bool false] 76) = W4 := ⟨_, rfl⟩
  have hal : Below w.heap.size w W4 := by
    rw [← hW4]
    exact ((((Below.refl _ w).alloc (Nat.le_refl _) _).alloc (by simp) _).alloc (by simp <;> omega) _).alloc (by simp <;> omega) _
  have hr0 : W4.heap[w.heap.size]? = some (.cells #[S0, S1, S2, S3, .int .i64 lg, .int .i64 nx, .int .i64 sq] 26 (0, 0)) := by
    rw [← hW4, Below.heap_alloc _ _ _ (by simp <;> omega), Below.heap_alloc _ _ _ (by simp <;> omega), Below.heap_alloc _ _ _ (by simp <;> omega)]
    exact heap_alloc_new w _
  have hr1 : W4.heap[w.heap.size + 1]? = some (.cells #[.int .i64 zr, .int .i64 base, .int .i64 ratio] 79 (0, 0)) := by
    rw [← hW4, Below.heap_alloc _ _ _ (by simp <;> omega), Below.heap_alloc _ _ _ (by simp <;> omega)]
    have := heap_alloc_new (w.alloc (.cells #[S0, S1, S2, S3, .int .i64 lg, .int .i64 nx, .int .i64 sq] 26)) (.cells #[.int .i64 zr, .int .i64 base, .int .i64 ratio] 79)
    simpa using this
  have hr2 : W4.heap[w.heap.size + 2]? = some (.cells #[.string s0, .string s1, .string s2, .string s3] 73 (0, 0)) := by
    rw [← hW4, Below.heap_alloc _ _ _ (by simp <;> omega)]
    have := heap_alloc_new ((w.alloc (.cells #[S0, S1, S2, S3, .int .i64 lg, .int .i64 nx, .int .i64 sq] 26)).alloc (.cells #[.int .i64 zr, .int .i64 base, .int .i64 ratio] 79)) (.cells #[.string s0, .string s1, .string s2, .string s3] 73)
    simpa using this
  have hr3 : W4.heap[w.heap.size + 3]? = some (.cells #[.int .i64 0, .slice none 0 0, .slice none 0 0, .bool false] 76 (0, 0)) := by
    rw [← hW4]
    have := heap_alloc_new (((w.alloc (.cells #[S0, S1, S2, S3, .int .i64 lg, .int .i64 nx, .int .i64 sq] 26)).alloc (.cells #[.int .i64 zr, .int .i64 base, .int .i64 ratio] 79)).alloc (.cells #[.string s0, .string s1, .string s2, .string s3] 73)) (.cells #[.int .i64 0, .slice none 0 0, .slice none 0 0, .bool false] 76)
    simpa using this
  have hsz : W4.heap.size = w.heap.size + 4 := by rw [← hW4]; simp
  have HW4 := Lib.hid hW4
  clear hS0 hS1 hS2 hS3 h hL hs0 hs1 hs2 hs3 hW4 hr hok
  go_enter Try.func24, Try.ntmps24
  go_upto_region 1 with fail
  rw [HW4.out]
  obtain ⟨p, hp⟩ : ∃ p, w.heap.size = p := ⟨_, rfl⟩
  have HPP : Hid (w.heap.size = p) := Lib.hid hp
  have HVW : Hid (∀ W, Below (p + 4) W4 W → VerIn W A N C L) := Lib.hid fun W hW => HV.out.below (hal.trans (hW.mono (by omega)))
  have HEND : Hid (∀ W, Below (p + 4) W4 W → Below w.heap.size w W) := Lib.hid fun W hW => hal.trans (hW.mono (by omega))
  rw [hp] at hr0 hr1 hr2 hr3 hsz ⊢
  have HSTEP : Hid (∀ W W', Below (p + 4) W4 W → Below W.heap.size W W' → Below (p + 4) W4 W') := Lib.hid fun W W' h1 h2 => h1.trans (h2.mono (by have := h1.size; omega))
  have HSZ : Hid (∀ W, Below (p + 4) W4 W → p + 4 ≤ W.heap.size) := Lib.hid fun W h => by have := h.size; omega
  have HROW : Hid (∀ W, Below (p + 4) W4 W → W.heap[p]? = some (.cells #[S0, S1, S2, S3, .int .i64 lg, .int .i64 nx, .int .i64 sq] 26 (0, 0)) ∧ W.heap[p + 1]? = some (.cells #[.int .i64 zr, .int .i64 base, .int .i64 ratio] 79 (0, 0)) ∧ W.heap[p + 2]? = some (.cells #[.string s0, .string s1, .string s2, .string s3] 73 (0, 0)) ∧ W.heap[p + 3]? = some (.cells #[.int .i64 0, .slice none 0 0, .slice none 0 0, .bool false] 76 (0, 0))) := Lib.hid fun W hW => ⟨(hW.block p (by omega)).trans hr0, (hW.block (p + 1) (by omega)).trans hr1, (hW.block (p + 2) (by omega)).trans hr2, (hW.block (p + 3) (by omega)).trans hr3⟩
  have HB0 : Hid (Below (p + 4) W4 W4) := Lib.hid (Below.refl _ _)
  try rw [show p + 1 + 1 + 1 = p + 3 by omega]
  try rw [show p + 1 + 1 = p + 2 by omega]
  have t0 : W4.cell? ⟨p + 2, 0, none⟩ = some (.string s0) := cell_of_row _ _ _ _ _ _ hr2
  have t1 : W4.cell? ⟨p + 2, 1, none⟩ = some (.string s1) := cell_of_row _ _ _ _ _ _ hr2
  have t2 : W4.cell? ⟨p + 2, 2, none⟩ = some (.string s2) := cell_of_row _ _ _ _ _ _ hr2
  have t3 : W4.cell? ⟨p + 2, 3, none⟩ = some (.string s3) := cell_of_row _ _ _ _ _ _ hr2
  clear hal hr0 hr1 hr2 hr3 hsz hp
  go_wp2_with fail
  clear t0 t1 t2 t3
  go_loopw [11] (fun i wr => ∃ j : Nat, j ≤ 4 ∧ i = .int .i64 j ∧ Hid (0 < j → NotFull zr L) ∧ Below (p + 4) W4 wr) (fun i _ => 4 - (intOf i).toNat)
  case atStart => exact ⟨0, by omega, rfl, Lib.hid fun h => absurd h (by omega), HB0.out⟩
  case round =>
    obtain ⟨j, hj, rfl, HNF, hbw⟩ := hrel
    have HB := Lib.hid hbw
    have hrows := HROW.out wr hbw
    by_cases hlt : j < 4
    · have hix := HIX.out j hlt
      have q0 : wr.cell? ⟨p, 0, none⟩ = some S0 := cell_of_row _ _ _ _ _ _ hrows.1
      have q1 : wr.cell? ⟨p, 1, none⟩ = some S1 := cell_of_row _ _ _ _ _ _ hrows.1
      have q2 : wr.cell? ⟨p, 2, none⟩ = some S2 := cell_of_row _ _ _ _ _ _ hrows.1
      have q3 : wr.cell? ⟨p, 3, none⟩ = some S3 := cell_of_row _ _ _ _ _ _ hrows.1
      have q4 : wr.cell? ⟨p, 4, none⟩ = some (.int .i64 lg) := cell_of_row _ _ _ _ _ _ hrows.1
      have q5 : wr.cell? ⟨p, 5, none⟩ = some (.int .i64 nx) := cell_of_row _ _ _ _ _ _ hrows.1
      have q6 : wr.cell? ⟨p, 6, none⟩ = some (.int .i64 sq) := cell_of_row _ _ _ _ _ _ hrows.1
      have l0 : wr.cell? ⟨p + 1, 0, none⟩ = some (.int .i64 zr) := cell_of_row _ _ _ _ _ _ hrows.2.1
      have l1 : wr.cell? ⟨p + 1, 1, none⟩ = some (.int .i64 base) := cell_of_row _ _ _ _ _ _ hrows.2.1
      have l2 : wr.cell? ⟨p + 1, 2, none⟩ = some (.int .i64 ratio) := cell_of_row _ _ _ _ _ _ hrows.2.1
      have d0 : decide ((j : Int) < 4) = true := decide_eq_true (by omega)
      have d1 : decide (j < 4) = true := decide_eq_true hlt
      have HJ4 := Lib.hid hlt
      have HFC := Lib.hid (HFU.out j wr hlt (HVW.out wr hbw))
      clear hrows hbw
      go_wp2_with fail
      refine HFC.out.mono ?_
      rintro r w1 ⟨⟨fb, rfl, hf1, hf2⟩, hb1⟩
      have HB1 := Lib.hid (HSTEP.out _ _ HB.out hb1)
      have HF := Lib.hid (And.intro hf1 hf2)
      clear hf1 hf2 hb1 q0 q1 q2 q3 q4 q5 q6 l0 l1 l2
      cases fb with
      | false =>
        have HNF2 : Hid (0 < j + 1 → NotFull zr L) := Lib.hid fun _ => by
          rcases Nat.eq_zero_or_pos j with h0 | h0
          · have := HF.out.2 h0
            exact of_decide_eq_false this.symm
          · exact HNF.out h0
        clear hix
        go_wp2
        go_roundw
        case rel => exact ⟨j + 1, by have := HJ4.out; omega, by go_num, HNF2, HB1.out⟩
        case measure => have := HJ4.out; simp [intOf]; omega
      | true =>
        obtain ⟨hj3, hjne⟩ := HF.out.1 rfl
        have HK0 : Hid (max zr 1 ≤ ((lev 0 L).length : Int) → j = 0) := Lib.hid fun hm => by
          rcases Nat.eq_zero_or_pos j with h0 | h0
          · exact h0
          · exact absurd hm (HNF.out h0)
        have hrows := HROW.out w1 HB1.out
        have q0 : w1.cell? ⟨p, 0, none⟩ = some S0 := cell_of_row _ _ _ _ _ _ hrows.1
        have q1 : w1.cell? ⟨p, 1, none⟩ = some S1 := cell_of_row _ _ _ _ _ _ hrows.1
        have q2 : w1.cell? ⟨p, 2, none⟩ = some S2 := cell_of_row _ _ _ _ _ _ hrows.1
        have q3 : w1.cell? ⟨p, 3, none⟩ = some S3 := cell_of_row _ _ _ _ _ _ hrows.1
        have q4 : w1.cell? ⟨p, 4, none⟩ = some (.int .i64 lg) := cell_of_row _ _ _ _ _ _ hrows.1
        have q5 : w1.cell? ⟨p, 5, none⟩ = some (.int .i64 nx) := cell_of_row _ _ _ _ _ _ hrows.1
        have q6 : w1.cell? ⟨p, 6, none⟩ = some (.int .i64 sq) := cell_of_row _ _ _ _ _ _ hrows.1
        have HJC := Lib.hid (HJO.out j w1 hj3 hjne (HVW.out w1 HB1.out))
        have HS1 := Lib.hid (HSZ.out _ HB1.out)
        clear hrows hj3 hjne hix
        go_wp2_with fail
        refine HJC.out.mono ?_
        rintro r w2 ⟨hjo, hb2⟩
        have HJ := Lib.hid hjo
        obtain ⟨fr, tw, bt, A1, c1, A2, c2, rfl, -⟩ := hjo
        have HB2 := Lib.hid (HSTEP.out _ _ HB1.out hb2)
        have hrj := (HROW.out w2 HB2.out).2.2.2
        have j0 : w2.cell? ⟨p + 3, 0, none⟩ = some (.int .i64 0) := cell_of_row _ _ _ _ _ _ hrj
        have j1 : w2.cell? ⟨p + 3, 1, none⟩ = some (.slice none 0 0) := cell_of_row _ _ _ _ _ _ hrj
        have j2 : w2.cell? ⟨p + 3, 2, none⟩ = some (.slice none 0 0) := cell_of_row _ _ _ _ _ _ hrj
        have j3 : w2.cell? ⟨p + 3, 3, none⟩ = some (.bool false) := cell_of_row _ _ _ _ _ _ hrj
        have z0 : w2.frozen? ⟨p + 3, 0, none⟩ = false := frozen_of_row _ _ _ _ _ hrj
        have z1 : w2.frozen? ⟨p + 3, 1, none⟩ = false := frozen_of_row _ _ _ _ _ hrj
        have z2 : w2.frozen? ⟨p + 3, 2, none⟩ = false := frozen_of_row _ _ _ _ _ hrj
        have z3 : w2.frozen? ⟨p + 3, 3, none⟩ = false := frozen_of_row _ _ _ _ _ hrj
        have HFE : Hid (∀ u0 u1 u2 u3, Below w.heap.size w ((((w2.setCell ⟨p + 3, 0, none⟩ u0).setCell ⟨p + 3, 1, none⟩ u1).setCell ⟨p + 3, 2, none⟩ u2).setCell ⟨p + 3, 3, none⟩ u3)) := Lib.hid fun u0 u1 u2 u3 => by
          have hle : w.heap.size ≤ p + 3 := by rw [HPP.out]; omega
          exact ((((HEND.out _ HB2.out).setCell (p := ⟨p + 3, 0, none⟩) hle u0).setCell (p := ⟨p + 3, 1, none⟩) hle u1).setCell (p := ⟨p + 3, 2, none⟩) hle u2).setCell (p := ⟨p + 3, 3, none⟩) hle u3
        have HJF : Hid (∀ u0 u1 u2 u3, PickOut zr ⟨L, lg, nx, sq⟩ w.heap.size (.returned (.tuple #[.agg #[.int .i64 j, .slice A1 fr.length c1, .slice A2 tw.length c2, .bool bt], .bool true])) ((((w2.setCell ⟨p + 3, 0, none⟩ u0).setCell ⟨p + 3, 1, none⟩ u1).setCell ⟨p + 3, 2, none⟩ u2).setCell ⟨p + 3, 3, none⟩ u3)) := Lib.hid fun u0 u1 u2 u3 =>
          .inr ⟨j, _, rfl, (HJ.out.four (by have := HS1.out; omega) u0 u1 u2 u3).low (by have := HS1.out; have := HPP.out; omega), HK0.out⟩
        clear hrj hb2 q0 q1 q2 q3 q4 q5 q6
        go_wp2
        exact bodyPost_ret (v := .tuple #[.agg #[.int .i64 j, .slice A1 fr.length c1, .slice A2 tw.length c2, .bool bt], .bool true]) (by simp [results, Try.results24, go_sem, *]) rfl ⟨HJF.out _ _ _ _, HFE.out _ _ _ _⟩
    · obtain rfl : j = 4 := by omega
      have hrj := hrows.2.2.2
      have j0 : wr.cell? ⟨p + 3, 0, none⟩ = some (.int .i64 0) := cell_of_row _ _ _ _ _ _ hrj
      have j1 : wr.cell? ⟨p + 3, 1, none⟩ = some (.slice none 0 0) := cell_of_row _ _ _ _ _ _ hrj
      have j2 : wr.cell? ⟨p + 3, 2, none⟩ = some (.slice none 0 0) := cell_of_row _ _ _ _ _ _ hrj
      have j3 : wr.cell? ⟨p + 3, 3, none⟩ = some (.bool false) := cell_of_row _ _ _ _ _ _ hrj
      have z0 : wr.frozen? ⟨p + 3, 0, none⟩ = false := frozen_of_row _ _ _ _ _ hrj
      have z1 : wr.frozen? ⟨p + 3, 1, none⟩ = false := frozen_of_row _ _ _ _ _ hrj
      have z2 : wr.frozen? ⟨p + 3, 2, none⟩ = false := frozen_of_row _ _ _ _ _ hrj
      have z3 : wr.frozen? ⟨p + 3, 3, none⟩ = false := frozen_of_row _ _ _ _ _ hrj
      have HFE : Hid (∀ u0 u1 u2 u3, Below w.heap.size w ((((wr.setCell ⟨p + 3, 0, none⟩ u0).setCell ⟨p + 3, 1, none⟩ u1).setCell ⟨p + 3, 2, none⟩ u2).setCell ⟨p + 3, 3, none⟩ u3)) := Lib.hid fun u0 u1 u2 u3 => by
        have hle : w.heap.size ≤ p + 3 := by rw [HPP.out]; omega
        exact ((((HEND.out _ HB.out).setCell (p := ⟨p + 3, 0, none⟩) hle u0).setCell (p := ⟨p + 3, 1, none⟩) hle u1).setCell (p := ⟨p + 3, 2, none⟩) hle u2).setCell (p := ⟨p + 3, 3, none⟩) hle u3
      have HNO : Hid (∀ W, PickOut zr ⟨L, lg, nx, sq⟩ w.heap.size (.returned (.tuple #[.agg #[.int .i64 0, .slice none 0 0, .slice none 0 0, .bool false], .bool false])) W) := Lib.hid fun W => .inl ⟨rfl, HNF.out (by omega)⟩
      clear hrows hrj hbw
      go_wp2
      exact bodyPost_ret (v := .tuple #[.agg #[.int .i64 0, .slice none 0 0, .slice none 0 0, .bool false], .bool false]) (by simp [results, Try.results24, go_sem, *]) rfl ⟨HNO.out _, HFE.out _ _ _ _⟩
end Go.Proofs.Ytffdiiolgflbkaa

