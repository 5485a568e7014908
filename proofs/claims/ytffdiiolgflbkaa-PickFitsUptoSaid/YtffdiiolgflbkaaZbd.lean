/- Texts joined by bundle.py: Oa, Ob. -/
import Derived.Test.YtffdiiolgflbkaaZaq
import Derived.Deep.CutRange

/- Over: the tables of a level that may hold a key of a span (the program's). -/
namespace Go.Proofs.Ytffdiiolgflbkaa
open Go.RowKit Go.Maps
open VS
attribute [local go_sem ↓] Go.wp_at_zero Go.wp_at_succ

namespace VS
/-- may a table hold a key of a span? -/
def touch (lo hi : ByteArray) (m : M) : Bool := !(lt m.hi lo) && !(lt hi m.lo)
/-- the tables of a level that may hold a key of a span -/
def over (z : Int) (lo hi : ByteArray) (l : List M) : List M := (lev z l).filter (touch lo hi)
theorem over_out {z : Int} (hz : ¬ (0 ≤ z ∧ z < 4)) (lo hi : ByteArray) {l : List M} (h : ∀ m ∈ l, 0 ≤ m.lvl ∧ m.lvl < 4) : over z lo hi l = [] := by
  unfold over
  have : lev z l = [] := List.filter_eq_nil_iff.2 fun m hm => by
    have := h m hm
    simp only [decide_eq_true_eq]
    omega
  rw [this]; rfl
theorem touch_take {lo hi : ByteArray} {l : List M} {j : Nat} (h : j < l.length) (ht : touch lo hi l[j] = true) : (l.take (j + 1)).filter (touch lo hi) = (l.take j).filter (touch lo hi) ++ [l[j]] := by
  rw [List.take_succ_eq_append_getElem h, List.filter_append]
  simp [ht]
theorem touch_skip {lo hi : ByteArray} {l : List M} {j : Nat} (h : j < l.length) (ht : touch lo hi l[j] = false) : (l.take (j + 1)).filter (touch lo hi) = (l.take j).filter (touch lo hi) := by
  rw [List.take_succ_eq_append_getElem h, List.filter_append]
  simp [ht]
end VS

set_option maxRecDepth 100000 in
set_option maxHeartbeats 4000000 in
theorem pover_out (S0 S1 S2 S3 : Value) (lg nx sq z : Int) (lo hi : ByteArray) (w : World) (hz : ¬ (0 ≤ z ∧ z < 4)) :
    Calls Try.prog 20 #[.agg #[S0, S1, S2, S3, .int .i64 lg, .int .i64 nx, .int .i64 sq], .int .i64 z, .string lo, .string hi] w fun r w' => r = .returned (.slice none 0 0) ∧ Below w.heap.size w w' := by
  have HC : Hid (∀ W, Calls Try.prog 47 #[.int .i64 z] W fun e w' => e = .returned (.bool false) ∧ W = w') := Lib.hid fun W => by
    have := isLevel_any z W
    rwa [decide_eq_false hz] at this
  clear hz
  go_enter Try.func20, Try.ntmps20
  go_wp2_with fail
  refine (HC.out _).mono ?_
  rintro e w' ⟨rfl, rfl⟩
  go_wp2
  go_ret
  exact ⟨rfl, (Below.refl _ w).alloc (Nat.le_refl _) _⟩

set_option maxRecDepth 100000 in
set_option maxHeartbeats 4000000 in
theorem pover_in (A : Nat → Option Addr) (N C : Nat → Nat) (L : List M) (lg nx sq : Int) (k : Nat) (lo hi : ByteArray) (w : World) (h : VerIn w A N C L) (hk : k < 4) (hL : L.length ≤ 10000000) :
    Calls Try.prog 20 #[.agg #[.slice (A 0) (N 0) (C 0), .slice (A 1) (N 1) (C 1), .slice (A 2) (N 2) (C 2), .slice (A 3) (N 3) (C 3), .int .i64 lg, .int .i64 nx, .int .i64 sq], .int .i64 k, .string lo, .string hi] w fun r w' => ∃ v, r = .returned v ∧ w'.ownsRow w.heap.size 64 4 v (over k lo hi L).length (cs4 (over k lo hi L)) ∧ Below w.heap.size w w' := by
  obtain ⟨i0, hi0, hz0, hz1, hz2⟩ := info_parts info_meta
  have HC : Hid (∀ W, Calls Try.prog 47 #[.int .i64 k] W fun e w' => e = .returned (.bool true) ∧ W = w') := Lib.hid fun W => by
    have := isLevel_any k W
    rwa [decide_eq_true (by omega)] at this
  have hlen := h.len k hk
  have HIN := Lib.hid (h.at_ k hk)
  have HCL : Hid (∀ (s : World), s.cell? ⟨w.heap.size, 0, none⟩ = some (.slice (A 0) (N 0) (C 0)) → s.cell? ⟨w.heap.size, 1, none⟩ = some (.slice (A 1) (N 1) (C 1)) → s.cell? ⟨w.heap.size, 2, none⟩ = some (.slice (A 2) (N 2) (C 2)) → s.cell? ⟨w.heap.size, 3, none⟩ = some (.slice (A 3) (N 3) (C 3)) → s.cell? ⟨w.heap.size, k, none⟩ = some (.slice (A k) (N k) (C k))) := Lib.hid fun s h0 h1 h2 h3 => by
    rcases (by omega : k = 0 ∨ k = 1 ∨ k = 2 ∨ k = 3) with rfl | rfl | rfl | rfl <;> assumption
  obtain ⟨l, hl⟩ : ∃ l, lev k L = l := ⟨_, rfl⟩
  have hll : l.length ≤ 10000000 := by rw [← hl]; exact Nat.le_trans (lev_len _ _) hL
  have HOV : Hid (over k lo hi L = l.filter (touch lo hi)) := Lib.hid (by unfold over; rw [hl])
  rw [hl] at HIN hlen
  have HLL := Lib.hid hll
  have HK := Lib.hid hk
  obtain ⟨nk, hnk⟩ : ∃ x, N k = x := ⟨_, rfl⟩
  rw [hnk] at hlen
  have HNK := Lib.hid hnk
  have HLEN := Lib.hid hlen
  have g0 : (0 : Int) ≤ (k : Int) := by omega
  have g1 : (k : Int) < 4 := by omega
  have hkc : decide (k < 4) = true := decide_eq_true hk
  have hnb : nk ≤ 10000000 := by omega
  obtain ⟨S0, hS0⟩ : ∃ S0, Value.slice (A 0) (N 0) (C 0) = S0 := ⟨_, rfl⟩
  obtain ⟨S1, hS1⟩ : ∃ S1, Value.slice (A 1) (N 1) (C 1) = S1 := ⟨_, rfl⟩
  obtain ⟨S2, hS2⟩ : ∃ S2, Value.slice (A 2) (N 2) (C 2) = S2 := ⟨_, rfl⟩
  obtain ⟨S3, hS3⟩ : ∃ S3, Value.slice (A 3) (N 3) (C 3) = S3 := ⟨_, rfl⟩
  rw [hS0, hS1, hS2, hS3] at HCL
  rw [hS0, hS1, hS2, hS3]
  clear hS0 hS1 hS2 hS3 h hL hlen hl hll hk hnk
  go_enter Try.func20, Try.ntmps20
  go_wp2_with fail
  refine (HC.out _).mono ?_
  rintro e w' ⟨rfl, rfl⟩
  have hal : Below w.heap.size w (w.alloc (.cells #[S0, S1, S2, S3, .int .i64 lg, .int .i64 nx, .int .i64 sq] 26)) := (Below.refl _ w).alloc (Nat.le_refl _) _
  have hr0 := heap_alloc_new w (.cells #[S0, S1, S2, S3, .int .i64 lg, .int .i64 nx, .int .i64 sq] 26)
  generalize w.alloc (.cells #[S0, S1, S2, S3, .int .i64 lg, .int .i64 nx, .int .i64 sq] 26) = w0 at hal hr0 ⊢
  have qk := HCL.out w0 (cell_of_row _ _ _ _ _ _ hr0) (cell_of_row _ _ _ _ _ _ hr0) (cell_of_row _ _ _ _ _ _ hr0) (cell_of_row _ _ _ _ _ _ hr0)
  obtain ⟨ak, hak⟩ : ∃ x, A k = x := ⟨_, rfl⟩
  obtain ⟨ck, hck⟩ : ∃ x, C k = x := ⟨_, rfl⟩
  rw [HNK.out, hak, hck] at qk
  rw [hak] at HIN
  have HAL := Lib.hid hal
  clear hal hr0 hak hck
  go_wp2_with fail
  clear qk hkc g0 g1
  go_loopw [9, 20] (fun v i wr => ∃ j : Nat, j ≤ nk ∧ i = .int .i64 j ∧ wr.ownsRow w.heap.size 64 4 v ((l.take j).filter (touch lo hi)).length (cs4 ((l.take j).filter (touch lo hi))) ∧ Below w.heap.size w wr) (fun _ i _ => nk - (intOf i).toNat)
  case atStart => exact ⟨0, by omega, rfl, World.ownsRow_nil _ _ _ _, HAL.out⟩
  case round =>
    obtain ⟨j, hj, rfl, hown, hbw⟩ := hrel
    have HB := Lib.hid hbw
    by_cases hlt : j < nk
    · have hjl : j < l.length := by rw [← HLEN.out]; exact hlt
      obtain ⟨c, off, hA, hbl, hc⟩ := (HIN.out.below hbw).at_ (by omega)
      obtain ⟨c0, c1, c2, c3⟩ := hc j hjl
      have HTY := Lib.hid (fun ht => touch_take (lo := lo) (hi := hi) hjl ht)
      have HTN := Lib.hid (fun ht => touch_skip (lo := lo) (hi := hi) hjl ht)
      have HWF := Lib.hid (HIN.out.wf _ (List.getElem_mem hjl))
      obtain ⟨e, he⟩ : ∃ e, l[j] = e := ⟨_, rfl⟩
      rw [he] at c0 c1 c2 c3 HTY HTN HWF
      obtain ⟨lv, q, g, s, t⟩ := e
      simp only at c0 c1 c2 c3
      have hfl : ((l.take j).filter (touch lo hi)).length ≤ 10000000 := Nat.le_trans (List.length_filter_le _ _) (by rw [List.length_take]; have := HLL.out; omega)
      obtain ⟨F, hF⟩ : ∃ F, (l.take j).filter (touch lo hi) = F := ⟨_, rfl⟩
      rw [hF] at hown hfl HTY HTN
      have HF := Lib.hid hF
      have hal := (Below.refl wr.heap.size wr).alloc (Nat.le_refl _) (.cells #[.int .i64 q, .int .i64 g, .string s, .string t] 64)
      have hra := heap_alloc_new wr (.cells #[.int .i64 q, .int .i64 g, .string s, .string t] 64)
      have HCN := Lib.hid (fun W => mclone_any q g s t W (by have := HWF.out.lo; simp only at this; omega) (by have := HWF.out.hi; simp only at this; omega))
      subst hA
      clear hc he hbw hF
      go_upto_region 7 with fail
      generalize wr.alloc (.cells #[.int .i64 q, .int .i64 g, .string s, .string t] 64) = wa at hal hra ⊢
      have y0 : wa.cell? ⟨wr.heap.size, 0, none⟩ = some (.int .i64 q) := cell_of_row _ _ _ _ _ _ hra
      have y1 : wa.cell? ⟨wr.heap.size, 1, none⟩ = some (.int .i64 g) := cell_of_row _ _ _ _ _ _ hra
      have y2 : wa.cell? ⟨wr.heap.size, 2, none⟩ = some (.string s) := cell_of_row _ _ _ _ _ _ hra
      have y3 : wa.cell? ⟨wr.heap.size, 3, none⟩ = some (.string t) := cell_of_row _ _ _ _ _ _ hra
      have HBA : Hid (Below w.heap.size w wa) := Lib.hid (HB.out.trans (hal.mono HB.out.size))
      have hoa := own_below hown hal
      have HOA := Lib.hid hoa
      clear hal hra c0 c1 c2 c3 hown hoa
      have ht0 : Op.bytesLess t.toList lo.toList = lt t lo := text_less _ _
      have ht1 : (Op.bytesLess s.toList hi.toList || s.toList == hi.toList) = !(lt hi s) := text_leq _ _
      cases h1 : lt t lo with
      | true =>
        have HTF : Hid (touch lo hi ⟨lv, q, g, s, t⟩ = false) := Lib.hid (by simp [touch, h1])
        rw [h1] at ht0
        have HO6 : Hid (wa.ownsRow w.heap.size 64 4 _ ((l.take (j + 1)).filter (touch lo hi)).length (cs4 ((l.take (j + 1)).filter (touch lo hi)))) := Lib.hid (by rw [HTN.out HTF.out]; exact HOA.out)
        clear h1 ht1
        go_wp2
        go_roundw
        case rel => exact ⟨j + 1, by omega, by go_num, HO6.out, HBA.out⟩
        case measure => simp [intOf]; omega
      | false =>
        rw [h1] at ht0
        cases h2 : lt hi s with
        | true =>
          have HTF : Hid (touch lo hi ⟨lv, q, g, s, t⟩ = false) := Lib.hid (by simp [touch, h1, h2])
          rw [h2] at ht1
          have HO6 : Hid (wa.ownsRow w.heap.size 64 4 _ ((l.take (j + 1)).filter (touch lo hi)).length (cs4 ((l.take (j + 1)).filter (touch lo hi)))) := Lib.hid (by rw [HTN.out HTF.out]; exact HOA.out)
          clear h1 h2
          go_wp2
          go_roundw
          case rel => exact ⟨j + 1, by omega, by go_num, HO6.out, HBA.out⟩
          case measure => simp [intOf]; omega
        | false =>
          have HTF : Hid (touch lo hi ⟨lv, q, g, s, t⟩ = true) := Lib.hid (by simp [touch, h1, h2])
          rw [h2] at ht1
          have HTT : Hid ((l.take (j + 1)).filter (touch lo hi) = F ++ [⟨lv, q, g, s, t⟩]) := Lib.hid (HTY.out HTF.out)
          clear h1 h2 HTY HTN
          go_wp2_with fail
          refine (HCN.out _).mono ?_
          rintro r w5 ⟨rfl, hb5⟩
          have HB5 : Hid (Below w.heap.size w w5) := Lib.hid (HBA.out.trans (hb5.mono HBA.out.size))
          have ho5 := own_below HOA.out hb5
          clear hb5 y0 y1 y2 y3
          go_wp2_with (at_builtin; refine wpList_append_own _ rfl _ _ 23 rfl w.heap.size 64 i0 _ 4 48 Try.underlying23 hi0 hz0 hz1 hz2 rfl (by decide) _ _ _ rfl (ho5.alloc _) ⟨w5.heap.size, 0, none⟩ 1 1 (M.c4 ⟨lv, q, g, s, t⟩) rfl ?c1 ?c2 ?c3 ?c4 ?c5 ?c6 ?_)
          case c1 => rfl
          case c2 => exact cells4 w5 ⟨lv, q, g, s, t⟩ _
          case c3 => exact one4 _
          case c4 => unfold maxLen; omega
          case c5 => omega
          case c6 => have := HB5.out.size; simp; omega
          intro v' w6 hown6 hgrow6 _
          have HO6 : Hid (w6.ownsRow w.heap.size 64 4 v' ((l.take (j + 1)).filter (touch lo hi)).length (cs4 ((l.take (j + 1)).filter (touch lo hi)))) := Lib.hid (by rw [HTT.out, cs4_snoc, List.length_append]; exact hown6)
          have HB6 : Hid (Below w.heap.size w w6) := Lib.hid ((HB5.out.alloc HB5.out.size _).grown hgrow6 (by have := HB5.out.size; simp; omega) (fun g hg => (ho5.lt g hg).1))
          clear hown6 hgrow6 ho5
          go_wp2
          go_roundw
          case rel => exact ⟨j + 1, by omega, by go_num, HO6.out, HB6.out⟩
          case measure => simp [intOf]; omega
    · obtain rfl : j = nk := by omega
      have htk : l.take j = l := List.take_of_length_le (by rw [← HLEN.out]; exact Nat.le_refl _)
      rw [htk, ← HOV.out] at hown
      have HO3 := Lib.hid hown
      clear hown hbw htk
      go_wp2
      go_ret
      exact ⟨_, rfl, HO3.out, HB.out⟩
end Go.Proofs.Ytffdiiolgflbkaa

/- Over: which tables may hold a key of a span (the document's). -/
namespace Go.Proofs.Ytffdiiolgflbkaa
open Go.RowKit Go.Maps
open VS
attribute [local go_sem ↓] Go.wp_at_zero Go.wp_at_succ

theorem own_lower {w : World} {B B' : Nat} {e : TypeId} {s : Nat} {v : Value} {n : Nat} {xs : List Value} (h : w.ownsRow B e s v n xs) (hb : B' ≤ B) : w.ownsRow B' e s v n xs :=
  ⟨h.1, h.2.imp id fun ⟨g, cap, cur, h1, h2, h3⟩ => ⟨g, cap, cur, h1, Nat.le_trans hb h2, h3⟩⟩

namespace VS
def atOver (z : Int) (lo hi : ByteArray) (m : M) : Bool := decide (m.lvl = z) && touch lo hi m
theorem over_eq (z : Int) (lo hi : ByteArray) (l : List M) : l.filter (atOver z lo hi) = over z lo hi l := by
  unfold over lev
  rw [List.filter_filter]
  congr 1
  funext m
  exact Bool.and_comm _ _
theorem at_take {z : Int} {lo hi : ByteArray} {l : List M} {j : Nat} (h : j < l.length) (ht : atOver z lo hi l[j] = true) : (l.take (j + 1)).filter (atOver z lo hi) = (l.take j).filter (atOver z lo hi) ++ [l[j]] := by
  rw [List.take_succ_eq_append_getElem h, List.filter_append]
  simp [ht]
theorem at_skip {z : Int} {lo hi : ByteArray} {l : List M} {j : Nat} (h : j < l.length) (ht : atOver z lo hi l[j] = false) : (l.take (j + 1)).filter (atOver z lo hi) = (l.take j).filter (atOver z lo hi) := by
  rw [List.take_succ_eq_append_getElem h, List.filter_append]
  simp [ht]
end VS

set_option maxRecDepth 100000 in
set_option maxHeartbeats 4000000 in
theorem rover_any (A5 : Option Addr) (n c : Nat) (L : List M) (lg nx sq z : Int) (lo hi : ByteArray) (w : World) (h5 : In5 w A5 L) (hn : L.length = n) (hL : n ≤ 10000000) :
    Calls Try.prog 21 #[.agg #[.slice A5 n c, .int .i64 lg, .int .i64 nx, .int .i64 sq], .int .i64 z, .string lo, .string hi] w fun r w' => ∃ v, r = .returned v ∧ w'.ownsRow w.heap.size 66 5 v (over z lo hi L).length (cs5 (over z lo hi L)) ∧ Below w.heap.size w w' := by
  obtain ⟨i0, hi0, hz0, hz1, hz2⟩ := info_parts info_rmeta
  have HIN := Lib.hid h5
  have HLEN := Lib.hid hn
  clear h5 hn
  go_enter Try.func21, Try.ntmps21
  go_wp2_with fail
  have hal : Below w.heap.size w (w.alloc (.cells #[.slice A5 n c, .int .i64 lg, .int .i64 nx, .int .i64 sq] 29)) := (Below.refl _ w).alloc (Nat.le_refl _) _
  have hr0 := heap_alloc_new w (.cells #[.slice A5 n c, .int .i64 lg, .int .i64 nx, .int .i64 sq] 29)
  have hsz : (w.alloc (.cells #[.slice A5 n c, .int .i64 lg, .int .i64 nx, .int .i64 sq] 29)).heap.size = w.heap.size + 1 := by simp
  generalize w.alloc (.cells #[.slice A5 n c, .int .i64 lg, .int .i64 nx, .int .i64 sq] 29) = w0 at hal hr0 hsz ⊢
  obtain ⟨x, hx⟩ : ∃ x, w.heap.size = x := ⟨_, rfl⟩
  have HIN0 := Lib.hid (HIN.out.below hal)
  have HX := Lib.hid hx
  rw [hx] at hal hr0 hsz ⊢
  have HRW : Hid (∀ W, Below (x + 1) w0 W → W.cell? ⟨x, 0, none⟩ = some (.slice A5 n c)) := Lib.hid fun W hW => cell_of_row _ _ _ _ _ _ ((hW.block x (by omega)).trans hr0)
  have HLOW : Hid (∀ W, Below (x + 1) w0 W → Below x w W) := Lib.hid fun W h => hal.trans (h.mono (by omega))
  have HIW : Hid (∀ W, Below (x + 1) w0 W → In5 W A5 L) := Lib.hid fun W hW => HIN0.out.below (by rw [hsz]; exact hW)
  have HSZ := Lib.hid hsz
  clear hal hr0 hsz hx
  go_loopw [9, 10] (fun v i wr => ∃ j : Nat, j ≤ n ∧ i = .int .i64 j ∧ wr.ownsRow (x + 1) 66 5 v ((L.take j).filter (atOver z lo hi)).length (cs5 ((L.take j).filter (atOver z lo hi))) ∧ Below (x + 1) w0 wr) (fun _ i _ => n - (intOf i).toNat)
  case atStart => exact ⟨0, by omega, rfl, World.ownsRow_nil _ _ _ _, Below.refl _ _⟩
  case round =>
    obtain ⟨j, hj, rfl, hown, hbw⟩ := hrel
    have HB := Lib.hid hbw
    have q0 := HRW.out wr hbw
    by_cases hlt : j < n
    · have hjl : j < L.length := by rw [HLEN.out]; exact hlt
      obtain ⟨cb, off, hA, hbl, hc⟩ := (HIW.out wr hbw).at_ (by omega)
      obtain ⟨c0, c1, c2, c3, c4⟩ := hc j hjl
      have HTY := Lib.hid (fun ht => at_take (z := z) (lo := lo) (hi := hi) hjl ht)
      have HTN := Lib.hid (fun ht => at_skip (z := z) (lo := lo) (hi := hi) hjl ht)
      obtain ⟨e, he⟩ : ∃ e, L[j] = e := ⟨_, rfl⟩
      rw [he] at c0 c1 c2 c3 c4 HTY HTN
      obtain ⟨lv, q, g, s, t⟩ := e
      simp only at c0 c1 c2 c3 c4
      have hfl : ((L.take j).filter (atOver z lo hi)).length ≤ 10000000 := Nat.le_trans (List.length_filter_le _ _) (by rw [List.length_take]; have := HLEN.out; omega)
      obtain ⟨F, hF⟩ : ∃ F, (L.take j).filter (atOver z lo hi) = F := ⟨_, rfl⟩
      rw [hF] at hown hfl HTY HTN
      have HF := Lib.hid hF
      have HOA := Lib.hid hown
      have g0 : (0 : Int) ≤ (j : Int) := by omega
      have g1 : (j : Int) < (n : Int) := by omega
      subst hA
      clear hc he hbw hF hown
      have ht0 : Op.bytesLess t.toList lo.toList = lt t lo := text_less _ _
      have ht1 : (Op.bytesLess s.toList hi.toList || s.toList == hi.toList) = !(lt hi s) := text_leq _ _
      by_cases hlv : lv = z
      · cases h1 : lt t lo with
        | true =>
          have HTF : Hid (atOver z lo hi ⟨lv, q, g, s, t⟩ = false) := Lib.hid (by simp [atOver, touch, h1])
          rw [h1] at ht0
          have HO6 : Hid (wr.ownsRow (x + 1) 66 5 _ ((L.take (j + 1)).filter (atOver z lo hi)).length (cs5 ((L.take (j + 1)).filter (atOver z lo hi)))) := Lib.hid (by rw [HTN.out HTF.out]; exact HOA.out)
          have hd : (lv == z) = true := by simpa using hlv
          clear h1 ht1 hlv
          go_wp2
          go_roundw
          case rel => exact ⟨j + 1, by omega, by go_num, HO6.out, HB.out⟩
          case measure => simp [intOf]; omega
        | false =>
          rw [h1] at ht0
          cases h2 : lt hi s with
          | true =>
            have HTF : Hid (atOver z lo hi ⟨lv, q, g, s, t⟩ = false) := Lib.hid (by simp [atOver, touch, h1, h2])
            rw [h2] at ht1
            have HO6 : Hid (wr.ownsRow (x + 1) 66 5 _ ((L.take (j + 1)).filter (atOver z lo hi)).length (cs5 ((L.take (j + 1)).filter (atOver z lo hi)))) := Lib.hid (by rw [HTN.out HTF.out]; exact HOA.out)
            have hd : (lv == z) = true := by simpa using hlv
            clear h1 h2 hlv
            go_wp2
            go_roundw
            case rel => exact ⟨j + 1, by omega, by go_num, HO6.out, HB.out⟩
            case measure => simp [intOf]; omega
          | false =>
            have HTF : Hid (atOver z lo hi ⟨lv, q, g, s, t⟩ = true) := Lib.hid (by simp [atOver, touch, h1, h2, hlv])
            rw [h2] at ht1
            have HTT : Hid ((L.take (j + 1)).filter (atOver z lo hi) = F ++ [⟨lv, q, g, s, t⟩]) := Lib.hid (HTY.out HTF.out)
            have hd : (lv == z) = true := by simpa using hlv
            have hown := HOA.out
            clear h1 h2 HTY HTN hlv
            go_wp2_with (at_builtin; refine wpList_append_own _ rfl _ _ 27 rfl (x + 1) 66 i0 _ 5 56 Try.underlying27 hi0 hz0 hz1 hz2 rfl (by decide) _ _ _ rfl (hown.alloc _) ⟨wr.heap.size, 0, none⟩ 1 1 (M.c5 ⟨lv, q, g, s, t⟩) rfl ?c1 ?c2 ?c3 ?c4 ?c5 ?c6 ?_)
            case c1 => rfl
            case c2 => exact cells5 wr ⟨lv, q, g, s, t⟩ _
            case c3 => exact one5 _
            case c4 => unfold maxLen; omega
            case c5 => omega
            case c6 => have := HB.out.size; have := HSZ.out; simp; omega
            intro v' w6 hown6 hgrow6 _
            have HO6 : Hid (w6.ownsRow (x + 1) 66 5 v' ((L.take (j + 1)).filter (atOver z lo hi)).length (cs5 ((L.take (j + 1)).filter (atOver z lo hi)))) := Lib.hid (by rw [HTT.out, cs5_snoc, List.length_append]; exact hown6)
            have HB6 : Hid (Below (x + 1) w0 w6) := Lib.hid ((HB.out.alloc (by have := HB.out.size; have := HSZ.out; omega) _).grown hgrow6 (by have := HB.out.size; have := HSZ.out; simp; omega) (fun g hg => (hown.lt g hg).1))
            clear hown6 hgrow6 hown
            go_wp2
            go_roundw
            case rel => exact ⟨j + 1, by omega, by go_num, HO6.out, HB6.out⟩
            case measure => simp [intOf]; omega
      · have HTF : Hid (atOver z lo hi ⟨lv, q, g, s, t⟩ = false) := Lib.hid (by simp [atOver, hlv])
        have HO6 : Hid (wr.ownsRow (x + 1) 66 5 _ ((L.take (j + 1)).filter (atOver z lo hi)).length (cs5 ((L.take (j + 1)).filter (atOver z lo hi)))) := Lib.hid (by rw [HTN.out HTF.out]; exact HOA.out)
        have hd : (lv == z) = false := by simpa using hlv
        clear ht0 ht1 hlv
        go_wp2
        go_roundw
        case rel => exact ⟨j + 1, by omega, by go_num, HO6.out, HB.out⟩
        case measure => simp [intOf]; omega
    · obtain rfl : j = n := by omega
      have htk : L.take j = L := List.take_of_length_le (by rw [HLEN.out]; exact Nat.le_refl _)
      rw [htk, over_eq] at hown
      have HO3 := Lib.hid (own_lower (B' := w.heap.size) hown (by have := HX.out; omega))
      have HEND : Hid (Below w.heap.size w wr) := Lib.hid (by rw [HX.out]; exact HLOW.out wr hbw)
      clear hown hbw htk
      go_wp2
      go_ret
      exact ⟨_, rfl, HO3.out, HEND.out⟩
end Go.Proofs.Ytffdiiolgflbkaa

