/- Texts joined by bundle.py: Vg. -/
import Derived.Test.YtffdiiolgflbkaaZap
import Derived.Test.YtffdiiolgflbkaaZal

/- add: the tables that come. Made by gen_vg.py. -/
namespace Go.Proofs.Ytffdiiolgflbkaa
open Go.RowKit Go.Maps
open VS
attribute [local go_sem ↓] Go.wp_at_zero Go.wp_at_succ

namespace VS
/-- the fates behind the files that come -/
def came (old drop pre : List Int) (z : Int) : Int := if z ∈ pre then 3 else gone old drop z
theorem came_snoc (old drop pre : List Int) (n : Int) : (fun x => if x = n then 3 else came old drop pre x) = came old drop (pre ++ [n]) := by
  funext x
  unfold came
  by_cases h : x = n
  · simp [h]
  · simp [h]
theorem came_nil (old drop : List Int) : came old drop [] = gone old drop := by funext x; simp [came]
theorem came_zero {old drop pre : List Int} {n : Int} (hs : ∀ z ∈ drop, z ∈ old) : came old drop pre n = 0 ↔ n ∉ old ∧ n ∉ pre := by
  unfold came gone
  by_cases h1 : n ∈ pre
  · simp [h1]
  · by_cases h2 : n ∈ drop
    · simp [h1, h2, hs n h2]
    · by_cases h3 : n ∈ old <;> simp [h1, h2, h3]
theorem addOk_step {next : Int} {old pre : List Int} {m : M} {l : List M} : addOk next old pre (m :: l) = (fine next m && decide (m.file ∉ old ∧ m.file ∉ pre) && addOk next old (pre ++ [m.file]) l) := rfl
theorem files_take {l : List M} {j : Nat} (h : j < l.length) : files (l.take (j + 1)) = files (l.take j) ++ [l[j].file] := by
  rw [List.take_succ_eq_append_getElem h, files_append]; rfl
theorem came_stays {old drop : List Int} {l : List M} {n : Int} (h : n ∉ files l) : came old drop (files l) n = 1 ↔ n ∈ old ∧ n ∉ drop := by
  unfold came gone
  rw [if_neg h]
  by_cases h2 : n ∈ drop
  · simp [h2]
  · by_cases h3 : n ∈ old <;> simp [h2, h3]
end VS

theorem In5.keptBut {w w' : World} {A : Option Addr} {l : List M} (h : In5 w A l) {b : Nat} (hg : w.grownBy w' (some b)) (hA : ∀ a, A = some a → a.block ≠ b) : In5 w' A l := h.grown hg hA

set_option maxRecDepth 100000 in
set_option maxHeartbeats 8000000 in
theorem add_any (b : Nat) (A : Option Addr) (n c : Nat) (l : List M) (T1 : Value) (el next es : Int) (old drop : List Int) (n0 : Nat) (w : World) (hn : l.length = n) (hin : In5 w A l) (hnb : n ≤ 10000000) (hn0 : n0 ≤ 200000000) (hsub : ∀ z ∈ drop, z ∈ old) (hf : Fm w b n0 (gone old drop)) (hAb : 0 < l.length → ∀ a, A = some a → a.block ≠ b) :
    Calls Try.prog 29 #[.map (some b), .agg #[.slice A n c, T1, .int .i64 el, .int .i64 next, .int .i64 es]] w fun r w' => r = .returned (.bool (addOk next old [] l)) ∧ Below b w w' ∧ (addOk next old [] l = true → ∃ n1, n1 ≤ n0 + n ∧ Fm w' b n1 (came old drop (files l))) := by
  have HN := Lib.hid hn
  have HIN := Lib.hid hin
  have HAB := Lib.hid hAb
  have HF0 := Lib.hid hf
  have HSUB := Lib.hid hsub
  have HLV := Lib.hid (fun z W => isLevel_any z W)
  obtain ⟨R, hR⟩ : ∃ R, addOk next old [] l = R := ⟨_, rfl⟩
  rw [hR]
  have HR := Lib.hid hR
  have hbw := hf.lt
  clear hn hin hAb hf hR hsub
  go_enter Try.func29, Try.ntmps29
  go_wp2
  have hrow := heap_alloc_new w (.cells #[.slice A n c, T1, .int .i64 el, .int .i64 next, .int .i64 es] 36)
  have hgr0 : w.grownBy (w.alloc (.cells #[.slice A n c, T1, .int .i64 el, .int .i64 next, .int .i64 es] 36)) (some b) := grown_below ((Below.refl _ w).alloc (Nat.le_refl _) _)
  have HFM0 := Lib.hid (HF0.out.below ((Below.refl _ w).alloc (Nat.le_refl _) (.cells #[.slice A n c, T1, .int .i64 el, .int .i64 next, .int .i64 es] 36)))
  generalize w.alloc (.cells #[.slice A n c, T1, .int .i64 el, .int .i64 next, .int .i64 es] 36) = w0 at hrow hgr0 HFM0 ⊢
  obtain ⟨x, hx⟩ : ∃ x, w.heap.size = x := ⟨_, rfl⟩
  rw [hx] at hrow ⊢
  have HX := Lib.hid hx
  have HROW := Lib.hid hrow
  have HGR0 := Lib.hid hgr0
  clear hrow hgr0 hx
  go_loopw [11] (fun i wr => ∃ j m : Nat, j ≤ n ∧ i = .int .i64 j ∧ m ≤ n0 + j ∧ Fm wr b m (came old drop (files (l.take j))) ∧ w.grownBy wr (some b) ∧ wr.heap[x]? = some (.cells #[.slice A n c, T1, .int .i64 el, .int .i64 next, .int .i64 es] 36 (0, 0)) ∧ Hid (addOk next old (files (l.take j)) (l.drop j) = R)) (fun i _ => n - (intOf i).toNat)
  case atStart => exact ⟨0, n0, by omega, rfl, by omega, by rw [List.take_zero, files, List.map_nil, came_nil]; exact HFM0.out, HGR0.out, HROW.out, Lib.hid (by simpa [files] using HR.out)⟩
  case round =>
    obtain ⟨j, m, hj, rfl, hm, hfm, hg, hrow, HS⟩ := hrel
    have HBEL : Hid (∀ w', wr.grownBy w' (some b) → Below b w w') := Lib.hid fun w' h => by
      have h2 := grown_trans hg h
      exact ⟨h2.os, h2.tape, h2.output, h2.size, fun y hy => h2.block y (by omega) (fun e => by injection e with e; omega)⟩
    by_cases hlt : j < n
    · have hjl : j < l.length := by rw [HN.out]; exact hlt
      obtain ⟨cb, off, hA, hbl, hc⟩ := (HIN.out.grown hg (HAB.out (by omega))).at_ (by omega)
      obtain ⟨c0, c1, c2, c3, c4⟩ := hc j hjl
      have HTK : Hid (files (l.take (j + 1)) = files (l.take j) ++ [l[j].file]) := Lib.hid (files_take hjl)
      have hdr := HS.out
      rw [List.drop_eq_getElem_cons hjl, addOk_step] at hdr
      have HWF := Lib.hid (HIN.out.wf l[j] (List.getElem_mem hjl))
      have x0 : wr.cell? ⟨x, 3, none⟩ = some (.int .i64 next) := cell_of_row _ _ _ _ _ _ hrow
      obtain ⟨e, he⟩ : ∃ e, l[j] = e := ⟨_, rfl⟩
      rw [he] at c0 c1 c2 c3 c4 HTK hdr HWF
      obtain ⟨lv, q, g, s, t⟩ := e
      simp only at c0 c1 c2 c3 c4 HTK hdr
      have hal : Below wr.heap.size wr ((wr.alloc (.cells #[.int .i64 lv, .int .i64 q, .int .i64 g, .string s, .string t] 81)).alloc (.cells #[.int .i64 q, .int .i64 g, .string s, .string t] 64)) := ((Below.refl _ wr).alloc (Nat.le_refl _) _).alloc (by simp) _
      have hg2 : wr.grownBy ((wr.alloc (.cells #[.int .i64 lv, .int .i64 q, .int .i64 g, .string s, .string t] 81)).alloc (.cells #[.int .i64 q, .int .i64 g, .string s, .string t] 64)) (some b) := grown_below hal
      have HBELA := Lib.hid (HBEL.out _ hg2)
      have hfm2 := hfm.below hal
      have hlk := hfm2.look HWF.out.file
      simp only at hlk
      have HFM2 := Lib.hid hfm2
      have HGA := Lib.hid (grown_trans hg hg2)
      have hxl : x < wr.heap.size := (Array.getElem?_eq_some_iff.1 hrow).1
      have HXL : Hid (x < wr.heap.size) := Lib.hid hxl
      have HROWA : Hid (((wr.alloc (.cells #[.int .i64 lv, .int .i64 q, .int .i64 g, .string s, .string t] 81)).alloc (.cells #[.int .i64 q, .int .i64 g, .string s, .string t] 64)).heap[x]? = some (.cells #[.slice A n c, T1, .int .i64 el, .int .i64 next, .int .i64 es] 36 (0, 0))) := Lib.hid ((hal.block x HXL.out).trans hrow)
      have HFIT : Hid (fine next ⟨lv, q, g, s, t⟩ = (decide (0 ≤ lv ∧ lv < 4 ∧ 0 ≤ q ∧ q < next ∧ 0 ≤ g) && !(Go.bytesBefore t.data.toList s.data.toList))) := Lib.hid rfl
      have HNIN : Hid (came old drop (files (l.take j)) q = 0 ↔ q ∉ old ∧ q ∉ files (l.take j)) := Lib.hid (came_zero HSUB.out)
      obtain ⟨ft, hft⟩ : ∃ ft, came old drop (files (l.take j)) q = ft := ⟨_, rfl⟩
      rw [hft] at hlk HNIN
      obtain ⟨FI, hFI⟩ : ∃ FI, fine next ⟨lv, q, g, s, t⟩ = FI := ⟨_, rfl⟩
      rw [hFI] at hdr HFIT
      have HDR := Lib.hid hdr
      subst hA
      clear hc he hfm hg hrow hal hg2 hfm2 hdr hft hFI
      by_cases h1 : 0 ≤ lv ∧ lv < 4
      · by_cases h2 : q < 0
        · have HD2 : Hid (false = R) := Lib.hid (by have := HDR.out; rw [HFIT.out, decide_eq_false (by omega)] at this; simpa using this)
          have hl : (!(decide (0 ≤ lv ∧ lv < 4))) = false := by simp; omega
          clear hlk
          go_wp2_with (go_at_call 47; refine (HLV.out _ _).mono ?_; rintro e wq ⟨rfl, rfl⟩)
          go_ret
          exact ⟨by rw [← HD2.out]; rfl, HBELA.out, fun h => by rw [← HD2.out] at h; cases h⟩
        · by_cases h3 : next ≤ q
          · have HD2 : Hid (false = R) := Lib.hid (by have := HDR.out; rw [HFIT.out, decide_eq_false (by omega)] at this; simpa using this)
            have hl : (!(decide (0 ≤ lv ∧ lv < 4))) = false := by simp; omega
            clear hlk
            go_wp2_with (go_at_call 47; refine (HLV.out _ _).mono ?_; rintro e wq ⟨rfl, rfl⟩)
            go_ret
            exact ⟨by rw [← HD2.out]; rfl, HBELA.out, fun h => by rw [← HD2.out] at h; cases h⟩
          · by_cases h4 : g < 0
            · have HD2 : Hid (false = R) := Lib.hid (by have := HDR.out; rw [HFIT.out, decide_eq_false (by omega)] at this; simpa using this)
              have hl : (!(decide (0 ≤ lv ∧ lv < 4))) = false := by simp; omega
              clear hlk
              go_wp2_with (go_at_call 47; refine (HLV.out _ _).mono ?_; rintro e wq ⟨rfl, rfl⟩)
              go_ret
              exact ⟨by rw [← HD2.out]; rfl, HBELA.out, fun h => by rw [← HD2.out] at h; cases h⟩
            · cases h5 : Go.bytesBefore t.data.toList s.data.toList with
              | true =>
                have HD2 : Hid (false = R) := Lib.hid (by have := HDR.out; rw [HFIT.out, h5] at this; simpa using this)
                have hl : (!(decide (0 ≤ lv ∧ lv < 4))) = false := by simp; omega
                have hgt : (!Op.bytesLess s.toList t.toList && !(s.toList == t.toList)) = true := by rw [text_gtr]; exact h5
                clear hlk
                go_wp2_with (go_at_call 47; refine (HLV.out _ _).mono ?_; rintro e wq ⟨rfl, rfl⟩)
                go_ret
                exact ⟨by rw [← HD2.out]; rfl, HBELA.out, fun h => by rw [← HD2.out] at h; cases h⟩
              | false =>
                have hgt : (!Op.bytesLess s.toList t.toList && !(s.toList == t.toList)) = false := by rw [text_gtr]; exact h5
                have HD3 : Hid ((decide (q ∉ old ∧ q ∉ files (l.take j)) && addOk next old (files (l.take j) ++ [q]) (l.drop (j + 1))) = R) := Lib.hid (by have := HDR.out; rw [HFIT.out, h5, decide_eq_true (by omega)] at this; simpa using this)
                have hl : (!(decide (0 ≤ lv ∧ lv < 4))) = false := by simp; omega
                by_cases h6 : ft = 0
                · have HD4 : Hid (addOk next old (files (l.take (j + 1))) (l.drop (j + 1)) = R) := Lib.hid (by have := HD3.out; rw [decide_eq_true (HNIN.out.1 h6), Bool.true_and, ← HTK.out] at this; exact this)
                  subst h6
                  obtain ⟨w3, hput, hfm3, hg3⟩ := HFM2.out.put (by unfold maxLen; omega) HWF.out.file (f := 3) (by constructor <;> omega)
                  simp only at hput hfm3
                  rw [came_snoc, ← HTK.out] at hfm3
                  have HFM3 := Lib.hid hfm3
                  have HG3 := Lib.hid (grown_trans HGA.out hg3)
                  have HROW3 : Hid (w3.heap[x]? = some (.cells #[.slice (some ⟨cb, off, none⟩) n c, T1, .int .i64 el, .int .i64 next, .int .i64 es] 36 (0, 0))) := Lib.hid ((hg3.block x (by have := HXL.out; simp; omega) (by intro e; injection e with e; have := HX.out; omega)).trans HROWA.out)
                  clear hfm3 hg3 h5
                  go_wp2_with (go_at_call 47; refine (HLV.out _ _).mono ?_; rintro e wq ⟨rfl, rfl⟩)
                  go_roundw
                  case rel => exact ⟨j + 1, m + 1, by omega, by go_num, by omega, HFM3.out, HG3.out, HROW3.out, HD4⟩
                  case measure => simp [intOf]; omega
                · have HD2 : Hid (false = R) := Lib.hid (by have := HD3.out; rw [decide_eq_false (fun h => h6 (HNIN.out.2 h)), Bool.false_and] at this; exact this)
                  have hne : (ft != 0) = true := by simpa using h6
                  have hne2 : (ft == 0) = false := by simpa using h6
                  clear h6 h5
                  go_wp2_with (go_at_call 47; refine (HLV.out _ _).mono ?_; rintro e wq ⟨rfl, rfl⟩)
                  go_ret
                  exact ⟨by rw [← HD2.out]; rfl, HBELA.out, fun h => by rw [← HD2.out] at h; cases h⟩
      · have HD2 : Hid (false = R) := Lib.hid (by have := HDR.out; rw [HFIT.out, decide_eq_false (by omega)] at this; simpa using this)
        have hl : (!(decide (0 ≤ lv ∧ lv < 4))) = true := by simp; omega
        clear hlk
        go_wp2_with (go_at_call 47; refine (HLV.out _ _).mono ?_; rintro e wq ⟨rfl, rfl⟩)
        go_ret
        exact ⟨by rw [← HD2.out]; rfl, HBELA.out, fun h => by rw [← HD2.out] at h; cases h⟩
    · obtain rfl : j = n := by omega
      have htk : l.take j = l := List.take_of_length_le (by rw [HN.out]; exact Nat.le_refl _)
      have hdp : l.drop j = [] := List.drop_eq_nil_of_le (by rw [HN.out]; exact Nat.le_refl _)
      rw [htk] at hfm
      have HDR : Hid (true = R) := Lib.hid (by have := HS.out; rw [hdp] at this; exact this)
      have HFM := Lib.hid hfm
      have HB3 := Lib.hid (HBEL.out _ (grown_refl wr _))
      clear hfm hg htk hdp hrow
      go_wp2
      go_ret
      exact ⟨by rw [← HDR.out]; rfl, HB3.out, fun _ => ⟨m, hm, HFM.out⟩⟩
end Go.Proofs.Ytffdiiolgflbkaa

