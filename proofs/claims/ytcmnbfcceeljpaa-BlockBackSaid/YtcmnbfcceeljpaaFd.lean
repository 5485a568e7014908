/- The walk of block.Find. Made by gen_fd.py. -/
import Derived.Test.YtcmnbfcceeljpaaFn
namespace Go.Proofs.Ytcmnbfcceeljpaa
open Go.RowKit
open SK

set_option maxRecDepth 100000 in
set_option maxHeartbeats 4000000 in
theorem find_any (s key : ByteArray) (q : Int) (w : World) (hs : s.size ≤ 281474976710656) :
    Calls Try.prog 18 #[.string s, .string key, .int .i64 q] w fun e w' => e = .returned (.tuple #[(SK.get (BK.getL s.data.toList) key q).1.val, .bool (SK.get (BK.getL s.data.toList) key q).2, .int .i64 (BK.getC s.data.toList)]) ∧ Below w.heap.size w w' := by
  have HP := Lib.hid (fun W => parse_any s W hs)
  have hz : BK.getC s.data.toList = 0 → (BK.getL s.data.toList).length ≤ 4096 ∧ Sorted (BK.getL s.data.toList) := fun h => by
    obtain ⟨h1, h2⟩ := BK.get_ok (BK.getC_zero h)
    exact ⟨h1, BK.ok_sorted h2⟩
  have hnil : BK.getC s.data.toList ≠ 0 → BK.getL s.data.toList = [] := BK.getL_none
  obtain ⟨L, hL⟩ : ∃ L, BK.getL s.data.toList = L := ⟨_, rfl⟩
  obtain ⟨C, hC⟩ : ∃ C, BK.getC s.data.toList = C := ⟨_, rfl⟩
  simp only [hL, hC] at HP hz hnil ⊢
  obtain ⟨R, hR⟩ : ∃ R, SK.get L key q = R := ⟨_, rfl⟩
  rw [hR]
  have HRR := Lib.hid hR
  have HZ := Lib.hid hz
  have HNIL := Lib.hid hnil
  obtain ⟨x, hx⟩ : ∃ x, w.heap.size = x := ⟨_, rfl⟩
  have hr0 := heap_alloc_new w (.cells #[.string ⟨#[]⟩, .int .i64 0, .bool false, .string ⟨#[]⟩, .int .i64 0] 45)
  have hb0 := (Below.refl w.heap.size w).alloc (Nat.le_refl _) (.cells #[.string ⟨#[]⟩, .int .i64 0, .bool false, .string ⟨#[]⟩, .int .i64 0] 45)
  rw [hx] at hr0 hb0
  have HR0 := Lib.hid hr0
  have HB0 := Lib.hid hb0
  have HXX := Lib.hid hx
  clear hL hC hR hz hnil hs hr0 hb0
  go_enter Try.func18, Try.ntmps18
  go_wp2_with fail
  generalize w.alloc (.cells #[.string ⟨#[]⟩, .int .i64 0, .bool false, .string ⟨#[]⟩, .int .i64 0] 45) = w0 at HR0 HB0 ⊢
  clear hx
  refine (HP.out _).mono ?_
  rintro e w1 ⟨A, cp, rfl, hen, hfb, hb1⟩
  have HX0 : Hid (x < w0.heap.size) := Lib.hid (Array.getElem?_eq_some_iff.1 HR0.out).1
  have HR1 := Lib.hid ((hb1.block x HX0.out).trans HR0.out)
  have HB1 : Hid (Below x w w1) := Lib.hid (HB0.out.trans (hb1.mono (by have := HX0.out; omega)))
  have HX1 : Hid (x < w1.heap.size) := Lib.hid (Array.getElem?_eq_some_iff.1 HR1.out).1
  have HEN := Lib.hid hen
  clear hen hfb hb1 HP HR0 HB0 HX0
  obtain ⟨n, hn⟩ : ∃ n, L.length = n := ⟨_, rfl⟩
  rw [hn]
  have HLN := Lib.hid hn
  have HR2 : Hid ((w1.alloc (.cells #[.slice A n cp] 23)).heap[x]? = some (.cells #[.string ⟨#[]⟩, .int .i64 0, .bool false, .string ⟨#[]⟩, .int .i64 0] 45 (0, 0))) := Lib.hid ((Below.heap_alloc _ _ _ HX1.out).trans HR1.out)
  have HB2 : Hid (Below x w (w1.alloc (.cells #[.slice A n cp] 23))) := Lib.hid (HB1.out.alloc (by have := HX1.out; omega) _)
  have HA2 : Hid ((w1.alloc (.cells #[.slice A n cp] 23)).heap[w1.heap.size]? = some (.cells #[.slice A n cp] 23 (0, 0))) := Lib.hid (heap_alloc_new w1 _)
  have HE2 := Lib.hid (HEN.out.below ((Below.refl w1.heap.size w1).alloc (Nat.le_refl _) (.cells #[.slice A n cp] 23)))
  clear hn
  by_cases h0 : C = 0
  · have hzz := HZ.out h0
    subst h0
    have HSRT := Lib.hid hzz.2
    have HN4 : Hid (n ≤ 4096) := Lib.hid (by rw [← HLN.out]; exact hzz.1)
    clear hzz HZ HNIL
    go_upto_if 19 with fail
    generalize w1.alloc (.cells #[.slice A n cp] 23) = w2 at HR2 HB2 HA2 HE2 ⊢
    obtain ⟨b1, hb1⟩ : ∃ b, w1.heap.size = b := ⟨_, rfl⟩
    rw [hb1] at HA2 ⊢
    clear hb1
    have HX2 : Hid (x < w2.heap.size) := Lib.hid (Array.getElem?_eq_some_iff.1 HR2.out).1
    have HA2l : Hid (b1 < w2.heap.size) := Lib.hid (Array.getElem?_eq_some_iff.1 HA2.out).1
    have hbel3 := (Below.refl w2.heap.size w2).alloc (Nat.le_refl _) (.cells #[.string key, .int .i64 q, .bool false, .string ⟨#[]⟩, .int .i64 0] 45)
    have HR3 := Lib.hid ((hbel3.block x HX2.out).trans HR2.out)
    have HA3 := Lib.hid ((hbel3.block b1 HA2l.out).trans HA2.out)
    have HS3 := Lib.hid (heap_alloc_new w2 (.cells #[.string key, .int .i64 q, .bool false, .string ⟨#[]⟩, .int .i64 0] 45))
    have HE3 := Lib.hid (HE2.out.below hbel3)
    have HB3 := Lib.hid (HB2.out.alloc (by have := HX2.out; omega) (.cells #[.string key, .int .i64 q, .bool false, .string ⟨#[]⟩, .int .i64 0] 45))
    clear hbel3
    have ca3 : (w2.alloc (.cells #[.string key, .int .i64 q, .bool false, .string ⟨#[]⟩, .int .i64 0] 45)).cell? ⟨b1, 0, none⟩ = some (.slice A n cp) := cell_of_row _ _ _ _ _ _ HA3.out
    go_wp2_with fail
    generalize w2.alloc (.cells #[.string key, .int .i64 q, .bool false, .string ⟨#[]⟩, .int .i64 0] 45) = w3 at HR3 HA3 HS3 HE3 HB3 ca3 ⊢
    obtain ⟨b2, hb2⟩ : ∃ b, w2.heap.size = b := ⟨_, rfl⟩
    rw [hb2] at HS3 ⊢
    have HX3 : Hid (x < w3.heap.size) := Lib.hid (Array.getElem?_eq_some_iff.1 HR3.out).1
    have hb1l : b1 < w3.heap.size := (Array.getElem?_eq_some_iff.1 HA3.out).1
    have hb2l : b2 < w3.heap.size := (Array.getElem?_eq_some_iff.1 HS3.out).1
    have HSE := Lib.hid (search_any n w3 (by have := HN4.out; omega) 35 #[.pointer (some ⟨b1, 0, none⟩), .pointer (some ⟨b2, 0, none⟩)] (fun j => !less (L.getD j E.zero) (askE key q))
      (fun W z => cf_enter Try.func35 (by kernel_rfl) (by kernel_rfl) _ W)
      (fun W hW j hj => by
        have hjl : j < L.length := by rw [HLN.out]; exact hj
        have := find1_any W b1 b2 A n cp L j key q HLN.out HN4.out ((hW.block b1 hb1l).trans HA3.out) ((hW.block b2 hb2l).trans HS3.out) (HE3.out.below hW) hj hjl
        rw [List.getD_eq_getElem?_getD, List.getElem?_eq_getElem hjl]
        exact this))
    clear HR2 HB2 HA2 HE2 HX2 HA2l HR1 HB1 HX1 HEN hb1l hb2l hb2 ca3
    refine HSE.out.mono ?_
    rintro e w4 ⟨i, rfl, hi, hu0, hu1, hb4⟩
    have HR4 := Lib.hid ((hb4.block x HX3.out).trans HR3.out)
    have HA4 := Lib.hid ((hb4.block b1 (Array.getElem?_eq_some_iff.1 HA3.out).1).trans HA3.out)
    have HE4 := Lib.hid (HE3.out.below hb4)
    have HB4 : Hid (Below x w w4) := Lib.hid (HB3.out.trans (hb4.mono (by have := HX3.out; omega)))
    have hrest : rest (askE key q) L = L.drop i := BK.search_rest HSRT.out (by rw [HLN.out]; exact hi)
      (fun m hm h => by have := hu0 m h; rw [List.getD_eq_getElem?_getD, List.getElem?_eq_getElem hm] at this; simpa using this)
      (fun h => by have := hu1 (by rw [← HLN.out]; exact h); rw [List.getD_eq_getElem?_getD, List.getElem?_eq_getElem h] at this; simpa using this)
    have HREST := Lib.hid hrest
    have ca4 : w4.cell? ⟨b1, 0, none⟩ = some (.slice A n cp) := cell_of_row _ _ _ _ _ _ HA4.out
    clear hb4 hrest hu0 hu1 HSE HR3 HA3 HE3 HB3 HS3 HX3
    have n0 : w4.cell? ⟨x, 0, none⟩ = some (.string ⟨#[]⟩) := cell_of_row _ _ _ _ _ _ HR4.out
    have f0 : w4.frozen? ⟨x, 0, none⟩ = false := frozen_of_row _ _ _ _ _ HR4.out
    have n1 : w4.cell? ⟨x, 1, none⟩ = some (.int .i64 0) := cell_of_row _ _ _ _ _ _ HR4.out
    have f1 : w4.frozen? ⟨x, 1, none⟩ = false := frozen_of_row _ _ _ _ _ HR4.out
    have n2 : w4.cell? ⟨x, 2, none⟩ = some (.bool false) := cell_of_row _ _ _ _ _ _ HR4.out
    have f2 : w4.frozen? ⟨x, 2, none⟩ = false := frozen_of_row _ _ _ _ _ HR4.out
    have n3 : w4.cell? ⟨x, 3, none⟩ = some (.string ⟨#[]⟩) := cell_of_row _ _ _ _ _ _ HR4.out
    have f3 : w4.frozen? ⟨x, 3, none⟩ = false := frozen_of_row _ _ _ _ _ HR4.out
    have n4 : w4.cell? ⟨x, 4, none⟩ = some (.int .i64 0) := cell_of_row _ _ _ _ _ _ HR4.out
    have f4 : w4.frozen? ⟨x, 4, none⟩ = false := frozen_of_row _ _ _ _ _ HR4.out
    by_cases hin : i = n
    · have HF : Hid (R = (E.zero, false)) := Lib.hid (by rw [← HRR.out]; exact BK.find_end HSRT.out (by rw [HREST.out, hin, ← HLN.out, List.drop_length]))
      have hie : ((i : Int) == (n : Int)) = true := by rw [hin]; exact beq_self_eq_true _
      clear hin
      have HXE : Hid ((((((w4.setCell ⟨x, 0, none⟩ (.string ⟨#[]⟩)).setCell ⟨x, 1, none⟩ (.int .i64 0)).setCell ⟨x, 2, none⟩ (.bool false)).setCell ⟨x, 3, none⟩ (.string ⟨#[]⟩)).setCell ⟨x, 4, none⟩ (.int .i64 0)).heap[x]? = some (.cells #[.string ⟨#[]⟩, .int .i64 0, .bool false, .string ⟨#[]⟩, .int .i64 0] 45 (0, 0))) := Lib.hid (heap_set_fr (heap_set_fr (heap_set_fr (heap_set_fr (heap_set_fr HR4.out 0 (.string ⟨#[]⟩)) 1 (.int .i64 0)) 2 (.bool false)) 3 (.string ⟨#[]⟩)) 4 (.int .i64 0))
      have HBE : Hid (Below x w (((((w4.setCell ⟨x, 0, none⟩ (.string ⟨#[]⟩)).setCell ⟨x, 1, none⟩ (.int .i64 0)).setCell ⟨x, 2, none⟩ (.bool false)).setCell ⟨x, 3, none⟩ (.string ⟨#[]⟩)).setCell ⟨x, 4, none⟩ (.int .i64 0))) := Lib.hid (below_new (below_new (below_new (below_new (below_new HB4.out (Nat.le_refl _) _ _) (Nat.le_refl _) _ _) (Nat.le_refl _) _ _) (Nat.le_refl _) _ _) (Nat.le_refl _) _ _)
      go_wp2
      generalize (((((w4.setCell ⟨x, 0, none⟩ (.string ⟨#[]⟩)).setCell ⟨x, 1, none⟩ (.int .i64 0)).setCell ⟨x, 2, none⟩ (.bool false)).setCell ⟨x, 3, none⟩ (.string ⟨#[]⟩)).setCell ⟨x, 4, none⟩ (.int .i64 0)) = we at HXE HBE ⊢
      have d0 : we.cell? ⟨x, 0, none⟩ = some (.string ⟨#[]⟩) := cell_of_row _ _ _ _ _ _ HXE.out
      have d1 : we.cell? ⟨x, 1, none⟩ = some (.int .i64 0) := cell_of_row _ _ _ _ _ _ HXE.out
      have d2 : we.cell? ⟨x, 2, none⟩ = some (.bool false) := cell_of_row _ _ _ _ _ _ HXE.out
      have d3 : we.cell? ⟨x, 3, none⟩ = some (.string ⟨#[]⟩) := cell_of_row _ _ _ _ _ _ HXE.out
      have d4 : we.cell? ⟨x, 4, none⟩ = some (.int .i64 0) := cell_of_row _ _ _ _ _ _ HXE.out
      refine bodyPost_ret (v := .tuple #[.agg #[.string ⟨#[]⟩, .int .i64 0, .bool false, .string ⟨#[]⟩, .int .i64 0], .bool false, .int .i64 0]) (by simp [results, Try.results18, go_sem, d0, d1, d2, d3, d4]) rfl ⟨?_, by rw [HXX.out]; exact HBE.out⟩
      rw [HF.out]
      rfl
    · have hil : i < L.length := by rw [HLN.out]; omega
      have HFH := Lib.hid (BK.find_here HSRT.out hil HREST.out)
      rw [HRR.out] at HFH
      have hie : ((i : Int) == (n : Int)) = false := beq_eq_false_iff_ne.2 (by omega)
      obtain ⟨bb, off, hA, hbl, hc⟩ := HE4.out.at_ (by omega)
      obtain ⟨z0, z1, z2, z3, z4⟩ := hc i hil
      have g0 : (0 : Int) ≤ (i : Int) := by omega
      have g1 : (i : Int) < (n : Int) := by omega
      obtain ⟨e, he⟩ : ∃ e, L[i] = e := ⟨_, rfl⟩
      rw [he] at z0 z1 z2 z3 z4 HFH
      subst hA
      have hte := text_eq e.key key
      clear hc he hbl
      obtain ⟨k2, q2, g2, v2, t2⟩ := e
      simp only at z0 z1 z2 z3 z4 HFH hte
      by_cases hk : k2 = key
      · have HF : Hid (R = (⟨k2, q2, g2, v2, t2⟩, true)) := Lib.hid (by rw [HFH.out, if_pos hk])
        have hkk : (k2.toList == key.toList) = true := by rw [hte]; exact decide_eq_true hk
        clear hte hk HFH
        have HXE : Hid ((((((w4.setCell ⟨x, 0, none⟩ (.string k2)).setCell ⟨x, 1, none⟩ (.int .i64 q2)).setCell ⟨x, 2, none⟩ (.bool g2)).setCell ⟨x, 3, none⟩ (.string v2)).setCell ⟨x, 4, none⟩ (.int .i64 t2)).heap[x]? = some (.cells #[.string k2, .int .i64 q2, .bool g2, .string v2, .int .i64 t2] 45 (0, 0))) := Lib.hid (heap_set_fr (heap_set_fr (heap_set_fr (heap_set_fr (heap_set_fr HR4.out 0 (.string k2)) 1 (.int .i64 q2)) 2 (.bool g2)) 3 (.string v2)) 4 (.int .i64 t2))
        have HBE : Hid (Below x w (((((w4.setCell ⟨x, 0, none⟩ (.string k2)).setCell ⟨x, 1, none⟩ (.int .i64 q2)).setCell ⟨x, 2, none⟩ (.bool g2)).setCell ⟨x, 3, none⟩ (.string v2)).setCell ⟨x, 4, none⟩ (.int .i64 t2))) := Lib.hid (below_new (below_new (below_new (below_new (below_new HB4.out (Nat.le_refl _) _ _) (Nat.le_refl _) _ _) (Nat.le_refl _) _ _) (Nat.le_refl _) _ _) (Nat.le_refl _) _ _)
        go_wp2
        generalize (((((w4.setCell ⟨x, 0, none⟩ (.string k2)).setCell ⟨x, 1, none⟩ (.int .i64 q2)).setCell ⟨x, 2, none⟩ (.bool g2)).setCell ⟨x, 3, none⟩ (.string v2)).setCell ⟨x, 4, none⟩ (.int .i64 t2)) = we at HXE HBE ⊢
        have d0 : we.cell? ⟨x, 0, none⟩ = some (.string k2) := cell_of_row _ _ _ _ _ _ HXE.out
        have d1 : we.cell? ⟨x, 1, none⟩ = some (.int .i64 q2) := cell_of_row _ _ _ _ _ _ HXE.out
        have d2 : we.cell? ⟨x, 2, none⟩ = some (.bool g2) := cell_of_row _ _ _ _ _ _ HXE.out
        have d3 : we.cell? ⟨x, 3, none⟩ = some (.string v2) := cell_of_row _ _ _ _ _ _ HXE.out
        have d4 : we.cell? ⟨x, 4, none⟩ = some (.int .i64 t2) := cell_of_row _ _ _ _ _ _ HXE.out
        refine bodyPost_ret (v := .tuple #[.agg #[.string k2, .int .i64 q2, .bool g2, .string v2, .int .i64 t2], .bool true, .int .i64 0]) (by simp [results, Try.results18, go_sem, d0, d1, d2, d3, d4]) rfl ⟨?_, by rw [HXX.out]; exact HBE.out⟩
        rw [HF.out]
        rfl
      · have HF : Hid (R = (E.zero, false)) := Lib.hid (by rw [HFH.out, if_neg hk])
        have hkk : (k2.toList == key.toList) = false := by rw [hte]; exact decide_eq_false hk
        clear hte hk HFH
        have HXE : Hid ((((((w4.setCell ⟨x, 0, none⟩ (.string ⟨#[]⟩)).setCell ⟨x, 1, none⟩ (.int .i64 0)).setCell ⟨x, 2, none⟩ (.bool false)).setCell ⟨x, 3, none⟩ (.string ⟨#[]⟩)).setCell ⟨x, 4, none⟩ (.int .i64 0)).heap[x]? = some (.cells #[.string ⟨#[]⟩, .int .i64 0, .bool false, .string ⟨#[]⟩, .int .i64 0] 45 (0, 0))) := Lib.hid (heap_set_fr (heap_set_fr (heap_set_fr (heap_set_fr (heap_set_fr HR4.out 0 (.string ⟨#[]⟩)) 1 (.int .i64 0)) 2 (.bool false)) 3 (.string ⟨#[]⟩)) 4 (.int .i64 0))
        have HBE : Hid (Below x w (((((w4.setCell ⟨x, 0, none⟩ (.string ⟨#[]⟩)).setCell ⟨x, 1, none⟩ (.int .i64 0)).setCell ⟨x, 2, none⟩ (.bool false)).setCell ⟨x, 3, none⟩ (.string ⟨#[]⟩)).setCell ⟨x, 4, none⟩ (.int .i64 0))) := Lib.hid (below_new (below_new (below_new (below_new (below_new HB4.out (Nat.le_refl _) _ _) (Nat.le_refl _) _ _) (Nat.le_refl _) _ _) (Nat.le_refl _) _ _) (Nat.le_refl _) _ _)
        go_wp2
        generalize (((((w4.setCell ⟨x, 0, none⟩ (.string ⟨#[]⟩)).setCell ⟨x, 1, none⟩ (.int .i64 0)).setCell ⟨x, 2, none⟩ (.bool false)).setCell ⟨x, 3, none⟩ (.string ⟨#[]⟩)).setCell ⟨x, 4, none⟩ (.int .i64 0)) = we at HXE HBE ⊢
        have d0 : we.cell? ⟨x, 0, none⟩ = some (.string ⟨#[]⟩) := cell_of_row _ _ _ _ _ _ HXE.out
        have d1 : we.cell? ⟨x, 1, none⟩ = some (.int .i64 0) := cell_of_row _ _ _ _ _ _ HXE.out
        have d2 : we.cell? ⟨x, 2, none⟩ = some (.bool false) := cell_of_row _ _ _ _ _ _ HXE.out
        have d3 : we.cell? ⟨x, 3, none⟩ = some (.string ⟨#[]⟩) := cell_of_row _ _ _ _ _ _ HXE.out
        have d4 : we.cell? ⟨x, 4, none⟩ = some (.int .i64 0) := cell_of_row _ _ _ _ _ _ HXE.out
        refine bodyPost_ret (v := .tuple #[.agg #[.string ⟨#[]⟩, .int .i64 0, .bool false, .string ⟨#[]⟩, .int .i64 0], .bool false, .int .i64 0]) (by simp [results, Try.results18, go_sem, d0, d1, d2, d3, d4]) rfl ⟨?_, by rw [HXX.out]; exact HBE.out⟩
        rw [HF.out]
        rfl
  · have hnl := HNIL.out h0
    have HF : Hid (R = (E.zero, false)) := Lib.hid (by rw [← HRR.out, hnl]; rfl)
    have hbe : (C == 0) = false := by simpa using h0
    have hbn : (C != 0) = true := by simpa using h0
    clear hnl HZ HNIL HA2 HE2
    go_upto_if 19 with fail
    generalize w1.alloc (.cells #[.slice A n cp] 23) = w2 at HR2 HB2 ⊢
    have n0 : w2.cell? ⟨x, 0, none⟩ = some (.string ⟨#[]⟩) := cell_of_row _ _ _ _ _ _ HR2.out
    have f0 : w2.frozen? ⟨x, 0, none⟩ = false := frozen_of_row _ _ _ _ _ HR2.out
    have n1 : w2.cell? ⟨x, 1, none⟩ = some (.int .i64 0) := cell_of_row _ _ _ _ _ _ HR2.out
    have f1 : w2.frozen? ⟨x, 1, none⟩ = false := frozen_of_row _ _ _ _ _ HR2.out
    have n2 : w2.cell? ⟨x, 2, none⟩ = some (.bool false) := cell_of_row _ _ _ _ _ _ HR2.out
    have f2 : w2.frozen? ⟨x, 2, none⟩ = false := frozen_of_row _ _ _ _ _ HR2.out
    have n3 : w2.cell? ⟨x, 3, none⟩ = some (.string ⟨#[]⟩) := cell_of_row _ _ _ _ _ _ HR2.out
    have f3 : w2.frozen? ⟨x, 3, none⟩ = false := frozen_of_row _ _ _ _ _ HR2.out
    have n4 : w2.cell? ⟨x, 4, none⟩ = some (.int .i64 0) := cell_of_row _ _ _ _ _ _ HR2.out
    have f4 : w2.frozen? ⟨x, 4, none⟩ = false := frozen_of_row _ _ _ _ _ HR2.out
    have HXE : Hid ((((((w2.setCell ⟨x, 0, none⟩ (.string ⟨#[]⟩)).setCell ⟨x, 1, none⟩ (.int .i64 0)).setCell ⟨x, 2, none⟩ (.bool false)).setCell ⟨x, 3, none⟩ (.string ⟨#[]⟩)).setCell ⟨x, 4, none⟩ (.int .i64 0)).heap[x]? = some (.cells #[.string ⟨#[]⟩, .int .i64 0, .bool false, .string ⟨#[]⟩, .int .i64 0] 45 (0, 0))) := Lib.hid (heap_set_fr (heap_set_fr (heap_set_fr (heap_set_fr (heap_set_fr HR2.out 0 (.string ⟨#[]⟩)) 1 (.int .i64 0)) 2 (.bool false)) 3 (.string ⟨#[]⟩)) 4 (.int .i64 0))
    have HBE : Hid (Below x w (((((w2.setCell ⟨x, 0, none⟩ (.string ⟨#[]⟩)).setCell ⟨x, 1, none⟩ (.int .i64 0)).setCell ⟨x, 2, none⟩ (.bool false)).setCell ⟨x, 3, none⟩ (.string ⟨#[]⟩)).setCell ⟨x, 4, none⟩ (.int .i64 0))) := Lib.hid (below_new (below_new (below_new (below_new (below_new HB2.out (Nat.le_refl _) _ _) (Nat.le_refl _) _ _) (Nat.le_refl _) _ _) (Nat.le_refl _) _ _) (Nat.le_refl _) _ _)
    go_wp2
    generalize (((((w2.setCell ⟨x, 0, none⟩ (.string ⟨#[]⟩)).setCell ⟨x, 1, none⟩ (.int .i64 0)).setCell ⟨x, 2, none⟩ (.bool false)).setCell ⟨x, 3, none⟩ (.string ⟨#[]⟩)).setCell ⟨x, 4, none⟩ (.int .i64 0)) = we at HXE HBE ⊢
    have d0 : we.cell? ⟨x, 0, none⟩ = some (.string ⟨#[]⟩) := cell_of_row _ _ _ _ _ _ HXE.out
    have d1 : we.cell? ⟨x, 1, none⟩ = some (.int .i64 0) := cell_of_row _ _ _ _ _ _ HXE.out
    have d2 : we.cell? ⟨x, 2, none⟩ = some (.bool false) := cell_of_row _ _ _ _ _ _ HXE.out
    have d3 : we.cell? ⟨x, 3, none⟩ = some (.string ⟨#[]⟩) := cell_of_row _ _ _ _ _ _ HXE.out
    have d4 : we.cell? ⟨x, 4, none⟩ = some (.int .i64 0) := cell_of_row _ _ _ _ _ _ HXE.out
    refine bodyPost_ret (v := .tuple #[.agg #[.string ⟨#[]⟩, .int .i64 0, .bool false, .string ⟨#[]⟩, .int .i64 0], .bool false, .int .i64 C]) (by simp [results, Try.results18, go_sem, d0, d1, d2, d3, d4]) rfl ⟨?_, by rw [HXX.out]; exact HBE.out⟩
    rw [HF.out]
    rfl
end Go.Proofs.Ytcmnbfcceeljpaa
