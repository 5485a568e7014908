/- Texts joined by bundle.py: Rd. -/
import Derived.Test.YtffdiiolgflbkaaZat
import Derived.Deep.Cut
import Derived.Deep.CutRange

/- The document's Apply. Made by gen_rd.py. -/
namespace Go.Proofs.Ytffdiiolgflbkaa
open Go.RowKit
open VS
attribute [local go_sem ↓] Go.wp_at_zero Go.wp_at_succ

/-- what the document's Apply answers -/
def RApplyOut (B : Nat) (v : V) (e : Ed) (r : Ending) (w' : World) : Prop :=
  ∃ (A : Option Addr) (c : Nat), r = .returned (.tuple #[.agg #[.slice A (apply v e).1.L.length c, .int .i64 (apply v e).1.log, .int .i64 (apply v e).1.next, .int .i64 (apply v e).1.seq], .int .i64 (apply v e).2]) ∧ In5 w' A (apply v e).1.L ∧ (apply v e).1.L.length ≤ c ∧ ∀ a, A = some a → B ≤ a.block

theorem RApplyOut.bad {B : Nat} {v : V} {e : Ed} (h : apply v e = (V.none, 17)) {w' : World} : RApplyOut B v e (.returned (.tuple #[.agg #[.slice none 0 0, .int .i64 0, .int .i64 0, .int .i64 0], .int .i64 17])) w' :=
  ⟨none, 0, by rw [h]; rfl, by rw [h]; exact In5.nil w' _, by rw [h]; exact Nat.le_refl _, fun a ha => by cases ha⟩

set_option maxRecDepth 100000 in
set_option maxHeartbeats 16000000 in
theorem rapply_any (A : Option Addr) (n c : Nat) (v : V) (A2 : Option Addr) (n2 c2 : Nat) (D : Option Addr) (m2 d2 : Nat) (e : Ed) (w : World) (h : In5 w A v.L) (hn : v.L.length = n) (hL : n ≤ 2000000) (he : EdIn w A2 n2 c2 D m2 d2 e) (hn2 : n2 ≤ 2000000) (hm2 : m2 ≤ 2000000) :
    Calls Try.prog 11 #[.agg #[.slice A n c, .int .i64 v.log, .int .i64 v.next, .int .i64 v.seq], .agg #[.slice A2 n2 c2, .slice D m2 d2, .int .i64 e.log, .int .i64 e.next, .int .i64 e.seq]] w fun r w' => RApplyOut w.heap.size v e r w' ∧ Below w.heap.size w w' := by
  have HV := Lib.hid h
  have HN := Lib.hid hn
  have HE := Lib.hid he
  have HSM : Hid (n ≤ 2000000 ∧ n2 ≤ 2000000 ∧ m2 ≤ 2000000) := Lib.hid ⟨hL, hn2, hm2⟩
  have HHD : Hid (headB v.log v.next v.seq e.log e.next e.seq = headOk v e) := Lib.hid rfl
  obtain ⟨vl, hvl⟩ : ∃ x, v.log = x := ⟨_, rfl⟩
  obtain ⟨vn, hvn⟩ : ∃ x, v.next = x := ⟨_, rfl⟩
  obtain ⟨vs, hvs⟩ : ∃ x, v.seq = x := ⟨_, rfl⟩
  obtain ⟨el, hel⟩ : ∃ x, e.log = x := ⟨_, rfl⟩
  obtain ⟨en, hen⟩ : ∃ x, e.next = x := ⟨_, rfl⟩
  obtain ⟨es, hes⟩ : ∃ x, e.seq = x := ⟨_, rfl⟩
  have HEN : Hid (e.log = el ∧ e.next = en ∧ e.seq = es) := Lib.hid ⟨hel, hen, hes⟩
  rw [hvl, hvn, hvs, hel, hen, hes] at HHD
  rw [hvl, hvn, hvs, hel, hen, hes]
  clear h hn he hL hn2 hm2 hvl hvn hvs hel hen hes
  go_enter Try.func11, Try.ntmps11
  go_upto_region 2 with fail
  have hb0 : Below w.heap.size w ((((w.alloc (.cells #[.slice A n c, .int .i64 vl, .int .i64 vn, .int .i64 vs] 29)).alloc (.cells #[.slice A2 n2 c2, .slice D m2 d2, .int .i64 el, .int .i64 en, .int .i64 es] 38)).alloc (.cells #[.slice none 0 0, .int .i64 0, .int .i64 0, .int .i64 0] 29)).alloc (.cells #[.slice none 0 0, .int .i64 0, .int .i64 0, .int .i64 0] 29)) := ((((Below.refl _ w).alloc (Nat.le_refl _) _).alloc (by simp) _).alloc (by simp; omega) _).alloc (by simp; omega) _
  have hs0 : ((((w.alloc (.cells #[.slice A n c, .int .i64 vl, .int .i64 vn, .int .i64 vs] 29)).alloc (.cells #[.slice A2 n2 c2, .slice D m2 d2, .int .i64 el, .int .i64 en, .int .i64 es] 38)).alloc (.cells #[.slice none 0 0, .int .i64 0, .int .i64 0, .int .i64 0] 29)).alloc (.cells #[.slice none 0 0, .int .i64 0, .int .i64 0, .int .i64 0] 29)).heap.size = w.heap.size + 4 := by simp
  have hrv : ((((w.alloc (.cells #[.slice A n c, .int .i64 vl, .int .i64 vn, .int .i64 vs] 29)).alloc (.cells #[.slice A2 n2 c2, .slice D m2 d2, .int .i64 el, .int .i64 en, .int .i64 es] 38)).alloc (.cells #[.slice none 0 0, .int .i64 0, .int .i64 0, .int .i64 0] 29)).alloc (.cells #[.slice none 0 0, .int .i64 0, .int .i64 0, .int .i64 0] 29)).heap[w.heap.size]? = some (.cells #[.slice A n c, .int .i64 vl, .int .i64 vn, .int .i64 vs] 29 (0, 0)) := by
    rw [Below.heap_alloc _ _ _ (by simp <;> omega), Below.heap_alloc _ _ _ (by simp <;> omega), Below.heap_alloc _ _ _ (by simp <;> omega)]
    exact heap_alloc_new w _
  have hre : ((((w.alloc (.cells #[.slice A n c, .int .i64 vl, .int .i64 vn, .int .i64 vs] 29)).alloc (.cells #[.slice A2 n2 c2, .slice D m2 d2, .int .i64 el, .int .i64 en, .int .i64 es] 38)).alloc (.cells #[.slice none 0 0, .int .i64 0, .int .i64 0, .int .i64 0] 29)).alloc (.cells #[.slice none 0 0, .int .i64 0, .int .i64 0, .int .i64 0] 29)).heap[w.heap.size + 1]? = some (.cells #[.slice A2 n2 c2, .slice D m2 d2, .int .i64 el, .int .i64 en, .int .i64 es] 38 (0, 0)) := by
    rw [Below.heap_alloc _ _ _ (by simp <;> omega), Below.heap_alloc _ _ _ (by simp <;> omega)]
    have := heap_alloc_new (w.alloc (.cells #[.slice A n c, .int .i64 vl, .int .i64 vn, .int .i64 vs] 29)) (.cells #[.slice A2 n2 c2, .slice D m2 d2, .int .i64 el, .int .i64 en, .int .i64 es] 38)
    simpa using this
  have hrz : ((((w.alloc (.cells #[.slice A n c, .int .i64 vl, .int .i64 vn, .int .i64 vs] 29)).alloc (.cells #[.slice A2 n2 c2, .slice D m2 d2, .int .i64 el, .int .i64 en, .int .i64 es] 38)).alloc (.cells #[.slice none 0 0, .int .i64 0, .int .i64 0, .int .i64 0] 29)).alloc (.cells #[.slice none 0 0, .int .i64 0, .int .i64 0, .int .i64 0] 29)).heap[w.heap.size + 2]? = some (.cells #[.slice none 0 0, .int .i64 0, .int .i64 0, .int .i64 0] 29 (0, 0)) := by
    rw [Below.heap_alloc _ _ _ (by simp <;> omega)]
    have := heap_alloc_new ((w.alloc (.cells #[.slice A n c, .int .i64 vl, .int .i64 vn, .int .i64 vs] 29)).alloc (.cells #[.slice A2 n2 c2, .slice D m2 d2, .int .i64 el, .int .i64 en, .int .i64 es] 38)) (.cells #[.slice none 0 0, .int .i64 0, .int .i64 0, .int .i64 0] 29)
    simpa using this
  have hrn : ((((w.alloc (.cells #[.slice A n c, .int .i64 vl, .int .i64 vn, .int .i64 vs] 29)).alloc (.cells #[.slice A2 n2 c2, .slice D m2 d2, .int .i64 el, .int .i64 en, .int .i64 es] 38)).alloc (.cells #[.slice none 0 0, .int .i64 0, .int .i64 0, .int .i64 0] 29)).alloc (.cells #[.slice none 0 0, .int .i64 0, .int .i64 0, .int .i64 0] 29)).heap[w.heap.size + 3]? = some (.cells #[.slice none 0 0, .int .i64 0, .int .i64 0, .int .i64 0] 29 (0, 0)) := by
    have := heap_alloc_new (((w.alloc (.cells #[.slice A n c, .int .i64 vl, .int .i64 vn, .int .i64 vs] 29)).alloc (.cells #[.slice A2 n2 c2, .slice D m2 d2, .int .i64 el, .int .i64 en, .int .i64 es] 38)).alloc (.cells #[.slice none 0 0, .int .i64 0, .int .i64 0, .int .i64 0] 29)) (.cells #[.slice none 0 0, .int .i64 0, .int .i64 0, .int .i64 0] 29)
    simpa using this
  generalize ((((w.alloc (.cells #[.slice A n c, .int .i64 vl, .int .i64 vn, .int .i64 vs] 29)).alloc (.cells #[.slice A2 n2 c2, .slice D m2 d2, .int .i64 el, .int .i64 en, .int .i64 es] 38)).alloc (.cells #[.slice none 0 0, .int .i64 0, .int .i64 0, .int .i64 0] 29)).alloc (.cells #[.slice none 0 0, .int .i64 0, .int .i64 0, .int .i64 0] 29)) = w0 at hb0 hs0 hrv hre hrz hrn ⊢
  obtain ⟨x, hx⟩ : ∃ x, w.heap.size = x := ⟨_, rfl⟩
  have HX := Lib.hid hx
  have HV0 := Lib.hid (HV.out.below hb0)
  have HE0 := Lib.hid (HE.out.below hb0)
  rw [hx] at hb0 hs0 hrv hre hrz hrn ⊢
  rw [show x + 1 + 1 + 1 = x + 3 by omega, show x + 1 + 1 = x + 2 by omega]
  have HRV := Lib.hid hrv
  have HRE := Lib.hid hre
  have HRZ := Lib.hid hrz
  have HRN := Lib.hid hrn
  have HS0 := Lib.hid hs0
  have HLOW : Hid (∀ W, Below (x + 4) w0 W → Below w.heap.size w W) := Lib.hid fun W h => by
    rw [hx]
    exact hb0.trans (h.mono (by omega))
  have HB0 : Hid (Below (x + 4) w0 w0) := Lib.hid (Below.refl _ _)
  have HABK : Hid (0 < v.L.length → ∃ b off, A = some ⟨b, off, none⟩ ∧ b < x) := Lib.hid fun hl => by
    obtain ⟨b, off, hA, hbl, -⟩ := HV.out.at_ hl
    exact ⟨b, off, hA, by omega⟩
  clear hb0 hs0 hrv hre hrz hrn hx
  have rv := (HB0.out.block x (by omega)).trans HRV.out
  have cv0 : w0.cell? ⟨x, 0, none⟩ = some (.slice A n c) := cell_of_row _ _ _ _ _ _ rv
  have cv1 : w0.cell? ⟨x, 1, none⟩ = some (.int .i64 vl) := cell_of_row _ _ _ _ _ _ rv
  have cv2 : w0.cell? ⟨x, 2, none⟩ = some (.int .i64 vn) := cell_of_row _ _ _ _ _ _ rv
  have cv3 : w0.cell? ⟨x, 3, none⟩ = some (.int .i64 vs) := cell_of_row _ _ _ _ _ _ rv
  have re := (HB0.out.block (x + 1) (by omega)).trans HRE.out
  have ce0 : w0.cell? ⟨x + 1, 0, none⟩ = some (.slice A2 n2 c2) := cell_of_row _ _ _ _ _ _ re
  have ce1 : w0.cell? ⟨x + 1, 1, none⟩ = some (.slice D m2 d2) := cell_of_row _ _ _ _ _ _ re
  have ce2 : w0.cell? ⟨x + 1, 2, none⟩ = some (.int .i64 el) := cell_of_row _ _ _ _ _ _ re
  have ce3 : w0.cell? ⟨x + 1, 3, none⟩ = some (.int .i64 en) := cell_of_row _ _ _ _ _ _ re
  have ce4 : w0.cell? ⟨x + 1, 4, none⟩ = some (.int .i64 es) := cell_of_row _ _ _ _ _ _ re
  have HHO : Hid (headOk v e = decide (vl ≤ el ∧ vn ≤ en ∧ vs ≤ es ∧ (el < en ∨ el = 0 ∧ en = 0))) := Lib.hid HHD.out.symm
  by_cases h1 : el < vl
  · have HHF : Hid (headOk v e = false) := Lib.hid (by rw [HHO.out]; simp; omega)
    have rz := (HB0.out.block (x + 2) (by omega)).trans HRZ.out
    have z0 : w0.cell? ⟨x + 2, 0, none⟩ = some (.slice none 0 0) := cell_of_row _ _ _ _ _ _ rz
    have z1 : w0.cell? ⟨x + 2, 1, none⟩ = some (.int .i64 0) := cell_of_row _ _ _ _ _ _ rz
    have z2 : w0.cell? ⟨x + 2, 2, none⟩ = some (.int .i64 0) := cell_of_row _ _ _ _ _ _ rz
    have z3 : w0.cell? ⟨x + 2, 3, none⟩ = some (.int .i64 0) := cell_of_row _ _ _ _ _ _ rz
    have f0 : w0.frozen? ⟨x + 2, 0, none⟩ = false := frozen_of_row _ _ _ _ _ rz
    have f1 : w0.frozen? ⟨x + 2, 1, none⟩ = false := frozen_of_row _ _ _ _ _ rz
    have f2 : w0.frozen? ⟨x + 2, 2, none⟩ = false := frozen_of_row _ _ _ _ _ rz
    have f3 : w0.frozen? ⟨x + 2, 3, none⟩ = false := frozen_of_row _ _ _ _ _ rz
    have rn := (HB0.out.block (x + 3) (by omega)).trans HRN.out
    have n0 : w0.cell? ⟨x + 3, 0, none⟩ = some (.slice none 0 0) := cell_of_row _ _ _ _ _ _ rn
    have n1 : w0.cell? ⟨x + 3, 1, none⟩ = some (.int .i64 0) := cell_of_row _ _ _ _ _ _ rn
    have n2 : w0.cell? ⟨x + 3, 2, none⟩ = some (.int .i64 0) := cell_of_row _ _ _ _ _ _ rn
    have n3 : w0.cell? ⟨x + 3, 3, none⟩ = some (.int .i64 0) := cell_of_row _ _ _ _ _ _ rn
    have HBS : Hid (∀ u0 u1 u2 u3, Below w.heap.size w ((((w0.setCell ⟨x + 2, 0, none⟩ u0).setCell ⟨x + 2, 1, none⟩ u1).setCell ⟨x + 2, 2, none⟩ u2).setCell ⟨x + 2, 3, none⟩ u3)) := Lib.hid fun u0 u1 u2 u3 => by
      have hle : w.heap.size ≤ x + 2 := by have := HX.out; omega
      exact ((((HLOW.out _ HB0.out).setCell (p := ⟨x + 2, 0, none⟩) hle u0).setCell (p := ⟨x + 2, 1, none⟩) hle u1).setCell (p := ⟨x + 2, 2, none⟩) hle u2).setCell (p := ⟨x + 2, 3, none⟩) hle u3
    have HAP := Lib.hid (apply_bad1 HHF.out)
    clear rz rn 
    go_wp2
    exact bodyPost_ret (v := .tuple #[.agg #[.slice none 0 0, .int .i64 0, .int .i64 0, .int .i64 0], .int .i64 17]) (by simp [results, Try.results11, go_sem, *]) rfl ⟨RApplyOut.bad HAP.out, HBS.out _ _ _ _⟩
  by_cases h2 : en < vn
  · have HHF : Hid (headOk v e = false) := Lib.hid (by rw [HHO.out]; simp; omega)
    have rz := (HB0.out.block (x + 2) (by omega)).trans HRZ.out
    have z0 : w0.cell? ⟨x + 2, 0, none⟩ = some (.slice none 0 0) := cell_of_row _ _ _ _ _ _ rz
    have z1 : w0.cell? ⟨x + 2, 1, none⟩ = some (.int .i64 0) := cell_of_row _ _ _ _ _ _ rz
    have z2 : w0.cell? ⟨x + 2, 2, none⟩ = some (.int .i64 0) := cell_of_row _ _ _ _ _ _ rz
    have z3 : w0.cell? ⟨x + 2, 3, none⟩ = some (.int .i64 0) := cell_of_row _ _ _ _ _ _ rz
    have f0 : w0.frozen? ⟨x + 2, 0, none⟩ = false := frozen_of_row _ _ _ _ _ rz
    have f1 : w0.frozen? ⟨x + 2, 1, none⟩ = false := frozen_of_row _ _ _ _ _ rz
    have f2 : w0.frozen? ⟨x + 2, 2, none⟩ = false := frozen_of_row _ _ _ _ _ rz
    have f3 : w0.frozen? ⟨x + 2, 3, none⟩ = false := frozen_of_row _ _ _ _ _ rz
    have rn := (HB0.out.block (x + 3) (by omega)).trans HRN.out
    have n0 : w0.cell? ⟨x + 3, 0, none⟩ = some (.slice none 0 0) := cell_of_row _ _ _ _ _ _ rn
    have n1 : w0.cell? ⟨x + 3, 1, none⟩ = some (.int .i64 0) := cell_of_row _ _ _ _ _ _ rn
    have n2 : w0.cell? ⟨x + 3, 2, none⟩ = some (.int .i64 0) := cell_of_row _ _ _ _ _ _ rn
    have n3 : w0.cell? ⟨x + 3, 3, none⟩ = some (.int .i64 0) := cell_of_row _ _ _ _ _ _ rn
    have HBS : Hid (∀ u0 u1 u2 u3, Below w.heap.size w ((((w0.setCell ⟨x + 2, 0, none⟩ u0).setCell ⟨x + 2, 1, none⟩ u1).setCell ⟨x + 2, 2, none⟩ u2).setCell ⟨x + 2, 3, none⟩ u3)) := Lib.hid fun u0 u1 u2 u3 => by
      have hle : w.heap.size ≤ x + 2 := by have := HX.out; omega
      exact ((((HLOW.out _ HB0.out).setCell (p := ⟨x + 2, 0, none⟩) hle u0).setCell (p := ⟨x + 2, 1, none⟩) hle u1).setCell (p := ⟨x + 2, 2, none⟩) hle u2).setCell (p := ⟨x + 2, 3, none⟩) hle u3
    have HAP := Lib.hid (apply_bad1 HHF.out)
    clear rz rn 
    go_wp2
    exact bodyPost_ret (v := .tuple #[.agg #[.slice none 0 0, .int .i64 0, .int .i64 0, .int .i64 0], .int .i64 17]) (by simp [results, Try.results11, go_sem, *]) rfl ⟨RApplyOut.bad HAP.out, HBS.out _ _ _ _⟩
  by_cases h3 : es < vs
  · have HHF : Hid (headOk v e = false) := Lib.hid (by rw [HHO.out]; simp; omega)
    have rz := (HB0.out.block (x + 2) (by omega)).trans HRZ.out
    have z0 : w0.cell? ⟨x + 2, 0, none⟩ = some (.slice none 0 0) := cell_of_row _ _ _ _ _ _ rz
    have z1 : w0.cell? ⟨x + 2, 1, none⟩ = some (.int .i64 0) := cell_of_row _ _ _ _ _ _ rz
    have z2 : w0.cell? ⟨x + 2, 2, none⟩ = some (.int .i64 0) := cell_of_row _ _ _ _ _ _ rz
    have z3 : w0.cell? ⟨x + 2, 3, none⟩ = some (.int .i64 0) := cell_of_row _ _ _ _ _ _ rz
    have f0 : w0.frozen? ⟨x + 2, 0, none⟩ = false := frozen_of_row _ _ _ _ _ rz
    have f1 : w0.frozen? ⟨x + 2, 1, none⟩ = false := frozen_of_row _ _ _ _ _ rz
    have f2 : w0.frozen? ⟨x + 2, 2, none⟩ = false := frozen_of_row _ _ _ _ _ rz
    have f3 : w0.frozen? ⟨x + 2, 3, none⟩ = false := frozen_of_row _ _ _ _ _ rz
    have rn := (HB0.out.block (x + 3) (by omega)).trans HRN.out
    have n0 : w0.cell? ⟨x + 3, 0, none⟩ = some (.slice none 0 0) := cell_of_row _ _ _ _ _ _ rn
    have n1 : w0.cell? ⟨x + 3, 1, none⟩ = some (.int .i64 0) := cell_of_row _ _ _ _ _ _ rn
    have n2 : w0.cell? ⟨x + 3, 2, none⟩ = some (.int .i64 0) := cell_of_row _ _ _ _ _ _ rn
    have n3 : w0.cell? ⟨x + 3, 3, none⟩ = some (.int .i64 0) := cell_of_row _ _ _ _ _ _ rn
    have HBS : Hid (∀ u0 u1 u2 u3, Below w.heap.size w ((((w0.setCell ⟨x + 2, 0, none⟩ u0).setCell ⟨x + 2, 1, none⟩ u1).setCell ⟨x + 2, 2, none⟩ u2).setCell ⟨x + 2, 3, none⟩ u3)) := Lib.hid fun u0 u1 u2 u3 => by
      have hle : w.heap.size ≤ x + 2 := by have := HX.out; omega
      exact ((((HLOW.out _ HB0.out).setCell (p := ⟨x + 2, 0, none⟩) hle u0).setCell (p := ⟨x + 2, 1, none⟩) hle u1).setCell (p := ⟨x + 2, 2, none⟩) hle u2).setCell (p := ⟨x + 2, 3, none⟩) hle u3
    have HAP := Lib.hid (apply_bad1 HHF.out)
    clear rz rn 
    go_wp2
    exact bodyPost_ret (v := .tuple #[.agg #[.slice none 0 0, .int .i64 0, .int .i64 0, .int .i64 0], .int .i64 17]) (by simp [results, Try.results11, go_sem, *]) rfl ⟨RApplyOut.bad HAP.out, HBS.out _ _ _ _⟩
  go_upto_region 4 with fail
  obtain ⟨B, hB⟩ : ∃ B, decide (en ≤ el ∧ ¬ (el = 0 ∧ en = 0)) = B := ⟨_, rfl⟩
  have HBB := Lib.hid hB
  clear hB
  go_cut [59] from 44 (fun p wx => p = .bool B ∧ w0 = wx)
  case first =>
    by_cases h4 : en ≤ el
    · by_cases h5 : el = 0
      · have h5' : (el == 0) = true := by simpa using h5
        by_cases h6 : en = 0
        · have h6' : (en == 0) = true := by simpa using h6
          have HD : Hid (false = B) := Lib.hid (by rw [← HBB.out]; simp; omega)
          clear h5 h6
          go_wp2_with fail
          go_meet
          exact ⟨by rw [← HD.out], rfl⟩
        · have h6' : (en == 0) = false := by simpa using h6
          have HD : Hid (true = B) := Lib.hid (by rw [← HBB.out]; simp; omega)
          clear h5 h6
          go_wp2_with fail
          go_meet
          exact ⟨by rw [← HD.out], rfl⟩
      · have h5' : (el == 0) = false := by simpa using h5
        have HD : Hid (true = B) := Lib.hid (by rw [← HBB.out]; simp; omega)
        clear h5
        go_wp2_with fail
        go_meet
        exact ⟨by rw [← HD.out], rfl⟩
    · have HD : Hid (false = B) := Lib.hid (by rw [← HBB.out]; simp; omega)
      go_wp2_with fail
      go_meet
      exact ⟨by rw [← HD.out], rfl⟩
  case rest =>
  obtain ⟨rfl, rfl⟩ := hcut
  cases B with
  | true =>
    have HHF : Hid (headOk v e = false) := Lib.hid (by have := HBB.out; rw [HHO.out]; simp at this ⊢; omega)
    clear cv0 cv1 cv2 cv3 rv ce0 ce1 ce2 ce3 ce4 re
    have rz := (HB0.out.block (x + 2) (by omega)).trans HRZ.out
    have z0 : w0.cell? ⟨x + 2, 0, none⟩ = some (.slice none 0 0) := cell_of_row _ _ _ _ _ _ rz
    have z1 : w0.cell? ⟨x + 2, 1, none⟩ = some (.int .i64 0) := cell_of_row _ _ _ _ _ _ rz
    have z2 : w0.cell? ⟨x + 2, 2, none⟩ = some (.int .i64 0) := cell_of_row _ _ _ _ _ _ rz
    have z3 : w0.cell? ⟨x + 2, 3, none⟩ = some (.int .i64 0) := cell_of_row _ _ _ _ _ _ rz
    have f0 : w0.frozen? ⟨x + 2, 0, none⟩ = false := frozen_of_row _ _ _ _ _ rz
    have f1 : w0.frozen? ⟨x + 2, 1, none⟩ = false := frozen_of_row _ _ _ _ _ rz
    have f2 : w0.frozen? ⟨x + 2, 2, none⟩ = false := frozen_of_row _ _ _ _ _ rz
    have f3 : w0.frozen? ⟨x + 2, 3, none⟩ = false := frozen_of_row _ _ _ _ _ rz
    have rn := (HB0.out.block (x + 3) (by omega)).trans HRN.out
    have n0 : w0.cell? ⟨x + 3, 0, none⟩ = some (.slice none 0 0) := cell_of_row _ _ _ _ _ _ rn
    have n1 : w0.cell? ⟨x + 3, 1, none⟩ = some (.int .i64 0) := cell_of_row _ _ _ _ _ _ rn
    have n2 : w0.cell? ⟨x + 3, 2, none⟩ = some (.int .i64 0) := cell_of_row _ _ _ _ _ _ rn
    have n3 : w0.cell? ⟨x + 3, 3, none⟩ = some (.int .i64 0) := cell_of_row _ _ _ _ _ _ rn
    have HBS : Hid (∀ u0 u1 u2 u3, Below w.heap.size w ((((w0.setCell ⟨x + 2, 0, none⟩ u0).setCell ⟨x + 2, 1, none⟩ u1).setCell ⟨x + 2, 2, none⟩ u2).setCell ⟨x + 2, 3, none⟩ u3)) := Lib.hid fun u0 u1 u2 u3 => by
      have hle : w.heap.size ≤ x + 2 := by have := HX.out; omega
      exact ((((HLOW.out _ HB0.out).setCell (p := ⟨x + 2, 0, none⟩) hle u0).setCell (p := ⟨x + 2, 1, none⟩) hle u1).setCell (p := ⟨x + 2, 2, none⟩) hle u2).setCell (p := ⟨x + 2, 3, none⟩) hle u3
    have HAP := Lib.hid (apply_bad1 HHF.out)
    clear rz rn 
    go_wp2
    exact bodyPost_ret (v := .tuple #[.agg #[.slice none 0 0, .int .i64 0, .int .i64 0, .int .i64 0], .int .i64 17]) (by simp [results, Try.results11, go_sem, *]) rfl ⟨RApplyOut.bad HAP.out, HBS.out _ _ _ _⟩
  | false =>
  have HHT : Hid (headOk v e = true) := Lib.hid (by have := HBB.out; rw [HHO.out]; simp at this ⊢; omega)
  have HFI := Lib.hid (files_any A n c v.L w0 HN.out HV0.out (by have := HSM.out; omega))
  clear h1 h2 h3 HBB HHO
  go_wp2_with fail
  refine HFI.out.mono ?_
  rintro r w1 ⟨Bo, bd, rfl, hio, hb1⟩
  have HB1 : Hid (Below (x + 4) w0 w1) := Lib.hid (by have := HS0.out; rw [← this]; exact hb1)
  have HOLD : Hid (∀ W, Below w1.heap.size w1 W → ∀ z, Calls Try.prog 33 #[.slice Bo n bd, .int .i64 z] W fun r w' => r = .returned (.bool (decide (z ∈ files v.L))) ∧ w' = W) := Lib.hid fun W hW z =>
    (has_any Bo n bd (files v.L) z W (by simpa [files] using HN.out) (hio.mono hW) (by have := HSM.out; omega)).mono fun _ _ h => ⟨h.1, h.2.symm⟩
  have HDRP : Hid (∀ W, Below (x + 4) w0 W → ∀ j, j ≤ m2 → ∀ z, Calls Try.prog 33 #[.slice D j d2, .int .i64 z] W fun r w' => r = .returned (.bool (decide (z ∈ e.drop.take j))) ∧ w' = W) := Lib.hid fun W hW j hj z =>
    (has_any D j d2 (e.drop.take j) z W (by rw [List.length_take, HE.out.dlen]; omega) ((HE0.out.drop.mono (hW.mono (by have := HS0.out; omega))).takeN j) (by have := HSM.out; omega)).mono fun _ _ h => ⟨h.1, h.2.symm⟩
  have HDSL : Hid (∀ W j, j ≤ m2 → (Instr.slice 31 (.slice D m2 d2) none (some (.int .i64 (j : Int))) none).run Try.prog W = .ok (.slice D j d2) W) := Lib.hid fun W j hj => ints_head W D m2 d2 j (by have := HE.out.dcap; omega)
  obtain ⟨R2, hR2⟩ : ∃ R2, dropOk (files v.L) [] e.drop = R2 := ⟨_, rfl⟩
  have HR2 := Lib.hid hR2
  clear hio hb1 HFI hR2 cv0 cv1 cv2 cv3 rv ce0 ce1 ce2 ce3 ce4 re
  have re := (HB1.out.block (x + 1) (by omega)).trans HRE.out
  have ce0 : w1.cell? ⟨x + 1, 0, none⟩ = some (.slice A2 n2 c2) := cell_of_row _ _ _ _ _ _ re
  have ce1 : w1.cell? ⟨x + 1, 1, none⟩ = some (.slice D m2 d2) := cell_of_row _ _ _ _ _ _ re
  have ce2 : w1.cell? ⟨x + 1, 2, none⟩ = some (.int .i64 el) := cell_of_row _ _ _ _ _ _ re
  have ce3 : w1.cell? ⟨x + 1, 3, none⟩ = some (.int .i64 en) := cell_of_row _ _ _ _ _ _ re
  have ce4 : w1.cell? ⟨x + 1, 4, none⟩ = some (.int .i64 es) := cell_of_row _ _ _ _ _ _ re
  clear re
  go_wp2_with fail
  go_loopw [8] (fun i wr => ∃ j : Nat, j ≤ m2 ∧ i = .int .i64 j ∧ Below w1.heap.size w1 wr ∧ Hid (dropOk (files v.L) (e.drop.take j) (e.drop.drop j) = R2)) (fun i _ => m2 - (intOf i).toNat)
  case atStart => exact ⟨0, by omega, rfl, Below.refl _ _, Lib.hid (by simpa using HR2.out)⟩
  case round =>
    obtain ⟨j, hj, rfl, hbw, HS⟩ := hrel
    have HBW := Lib.hid hbw
    have HBX : Hid (Below (x + 4) w0 wr) := Lib.hid (HB1.out.trans (hbw.mono (by have := HB1.out.size; have := HS0.out; omega)))
    clear hbw ce0 ce1 ce2 ce3 ce4
    have re := (HBX.out.block (x + 1) (by omega)).trans HRE.out
    have ce0 : wr.cell? ⟨x + 1, 0, none⟩ = some (.slice A2 n2 c2) := cell_of_row _ _ _ _ _ _ re
    have ce1 : wr.cell? ⟨x + 1, 1, none⟩ = some (.slice D m2 d2) := cell_of_row _ _ _ _ _ _ re
    have ce2 : wr.cell? ⟨x + 1, 2, none⟩ = some (.int .i64 el) := cell_of_row _ _ _ _ _ _ re
    have ce3 : wr.cell? ⟨x + 1, 3, none⟩ = some (.int .i64 en) := cell_of_row _ _ _ _ _ _ re
    have ce4 : wr.cell? ⟨x + 1, 4, none⟩ = some (.int .i64 es) := cell_of_row _ _ _ _ _ _ re
    clear re
    have hmb : m2 ≤ 2000000 := HSM.out.2.2
    by_cases hlt : j < m2
    · have hjl : j < e.drop.length := by rw [HE.out.dlen]; exact hlt
      obtain ⟨cb, off, hA, hbl, hc⟩ := (HE0.out.drop.mono (HBX.out.mono (by have := HS0.out; omega))).2 (by omega)
      have c0 := hc j hjl
      have HTK : Hid (e.drop.take (j + 1) = e.drop.take j ++ [e.drop[j]]) := Lib.hid (List.take_succ_eq_append_getElem hjl)
      have hdr := HS.out
      rw [List.drop_eq_getElem_cons hjl, dropOk_step] at hdr
      obtain ⟨z, hz⟩ : ∃ z, e.drop[j] = z := ⟨_, rfl⟩
      rw [hz] at c0 HTK hdr
      have HO1 := Lib.hid (fun W hW => HOLD.out W hW z)
      have HO2 := Lib.hid (fun W hW => HDRP.out W hW j (by omega) z)
      have hsl := fun W => HDSL.out W j (by omega)
      have hck : decide (z ∈ files v.L ∧ z ∉ e.drop.take j) = (decide (z ∈ files v.L) && !(decide (z ∈ e.drop.take j))) := by simp
      rw [hck] at hdr
      obtain ⟨K1, hK1⟩ : ∃ K, decide (z ∈ files v.L) = K := ⟨_, rfl⟩
      obtain ⟨K2, hK2⟩ : ∃ K, decide (z ∈ e.drop.take j) = K := ⟨_, rfl⟩
      rw [hK1] at HO1 hdr
      rw [hK2] at HO2 hdr
      have HDR := Lib.hid hdr
      have g0 : (0 : Int) ≤ (j : Int) := by omega
      have g1 : (j : Int) < (m2 : Int) := by omega
      subst hA
      clear hc hz hck hK1 hK2 hdr hjl
      go_wp2_with fail
      refine (HO1.out wr HBW.out).mono ?_
      rintro r w5 ⟨rfl, hww⟩
      subst w5
      go_wp2_with fail
      go_quiet ((go_at_call 33; exact Calls.quiet_of_same (HO2.out _ (by first | exact HBX.out | exact below_drewN HBX.out _ | exact HBX.out.drew | fail))))
      have HB9 : Hid (Below (x + 4) w0 (wr.drewN nq)) := Lib.hid (below_drewN HBX.out nq)
      have HW9 : Hid (Below w1.heap.size w1 (wr.drewN nq)) := Lib.hid (below_drewN HBW.out nq)
      generalize wr.drewN nq = w9 at HB9 HW9 ⊢
      clear ce0 ce1 ce2 ce3 ce4 c0
      cases K1 with
      | false =>
        have HBD : Hid (dropOk (files v.L) [] e.drop = false) := Lib.hid (by rw [HR2.out, ← HDR.out]; rfl)
        have rz := (HB9.out.block (x + 2) (by omega)).trans HRZ.out
        have z0 : w9.cell? ⟨x + 2, 0, none⟩ = some (.slice none 0 0) := cell_of_row _ _ _ _ _ _ rz
        have z1 : w9.cell? ⟨x + 2, 1, none⟩ = some (.int .i64 0) := cell_of_row _ _ _ _ _ _ rz
        have z2 : w9.cell? ⟨x + 2, 2, none⟩ = some (.int .i64 0) := cell_of_row _ _ _ _ _ _ rz
        have z3 : w9.cell? ⟨x + 2, 3, none⟩ = some (.int .i64 0) := cell_of_row _ _ _ _ _ _ rz
        have f0 : w9.frozen? ⟨x + 2, 0, none⟩ = false := frozen_of_row _ _ _ _ _ rz
        have f1 : w9.frozen? ⟨x + 2, 1, none⟩ = false := frozen_of_row _ _ _ _ _ rz
        have f2 : w9.frozen? ⟨x + 2, 2, none⟩ = false := frozen_of_row _ _ _ _ _ rz
        have f3 : w9.frozen? ⟨x + 2, 3, none⟩ = false := frozen_of_row _ _ _ _ _ rz
        have rn := (HB9.out.block (x + 3) (by omega)).trans HRN.out
        have n0 : w9.cell? ⟨x + 3, 0, none⟩ = some (.slice none 0 0) := cell_of_row _ _ _ _ _ _ rn
        have n1 : w9.cell? ⟨x + 3, 1, none⟩ = some (.int .i64 0) := cell_of_row _ _ _ _ _ _ rn
        have n2 : w9.cell? ⟨x + 3, 2, none⟩ = some (.int .i64 0) := cell_of_row _ _ _ _ _ _ rn
        have n3 : w9.cell? ⟨x + 3, 3, none⟩ = some (.int .i64 0) := cell_of_row _ _ _ _ _ _ rn
        have HBS : Hid (∀ u0 u1 u2 u3, Below w.heap.size w ((((w9.setCell ⟨x + 2, 0, none⟩ u0).setCell ⟨x + 2, 1, none⟩ u1).setCell ⟨x + 2, 2, none⟩ u2).setCell ⟨x + 2, 3, none⟩ u3)) := Lib.hid fun u0 u1 u2 u3 => by
          have hle : w.heap.size ≤ x + 2 := by have := HX.out; omega
          exact ((((HLOW.out _ HB9.out).setCell (p := ⟨x + 2, 0, none⟩) hle u0).setCell (p := ⟨x + 2, 1, none⟩) hle u1).setCell (p := ⟨x + 2, 2, none⟩) hle u2).setCell (p := ⟨x + 2, 3, none⟩) hle u3
        have HAP := Lib.hid (apply_bad2 HBD.out)
        clear rz rn 
        go_wp2
        exact bodyPost_ret (v := .tuple #[.agg #[.slice none 0 0, .int .i64 0, .int .i64 0, .int .i64 0], .int .i64 17]) (by simp [results, Try.results11, go_sem, *]) rfl ⟨RApplyOut.bad HAP.out, HBS.out _ _ _ _⟩
      | true =>
        cases K2 with
        | true =>
          have HBD : Hid (dropOk (files v.L) [] e.drop = false) := Lib.hid (by rw [HR2.out, ← HDR.out]; rfl)
          have rz := (HB9.out.block (x + 2) (by omega)).trans HRZ.out
          have z0 : w9.cell? ⟨x + 2, 0, none⟩ = some (.slice none 0 0) := cell_of_row _ _ _ _ _ _ rz
          have z1 : w9.cell? ⟨x + 2, 1, none⟩ = some (.int .i64 0) := cell_of_row _ _ _ _ _ _ rz
          have z2 : w9.cell? ⟨x + 2, 2, none⟩ = some (.int .i64 0) := cell_of_row _ _ _ _ _ _ rz
          have z3 : w9.cell? ⟨x + 2, 3, none⟩ = some (.int .i64 0) := cell_of_row _ _ _ _ _ _ rz
          have f0 : w9.frozen? ⟨x + 2, 0, none⟩ = false := frozen_of_row _ _ _ _ _ rz
          have f1 : w9.frozen? ⟨x + 2, 1, none⟩ = false := frozen_of_row _ _ _ _ _ rz
          have f2 : w9.frozen? ⟨x + 2, 2, none⟩ = false := frozen_of_row _ _ _ _ _ rz
          have f3 : w9.frozen? ⟨x + 2, 3, none⟩ = false := frozen_of_row _ _ _ _ _ rz
          have rn := (HB9.out.block (x + 3) (by omega)).trans HRN.out
          have n0 : w9.cell? ⟨x + 3, 0, none⟩ = some (.slice none 0 0) := cell_of_row _ _ _ _ _ _ rn
          have n1 : w9.cell? ⟨x + 3, 1, none⟩ = some (.int .i64 0) := cell_of_row _ _ _ _ _ _ rn
          have n2 : w9.cell? ⟨x + 3, 2, none⟩ = some (.int .i64 0) := cell_of_row _ _ _ _ _ _ rn
          have n3 : w9.cell? ⟨x + 3, 3, none⟩ = some (.int .i64 0) := cell_of_row _ _ _ _ _ _ rn
          have HBS : Hid (∀ u0 u1 u2 u3, Below w.heap.size w ((((w9.setCell ⟨x + 2, 0, none⟩ u0).setCell ⟨x + 2, 1, none⟩ u1).setCell ⟨x + 2, 2, none⟩ u2).setCell ⟨x + 2, 3, none⟩ u3)) := Lib.hid fun u0 u1 u2 u3 => by
            have hle : w.heap.size ≤ x + 2 := by have := HX.out; omega
            exact ((((HLOW.out _ HB9.out).setCell (p := ⟨x + 2, 0, none⟩) hle u0).setCell (p := ⟨x + 2, 1, none⟩) hle u1).setCell (p := ⟨x + 2, 2, none⟩) hle u2).setCell (p := ⟨x + 2, 3, none⟩) hle u3
          have HAP := Lib.hid (apply_bad2 HBD.out)
          clear rz rn 
          go_wp2
          exact bodyPost_ret (v := .tuple #[.agg #[.slice none 0 0, .int .i64 0, .int .i64 0, .int .i64 0], .int .i64 17]) (by simp [results, Try.results11, go_sem, *]) rfl ⟨RApplyOut.bad HAP.out, HBS.out _ _ _ _⟩
        | false =>
          have HS2 : Hid (dropOk (files v.L) (e.drop.take (j + 1)) (e.drop.drop (j + 1)) = R2) := Lib.hid (by rw [HTK.out, ← HDR.out]; rfl)
          go_wp2
          go_roundw
          case rel => exact ⟨j + 1, by omega, by go_num, HW9.out, HS2⟩
          case measure => simp [intOf]; omega
    · obtain rfl : m2 = j := by omega
      have HDO : Hid (dropOk (files v.L) [] e.drop = true) := Lib.hid (by
        have := HS.out
        rw [List.drop_eq_nil_of_le (by rw [HE.out.dlen]; exact Nat.le_refl _)] at this
        rw [HR2.out, ← this]; rfl)
      have HBX1 := HBW
      clear HS HR2 HBW
      clear ce0 ce1 ce2 ce3 ce4
      have re := (HBX.out.block (x + 1) (by omega)).trans HRE.out
      have ce0 : wr.cell? ⟨x + 1, 0, none⟩ = some (.slice A2 n2 c2) := cell_of_row _ _ _ _ _ _ re
      have ce1 : wr.cell? ⟨x + 1, 1, none⟩ = some (.slice D m2 d2) := cell_of_row _ _ _ _ _ _ re
      have ce2 : wr.cell? ⟨x + 1, 2, none⟩ = some (.int .i64 el) := cell_of_row _ _ _ _ _ _ re
      have ce3 : wr.cell? ⟨x + 1, 3, none⟩ = some (.int .i64 en) := cell_of_row _ _ _ _ _ _ re
      have ce4 : wr.cell? ⟨x + 1, 4, none⟩ = some (.int .i64 es) := cell_of_row _ _ _ _ _ _ re
      clear re
      go_wp2_with fail
      have hal2 := (Below.refl wr.heap.size wr).alloc (Nat.le_refl _) (.cells #[.slice none 0 0, .int .i64 el, .int .i64 en, .int .i64 es] 29)
      have hro := heap_alloc_new wr (.cells #[.slice none 0 0, .int .i64 el, .int .i64 en, .int .i64 es] 29)
      have hso : (wr.alloc (.cells #[.slice none 0 0, .int .i64 el, .int .i64 en, .int .i64 es] 29)).heap.size = wr.heap.size + 1 := by simp
      have HB2 : Hid (Below (x + 4) w0 (wr.alloc (.cells #[.slice none 0 0, .int .i64 el, .int .i64 en, .int .i64 es] 29))) := Lib.hid (HBX.out.alloc (by have := HBX.out.size; have := HS0.out; omega) _)
      have HX2 : Hid (Below w1.heap.size w1 (wr.alloc (.cells #[.slice none 0 0, .int .i64 el, .int .i64 en, .int .i64 es] 29))) := Lib.hid (HBX1.out.alloc HBX1.out.size _)
      generalize wr.alloc (.cells #[.slice none 0 0, .int .i64 el, .int .i64 en, .int .i64 es] 29) = w2 at hal2 hro hso HB2 HX2 ⊢
      obtain ⟨o, ho⟩ : ∃ o, wr.heap.size = o := ⟨_, rfl⟩
      rw [ho] at hro hso ⊢
      have HO4 : Hid (x + 4 ≤ o ∧ w1.heap.size ≤ o ∧ w2.heap.size = o + 1) := Lib.hid (by have := HBX.out.size; have := HS0.out; have := HBX1.out.size; omega)
      have hout0 : OutR o w2 (.slice none 0 0) ((v.L.take 0).filter (keepB e.drop)) el en es := ⟨hro, by simpa [cs5] using World.ownsRow_nil _ _ _ _, by simp⟩
      have HOUT0 := Lib.hid hout0
      have HVN := Lib.hid HN.out
      have hnb : n ≤ 2000000 := HSM.out.1
      clear hal2 hro hso ho hout0 ce0 ce1 ce2 ce3 ce4
      go_loopw [12] (fun i wq => ∃ (t : Nat) (vo : Value), t ≤ n ∧ i = .int .i64 t ∧ OutR o wq vo ((v.L.take t).filter (keepB e.drop)) el en es ∧ Below o w2 wq) (fun i _ => n - (intOf i).toNat)
      case atStart => exact ⟨0, _, by omega, rfl, HOUT0.out, Below.refl _ _⟩
      case round =>
        obtain ⟨t, vo, ht, rfl, hout, hbw⟩ := hrel
        have HBQ := Lib.hid hbw
        have HBX : Hid (Below (x + 4) w0 wr) := Lib.hid (HB2.out.trans (hbw.mono HO4.out.1))
        have HOUT := Lib.hid hout
        clear hbw hout
        have rv := (HBX.out.block x (by omega)).trans HRV.out
        have cv0 : wr.cell? ⟨x, 0, none⟩ = some (.slice A n c) := cell_of_row _ _ _ _ _ _ rv
        have cv1 : wr.cell? ⟨x, 1, none⟩ = some (.int .i64 vl) := cell_of_row _ _ _ _ _ _ rv
        have cv2 : wr.cell? ⟨x, 2, none⟩ = some (.int .i64 vn) := cell_of_row _ _ _ _ _ _ rv
        have cv3 : wr.cell? ⟨x, 3, none⟩ = some (.int .i64 vs) := cell_of_row _ _ _ _ _ _ rv
        have re := (HBX.out.block (x + 1) (by omega)).trans HRE.out
        have ce0 : wr.cell? ⟨x + 1, 0, none⟩ = some (.slice A2 n2 c2) := cell_of_row _ _ _ _ _ _ re
        have ce1 : wr.cell? ⟨x + 1, 1, none⟩ = some (.slice D m2 d2) := cell_of_row _ _ _ _ _ _ re
        have ce2 : wr.cell? ⟨x + 1, 2, none⟩ = some (.int .i64 el) := cell_of_row _ _ _ _ _ _ re
        have ce3 : wr.cell? ⟨x + 1, 3, none⟩ = some (.int .i64 en) := cell_of_row _ _ _ _ _ _ re
        have ce4 : wr.cell? ⟨x + 1, 4, none⟩ = some (.int .i64 es) := cell_of_row _ _ _ _ _ _ re
        clear rv re
        by_cases hlt : t < n
        · have htl : t < v.L.length := by rw [HN.out]; exact hlt
          obtain ⟨cb, off, hA, hbl, hc⟩ := (HV0.out.below (HBX.out.mono (by have := HS0.out; omega))).at_ (by omega)
          obtain ⟨c0, c1, c2', c3, c4⟩ := hc t htl
          have hcbx : cb < x := by
            obtain ⟨cb2, off2, hA2, hbl2⟩ := HABK.out (by omega)
            rw [hA] at hA2
            injection hA2 with hA2
            injection hA2 with h1 h2
            omega
          have HKT := Lib.hid (kept_take v e htl)
          have HWF := Lib.hid (HV.out.wf v.L[t] (List.getElem_mem htl))
          have HKB : Hid (keepB e.drop v.L[t] = !(decide (v.L[t].file ∈ e.drop.take m2))) := Lib.hid (by
            rw [List.take_of_length_le (by rw [HE.out.dlen]; exact Nat.le_refl _)]
            simp [keepB])
          obtain ⟨y, hy⟩ : ∃ y, v.L[t] = y := ⟨_, rfl⟩
          rw [hy] at c0 c1 c2' c3 c4 HKT HWF HKB
          have HHS := Lib.hid (fun W hW => HDRP.out W hW m2 (Nat.le_refl _) y.file)
          obtain ⟨KK, hKK⟩ : ∃ K, decide (y.file ∈ e.drop.take m2) = K := ⟨_, rfl⟩
          rw [hKK] at HKB HHS
          have g0 : (0 : Int) ≤ (t : Int) := by omega
          have g1 : (t : Int) < (n : Int) := by omega
          have HCL : Hid (cb < wr.heap.size ∧ cb < x) := Lib.hid ⟨hbl, hcbx⟩
          have hfl : ((v.L.take t).filter (keepB e.drop)).length ≤ 2000000 := by
            refine Nat.le_trans (List.length_filter_le _ _) ?_
            rw [List.length_take]; omega
          have HFL := Lib.hid hfl
          obtain ⟨lv, q, g, s, tt⟩ := y
          simp only at c0 c1 c2' c3 c4 HHS
          subst hA
          clear hc hy hKK hcbx hfl htl
          go_wp2_with fail
          go_quiet ((go_at_call 33; exact Calls.quiet_of_same (HHS.out _ (by first | exact HBX.out | exact below_drewN HBX.out _ | exact HBX.out.drew | fail))))
          have hdw9 : Below wr.heap.size wr (wr.drewN nq) := below_drewN (Below.refl _ wr) nq
          generalize wr.drewN nq = w9 at hdw9 ⊢
          have HB9 : Hid (Below (x + 4) w0 w9) := Lib.hid (HBX.out.trans (hdw9.mono (by have := HBX.out.size; have := HS0.out; omega)))
          have HQ9 : Hid (Below o w2 w9) := Lib.hid (HBQ.out.trans (hdw9.mono (by have := HOUT.out.lt; omega)))
          have HO9 := Lib.hid (HOUT.out.below hdw9)
          have d0 := (hdw9.cell (p := ⟨cb, off + t * 5, none⟩) HCL.out.1).trans c0
          have d1 := (hdw9.cell (p := ⟨cb, off + t * 5 + 1, none⟩) HCL.out.1).trans c1
          have d2' := (hdw9.cell (p := ⟨cb, off + t * 5 + 2, none⟩) HCL.out.1).trans c2'
          have d3 := (hdw9.cell (p := ⟨cb, off + t * 5 + 3, none⟩) HCL.out.1).trans c3
          have d4 := (hdw9.cell (p := ⟨cb, off + t * 5 + 4, none⟩) HCL.out.1).trans c4
          have hbl9 : cb < w9.heap.size := Nat.lt_of_lt_of_le HCL.out.1 hdw9.size
          clear c0 c1 c2' c3 c4 cv0 cv1 cv2 cv3 ce0 ce1 ce2 ce3 ce4 hdw9 hbl
          cases KK with
          | true =>
            have HO10 : Hid (OutR o w9 vo ((v.L.take (t + 1)).filter (keepB e.drop)) el en es) := Lib.hid (by
              rw [HKT.out, HKB.out]; simpa using HO9.out)
            clear d0 d1 d2' d3 d4
            go_wp2
            go_roundw
            case rel => exact ⟨t + 1, _, by omega, by go_num, HO10.out, HQ9.out⟩
            case measure => simp [intOf]; omega
          | false =>
            have HKE : Hid ((v.L.take (t + 1)).filter (keepB e.drop) = (v.L.take t).filter (keepB e.drop) ++ [(⟨lv, q, g, s, tt⟩ : M)]) := Lib.hid (by rw [HKT.out, HKB.out]; rfl)
            have rv := (HB9.out.block x (by omega)).trans HRV.out
            have cv0 : w9.cell? ⟨x, 0, none⟩ = some (.slice (some ⟨cb, off, none⟩) n c) := cell_of_row _ _ _ _ _ _ rv
            have cv1 : w9.cell? ⟨x, 1, none⟩ = some (.int .i64 vl) := cell_of_row _ _ _ _ _ _ rv
            have cv2 : w9.cell? ⟨x, 2, none⟩ = some (.int .i64 vn) := cell_of_row _ _ _ _ _ _ rv
            have cv3 : w9.cell? ⟨x, 3, none⟩ = some (.int .i64 vs) := cell_of_row _ _ _ _ _ _ rv
            clear rv
            have co := HO9.out.cell
            have hol9 := HO9.out.lt
            have hxl9 : x < w9.heap.size := by have := HB9.out.size; have := HS0.out; omega
            go_wp2_with fail
            obtain ⟨A6, c6, w8, happ, e1, e2, e3, e4⟩ := HO9.out.app (by have := HFL.out; omega) ((Below.refl w9.heap.size w9).drew) ⟨lv, q, g, s, tt⟩ HWF.out
            have hdw : w9.drew.alloc (.cells #[.int .i64 lv, .int .i64 q, .int .i64 g, .string s, .string tt] 66) = (w9.alloc (.cells #[.int .i64 lv, .int .i64 q, .int .i64 g, .string s, .string tt] 66)).drew := rfl
            have hds : w9.drew.heap.size = w9.heap.size := rfl
            simp only [hds] at happ
            rw [hdw] at happ
            have hal7 : Below w9.heap.size w9 (w9.alloc (.cells #[.int .i64 lv, .int .i64 q, .int .i64 g, .string s, .string tt] 66)).drew := ((Below.refl _ _).alloc (Nat.le_refl _) _).drew
            have k0 := (hal7.cell (p := ⟨cb, off + t * 5, none⟩) hbl9).trans d0
            have k1 := (hal7.cell (p := ⟨cb, off + t * 5 + 1, none⟩) hbl9).trans d1
            have k2 := (hal7.cell (p := ⟨cb, off + t * 5 + 2, none⟩) hbl9).trans d2'
            have k3 := (hal7.cell (p := ⟨cb, off + t * 5 + 3, none⟩) hbl9).trans d3
            have k4 := (hal7.cell (p := ⟨cb, off + t * 5 + 4, none⟩) hbl9).trans d4
            have k5 := (hal7.cell (p := ⟨o, 0, none⟩) hol9).trans co
            have k6 := (hal7.cell (p := ⟨x, 0, none⟩) hxl9).trans cv0
            have HO10 : Hid (OutR o (w8.setCell ⟨o, 0, none⟩ (.slice A6 (((v.L.take t).filter (keepB e.drop)).length + 1) c6)) (.slice A6 (((v.L.take t).filter (keepB e.drop)).length + 1) c6) ((v.L.take (t + 1)).filter (keepB e.drop)) el en es) := Lib.hid (by rw [HKE.out]; exact e4)
            have HQ10 : Hid (Below o w2 (w8.setCell ⟨o, 0, none⟩ (.slice A6 (((v.L.take t).filter (keepB e.drop)).length + 1) c6))) := Lib.hid (HQ9.out.trans e3)
            have HAPP := Lib.hid happ
            clear hdw hds hal7 e3 e4 happ
            go_region_law (refine step_app 27 (by rfl) _ _ (by rfl) (by rfl) _ _ (by rfl) (by rfl) _ _ HAPP.out ?_)
            all_goals
              clear d0 d1 d2' d3 d4 k0 k1 k2 k3 k4 k5 k6 co e1 e2 cv0 cv1 cv2 cv3
              go_wp2
              go_roundw
              case rel => exact ⟨t + 1, _, by omega, by go_num, HO10.out, HQ10.out⟩
              case measure => simp [intOf]; omega
        · obtain rfl : n = t := by omega
          have HOUT1 : Hid (OutR o wr vo (kept v e) el en es) := Lib.hid (by
            have := HOUT.out
            rwa [List.take_of_length_le (by rw [HN.out]; exact Nat.le_refl _)] at this)
          clear HOUT
          go_wp2_with fail
          clear cv0 cv1 cv2 cv3
          have HBO : Hid (∀ W, Below o w2 W → Below (x + 4) w0 W ∧ Below w1.heap.size w1 W) := Lib.hid fun W hW => ⟨HB2.out.trans (hW.mono HO4.out.1), HX2.out.trans (hW.mono HO4.out.2.1)⟩
          obtain ⟨R3, hR3⟩ : ∃ R3, addOk e.next (files v.L) [] e.add = R3 := ⟨_, rfl⟩
          have HR3 := Lib.hid hR3
          have HKL : Hid ((kept v e).length ≤ 2000000) := Lib.hid (Nat.le_trans (List.length_filter_le _ _) (by rw [HN.out]; exact HSM.out.1))
          have HKW : Hid (∀ m ∈ kept v e, m.wf) := Lib.hid fun m hm => HV.out.wf m (List.mem_filter.1 hm).1
          have HAW : Hid (∀ j, ∀ m ∈ (e.add.take j).foldl with_ (kept v e), m.wf) := Lib.hid fun j => fold_wf (fun m hm => HE.out.add.wf m (List.mem_of_mem_take hm)) HKW.out
          have HAL : Hid (∀ j, ((e.add.take j).foldl with_ (kept v e)).length ≤ 4000000) := Lib.hid fun j => by
            rw [fold_len, List.length_take]
            have := HKL.out; have := HE.out.alen; have := HSM.out; omega
          have HABE : Hid (0 < e.add.length → ∃ b off, A2 = some ⟨b, off, none⟩ ∧ b < x) := Lib.hid fun hl => by
            obtain ⟨b, off, hA, hbl, -⟩ := HE.out.add.at_ hl
            exact ⟨b, off, hA, by have := HX.out; omega⟩
          have HASL : Hid (∀ W j, j ≤ n2 → (Instr.slice 27 (.slice A2 n2 c2) none (some (.int .i64 (j : Int))) none).run Try.prog W = .ok (.slice A2 j c2) W) := Lib.hid fun W j hj => rmetas_head W A2 n2 c2 j (by have := HE.out.acap; omega)
          have HAFI : Hid (∀ W, Below (x + 4) w0 W → ∀ j, j ≤ n2 → Calls Try.prog 32 #[.slice A2 j c2] W fun r w' => ∃ B d, r = .returned (.slice B j d) ∧ IntsIn w' w'.heap.size B (files (e.add.take j)) ∧ Below W.heap.size W w') := Lib.hid fun W hW j hj =>
            files_any A2 j c2 (e.add.take j) W (by rw [List.length_take, HE.out.alen]; omega) ((HE0.out.add.below (hW.mono (by have := HS0.out; omega))).take j) (by have := HSM.out; omega)
          have hn2b : n2 ≤ 2000000 := HSM.out.2.1
          clear hR3 hlt ht
          go_loopw [14] (fun i wq => ∃ (t : Nat) (vo : Value), t ≤ n2 ∧ i = .int .i64 t ∧ OutR o wq vo ((e.add.take t).foldl with_ (kept v e)) el en es ∧ Below o w2 wq ∧ Hid (addOk e.next (files v.L) (files (e.add.take t)) (e.add.drop t) = R3)) (fun i _ => n2 - (intOf i).toNat)
          case atStart => exact ⟨0, _, by omega, rfl, HOUT1.out, HBQ.out, Lib.hid (by simpa [files] using HR3.out)⟩
          case round =>
            obtain ⟨t, vo, ht, rfl, hout, hbw, HS⟩ := hrel
            have HBQ := Lib.hid hbw
            have HBX : Hid (Below (x + 4) w0 wr) := Lib.hid (HBO.out _ hbw).1
            have HBX1 : Hid (Below w1.heap.size w1 wr) := Lib.hid (HBO.out _ hbw).2
            have HOUT := Lib.hid hout
            clear hbw hout
            have re := (HBX.out.block (x + 1) (by omega)).trans HRE.out
            have ce0 : wr.cell? ⟨x + 1, 0, none⟩ = some (.slice A2 n2 c2) := cell_of_row _ _ _ _ _ _ re
            have ce1 : wr.cell? ⟨x + 1, 1, none⟩ = some (.slice D m2 d2) := cell_of_row _ _ _ _ _ _ re
            have ce2 : wr.cell? ⟨x + 1, 2, none⟩ = some (.int .i64 el) := cell_of_row _ _ _ _ _ _ re
            have ce3 : wr.cell? ⟨x + 1, 3, none⟩ = some (.int .i64 en) := cell_of_row _ _ _ _ _ _ re
            have ce4 : wr.cell? ⟨x + 1, 4, none⟩ = some (.int .i64 es) := cell_of_row _ _ _ _ _ _ re
            clear re
            by_cases hlt : t < n2
            · have htl : t < e.add.length := by rw [HE.out.alen]; exact hlt
              obtain ⟨cb, off, hA, hbl, hc⟩ := (HE0.out.add.below (HBX.out.mono (by have := HS0.out; omega))).at_ (by omega)
              obtain ⟨c0, c1, c2', c3, c4⟩ := hc t htl
              have HTK := Lib.hid (files_take htl)
              have HBT := Lib.hid (behind_take v e htl)
              have HWF := Lib.hid (HE.out.add.wf e.add[t] (List.getElem_mem htl))
              have hdr := HS.out
              rw [List.drop_eq_getElem_cons htl, addOk_step] at hdr
              obtain ⟨y, hy⟩ : ∃ y, e.add[t] = y := ⟨_, rfl⟩
              rw [hy] at c0 c1 c2' c3 c4 HTK HBT HWF hdr
              have HHS := Lib.hid (fun W hW => HOLD.out W hW y.file)
              have hck : decide (y.file ∉ files v.L ∧ y.file ∉ files (e.add.take t)) = (!(decide (y.file ∈ files v.L)) && !(decide (y.file ∈ files (e.add.take t)))) := by simp
              rw [hck] at hdr
              have HHN : Hid (∀ W B d, IntsIn W W.heap.size B (files (e.add.take t)) → Calls Try.prog 33 #[.slice B t d, .int .i64 y.file] W fun r w' => r = .returned (.bool (decide (y.file ∈ files (e.add.take t)))) ∧ w' = W) := Lib.hid fun W B d h =>
                (has_any B t d (files (e.add.take t)) y.file W (by rw [files, List.length_map, List.length_take]; omega) h (by omega)).mono fun _ _ h => ⟨h.1, h.2.symm⟩
              obtain ⟨K1, hK1⟩ : ∃ K, decide (y.file ∈ files v.L) = K := ⟨_, rfl⟩
              obtain ⟨K2, hK2⟩ : ∃ K, decide (y.file ∈ files (e.add.take t)) = K := ⟨_, rfl⟩
              rw [hK1] at HHS hdr
              rw [hK2] at HHN hdr
              have HFIX : Hid (fine e.next y = (decide (0 ≤ y.lvl ∧ y.lvl < 4 ∧ 0 ≤ y.file ∧ y.file < en ∧ 0 ≤ y.size) && !(lt y.hi y.lo))) := Lib.hid (by rw [← HEN.out.2.1]; rfl)
              obtain ⟨FI, hFI⟩ : ∃ FI, fine e.next y = FI := ⟨_, rfl⟩
              rw [hFI] at hdr HFIX
              have HDR := Lib.hid hdr
              have HRB : Hid (R3 = false → apply v e = (V.none, 17)) := Lib.hid fun h => apply_bad3 (by rw [HR3.out, h])
              have HWI : Hid (∀ W B nn cc, In5 W B ((e.add.take t).foldl with_ (kept v e)) → ((e.add.take t).foldl with_ (kept v e)).length = nn → Calls Try.prog 34 #[.slice B nn cc, .agg #[.int .i64 y.lvl, .int .i64 y.file, .int .i64 y.size, .string y.lo, .string y.hi]] W fun r w' => ∃ B d, r = .returned (.slice B (nn + 1) d) ∧ w'.ownsRow W.heap.size 66 5 (.slice B (nn + 1) d) (nn + 1) (cs5 (with_ ((e.add.take t).foldl with_ (kept v e)) y)) ∧ Below W.heap.size W w') := Lib.hid fun W B nn cc h hl =>
                with_any B nn cc _ y W hl h HWF.out (by have := HAL.out t; omega)
              have g0 : (0 : Int) ≤ (t : Int) := by omega
              have g1 : (t : Int) < (n2 : Int) := by omega
              have HALN := Lib.hid (HAL.out t)
              have HAWF := Lib.hid (HAW.out t)
              have hsl := fun W => HASL.out W t (by omega)
              have HAF := Lib.hid (fun W hW => HAFI.out W hW t (by omega))
              obtain ⟨lv, q, g, s, tt⟩ := y
              simp only at c0 c1 c2' c3 c4 HHS HHN HFIX HWI
              subst hA
              clear hc hy hck hK1 hK2 hFI hdr htl
              go_upto_region 25 with fail
              have hal9 := (Below.refl wr.heap.size wr).alloc (Nat.le_refl _) (.cells #[.int .i64 lv, .int .i64 q, .int .i64 g, .string s, .string tt] 66)
              have hr9 := heap_alloc_new wr (.cells #[.int .i64 lv, .int .i64 q, .int .i64 g, .string s, .string tt] 66)
              have hs9 : (wr.alloc (.cells #[.int .i64 lv, .int .i64 q, .int .i64 g, .string s, .string tt] 66)).heap.size = wr.heap.size + 1 := by simp
              generalize wr.alloc (.cells #[.int .i64 lv, .int .i64 q, .int .i64 g, .string s, .string tt] 66) = w9 at hal9 hr9 hs9 ⊢
              have HB9 : Hid (Below (x + 4) w0 w9) := Lib.hid (HBX.out.trans (hal9.mono (by have := HBX.out.size; have := HS0.out; omega)))
              have HX9 : Hid (Below w1.heap.size w1 w9) := Lib.hid (HBX1.out.trans (hal9.mono HBX1.out.size))
              have HQ9 : Hid (Below o w2 w9) := Lib.hid (HBQ.out.trans (hal9.mono (by have := HOUT.out.lt; omega)))
              have HO9 := Lib.hid (HOUT.out.below hal9)
              obtain ⟨mb, hmb⟩ : ∃ mb, wr.heap.size = mb := ⟨_, rfl⟩
              rw [hmb] at hr9 hs9 ⊢
              have HMB : Hid (mb + 1 = w9.heap.size ∧ o < mb) := Lib.hid ⟨hs9.symm, by have := HOUT.out.lt; omega⟩
              have HRM := Lib.hid hr9
              have m0 : w9.cell? ⟨mb, 0, none⟩ = some (.int .i64 lv) := cell_of_row _ _ _ _ _ _ hr9
              have m1 : w9.cell? ⟨mb, 1, none⟩ = some (.int .i64 q) := cell_of_row _ _ _ _ _ _ hr9
              have m2' : w9.cell? ⟨mb, 2, none⟩ = some (.int .i64 g) := cell_of_row _ _ _ _ _ _ hr9
              have m3 : w9.cell? ⟨mb, 3, none⟩ = some (.string s) := cell_of_row _ _ _ _ _ _ hr9
              have m4 : w9.cell? ⟨mb, 4, none⟩ = some (.string tt) := cell_of_row _ _ _ _ _ _ hr9
              clear hal9 hr9 hs9 hmb c0 c1 c2' c3 c4 ce0 ce1 ce2 ce3 ce4 hbl
              have re3 := (HB9.out.block (x + 1) (by omega)).trans HRE.out
              have ce3 : w9.cell? ⟨x + 1, 3, none⟩ = some (.int .i64 en) := cell_of_row _ _ _ _ _ _ re3
              clear re3
              by_cases h1 : lv < 0
              · have HBD : Hid (apply v e = (V.none, 17)) := Lib.hid (HRB.out (by rw [← HDR.out, HFIX.out, decide_eq_false (by omega)]; rfl))
                have rz := (HB9.out.block (x + 2) (by omega)).trans HRZ.out
                have z0 : w9.cell? ⟨x + 2, 0, none⟩ = some (.slice none 0 0) := cell_of_row _ _ _ _ _ _ rz
                have z1 : w9.cell? ⟨x + 2, 1, none⟩ = some (.int .i64 0) := cell_of_row _ _ _ _ _ _ rz
                have z2 : w9.cell? ⟨x + 2, 2, none⟩ = some (.int .i64 0) := cell_of_row _ _ _ _ _ _ rz
                have z3 : w9.cell? ⟨x + 2, 3, none⟩ = some (.int .i64 0) := cell_of_row _ _ _ _ _ _ rz
                have f0 : w9.frozen? ⟨x + 2, 0, none⟩ = false := frozen_of_row _ _ _ _ _ rz
                have f1 : w9.frozen? ⟨x + 2, 1, none⟩ = false := frozen_of_row _ _ _ _ _ rz
                have f2 : w9.frozen? ⟨x + 2, 2, none⟩ = false := frozen_of_row _ _ _ _ _ rz
                have f3 : w9.frozen? ⟨x + 2, 3, none⟩ = false := frozen_of_row _ _ _ _ _ rz
                have rn := (HB9.out.block (x + 3) (by omega)).trans HRN.out
                have n0 : w9.cell? ⟨x + 3, 0, none⟩ = some (.slice none 0 0) := cell_of_row _ _ _ _ _ _ rn
                have n1 : w9.cell? ⟨x + 3, 1, none⟩ = some (.int .i64 0) := cell_of_row _ _ _ _ _ _ rn
                have n2 : w9.cell? ⟨x + 3, 2, none⟩ = some (.int .i64 0) := cell_of_row _ _ _ _ _ _ rn
                have n3 : w9.cell? ⟨x + 3, 3, none⟩ = some (.int .i64 0) := cell_of_row _ _ _ _ _ _ rn
                have HBS : Hid (∀ u0 u1 u2 u3, Below w.heap.size w ((((w9.setCell ⟨x + 2, 0, none⟩ u0).setCell ⟨x + 2, 1, none⟩ u1).setCell ⟨x + 2, 2, none⟩ u2).setCell ⟨x + 2, 3, none⟩ u3)) := Lib.hid fun u0 u1 u2 u3 => by
                  have hle : w.heap.size ≤ x + 2 := by have := HX.out; omega
                  exact ((((HLOW.out _ HB9.out).setCell (p := ⟨x + 2, 0, none⟩) hle u0).setCell (p := ⟨x + 2, 1, none⟩) hle u1).setCell (p := ⟨x + 2, 2, none⟩) hle u2).setCell (p := ⟨x + 2, 3, none⟩) hle u3
                have HAP := Lib.hid (HBD.out)
                clear rz rn 
                go_wp2
                exact bodyPost_ret (v := .tuple #[.agg #[.slice none 0 0, .int .i64 0, .int .i64 0, .int .i64 0], .int .i64 17]) (by simp [results, Try.results11, go_sem, *]) rfl ⟨RApplyOut.bad HAP.out, HBS.out _ _ _ _⟩
              by_cases h2 : 4 ≤ lv
              · have HBD : Hid (apply v e = (V.none, 17)) := Lib.hid (HRB.out (by rw [← HDR.out, HFIX.out, decide_eq_false (by omega)]; rfl))
                have rz := (HB9.out.block (x + 2) (by omega)).trans HRZ.out
                have z0 : w9.cell? ⟨x + 2, 0, none⟩ = some (.slice none 0 0) := cell_of_row _ _ _ _ _ _ rz
                have z1 : w9.cell? ⟨x + 2, 1, none⟩ = some (.int .i64 0) := cell_of_row _ _ _ _ _ _ rz
                have z2 : w9.cell? ⟨x + 2, 2, none⟩ = some (.int .i64 0) := cell_of_row _ _ _ _ _ _ rz
                have z3 : w9.cell? ⟨x + 2, 3, none⟩ = some (.int .i64 0) := cell_of_row _ _ _ _ _ _ rz
                have f0 : w9.frozen? ⟨x + 2, 0, none⟩ = false := frozen_of_row _ _ _ _ _ rz
                have f1 : w9.frozen? ⟨x + 2, 1, none⟩ = false := frozen_of_row _ _ _ _ _ rz
                have f2 : w9.frozen? ⟨x + 2, 2, none⟩ = false := frozen_of_row _ _ _ _ _ rz
                have f3 : w9.frozen? ⟨x + 2, 3, none⟩ = false := frozen_of_row _ _ _ _ _ rz
                have rn := (HB9.out.block (x + 3) (by omega)).trans HRN.out
                have n0 : w9.cell? ⟨x + 3, 0, none⟩ = some (.slice none 0 0) := cell_of_row _ _ _ _ _ _ rn
                have n1 : w9.cell? ⟨x + 3, 1, none⟩ = some (.int .i64 0) := cell_of_row _ _ _ _ _ _ rn
                have n2 : w9.cell? ⟨x + 3, 2, none⟩ = some (.int .i64 0) := cell_of_row _ _ _ _ _ _ rn
                have n3 : w9.cell? ⟨x + 3, 3, none⟩ = some (.int .i64 0) := cell_of_row _ _ _ _ _ _ rn
                have HBS : Hid (∀ u0 u1 u2 u3, Below w.heap.size w ((((w9.setCell ⟨x + 2, 0, none⟩ u0).setCell ⟨x + 2, 1, none⟩ u1).setCell ⟨x + 2, 2, none⟩ u2).setCell ⟨x + 2, 3, none⟩ u3)) := Lib.hid fun u0 u1 u2 u3 => by
                  have hle : w.heap.size ≤ x + 2 := by have := HX.out; omega
                  exact ((((HLOW.out _ HB9.out).setCell (p := ⟨x + 2, 0, none⟩) hle u0).setCell (p := ⟨x + 2, 1, none⟩) hle u1).setCell (p := ⟨x + 2, 2, none⟩) hle u2).setCell (p := ⟨x + 2, 3, none⟩) hle u3
                have HAP := Lib.hid (HBD.out)
                clear rz rn 
                go_wp2
                exact bodyPost_ret (v := .tuple #[.agg #[.slice none 0 0, .int .i64 0, .int .i64 0, .int .i64 0], .int .i64 17]) (by simp [results, Try.results11, go_sem, *]) rfl ⟨RApplyOut.bad HAP.out, HBS.out _ _ _ _⟩
              by_cases h3 : q < 0
              · have HBD : Hid (apply v e = (V.none, 17)) := Lib.hid (HRB.out (by rw [← HDR.out, HFIX.out, decide_eq_false (by omega)]; rfl))
                have rz := (HB9.out.block (x + 2) (by omega)).trans HRZ.out
                have z0 : w9.cell? ⟨x + 2, 0, none⟩ = some (.slice none 0 0) := cell_of_row _ _ _ _ _ _ rz
                have z1 : w9.cell? ⟨x + 2, 1, none⟩ = some (.int .i64 0) := cell_of_row _ _ _ _ _ _ rz
                have z2 : w9.cell? ⟨x + 2, 2, none⟩ = some (.int .i64 0) := cell_of_row _ _ _ _ _ _ rz
                have z3 : w9.cell? ⟨x + 2, 3, none⟩ = some (.int .i64 0) := cell_of_row _ _ _ _ _ _ rz
                have f0 : w9.frozen? ⟨x + 2, 0, none⟩ = false := frozen_of_row _ _ _ _ _ rz
                have f1 : w9.frozen? ⟨x + 2, 1, none⟩ = false := frozen_of_row _ _ _ _ _ rz
                have f2 : w9.frozen? ⟨x + 2, 2, none⟩ = false := frozen_of_row _ _ _ _ _ rz
                have f3 : w9.frozen? ⟨x + 2, 3, none⟩ = false := frozen_of_row _ _ _ _ _ rz
                have rn := (HB9.out.block (x + 3) (by omega)).trans HRN.out
                have n0 : w9.cell? ⟨x + 3, 0, none⟩ = some (.slice none 0 0) := cell_of_row _ _ _ _ _ _ rn
                have n1 : w9.cell? ⟨x + 3, 1, none⟩ = some (.int .i64 0) := cell_of_row _ _ _ _ _ _ rn
                have n2 : w9.cell? ⟨x + 3, 2, none⟩ = some (.int .i64 0) := cell_of_row _ _ _ _ _ _ rn
                have n3 : w9.cell? ⟨x + 3, 3, none⟩ = some (.int .i64 0) := cell_of_row _ _ _ _ _ _ rn
                have HBS : Hid (∀ u0 u1 u2 u3, Below w.heap.size w ((((w9.setCell ⟨x + 2, 0, none⟩ u0).setCell ⟨x + 2, 1, none⟩ u1).setCell ⟨x + 2, 2, none⟩ u2).setCell ⟨x + 2, 3, none⟩ u3)) := Lib.hid fun u0 u1 u2 u3 => by
                  have hle : w.heap.size ≤ x + 2 := by have := HX.out; omega
                  exact ((((HLOW.out _ HB9.out).setCell (p := ⟨x + 2, 0, none⟩) hle u0).setCell (p := ⟨x + 2, 1, none⟩) hle u1).setCell (p := ⟨x + 2, 2, none⟩) hle u2).setCell (p := ⟨x + 2, 3, none⟩) hle u3
                have HAP := Lib.hid (HBD.out)
                clear rz rn 
                go_wp2
                exact bodyPost_ret (v := .tuple #[.agg #[.slice none 0 0, .int .i64 0, .int .i64 0, .int .i64 0], .int .i64 17]) (by simp [results, Try.results11, go_sem, *]) rfl ⟨RApplyOut.bad HAP.out, HBS.out _ _ _ _⟩
              by_cases h4 : en ≤ q
              · have HBD : Hid (apply v e = (V.none, 17)) := Lib.hid (HRB.out (by rw [← HDR.out, HFIX.out, decide_eq_false (by omega)]; rfl))
                have rz := (HB9.out.block (x + 2) (by omega)).trans HRZ.out
                have z0 : w9.cell? ⟨x + 2, 0, none⟩ = some (.slice none 0 0) := cell_of_row _ _ _ _ _ _ rz
                have z1 : w9.cell? ⟨x + 2, 1, none⟩ = some (.int .i64 0) := cell_of_row _ _ _ _ _ _ rz
                have z2 : w9.cell? ⟨x + 2, 2, none⟩ = some (.int .i64 0) := cell_of_row _ _ _ _ _ _ rz
                have z3 : w9.cell? ⟨x + 2, 3, none⟩ = some (.int .i64 0) := cell_of_row _ _ _ _ _ _ rz
                have f0 : w9.frozen? ⟨x + 2, 0, none⟩ = false := frozen_of_row _ _ _ _ _ rz
                have f1 : w9.frozen? ⟨x + 2, 1, none⟩ = false := frozen_of_row _ _ _ _ _ rz
                have f2 : w9.frozen? ⟨x + 2, 2, none⟩ = false := frozen_of_row _ _ _ _ _ rz
                have f3 : w9.frozen? ⟨x + 2, 3, none⟩ = false := frozen_of_row _ _ _ _ _ rz
                have rn := (HB9.out.block (x + 3) (by omega)).trans HRN.out
                have n0 : w9.cell? ⟨x + 3, 0, none⟩ = some (.slice none 0 0) := cell_of_row _ _ _ _ _ _ rn
                have n1 : w9.cell? ⟨x + 3, 1, none⟩ = some (.int .i64 0) := cell_of_row _ _ _ _ _ _ rn
                have n2 : w9.cell? ⟨x + 3, 2, none⟩ = some (.int .i64 0) := cell_of_row _ _ _ _ _ _ rn
                have n3 : w9.cell? ⟨x + 3, 3, none⟩ = some (.int .i64 0) := cell_of_row _ _ _ _ _ _ rn
                have HBS : Hid (∀ u0 u1 u2 u3, Below w.heap.size w ((((w9.setCell ⟨x + 2, 0, none⟩ u0).setCell ⟨x + 2, 1, none⟩ u1).setCell ⟨x + 2, 2, none⟩ u2).setCell ⟨x + 2, 3, none⟩ u3)) := Lib.hid fun u0 u1 u2 u3 => by
                  have hle : w.heap.size ≤ x + 2 := by have := HX.out; omega
                  exact ((((HLOW.out _ HB9.out).setCell (p := ⟨x + 2, 0, none⟩) hle u0).setCell (p := ⟨x + 2, 1, none⟩) hle u1).setCell (p := ⟨x + 2, 2, none⟩) hle u2).setCell (p := ⟨x + 2, 3, none⟩) hle u3
                have HAP := Lib.hid (HBD.out)
                clear rz rn 
                go_wp2
                exact bodyPost_ret (v := .tuple #[.agg #[.slice none 0 0, .int .i64 0, .int .i64 0, .int .i64 0], .int .i64 17]) (by simp [results, Try.results11, go_sem, *]) rfl ⟨RApplyOut.bad HAP.out, HBS.out _ _ _ _⟩
              by_cases h5 : g < 0
              · have HBD : Hid (apply v e = (V.none, 17)) := Lib.hid (HRB.out (by rw [← HDR.out, HFIX.out, decide_eq_false (by omega)]; rfl))
                have rz := (HB9.out.block (x + 2) (by omega)).trans HRZ.out
                have z0 : w9.cell? ⟨x + 2, 0, none⟩ = some (.slice none 0 0) := cell_of_row _ _ _ _ _ _ rz
                have z1 : w9.cell? ⟨x + 2, 1, none⟩ = some (.int .i64 0) := cell_of_row _ _ _ _ _ _ rz
                have z2 : w9.cell? ⟨x + 2, 2, none⟩ = some (.int .i64 0) := cell_of_row _ _ _ _ _ _ rz
                have z3 : w9.cell? ⟨x + 2, 3, none⟩ = some (.int .i64 0) := cell_of_row _ _ _ _ _ _ rz
                have f0 : w9.frozen? ⟨x + 2, 0, none⟩ = false := frozen_of_row _ _ _ _ _ rz
                have f1 : w9.frozen? ⟨x + 2, 1, none⟩ = false := frozen_of_row _ _ _ _ _ rz
                have f2 : w9.frozen? ⟨x + 2, 2, none⟩ = false := frozen_of_row _ _ _ _ _ rz
                have f3 : w9.frozen? ⟨x + 2, 3, none⟩ = false := frozen_of_row _ _ _ _ _ rz
                have rn := (HB9.out.block (x + 3) (by omega)).trans HRN.out
                have n0 : w9.cell? ⟨x + 3, 0, none⟩ = some (.slice none 0 0) := cell_of_row _ _ _ _ _ _ rn
                have n1 : w9.cell? ⟨x + 3, 1, none⟩ = some (.int .i64 0) := cell_of_row _ _ _ _ _ _ rn
                have n2 : w9.cell? ⟨x + 3, 2, none⟩ = some (.int .i64 0) := cell_of_row _ _ _ _ _ _ rn
                have n3 : w9.cell? ⟨x + 3, 3, none⟩ = some (.int .i64 0) := cell_of_row _ _ _ _ _ _ rn
                have HBS : Hid (∀ u0 u1 u2 u3, Below w.heap.size w ((((w9.setCell ⟨x + 2, 0, none⟩ u0).setCell ⟨x + 2, 1, none⟩ u1).setCell ⟨x + 2, 2, none⟩ u2).setCell ⟨x + 2, 3, none⟩ u3)) := Lib.hid fun u0 u1 u2 u3 => by
                  have hle : w.heap.size ≤ x + 2 := by have := HX.out; omega
                  exact ((((HLOW.out _ HB9.out).setCell (p := ⟨x + 2, 0, none⟩) hle u0).setCell (p := ⟨x + 2, 1, none⟩) hle u1).setCell (p := ⟨x + 2, 2, none⟩) hle u2).setCell (p := ⟨x + 2, 3, none⟩) hle u3
                have HAP := Lib.hid (HBD.out)
                clear rz rn 
                go_wp2
                exact bodyPost_ret (v := .tuple #[.agg #[.slice none 0 0, .int .i64 0, .int .i64 0, .int .i64 0], .int .i64 17]) (by simp [results, Try.results11, go_sem, *]) rfl ⟨RApplyOut.bad HAP.out, HBS.out _ _ _ _⟩
              cases h6 : lt tt s with
              | true =>
                have HBD : Hid (apply v e = (V.none, 17)) := Lib.hid (HRB.out (by rw [← HDR.out, HFIX.out, h6, Bool.not_true, Bool.and_false]; rfl))
                have hgt : (!Op.bytesLess s.toList tt.toList && !(s.toList == tt.toList)) = true := by rw [text_gtr]; exact h6
                have rz := (HB9.out.block (x + 2) (by omega)).trans HRZ.out
                have z0 : w9.cell? ⟨x + 2, 0, none⟩ = some (.slice none 0 0) := cell_of_row _ _ _ _ _ _ rz
                have z1 : w9.cell? ⟨x + 2, 1, none⟩ = some (.int .i64 0) := cell_of_row _ _ _ _ _ _ rz
                have z2 : w9.cell? ⟨x + 2, 2, none⟩ = some (.int .i64 0) := cell_of_row _ _ _ _ _ _ rz
                have z3 : w9.cell? ⟨x + 2, 3, none⟩ = some (.int .i64 0) := cell_of_row _ _ _ _ _ _ rz
                have f0 : w9.frozen? ⟨x + 2, 0, none⟩ = false := frozen_of_row _ _ _ _ _ rz
                have f1 : w9.frozen? ⟨x + 2, 1, none⟩ = false := frozen_of_row _ _ _ _ _ rz
                have f2 : w9.frozen? ⟨x + 2, 2, none⟩ = false := frozen_of_row _ _ _ _ _ rz
                have f3 : w9.frozen? ⟨x + 2, 3, none⟩ = false := frozen_of_row _ _ _ _ _ rz
                have rn := (HB9.out.block (x + 3) (by omega)).trans HRN.out
                have n0 : w9.cell? ⟨x + 3, 0, none⟩ = some (.slice none 0 0) := cell_of_row _ _ _ _ _ _ rn
                have n1 : w9.cell? ⟨x + 3, 1, none⟩ = some (.int .i64 0) := cell_of_row _ _ _ _ _ _ rn
                have n2 : w9.cell? ⟨x + 3, 2, none⟩ = some (.int .i64 0) := cell_of_row _ _ _ _ _ _ rn
                have n3 : w9.cell? ⟨x + 3, 3, none⟩ = some (.int .i64 0) := cell_of_row _ _ _ _ _ _ rn
                have HBS : Hid (∀ u0 u1 u2 u3, Below w.heap.size w ((((w9.setCell ⟨x + 2, 0, none⟩ u0).setCell ⟨x + 2, 1, none⟩ u1).setCell ⟨x + 2, 2, none⟩ u2).setCell ⟨x + 2, 3, none⟩ u3)) := Lib.hid fun u0 u1 u2 u3 => by
                  have hle : w.heap.size ≤ x + 2 := by have := HX.out; omega
                  exact ((((HLOW.out _ HB9.out).setCell (p := ⟨x + 2, 0, none⟩) hle u0).setCell (p := ⟨x + 2, 1, none⟩) hle u1).setCell (p := ⟨x + 2, 2, none⟩) hle u2).setCell (p := ⟨x + 2, 3, none⟩) hle u3
                have HAP := Lib.hid (HBD.out)
                clear rz rn 
                go_wp2
                exact bodyPost_ret (v := .tuple #[.agg #[.slice none 0 0, .int .i64 0, .int .i64 0, .int .i64 0], .int .i64 17]) (by simp [results, Try.results11, go_sem, *]) rfl ⟨RApplyOut.bad HAP.out, HBS.out _ _ _ _⟩
              | false =>
              have hgt : (!Op.bytesLess s.toList tt.toList && !(s.toList == tt.toList)) = false := by rw [text_gtr]; exact h6
              have HDR2 : Hid ((!K1 && !K2 && addOk e.next (files v.L) (files (e.add.take t) ++ [q]) (e.add.drop (t + 1))) = R3) := Lib.hid (by rw [← HDR.out, HFIX.out, h6, decide_eq_true (by omega)]; rfl)
              clear h6
              go_wp2_with fail
              refine (HHS.out w9 HX9.out).mono ?_
              rintro r w5 ⟨rfl, hww⟩
              subst w5
              have re := (HB9.out.block (x + 1) (by omega)).trans HRE.out
              have ce0 : w9.cell? ⟨x + 1, 0, none⟩ = some (.slice (some ⟨cb, off, none⟩) n2 c2) := cell_of_row _ _ _ _ _ _ re
              have ce1 : w9.cell? ⟨x + 1, 1, none⟩ = some (.slice D m2 d2) := cell_of_row _ _ _ _ _ _ re
              have ce2 : w9.cell? ⟨x + 1, 2, none⟩ = some (.int .i64 el) := cell_of_row _ _ _ _ _ _ re
              have ce3x : w9.cell? ⟨x + 1, 3, none⟩ = some (.int .i64 en) := cell_of_row _ _ _ _ _ _ re
              have ce4 : w9.cell? ⟨x + 1, 4, none⟩ = some (.int .i64 es) := cell_of_row _ _ _ _ _ _ re
              clear re hgt h1 h2 h3 h4 h5
              go_wp2_with fail
              refine (HAF.out w9 HB9.out).mono ?_
              rintro r w10 ⟨Bn, dn, rfl, hin10, hb10⟩
              have HB10 : Hid (Below (x + 4) w0 w10) := Lib.hid (HB9.out.trans (hb10.mono (by have := HB9.out.size; have := HS0.out; omega)))
              have HQ10 : Hid (Below o w2 w10) := Lib.hid (HQ9.out.trans (hb10.mono (by have := HMB.out; omega)))
              have HO10 := Lib.hid (HO9.out.below hb10)
              have HRM10 := Lib.hid ((hb10.block mb (by have := HMB.out; omega)).trans HRM.out)
              have HHN10 := Lib.hid (HHN.out w10 Bn dn hin10)
              clear hin10 hb10 m0 m1 m2' m3 m4 ce0 ce1 ce2 ce3 ce4
              have m0 : w10.cell? ⟨mb, 0, none⟩ = some (.int .i64 lv) := cell_of_row _ _ _ _ _ _ HRM10.out
              have m1 : w10.cell? ⟨mb, 1, none⟩ = some (.int .i64 q) := cell_of_row _ _ _ _ _ _ HRM10.out
              have m2' : w10.cell? ⟨mb, 2, none⟩ = some (.int .i64 g) := cell_of_row _ _ _ _ _ _ HRM10.out
              have m3 : w10.cell? ⟨mb, 3, none⟩ = some (.string s) := cell_of_row _ _ _ _ _ _ HRM10.out
              have m4 : w10.cell? ⟨mb, 4, none⟩ = some (.string tt) := cell_of_row _ _ _ _ _ _ HRM10.out
              go_wp2_with fail
              refine HHN10.out.mono ?_
              rintro r w5 ⟨rfl, hww⟩
              subst w5
              cases K1 with
              | true =>
                have HBD : Hid (apply v e = (V.none, 17)) := Lib.hid (HRB.out (by rw [← HDR2.out]; rfl))
                have rz := (HB10.out.block (x + 2) (by omega)).trans HRZ.out
                have z0 : w10.cell? ⟨x + 2, 0, none⟩ = some (.slice none 0 0) := cell_of_row _ _ _ _ _ _ rz
                have z1 : w10.cell? ⟨x + 2, 1, none⟩ = some (.int .i64 0) := cell_of_row _ _ _ _ _ _ rz
                have z2 : w10.cell? ⟨x + 2, 2, none⟩ = some (.int .i64 0) := cell_of_row _ _ _ _ _ _ rz
                have z3 : w10.cell? ⟨x + 2, 3, none⟩ = some (.int .i64 0) := cell_of_row _ _ _ _ _ _ rz
                have f0 : w10.frozen? ⟨x + 2, 0, none⟩ = false := frozen_of_row _ _ _ _ _ rz
                have f1 : w10.frozen? ⟨x + 2, 1, none⟩ = false := frozen_of_row _ _ _ _ _ rz
                have f2 : w10.frozen? ⟨x + 2, 2, none⟩ = false := frozen_of_row _ _ _ _ _ rz
                have f3 : w10.frozen? ⟨x + 2, 3, none⟩ = false := frozen_of_row _ _ _ _ _ rz
                have rn := (HB10.out.block (x + 3) (by omega)).trans HRN.out
                have n0 : w10.cell? ⟨x + 3, 0, none⟩ = some (.slice none 0 0) := cell_of_row _ _ _ _ _ _ rn
                have n1 : w10.cell? ⟨x + 3, 1, none⟩ = some (.int .i64 0) := cell_of_row _ _ _ _ _ _ rn
                have n2 : w10.cell? ⟨x + 3, 2, none⟩ = some (.int .i64 0) := cell_of_row _ _ _ _ _ _ rn
                have n3 : w10.cell? ⟨x + 3, 3, none⟩ = some (.int .i64 0) := cell_of_row _ _ _ _ _ _ rn
                have HBS : Hid (∀ u0 u1 u2 u3, Below w.heap.size w ((((w10.setCell ⟨x + 2, 0, none⟩ u0).setCell ⟨x + 2, 1, none⟩ u1).setCell ⟨x + 2, 2, none⟩ u2).setCell ⟨x + 2, 3, none⟩ u3)) := Lib.hid fun u0 u1 u2 u3 => by
                  have hle : w.heap.size ≤ x + 2 := by have := HX.out; omega
                  exact ((((HLOW.out _ HB10.out).setCell (p := ⟨x + 2, 0, none⟩) hle u0).setCell (p := ⟨x + 2, 1, none⟩) hle u1).setCell (p := ⟨x + 2, 2, none⟩) hle u2).setCell (p := ⟨x + 2, 3, none⟩) hle u3
                have HAP := Lib.hid (HBD.out)
                clear rz rn 
                go_wp2
                exact bodyPost_ret (v := .tuple #[.agg #[.slice none 0 0, .int .i64 0, .int .i64 0, .int .i64 0], .int .i64 17]) (by simp [results, Try.results11, go_sem, *]) rfl ⟨RApplyOut.bad HAP.out, HBS.out _ _ _ _⟩
              | false =>
              cases K2 with
              | true =>
                have HBD : Hid (apply v e = (V.none, 17)) := Lib.hid (HRB.out (by rw [← HDR2.out]; rfl))
                have rz := (HB10.out.block (x + 2) (by omega)).trans HRZ.out
                have z0 : w10.cell? ⟨x + 2, 0, none⟩ = some (.slice none 0 0) := cell_of_row _ _ _ _ _ _ rz
                have z1 : w10.cell? ⟨x + 2, 1, none⟩ = some (.int .i64 0) := cell_of_row _ _ _ _ _ _ rz
                have z2 : w10.cell? ⟨x + 2, 2, none⟩ = some (.int .i64 0) := cell_of_row _ _ _ _ _ _ rz
                have z3 : w10.cell? ⟨x + 2, 3, none⟩ = some (.int .i64 0) := cell_of_row _ _ _ _ _ _ rz
                have f0 : w10.frozen? ⟨x + 2, 0, none⟩ = false := frozen_of_row _ _ _ _ _ rz
                have f1 : w10.frozen? ⟨x + 2, 1, none⟩ = false := frozen_of_row _ _ _ _ _ rz
                have f2 : w10.frozen? ⟨x + 2, 2, none⟩ = false := frozen_of_row _ _ _ _ _ rz
                have f3 : w10.frozen? ⟨x + 2, 3, none⟩ = false := frozen_of_row _ _ _ _ _ rz
                have rn := (HB10.out.block (x + 3) (by omega)).trans HRN.out
                have n0 : w10.cell? ⟨x + 3, 0, none⟩ = some (.slice none 0 0) := cell_of_row _ _ _ _ _ _ rn
                have n1 : w10.cell? ⟨x + 3, 1, none⟩ = some (.int .i64 0) := cell_of_row _ _ _ _ _ _ rn
                have n2 : w10.cell? ⟨x + 3, 2, none⟩ = some (.int .i64 0) := cell_of_row _ _ _ _ _ _ rn
                have n3 : w10.cell? ⟨x + 3, 3, none⟩ = some (.int .i64 0) := cell_of_row _ _ _ _ _ _ rn
                have HBS : Hid (∀ u0 u1 u2 u3, Below w.heap.size w ((((w10.setCell ⟨x + 2, 0, none⟩ u0).setCell ⟨x + 2, 1, none⟩ u1).setCell ⟨x + 2, 2, none⟩ u2).setCell ⟨x + 2, 3, none⟩ u3)) := Lib.hid fun u0 u1 u2 u3 => by
                  have hle : w.heap.size ≤ x + 2 := by have := HX.out; omega
                  exact ((((HLOW.out _ HB10.out).setCell (p := ⟨x + 2, 0, none⟩) hle u0).setCell (p := ⟨x + 2, 1, none⟩) hle u1).setCell (p := ⟨x + 2, 2, none⟩) hle u2).setCell (p := ⟨x + 2, 3, none⟩) hle u3
                have HAP := Lib.hid (HBD.out)
                clear rz rn 
                go_wp2
                exact bodyPost_ret (v := .tuple #[.agg #[.slice none 0 0, .int .i64 0, .int .i64 0, .int .i64 0], .int .i64 17]) (by simp [results, Try.results11, go_sem, *]) rfl ⟨RApplyOut.bad HAP.out, HBS.out _ _ _ _⟩
              | false =>
              have HS2 : Hid (addOk e.next (files v.L) (files (e.add.take (t + 1))) (e.add.drop (t + 1)) = R3) := Lib.hid (by rw [HTK.out, ← HDR2.out]; rfl)
              obtain ⟨Av, cvv, rfl, hin5, -, -⟩ := own5 HO10.out.wf rfl HO10.out.own
              have co := HO10.out.cell
              have HWI10 := Lib.hid (HWI.out w10 Av _ cvv hin5 rfl)
              clear hin5
              go_wp2_with fail
              refine HWI10.out.mono ?_
              rintro r w11 ⟨Bw, dw, rfl, ho11, hb11⟩
              have hfr := (HO10.out.below hb11).froz 0
              have hcl := (HO10.out.below hb11).cell
              have HLN : Hid (((e.add.take (t + 1)).foldl with_ (kept v e)).length = ((e.add.take t).foldl with_ (kept v e)).length + 1) := Lib.hid (by rw [HBT.out, (with_perm _ _).length_eq, List.length_append]; rfl)
              have HO12 : Hid (OutR o (w11.setCell ⟨o, 0, none⟩ (.slice Bw (((e.add.take t).foldl with_ (kept v e)).length + 1) dw)) (.slice Bw (((e.add.take t).foldl with_ (kept v e)).length + 1) dw) ((e.add.take (t + 1)).foldl with_ (kept v e)) el en es) := Lib.hid ((HO10.out.below hb11).put (by rw [HLN.out, HBT.out]; exact own_low ho11 (by have := HO10.out.lt; omega)) (HAW.out (t + 1)))
              have HQ12 : Hid (Below o w2 (w11.setCell ⟨o, 0, none⟩ (.slice Bw (((e.add.take t).foldl with_ (kept v e)).length + 1) dw))) := Lib.hid ((HQ10.out.trans (hb11.mono (by have := HO10.out.lt; omega))).setCell (p := ⟨o, 0, none⟩) (Nat.le_refl _) _)
              clear ho11 hb11 m0 m1 m2' m3 m4 co
              go_wp2
              go_roundw
              case rel => exact ⟨t + 1, _, by omega, by go_num, HO12.out, HQ12.out, HS2⟩
              case measure => simp [intOf]; omega
            · obtain rfl : n2 = t := by omega
              have HAO : Hid (addOk e.next (files v.L) [] e.add = true) := Lib.hid (by
                have := HS.out
                rw [List.drop_eq_nil_of_le (by rw [HE.out.alen]; exact Nat.le_refl _)] at this
                rw [HR3.out, ← this]; rfl)
              have hout1 : OutR o wr vo (behind v e) el en es := by
                have := HOUT.out
                rwa [List.take_of_length_le (by rw [HE.out.alen]; exact Nat.le_refl _)] at this
              have HLB : Hid ((behind v e).length ≤ 4000000) := Lib.hid (by
                have := HAL.out n2
                rwa [List.take_of_length_le (by rw [HE.out.alen]; exact Nat.le_refl _)] at this)
              have HGD := Lib.hid (fun h => apply_good (v := v) (e := e) HHT.out HDO.out HAO.out h)
              have HBD4 := Lib.hid (fun h => apply_bad4 (v := v) (e := e) h)
              have HLW : Hid (∀ m ∈ behind v e, m.wf) := Lib.hid hout1.wf
              clear HOUT HS HR3 hlt ht
              go_wp2_with fail
              clear ce0 ce1 ce2 ce3 ce4
              obtain ⟨Lb, hLb⟩ : ∃ Lb, behind v e = Lb := ⟨_, rfl⟩
              rw [hLb] at hout1 HLB HGD HBD4 HLW
              obtain ⟨Av, cvv, rfl, hin5, hfb, hcc⟩ := own5 hout1.wf rfl hout1.own
              have HOU := Lib.hid hout1
              have HI5 := Lib.hid hin5
              have HFB : Hid (∀ a, Av = some a → o + 1 ≤ a.block) := Lib.hid fun a ha => by subst ha; exact (hfb a.block (by simp [fb])).1
              have HCC := Lib.hid hcc
              obtain ⟨LN, hLN⟩ : ∃ LN, Lb.length = LN := ⟨_, rfl⟩
              rw [hLN] at hout1 HLB HCC
              have HLN := Lib.hid hLN
              have hlnb : LN ≤ 4000000 := HLB.out
              clear hout1 hin5 hfb hcc hLN hLb
              obtain ⟨w12, hw12⟩ : ∃ w12, wr = w12 := ⟨_, rfl⟩
              rw [hw12] at HBQ HBX HBX1 HOU HI5 ⊢
              clear hw12
              have HOL : Hid (∀ W, Below w12.heap.size w12 W → W.cell? ⟨o, 0, none⟩ = some (.slice Av LN cvv)) := Lib.hid fun W hW => by
                have := (HOU.out.below hW).cell
                rwa [HLN.out] at this
              go_loopw [19] (fun i wq => ∃ t : Nat, t ≤ LN ∧ i = .int .i64 t ∧ Below w12.heap.size w12 wq ∧ Hid (apart (Lb.take t))) (fun i _ => LN - (intOf i).toNat)
              case atStart => exact ⟨0, by omega, rfl, Below.refl _ _, Lib.hid List.Pairwise.nil⟩
              case round =>
                obtain ⟨t, ht, rfl, hbw, HS⟩ := hrel
                have HBT := Lib.hid hbw
                have co := HOL.out wr hbw
                clear hbw
                by_cases hlt : t < LN
                · have htl : t < Lb.length := by rw [HLN.out]; exact hlt
                  go_wp2_with fail
                  go_loopw [20] (fun i wq => ∃ k : Nat, k ≤ t ∧ i = .int .i64 k ∧ Below w12.heap.size w12 wq ∧ Hid (∀ k' (hk : k' < k) (hkl : k' < Lb.length), ov Lb[t] Lb[k'] = false)) (fun i _ => t - (intOf i).toNat)
                  case atStart => exact ⟨0, by omega, rfl, HBT.out, Lib.hid fun k' hk => by omega⟩
                  case round =>
                    obtain ⟨k, hk, rfl, hbw, HK⟩ := hrel
                    have HBK := Lib.hid hbw
                    have co := HOL.out wr hbw
                    by_cases hkt : k < t
                    · have hkl : k < Lb.length := by omega
                      obtain ⟨cb, off, hA, hbl, hc⟩ := (HI5.out.below hbw).at_ (by omega)
                      obtain ⟨c0, c1, c2', c3, c4⟩ := hc t htl
                      obtain ⟨b0, b1, b2, b3, b4⟩ := hc k hkl
                      have hovd : ov Lb[t] Lb[k] = (decide (0 < Lb[t].lvl ∧ Lb[t].lvl = Lb[k].lvl) && (!(lt Lb[k].hi Lb[t].lo) && !(lt Lb[t].hi Lb[k].lo))) := rfl
                      have HNA : Hid (ov Lb[t] Lb[k] = true → apply v e = (V.none, 17)) := Lib.hid fun h => HBD4.out (not_apart htl hkt h)
                      have HKN : Hid (ov Lb[t] Lb[k] = false → ∀ k' (hk : k' < k + 1) (hkl : k' < Lb.length), ov Lb[t] Lb[k'] = false) := Lib.hid fun h k' hk' hkl' => by
                        by_cases hkk : k' = k
                        · subst hkk; exact h
                        · exact HK.out k' (by omega) hkl'
                      obtain ⟨ov1, hov1⟩ : ∃ ov1, ov Lb[t] Lb[k] = ov1 := ⟨_, rfl⟩
                      rw [hov1] at hovd HNA HKN
                      obtain ⟨y, hy⟩ : ∃ y, Lb[t] = y := ⟨_, rfl⟩
                      obtain ⟨z, hz⟩ : ∃ z, Lb[k] = z := ⟨_, rfl⟩
                      rw [hy, hz] at hovd
                      rw [hy] at c0 c1 c2' c3 c4
                      rw [hz] at b0 b1 b2 b3 b4
                      obtain ⟨lv, q, g, s, tt⟩ := y
                      obtain ⟨lv2, q2, g2, s2, t2⟩ := z
                      simp only at c0 c1 c2' c3 c4 b0 b1 b2 b3 b4 hovd
                      have HOV := Lib.hid hovd
                      have g0 : (0 : Int) ≤ (t : Int) := by omega
                      have g1 : (t : Int) < (LN : Int) := by omega
                      have g2' : (0 : Int) ≤ (k : Int) := by omega
                      have g3 : (k : Int) < (LN : Int) := by omega
                      have hcl : cb < wr.heap.size ∧ o < wr.heap.size := ⟨hbl, (HOU.out.below hbw).lt⟩
                      subst hA
                      clear hc hov1 hovd hy hz hbw
                      go_upto_region 41 with fail
                      have hal9 : Below wr.heap.size wr ((wr.alloc (.cells #[.int .i64 lv, .int .i64 q, .int .i64 g, .string s, .string tt] 66)).alloc (.cells #[.int .i64 lv2, .int .i64 q2, .int .i64 g2, .string s2, .string t2] 66)) := ((Below.refl _ wr).alloc (Nat.le_refl _) _).alloc (by simp) _
                      have hra : ((wr.alloc (.cells #[.int .i64 lv, .int .i64 q, .int .i64 g, .string s, .string tt] 66)).alloc (.cells #[.int .i64 lv2, .int .i64 q2, .int .i64 g2, .string s2, .string t2] 66)).heap[wr.heap.size]? = some (.cells #[.int .i64 lv, .int .i64 q, .int .i64 g, .string s, .string tt] 66 (0, 0)) := (Below.heap_alloc _ _ _ (by simp)).trans (heap_alloc_new wr _)
                      have hrb : ((wr.alloc (.cells #[.int .i64 lv, .int .i64 q, .int .i64 g, .string s, .string tt] 66)).alloc (.cells #[.int .i64 lv2, .int .i64 q2, .int .i64 g2, .string s2, .string t2] 66)).heap[wr.heap.size + 1]? = some (.cells #[.int .i64 lv2, .int .i64 q2, .int .i64 g2, .string s2, .string t2] 66 (0, 0)) := by
                        have := heap_alloc_new (wr.alloc (.cells #[.int .i64 lv, .int .i64 q, .int .i64 g, .string s, .string tt] 66)) (.cells #[.int .i64 lv2, .int .i64 q2, .int .i64 g2, .string s2, .string t2] 66)
                        simpa using this
                      generalize (wr.alloc (.cells #[.int .i64 lv, .int .i64 q, .int .i64 g, .string s, .string tt] 66)).alloc (.cells #[.int .i64 lv2, .int .i64 q2, .int .i64 g2, .string s2, .string t2] 66) = w9 at hal9 hra hrb ⊢
                      have HB9 : Hid (Below w12.heap.size w12 w9) := Lib.hid (HBK.out.trans (hal9.mono HBK.out.size))
                      have HB9x : Hid (Below (x + 4) w0 w9) := Lib.hid (HBX.out.trans (HB9.out.mono (by have := HBX.out.size; have := HS0.out; omega)))
                      obtain ⟨mb, hmb⟩ : ∃ mb, wr.heap.size = mb := ⟨_, rfl⟩
                      rw [hmb] at hra hrb ⊢
                      have ma0 : w9.cell? ⟨mb, 0, none⟩ = some (.int .i64 lv) := cell_of_row _ _ _ _ _ _ hra
                      have ma1 : w9.cell? ⟨mb, 1, none⟩ = some (.int .i64 q) := cell_of_row _ _ _ _ _ _ hra
                      have ma2 : w9.cell? ⟨mb, 2, none⟩ = some (.int .i64 g) := cell_of_row _ _ _ _ _ _ hra
                      have ma3 : w9.cell? ⟨mb, 3, none⟩ = some (.string s) := cell_of_row _ _ _ _ _ _ hra
                      have ma4 : w9.cell? ⟨mb, 4, none⟩ = some (.string tt) := cell_of_row _ _ _ _ _ _ hra
                      have mc0 : w9.cell? ⟨mb + 1, 0, none⟩ = some (.int .i64 lv2) := cell_of_row _ _ _ _ _ _ hrb
                      have mc1 : w9.cell? ⟨mb + 1, 1, none⟩ = some (.int .i64 q2) := cell_of_row _ _ _ _ _ _ hrb
                      have mc2 : w9.cell? ⟨mb + 1, 2, none⟩ = some (.int .i64 g2) := cell_of_row _ _ _ _ _ _ hrb
                      have mc3 : w9.cell? ⟨mb + 1, 3, none⟩ = some (.string s2) := cell_of_row _ _ _ _ _ _ hrb
                      have mc4 : w9.cell? ⟨mb + 1, 4, none⟩ = some (.string t2) := cell_of_row _ _ _ _ _ _ hrb
                      clear hal9 hra hrb hmb c0 c1 c2' c3 c4 b0 b1 b2 b3 b4 co hcl hbl
                      have hleq1 := text_leq s t2
                      have hleq2 := text_leq s2 tt
                      obtain ⟨F1, hF1⟩ : ∃ F, lt t2 s = F := ⟨_, rfl⟩
                      obtain ⟨F2, hF2⟩ : ∃ F, lt tt s2 = F := ⟨_, rfl⟩
                      rw [hF1] at hleq1 HOV
                      rw [hF2] at hleq2 HOV
                      clear hF1 hF2
                      by_cases h1 : 0 < lv
                      · by_cases h2 : lv = lv2
                        · have h2' : (lv == lv2) = true := by simpa using h2
                          have HO2 : Hid (ov1 = (!F1 && !F2)) := Lib.hid (by rw [HOV.out, decide_eq_true ⟨h1, h2⟩, Bool.true_and])
                          clear h2
                          cases F1 with
                          | true =>
                            have hl1 : (Op.bytesLess s.toList t2.toList || s.toList == t2.toList) = false := hleq1
                            have HKN2 := Lib.hid (HKN.out HO2.out)
                            clear hleq1 hleq2
                            go_wp2
                            go_roundw
                            case rel => exact ⟨k + 1, by omega, by go_num, HB9.out, HKN2⟩
                            case measure => simp [intOf]; omega
                          | false =>
                            have hl1 : (Op.bytesLess s.toList t2.toList || s.toList == t2.toList) = true := hleq1
                            cases F2 with
                            | true =>
                              have hl2 : (Op.bytesLess s2.toList tt.toList || s2.toList == tt.toList) = false := hleq2
                              have HKN2 := Lib.hid (HKN.out HO2.out)
                              clear hleq1 hleq2
                              go_wp2
                              go_roundw
                              case rel => exact ⟨k + 1, by omega, by go_num, HB9.out, HKN2⟩
                              case measure => simp [intOf]; omega
                            | false =>
                              have hl2 : (Op.bytesLess s2.toList tt.toList || s2.toList == tt.toList) = true := hleq2
                              have HBD := Lib.hid (HNA.out HO2.out)
                              clear hleq1 hleq2
                              have rz := (HB9x.out.block (x + 2) (by omega)).trans HRZ.out
                              have z0 : w9.cell? ⟨x + 2, 0, none⟩ = some (.slice none 0 0) := cell_of_row _ _ _ _ _ _ rz
                              have z1 : w9.cell? ⟨x + 2, 1, none⟩ = some (.int .i64 0) := cell_of_row _ _ _ _ _ _ rz
                              have z2 : w9.cell? ⟨x + 2, 2, none⟩ = some (.int .i64 0) := cell_of_row _ _ _ _ _ _ rz
                              have z3 : w9.cell? ⟨x + 2, 3, none⟩ = some (.int .i64 0) := cell_of_row _ _ _ _ _ _ rz
                              have f0 : w9.frozen? ⟨x + 2, 0, none⟩ = false := frozen_of_row _ _ _ _ _ rz
                              have f1 : w9.frozen? ⟨x + 2, 1, none⟩ = false := frozen_of_row _ _ _ _ _ rz
                              have f2 : w9.frozen? ⟨x + 2, 2, none⟩ = false := frozen_of_row _ _ _ _ _ rz
                              have f3 : w9.frozen? ⟨x + 2, 3, none⟩ = false := frozen_of_row _ _ _ _ _ rz
                              have rn := (HB9x.out.block (x + 3) (by omega)).trans HRN.out
                              have n0 : w9.cell? ⟨x + 3, 0, none⟩ = some (.slice none 0 0) := cell_of_row _ _ _ _ _ _ rn
                              have n1 : w9.cell? ⟨x + 3, 1, none⟩ = some (.int .i64 0) := cell_of_row _ _ _ _ _ _ rn
                              have n2 : w9.cell? ⟨x + 3, 2, none⟩ = some (.int .i64 0) := cell_of_row _ _ _ _ _ _ rn
                              have n3 : w9.cell? ⟨x + 3, 3, none⟩ = some (.int .i64 0) := cell_of_row _ _ _ _ _ _ rn
                              have HBS : Hid (∀ u0 u1 u2 u3, Below w.heap.size w ((((w9.setCell ⟨x + 2, 0, none⟩ u0).setCell ⟨x + 2, 1, none⟩ u1).setCell ⟨x + 2, 2, none⟩ u2).setCell ⟨x + 2, 3, none⟩ u3)) := Lib.hid fun u0 u1 u2 u3 => by
                                have hle : w.heap.size ≤ x + 2 := by have := HX.out; omega
                                exact ((((HLOW.out _ HB9x.out).setCell (p := ⟨x + 2, 0, none⟩) hle u0).setCell (p := ⟨x + 2, 1, none⟩) hle u1).setCell (p := ⟨x + 2, 2, none⟩) hle u2).setCell (p := ⟨x + 2, 3, none⟩) hle u3
                              have HAP := Lib.hid (HBD.out)
                              clear rz rn 
                              go_wp2
                              exact bodyPost_ret (v := .tuple #[.agg #[.slice none 0 0, .int .i64 0, .int .i64 0, .int .i64 0], .int .i64 17]) (by simp [results, Try.results11, go_sem, *]) rfl ⟨RApplyOut.bad HAP.out, HBS.out _ _ _ _⟩
                        · have h2' : (lv == lv2) = false := by simpa using h2
                          have HKN2 := Lib.hid (HKN.out (by rw [HOV.out, decide_eq_false (fun h => h2 h.2), Bool.false_and]))
                          clear h2 hleq1 hleq2
                          go_wp2
                          go_roundw
                          case rel => exact ⟨k + 1, by omega, by go_num, HB9.out, HKN2⟩
                          case measure => simp [intOf]; omega
                      · have HKN2 := Lib.hid (HKN.out (by rw [HOV.out, decide_eq_false (fun h => h1 h.1), Bool.false_and]))
                        clear hleq1 hleq2
                        go_wp2
                        go_roundw
                        case rel => exact ⟨k + 1, by omega, by go_num, HB9.out, HKN2⟩
                        case measure => simp [intOf]; omega
                    · obtain rfl : t = k := by omega
                      have HSN : Hid (apart (Lb.take (t + 1))) := Lib.hid (apart_take htl HS.out fun k hk => HK.out k hk (by omega))
                      clear hbw
                      go_wp2
                      go_roundw
                      case rel => exact ⟨t + 1, by omega, by go_num, HBK.out, HSN⟩
                      case measure => simp [intOf]; omega
                · obtain rfl : LN = t := by omega
                  have hap : apart Lb := by
                    have := HS.out
                    rwa [List.take_of_length_le (by rw [HLN.out]; exact Nat.le_refl _)] at this
                  have HAQ := Lib.hid (HGD.out hap)
                  have HBW := Lib.hid (HBX.out.trans (HBT.out.mono (by have := HBX.out.size; have := HS0.out; omega)))
                  have hro := (HOU.out.below HBT.out).row
                  rw [HLN.out] at hro
                  have rz := (HBW.out.block (x + 2) (by omega)).trans HRZ.out
                  have z0 : wr.cell? ⟨x + 2, 0, none⟩ = some (.slice none 0 0) := cell_of_row _ _ _ _ _ _ rz
                  have z1 : wr.cell? ⟨x + 2, 1, none⟩ = some (.int .i64 0) := cell_of_row _ _ _ _ _ _ rz
                  have z2 : wr.cell? ⟨x + 2, 2, none⟩ = some (.int .i64 0) := cell_of_row _ _ _ _ _ _ rz
                  have z3 : wr.cell? ⟨x + 2, 3, none⟩ = some (.int .i64 0) := cell_of_row _ _ _ _ _ _ rz
                  have f0 : wr.frozen? ⟨x + 2, 0, none⟩ = false := frozen_of_row _ _ _ _ _ rz
                  have f1 : wr.frozen? ⟨x + 2, 1, none⟩ = false := frozen_of_row _ _ _ _ _ rz
                  have f2 : wr.frozen? ⟨x + 2, 2, none⟩ = false := frozen_of_row _ _ _ _ _ rz
                  have f3 : wr.frozen? ⟨x + 2, 3, none⟩ = false := frozen_of_row _ _ _ _ _ rz
                  have o0 : wr.cell? ⟨o, 0, none⟩ = some (.slice Av LN cvv) := cell_of_row _ _ _ _ _ _ hro
                  have o1 : wr.cell? ⟨o, 1, none⟩ = some (.int .i64 el) := cell_of_row _ _ _ _ _ _ hro
                  have o2 : wr.cell? ⟨o, 2, none⟩ = some (.int .i64 en) := cell_of_row _ _ _ _ _ _ hro
                  have o3 : wr.cell? ⟨o, 3, none⟩ = some (.int .i64 es) := cell_of_row _ _ _ _ _ _ hro
                  have hox : x + 4 ≤ o := HO4.out.1
                  have HBS : Hid (∀ u0 u1 u2 u3, Below w.heap.size w ((((wr.setCell ⟨x + 2, 0, none⟩ u0).setCell ⟨x + 2, 1, none⟩ u1).setCell ⟨x + 2, 2, none⟩ u2).setCell ⟨x + 2, 3, none⟩ u3)) := Lib.hid fun u0 u1 u2 u3 => by
                    have hle : w.heap.size ≤ x + 2 := by have := HX.out; omega
                    exact ((((HLOW.out _ HBW.out).setCell (p := ⟨x + 2, 0, none⟩) hle u0).setCell (p := ⟨x + 2, 1, none⟩) hle u1).setCell (p := ⟨x + 2, 2, none⟩) hle u2).setCell (p := ⟨x + 2, 3, none⟩) hle u3
                  have HIS : Hid (∀ u0 u1 u2 u3, In5 ((((wr.setCell ⟨x + 2, 0, none⟩ u0).setCell ⟨x + 2, 1, none⟩ u1).setCell ⟨x + 2, 2, none⟩ u2).setCell ⟨x + 2, 3, none⟩ u3) Av Lb) := Lib.hid fun u0 u1 u2 u3 => by
                    have hq : ∀ a, Av = some a → a.block ≠ x + 2 := fun a ha => by have := HFB.out a ha; omega
                    exact ((((HI5.out.below HBT.out).grown (grownBy_setCell _ _ _) hq).grown (grownBy_setCell _ _ _) hq).grown (grownBy_setCell _ _ _) hq).grown (grownBy_setCell _ _ _) hq
                  clear rz hro hap co
                  have co := o0
                  go_wp2
                  exact bodyPost_ret (v := .tuple #[.agg #[.slice Av LN cvv, .int .i64 el, .int .i64 en, .int .i64 es], .int .i64 0]) (by simp [results, Try.results11, go_sem, *]) rfl
                    ⟨⟨Av, cvv, by rw [HAQ.out]; simp only; rw [HLN.out, HEN.out.1, HEN.out.2.1, HEN.out.2.2], by rw [HAQ.out]; exact HIS.out _ _ _ _, by rw [HAQ.out]; simp only; rw [HLN.out]; exact HCC.out, fun a ha => by have := HFB.out a ha; have := HX.out; omega⟩, HBS.out _ _ _ _⟩
end Go.Proofs.Ytffdiiolgflbkaa

