/- An edit is read: the program's Get. -/
import Derived.Test.YtfodbblcflolgaaPq
namespace Go.Proofs.Ytfodbblcflolgaa
open Go.RowKit
open VS
attribute [local go_sem ↓] Go.wp_at_zero Go.wp_at_succ

theorem ints_set {w : World} {A : Option Addr} {l : List Int} (h : IntsIn w w.heap.size A l) {x : Nat} (hA : ∀ g, A = some g → g.block ≠ x) (j : Nat) (u : Value) : IntsIn (w.setCell ⟨x, j, none⟩ u) (w.setCell ⟨x, j, none⟩ u).heap.size A l := by
  refine ⟨h.1, fun hn => ?_⟩
  obtain ⟨b, off, rfl, hlt, hc⟩ := h.2 hn
  have hne : b ≠ x := hA _ rfl
  refine ⟨b, off, rfl, by simpa [World.setCell] using hlt, fun i hi => ?_⟩
  rw [← hc i hi]
  unfold World.cell?
  rw [Below.heap_setCell _ _ _ _ hne]
theorem in5_set {w : World} {A : Option Addr} {l : List M} (h : In5 w A l) {x : Nat} (hA : ∀ g, A = some g → g.block ≠ x) (j : Nat) (u : Value) : In5 (w.setCell ⟨x, j, none⟩ u) A l :=
  h.grown (grownBy_setCell w ⟨x, j, none⟩ u) hA
theorem EdIn.one {w : World} {A : Option Addr} {n c : Nat} {D : Option Addr} {m d : Nat} {e : Ed} (h : EdIn w A n c D m d e) {x : Nat} (hA : ∀ g, A = some g → g.block ≠ x) (hD : ∀ g, D = some g → g.block ≠ x) (j : Nat) (u : Value) : EdIn (w.setCell ⟨x, j, none⟩ u) A n c D m d e :=
  ⟨in5_set h.add hA j u, h.alen, h.acap, ints_set h.drop hD j u, h.dlen, h.dcap, h.log, h.next, h.seq⟩
theorem EdIn.five {w : World} {A : Option Addr} {n c : Nat} {D : Option Addr} {m d : Nat} {e : Ed} (h : EdIn w A n c D m d e) {x : Nat} (hA : ∀ g, A = some g → g.block ≠ x) (hD : ∀ g, D = some g → g.block ≠ x) (v0 v1 v2 v3 v4 : Value) : EdIn (((((w.setCell ⟨x, 0, none⟩ v0).setCell ⟨x, 1, none⟩ v1).setCell ⟨x, 2, none⟩ v2).setCell ⟨x, 3, none⟩ v3).setCell ⟨x, 4, none⟩ v4) A n c D m d e :=
  ((((h.one hA hD 0 v0).one hA hD 1 v1).one hA hD 2 v2).one hA hD 3 v3).one hA hD 4 v4

set_option maxRecDepth 100000 in
set_option maxHeartbeats 4000000 in
theorem get14_any (s : ByteArray) (w : World) (hs : s.size ≤ 140737488351232) :
    Calls Try.prog 14 #[.string s] w fun r w' => (∃ A n c D m d, r = .returned (.tuple #[.agg #[.slice A n c, .slice D m d, .int .i64 (rget s.data.toList).1.log, .int .i64 (rget s.data.toList).1.next, .int .i64 (rget s.data.toList).1.seq], .int .i64 (rget s.data.toList).2]) ∧ EdIn w' A n c D m d (rget s.data.toList).1) ∧ Below w.heap.size w w' := by
  have HE := Lib.hid (fun W b (hW : Rd 94 W b s (.ok 0)) => edit_any W b s hW hs)
  have HOK := Lib.hid (re_fair s.data.toList)
  have HRG : Hid (rget s.data.toList = rgetk s.data.toList (re s.data.toList).1 (re s.data.toList).2) := Lib.hid rfl
  have HSL : Hid (s.data.toList.length = s.size) := Lib.hid (by simp)
  obtain ⟨G, hG⟩ : ∃ G, rget s.data.toList = G := ⟨_, rfl⟩
  rw [hG] at HRG ⊢
  obtain ⟨R, hR⟩ : ∃ R, re s.data.toList = R := ⟨_, rfl⟩
  rw [hR] at HE HOK HRG
  obtain ⟨⟨a6, d4, n0, n1, n2⟩, st6⟩ := R
  simp only at HE HOK HRG
  clear hG hR
  go_enter Try.func14, Try.ntmps14
  go_wp2_with fail
  have hb2 : Below w.heap.size w ((w.alloc (.cells #[.slice none 0 0, .slice none 0 0, .int .i64 0, .int .i64 0, .int .i64 0] 36)).alloc (.cells #[.string s, .int .i64 0, .int .i64 0] 94)) := ((Below.refl _ w).alloc (Nat.le_refl _) _).alloc (by simp) _
  have hrx : ((w.alloc (.cells #[.slice none 0 0, .slice none 0 0, .int .i64 0, .int .i64 0, .int .i64 0] 36)).alloc (.cells #[.string s, .int .i64 0, .int .i64 0] 94)).heap[w.heap.size]? = some (.cells #[.slice none 0 0, .slice none 0 0, .int .i64 0, .int .i64 0, .int .i64 0] 36 (0, 0)) := (Below.heap_alloc _ _ _ (by simp)).trans (heap_alloc_new w _)
  have hrb : ((w.alloc (.cells #[.slice none 0 0, .slice none 0 0, .int .i64 0, .int .i64 0, .int .i64 0] 36)).alloc (.cells #[.string s, .int .i64 0, .int .i64 0] 94)).heap[w.heap.size + 1]? = some (.cells #[.string s, .int .i64 0, .int .i64 0] 94 (0, 0)) := by
    have := heap_alloc_new (w.alloc (.cells #[.slice none 0 0, .slice none 0 0, .int .i64 0, .int .i64 0, .int .i64 0] 36)) (.cells #[.string s, .int .i64 0, .int .i64 0] 94)
    simpa using this
  generalize ((w.alloc (.cells #[.slice none 0 0, .slice none 0 0, .int .i64 0, .int .i64 0, .int .i64 0] 36)).alloc (.cells #[.string s, .int .i64 0, .int .i64 0] 94)) = w2 at hb2 hrx hrb ⊢
  obtain ⟨x, hx⟩ : ∃ x, w.heap.size = x := ⟨_, rfl⟩
  rw [hx] at hrx hrb ⊢
  have HX : Hid (w.heap.size = x) := Lib.hid hx
  have HB2 := Lib.hid hb2
  have HRX2 := Lib.hid hrx
  have HRD2 : Hid (Rd 94 w2 (x + 1) s (.ok 0)) := Lib.hid ⟨0, 0, hrb, rfl, rfl⟩
  clear hb2 hrx hrb hx
  refine (HE.out _ _ HRD2.out).mono ?_
  rintro r w3 ⟨⟨An, na, cn, Dn, nd, dn, rfl, hed, hAA, hDD⟩, hrd, hg⟩
  have HAX : Hid ((∀ g, An = some g → g.block ≠ x) ∧ (∀ g, Dn = some g → g.block ≠ x)) := Lib.hid ⟨fun g h => by have := hAA g h; have := (Array.getElem?_eq_some_iff.1 HRX2.out).1; omega, fun g h => by have := hDD g h; have := (Array.getElem?_eq_some_iff.1 HRX2.out).1; omega⟩
  clear hAA hDD
  have hrx := (hg.block x (Array.getElem?_eq_some_iff.1 HRX2.out).1 (by simp)).trans HRX2.out
  have hb3 : Below w.heap.size w w3 := below_call HB2.out hg (by have := HX.out; omega)
  go_upto_region 3 with fail
  have hal := (Below.refl w3.heap.size w3).alloc (Nat.le_refl _) (.cells #[.slice An na cn, .slice Dn nd dn, .int .i64 n0, .int .i64 n1, .int .i64 n2] 36)
  have hre := heap_alloc_new w3 (.cells #[.slice An na cn, .slice Dn nd dn, .int .i64 n0, .int .i64 n1, .int .i64 n2] 36)
  have hrx4 := (hal.block x (Array.getElem?_eq_some_iff.1 hrx).1).trans hrx
  have hrd4 := hrd.below hal
  have hed4 := hed.below hal
  have hb4 := hb3.trans (hal.mono hb3.size)
  have hxl := (Array.getElem?_eq_some_iff.1 hrx).1
  have hbl := hrd.lt
  generalize w3.alloc (.cells #[.slice An na cn, .slice Dn nd dn, .int .i64 n0, .int .i64 n1, .int .i64 n2] 36) = w4 at hal hre hrx4 hrd4 hed4 hb4 ⊢
  obtain ⟨y, hy⟩ : ∃ y, w3.heap.size = y := ⟨_, rfl⟩
  rw [hy] at hre hxl hbl ⊢
  obtain ⟨b, hbb⟩ : ∃ b, x + 1 = b := ⟨_, rfl⟩
  rw [hbb] at hrd4 hbl ⊢
  have HNE : Hid (x ≠ b ∧ w.heap.size ≤ x ∧ w.heap.size ≤ b) := Lib.hid (by have := HX.out; omega)
  obtain ⟨a, f, hrow, hst⟩ := hrd4
  have c1 : w4.cell? ⟨b, 1, none⟩ = some (.int .i64 a) := cell_of_row _ _ _ _ _ _ hrow
  have c2 : w4.cell? ⟨b, 2, none⟩ = some (.int .i64 f) := cell_of_row _ _ _ _ _ _ hrow
  have cf : w4.frozen? ⟨b, 2, none⟩ = false := frozen_of_row _ _ _ _ _ hrow
  have e0 : w4.cell? ⟨y, 0, none⟩ = some (.slice An na cn) := cell_of_row _ _ _ _ _ _ hre
  have e1 : w4.cell? ⟨y, 1, none⟩ = some (.slice Dn nd dn) := cell_of_row _ _ _ _ _ _ hre
  have e2 : w4.cell? ⟨y, 2, none⟩ = some (.int .i64 n0) := cell_of_row _ _ _ _ _ _ hre
  have e3 : w4.cell? ⟨y, 3, none⟩ = some (.int .i64 n1) := cell_of_row _ _ _ _ _ _ hre
  have e4 : w4.cell? ⟨y, 4, none⟩ = some (.int .i64 n2) := cell_of_row _ _ _ _ _ _ hre
  have k0 : w4.cell? ⟨x, 0, none⟩ = some (.slice none 0 0) := cell_of_row _ _ _ _ _ _ hrx4
  have k1 : w4.cell? ⟨x, 1, none⟩ = some (.slice none 0 0) := cell_of_row _ _ _ _ _ _ hrx4
  have k2 : w4.cell? ⟨x, 2, none⟩ = some (.int .i64 0) := cell_of_row _ _ _ _ _ _ hrx4
  have k3 : w4.cell? ⟨x, 3, none⟩ = some (.int .i64 0) := cell_of_row _ _ _ _ _ _ hrx4
  have k4 : w4.cell? ⟨x, 4, none⟩ = some (.int .i64 0) := cell_of_row _ _ _ _ _ _ hrx4
  have g0 : w4.frozen? ⟨x, 0, none⟩ = false := frozen_of_row _ _ _ _ _ hrx4
  have g1 : w4.frozen? ⟨x, 1, none⟩ = false := frozen_of_row _ _ _ _ _ hrx4
  have g2 : w4.frozen? ⟨x, 2, none⟩ = false := frozen_of_row _ _ _ _ _ hrx4
  have g3 : w4.frozen? ⟨x, 3, none⟩ = false := frozen_of_row _ _ _ _ _ hrx4
  have g4 : w4.frozen? ⟨x, 4, none⟩ = false := frozen_of_row _ _ _ _ _ hrx4
  have HED4 := Lib.hid hed4
  have HB4 := Lib.hid hb4
  have HROW := Lib.hid hrow
  have HRX4 := Lib.hid hrx4
  have HFIN : Hid (∀ v0 v1 v2 v3 v4, Below w.heap.size w (((((w4.setCell ⟨x, 0, none⟩ v0).setCell ⟨x, 1, none⟩ v1).setCell ⟨x, 2, none⟩ v2).setCell ⟨x, 3, none⟩ v3).setCell ⟨x, 4, none⟩ v4)) := Lib.hid fun v0 v1 v2 v3 v4 => five_below HB4.out x HNE.out.2.1 v0 v1 v2 v3 v4
  have HEN : Hid (∀ W, EdIn W none 0 0 none 0 0 noEd) := Lib.hid fun W => ⟨In5.nil _ _, rfl, Nat.le_refl _, ⟨by simp [noEd], by simp [noEd]⟩, rfl, Nat.le_refl _, i64_zero, i64_zero, i64_zero⟩
  clear hal hre hrx hrx4 hrow hed4 hb4 hb3 hed hrd hg hy hxl hbl hbb HRD2 HRX2 HB2 HE
  cases st6 with
  | error c =>
    obtain rfl : f = c := hst
    have hG : G = (noEd, f) := HRG.out
    subst hG
    have hc : (f != 0) = true := by have := HOK.out.1.1; simp; omega
    have hc2 : (f == 0) = false := by have := HOK.out.1.1; simp; omega
    clear HRG
    have hne : x ≠ b := HNE.out.1
    have hne2 : b ≠ x := Ne.symm hne
    have u2 := five_ne w4 x b 2 hne2 (.slice none 0 0) (.slice none 0 0) (.int .i64 0) (.int .i64 0) (.int .i64 0) _ c2
    go_wp2_with fail
    go_region
    all_goals
      go_wp2
      refine bodyPost_ret (v := .tuple #[.agg #[.slice none 0 0, .slice none 0 0, .int .i64 0, .int .i64 0, .int .i64 0], .int .i64 f]) (by simp [results, Try.results14, go_sem, *]) rfl ⟨⟨none, 0, 0, none, 0, 0, rfl, HEN.out _⟩, ?_⟩
      first | exact below_drewN (HFIN.out _ _ _ _ _) 1 | exact HFIN.out _ _ _ _ _
  | ok p =>
    obtain ⟨rfl, rfl⟩ := hst
    have HSZL := HSL.out
    by_cases hlt : a < (s.size : Int)
    · have hG : G = (noEd, 4) := by rw [HRG.out]; unfold rgetk; simp only; rw [if_pos (by rw [HSZL]; exact hlt)]
      subst hG
      clear HRG HSZL
      go_upto_region 5 with fail
      have hrow := heap_set_fr HROW.out 2 (.int .i64 4)
      have hrx : (w4.setCell ⟨b, 2, none⟩ (.int .i64 4)).heap[x]? = some (.cells #[.slice none 0 0, .slice none 0 0, .int .i64 0, .int .i64 0, .int .i64 0] 36 (0, 0)) := by rw [Below.heap_setCell _ _ _ _ HNE.out.1]; exact HRX4.out
      have hb5 : Below w.heap.size w (w4.setCell ⟨b, 2, none⟩ (.int .i64 4)) := HB4.out.setCell (p := ⟨b, 2, none⟩) HNE.out.2.2 _
      clear k0 k1 k2 k3 k4 g0 g1 g2 g3 g4 c1 c2 cf e0 e1 e2 e3 e4 HFIN
      generalize w4.setCell ⟨b, 2, none⟩ (.int .i64 4) = w5 at hrow hrx hb5 ⊢
      have c2 : w5.cell? ⟨b, 2, none⟩ = some (.int .i64 4) := cell_of_row _ _ _ _ _ _ hrow
      have k0 : w5.cell? ⟨x, 0, none⟩ = some (.slice none 0 0) := cell_of_row _ _ _ _ _ _ hrx
      have k1 : w5.cell? ⟨x, 1, none⟩ = some (.slice none 0 0) := cell_of_row _ _ _ _ _ _ hrx
      have k2 : w5.cell? ⟨x, 2, none⟩ = some (.int .i64 0) := cell_of_row _ _ _ _ _ _ hrx
      have k3 : w5.cell? ⟨x, 3, none⟩ = some (.int .i64 0) := cell_of_row _ _ _ _ _ _ hrx
      have k4 : w5.cell? ⟨x, 4, none⟩ = some (.int .i64 0) := cell_of_row _ _ _ _ _ _ hrx
      have g0 : w5.frozen? ⟨x, 0, none⟩ = false := frozen_of_row _ _ _ _ _ hrx
      have g1 : w5.frozen? ⟨x, 1, none⟩ = false := frozen_of_row _ _ _ _ _ hrx
      have g2 : w5.frozen? ⟨x, 2, none⟩ = false := frozen_of_row _ _ _ _ _ hrx
      have g3 : w5.frozen? ⟨x, 3, none⟩ = false := frozen_of_row _ _ _ _ _ hrx
      have g4 : w5.frozen? ⟨x, 4, none⟩ = false := frozen_of_row _ _ _ _ _ hrx
      have HFIN : Hid (∀ v0 v1 v2 v3 v4, Below w.heap.size w (((((w5.setCell ⟨x, 0, none⟩ v0).setCell ⟨x, 1, none⟩ v1).setCell ⟨x, 2, none⟩ v2).setCell ⟨x, 3, none⟩ v3).setCell ⟨x, 4, none⟩ v4)) := Lib.hid fun v0 v1 v2 v3 v4 => five_below hb5 x HNE.out.2.1 v0 v1 v2 v3 v4
      clear hrow hrx hb5
      have hne : x ≠ b := HNE.out.1
      have hne2 : b ≠ x := Ne.symm hne
      have u2 := five_ne w5 x b 2 hne2 (.slice none 0 0) (.slice none 0 0) (.int .i64 0) (.int .i64 0) (.int .i64 0) _ c2
      go_wp2_with fail
      go_region
      all_goals
        go_wp2
        refine bodyPost_ret (v := .tuple #[.agg #[.slice none 0 0, .slice none 0 0, .int .i64 0, .int .i64 0, .int .i64 0], .int .i64 4]) (by simp [results, Try.results14, go_sem, *]) rfl ⟨⟨none, 0, 0, none, 0, 0, rfl, HEN.out _⟩, ?_⟩
        first | exact below_drewN (HFIN.out _ _ _ _ _) 1 | exact HFIN.out _ _ _ _ _
    · have hG : G = (⟨a6, d4, n0, n1, n2⟩, 0) := by rw [HRG.out]; unfold rgetk; simp only; rw [if_neg (by rw [HSZL]; exact hlt)]
      subst hG
      clear HRG HSZL
      go_wp2
      refine bodyPost_ret (v := .tuple #[.agg #[.slice An na cn, .slice Dn nd dn, .int .i64 n0, .int .i64 n1, .int .i64 n2], .int .i64 0]) (by simp [results, Try.results14, go_sem, *]) rfl ⟨⟨An, na, cn, Dn, nd, dn, rfl, ?_⟩, ?_⟩
      · exact HED4.out.five HAX.out.1 HAX.out.2 _ _ _ _ _
      · exact HFIN.out _ _ _ _ _
end Go.Proofs.Ytfodbblcflolgaa
