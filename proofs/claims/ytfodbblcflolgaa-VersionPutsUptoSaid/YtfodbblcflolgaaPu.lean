/- VersionPuts: the walk. Made by gen_pu.py. -/
import Derived.Test.YtfodbblcflolgaaPt
import Derived.Test.YtfodbblcflolgaaLa
import Derived.Test.YtfodbblcflolgaaLw
import Derived.Deep.RegionHeld3
import Derived.Deep.CutRange
namespace Go.Proofs.Ytfodbblcflolgaa
open Go.RowKit Go.Maps
open VS
attribute [local go_sem ↓] Go.wp_at_zero Go.wp_at_succ
namespace lawPuts
set_option maxRecDepth 100000 in
set_option maxHeartbeats 4000000 in
theorem walk (A : Option Addr) (n c : Nat) (D : Option Addr) (m d : Nat) (e : Ed) (s : ByteArray) (w : World) (he : EdIn w A n c D m d e) (hsum : (e.add.map M.wt).sum ≤ 1048576) (hn : n ≤ 1048576) (hm : m ≤ 1048576) (hs : s.size ≤ 1048576) :
    Calls Try.prog 4 #[.agg #[.slice A n c, .slice D m d, .int .i64 e.log, .int .i64 e.next, .int .i64 e.seq], .string s] w fun r w' => r = .returned (.bool true) ∧ Below w.heap.size w w' := by
  have hsl : s.data.toList.length = s.size := by simp
  obtain ⟨ho3, hs3⟩ := rget_ok s.data.toList
  rw [hsl] at hs3
  have HG := Lib.hid (fun W => get14_any s W (by omega))
  have HR := Lib.hid (fun W => rget14_any s W (by omega))
  obtain ⟨⟨e3, code⟩, hG⟩ : ∃ G, rget s.data.toList = G := ⟨_, rfl⟩
  rw [hG] at ho3 hs3 HG HR
  simp only at ho3 hs3 HG HR
  have PA := Lib.hid (fun A1 c1 D1 d1 W (hW : EdIn W A1 n c1 D1 m d1 e) => put14_any A1 n c1 D1 m d1 e W hW hsum hn hm)
  have PB := Lib.hid (fun A1 c1 D1 d1 W (hW : EdIn W A1 n c1 D1 m d1 e) => rput14_any A1 n c1 D1 m d1 e W hW hsum hn hm)
  have PC := Lib.hid (fun A1 n1 c1 D1 m1 d1 W (hW : EdIn W A1 n1 c1 D1 m1 d1 e3) => put14_any A1 n1 c1 D1 m1 d1 e3 W hW (by omega) (by have := ho3.alen; rw [hW.alen] at this; omega) (by have := ho3.dlen; rw [hW.dlen] at this; omega))
  have PD := Lib.hid (fun A1 n1 c1 D1 m1 d1 W (hW : EdIn W A1 n1 c1 D1 m1 d1 e3) => rput14_any A1 n1 c1 D1 m1 d1 e3 W hW (by omega) (by have := ho3.alen; rw [hW.alen] at this; omega) (by have := ho3.dlen; rw [hW.dlen] at this; omega))
  have HED := Lib.hid (fun W (hW : EdIn W A n c D m d e) => edits_any A n c D m d e W hW (by omega) (by omega))
  have HEI := Lib.hid he
  have HWK0 := Lib.hid wakes_any
  obtain ⟨X1, hX1⟩ : ∃ X : ByteArray, ⟨(encE e).toArray⟩ = X := ⟨_, rfl⟩
  obtain ⟨X3, hX3⟩ : ∃ X : ByteArray, ⟨(encE e3).toArray⟩ = X := ⟨_, rfl⟩
  rw [hX1] at PA PB
  rw [hX3] at PC PD
  clear ho3 hs3 hsum hX1 hX3 hG he hsl
  obtain ⟨al, dl, lg, nx, sq⟩ := e
  obtain ⟨al3, dl3, lg3, nx3, sq3⟩ := e3
  simp only at PA PB PC PD HED HEI HG HR ⊢
  go_enter Try.func4, Try.ntmps4
  go_wp2_with fail
  have hal := (Below.refl w.heap.size w).alloc (Nat.le_refl _) (.cells #[.slice A n c, .slice D m d, .int .i64 lg, .int .i64 nx, .int .i64 sq] 33)
  have HEI0 := Lib.hid (HEI.out.below hal)
  have HBE0 : Hid (Below w.heap.size w (w.alloc (.cells #[.slice A n c, .slice D m d, .int .i64 lg, .int .i64 nx, .int .i64 sq] 33))) := Lib.hid hal
  generalize w.alloc (.cells #[.slice A n c, .slice D m d, .int .i64 lg, .int .i64 nx, .int .i64 sq] 33) = w0 at hal HEI0 HBE0 ⊢
  clear hal
  refine (HED.out _ HEI0.out).mono ?_
  rintro r w1 ⟨A1, c1, D1, d1, A2, c2, D2, d2, rfl, he1, he2, hb1⟩
  have HBE1 : Hid (Below w.heap.size w w1) := Lib.hid (HBE0.out.trans (hb1.mono HBE0.out.size))
  go_upto_region 2 with fail
  have hal := ((Below.refl w1.heap.size w1).alloc (Nat.le_refl _) (.cells #[.slice A1 n c1, .slice D1 m d1, .int .i64 lg, .int .i64 nx, .int .i64 sq] 36)).alloc (by simp) (.cells #[.slice A2 n c2, .slice D2 m d2, .int .i64 lg, .int .i64 nx, .int .i64 sq] 38)
  have hra : ((w1.alloc (.cells #[.slice A1 n c1, .slice D1 m d1, .int .i64 lg, .int .i64 nx, .int .i64 sq] 36)).alloc (.cells #[.slice A2 n c2, .slice D2 m d2, .int .i64 lg, .int .i64 nx, .int .i64 sq] 38)).heap[w1.heap.size]? = some (.cells #[.slice A1 n c1, .slice D1 m d1, .int .i64 lg, .int .i64 nx, .int .i64 sq] 36 (0, 0)) := (Below.heap_alloc _ _ _ (by simp)).trans (heap_alloc_new w1 _)
  have hrb : ((w1.alloc (.cells #[.slice A1 n c1, .slice D1 m d1, .int .i64 lg, .int .i64 nx, .int .i64 sq] 36)).alloc (.cells #[.slice A2 n c2, .slice D2 m d2, .int .i64 lg, .int .i64 nx, .int .i64 sq] 38)).heap[w1.heap.size + 1]? = some (.cells #[.slice A2 n c2, .slice D2 m d2, .int .i64 lg, .int .i64 nx, .int .i64 sq] 38 (0, 0)) := by
    have := heap_alloc_new (w1.alloc (.cells #[.slice A1 n c1, .slice D1 m d1, .int .i64 lg, .int .i64 nx, .int .i64 sq] 36)) (.cells #[.slice A2 n c2, .slice D2 m d2, .int .i64 lg, .int .i64 nx, .int .i64 sq] 38)
    simpa using this
  have HE1 := Lib.hid (he1.below hal)
  have HE2 := Lib.hid (he2.below hal)
  have HBE2 : Hid (Below w.heap.size w ((w1.alloc (.cells #[.slice A1 n c1, .slice D1 m d1, .int .i64 lg, .int .i64 nx, .int .i64 sq] 36)).alloc (.cells #[.slice A2 n c2, .slice D2 m d2, .int .i64 lg, .int .i64 nx, .int .i64 sq] 38))) := Lib.hid (HBE1.out.trans (hal.mono HBE1.out.size))
  generalize (w1.alloc (.cells #[.slice A1 n c1, .slice D1 m d1, .int .i64 lg, .int .i64 nx, .int .i64 sq] 36)).alloc (.cells #[.slice A2 n c2, .slice D2 m d2, .int .i64 lg, .int .i64 nx, .int .i64 sq] 38) = w2 at hal hra hrb HE1 HE2 HBE2 ⊢
  obtain ⟨p, hp⟩ : ∃ p, w1.heap.size = p := ⟨_, rfl⟩
  rw [hp] at hra hrb ⊢
  have HRA := Lib.hid hra
  have HRB := Lib.hid hrb
  clear hal hra hrb hp hb1 he1 he2
  go_wp2_with fail
  refine (HG.out _).mono ?_
  rintro r w3 ⟨⟨A3, n3, c3, D3, m3, d3, rfl, he3⟩, hb3⟩
  go_upto_region 3 with fail
  have hal := (Below.refl w3.heap.size w3).alloc (Nat.le_refl _) (.cells #[.slice A3 n3 c3, .slice D3 m3 d3, .int .i64 lg3, .int .i64 nx3, .int .i64 sq3] 36)
  have hb4 := hb3.trans (hal.mono hb3.size)
  have hrc := heap_alloc_new w3 (.cells #[.slice A3 n3 c3, .slice D3 m3 d3, .int .i64 lg3, .int .i64 nx3, .int .i64 sq3] 36)
  have HE3 := Lib.hid (he3.below hal)
  have HE1' := Lib.hid (HE1.out.below hb4)
  have HE2' := Lib.hid (HE2.out.below hb4)
  have HRA' := Lib.hid ((hb4.block p (Array.getElem?_eq_some_iff.1 HRA.out).1).trans HRA.out)
  have HRB' := Lib.hid ((hb4.block (p + 1) (Array.getElem?_eq_some_iff.1 HRB.out).1).trans HRB.out)
  have HBE3 : Hid (Below w.heap.size w (w3.alloc (.cells #[.slice A3 n3 c3, .slice D3 m3 d3, .int .i64 lg3, .int .i64 nx3, .int .i64 sq3] 36))) := Lib.hid (HBE2.out.trans (hb4.mono HBE2.out.size))
  generalize w3.alloc (.cells #[.slice A3 n3 c3, .slice D3 m3 d3, .int .i64 lg3, .int .i64 nx3, .int .i64 sq3] 36) = wq at hal hb4 hrc HE3 HE1' HE2' HRA' HRB' HBE3 ⊢
  obtain ⟨x, hx⟩ : ∃ x, w3.heap.size = x := ⟨_, rfl⟩
  rw [hx] at hrc ⊢
  have HRC := Lib.hid hrc
  clear hal hb4 hrc hx hb3 he3
  go_wp2_with fail
  refine (HR.out _).mono ?_
  rintro r w3' ⟨⟨A4, n4, c4, D4, m4, d4, rfl, he4⟩, hb3⟩
  go_upto_region 4 with fail
  have hal := (Below.refl w3'.heap.size w3').alloc (Nat.le_refl _) (.cells #[.slice A4 n4 c4, .slice D4 m4 d4, .int .i64 lg3, .int .i64 nx3, .int .i64 sq3] 38)
  have hb4 := hb3.trans (hal.mono hb3.size)
  have hrd := heap_alloc_new w3' (.cells #[.slice A4 n4 c4, .slice D4 m4 d4, .int .i64 lg3, .int .i64 nx3, .int .i64 sq3] 38)
  have HE4 := Lib.hid (he4.below hal)
  have HE3' := Lib.hid (HE3.out.below hb4)
  have HE1'' := Lib.hid (HE1'.out.below hb4)
  have HE2'' := Lib.hid (HE2'.out.below hb4)
  have hra := (hb4.block p (Array.getElem?_eq_some_iff.1 HRA'.out).1).trans HRA'.out
  have hrb := (hb4.block (p + 1) (Array.getElem?_eq_some_iff.1 HRB'.out).1).trans HRB'.out
  have hrc := (hb4.block x (Array.getElem?_eq_some_iff.1 HRC.out).1).trans HRC.out
  have HBE4 : Hid (Below w.heap.size w (w3'.alloc (.cells #[.slice A4 n4 c4, .slice D4 m4 d4, .int .i64 lg3, .int .i64 nx3, .int .i64 sq3] 38))) := Lib.hid (HBE3.out.trans (hb4.mono HBE3.out.size))
  generalize w3'.alloc (.cells #[.slice A4 n4 c4, .slice D4 m4 d4, .int .i64 lg3, .int .i64 nx3, .int .i64 sq3] 38) = w4 at hal hb4 hrd HE4 HE3' HE1'' HE2'' hra hrb hrc HBE4 ⊢
  obtain ⟨y, hy⟩ : ∃ y, w3'.heap.size = y := ⟨_, rfl⟩
  rw [hy] at hrd ⊢
  obtain ⟨B, hB⟩ : ∃ B, w4.heap.size = B := ⟨_, rfl⟩
  have HBS := Lib.hid hB
  have HLT : Hid (p < B ∧ p + 1 < B ∧ x < B ∧ y < B) := Lib.hid (by rw [← hB]; exact ⟨(Array.getElem?_eq_some_iff.1 hra).1, (Array.getElem?_eq_some_iff.1 hrb).1, (Array.getElem?_eq_some_iff.1 hrc).1, (Array.getElem?_eq_some_iff.1 hrd).1⟩)
  have HROW : Hid (∀ W, Below B w4 W → W.heap[p]? = some (.cells #[.slice A1 n c1, .slice D1 m d1, .int .i64 lg, .int .i64 nx, .int .i64 sq] 36 (0, 0)) ∧ W.heap[p + 1]? = some (.cells #[.slice A2 n c2, .slice D2 m d2, .int .i64 lg, .int .i64 nx, .int .i64 sq] 38 (0, 0)) ∧ W.heap[x]? = some (.cells #[.slice A3 n3 c3, .slice D3 m3 d3, .int .i64 lg3, .int .i64 nx3, .int .i64 sq3] 36 (0, 0)) ∧ W.heap[y]? = some (.cells #[.slice A4 n4 c4, .slice D4 m4 d4, .int .i64 lg3, .int .i64 nx3, .int .i64 sq3] 38 (0, 0))) := Lib.hid fun W h => ⟨(h.block p HLT.out.1).trans hra, (h.block (p + 1) HLT.out.2.1).trans hrb, (h.block x HLT.out.2.2.1).trans hrc, (h.block y HLT.out.2.2.2).trans hrd⟩
  have HSTEP : Hid (∀ W W', Below B w4 W → Below W.heap.size W W' → Below B w4 W') := Lib.hid fun W W' h1 h2 => h1.trans (h2.mono (by have := h1.size; have := HBS.out; omega))
  have HEND : Hid (∀ W, Below B w4 W → Below w.heap.size w W) := Lib.hid fun W h => HBE4.out.trans (h.mono (by have := HBE4.out.size; have := HBS.out; omega))
  have HPA : Hid (∀ W, Below B w4 W → Calls Try.prog 16 #[.agg #[.slice A1 n c1, .slice D1 m d1, .int .i64 lg, .int .i64 nx, .int .i64 sq]] W fun r w' => r = .returned (.string X1) ∧ Below W.heap.size W w') := Lib.hid fun W hW => PA.out A1 c1 D1 d1 W (HE1''.out.below (by rw [HBS.out]; exact hW))
  have HPB : Hid (∀ W, Below B w4 W → Calls Try.prog 17 #[.agg #[.slice A2 n c2, .slice D2 m d2, .int .i64 lg, .int .i64 nx, .int .i64 sq]] W fun r w' => r = .returned (.string X1) ∧ Below W.heap.size W w') := Lib.hid fun W hW => PB.out A2 c2 D2 d2 W (HE2''.out.below (by rw [HBS.out]; exact hW))
  have HPC : Hid (∀ W, Below B w4 W → Calls Try.prog 16 #[.agg #[.slice A3 n3 c3, .slice D3 m3 d3, .int .i64 lg3, .int .i64 nx3, .int .i64 sq3]] W fun r w' => r = .returned (.string X3) ∧ Below W.heap.size W w') := Lib.hid fun W hW => PC.out A3 n3 c3 D3 m3 d3 W (HE3'.out.below (by rw [HBS.out]; exact hW))
  have HPD : Hid (∀ W, Below B w4 W → Calls Try.prog 17 #[.agg #[.slice A4 n4 c4, .slice D4 m4 d4, .int .i64 lg3, .int .i64 nx3, .int .i64 sq3]] W fun r w' => r = .returned (.string X3) ∧ Below W.heap.size W w') := Lib.hid fun W hW => PD.out A4 n4 c4 D4 m4 d4 W (HE4.out.below (by rw [HBS.out]; exact hW))
  have HWK : Hid (∀ W, Below B w4 W → Calls Try.prog 13 #[] W fun r w' => r = .returned (.bool true) ∧ Below W.heap.size W w') := Lib.hid fun W _ => HWK0.out W
  have HB0 : Hid (Below B w4 w4.drew) := Lib.hid (Below.refl _ _).drew
  have HS0 : Hid (w4.drew.cell? ⟨p, 0, none⟩ = some (.slice A1 n c1) ∧ w4.drew.cell? ⟨p, 1, none⟩ = some (.slice D1 m d1) ∧ w4.drew.cell? ⟨p, 2, none⟩ = some (.int .i64 lg) ∧ w4.drew.cell? ⟨p, 3, none⟩ = some (.int .i64 nx) ∧ w4.drew.cell? ⟨p, 4, none⟩ = some (.int .i64 sq) ∧ w4.drew.cell? ⟨p + 1, 0, none⟩ = some (.slice A2 n c2) ∧ w4.drew.cell? ⟨p + 1, 1, none⟩ = some (.slice D2 m d2) ∧ w4.drew.cell? ⟨p + 1, 2, none⟩ = some (.int .i64 lg) ∧ w4.drew.cell? ⟨p + 1, 3, none⟩ = some (.int .i64 nx) ∧ w4.drew.cell? ⟨p + 1, 4, none⟩ = some (.int .i64 sq) ∧ w4.drew.cell? ⟨x, 0, none⟩ = some (.slice A3 n3 c3) ∧ w4.drew.cell? ⟨x, 1, none⟩ = some (.slice D3 m3 d3) ∧ w4.drew.cell? ⟨x, 2, none⟩ = some (.int .i64 lg3) ∧ w4.drew.cell? ⟨x, 3, none⟩ = some (.int .i64 nx3) ∧ w4.drew.cell? ⟨x, 4, none⟩ = some (.int .i64 sq3) ∧ w4.drew.cell? ⟨y, 0, none⟩ = some (.slice A4 n4 c4) ∧ w4.drew.cell? ⟨y, 1, none⟩ = some (.slice D4 m4 d4) ∧ w4.drew.cell? ⟨y, 2, none⟩ = some (.int .i64 lg3) ∧ w4.drew.cell? ⟨y, 3, none⟩ = some (.int .i64 nx3) ∧ w4.drew.cell? ⟨y, 4, none⟩ = some (.int .i64 sq3)) := by
    have h := HROW.out _ HB0.out
    exact Lib.hid ⟨cell_of_row _ _ _ _ _ _ h.1, cell_of_row _ _ _ _ _ _ h.1, cell_of_row _ _ _ _ _ _ h.1, cell_of_row _ _ _ _ _ _ h.1, cell_of_row _ _ _ _ _ _ h.1, cell_of_row _ _ _ _ _ _ h.2.1, cell_of_row _ _ _ _ _ _ h.2.1, cell_of_row _ _ _ _ _ _ h.2.1, cell_of_row _ _ _ _ _ _ h.2.1, cell_of_row _ _ _ _ _ _ h.2.1, cell_of_row _ _ _ _ _ _ h.2.2.1, cell_of_row _ _ _ _ _ _ h.2.2.1, cell_of_row _ _ _ _ _ _ h.2.2.1, cell_of_row _ _ _ _ _ _ h.2.2.1, cell_of_row _ _ _ _ _ _ h.2.2.1, cell_of_row _ _ _ _ _ _ h.2.2.2, cell_of_row _ _ _ _ _ _ h.2.2.2, cell_of_row _ _ _ _ _ _ h.2.2.2, cell_of_row _ _ _ _ _ _ h.2.2.2, cell_of_row _ _ _ _ _ _ h.2.2.2⟩
  have hxx1 : (X1.toList == X1.toList) = true := by simp
  have hxx3 : (X3.toList == X3.toList) = true := by simp
  have hcc : (code == code) = true := by simp
  clear hal hb4 hrd hra hrb hrc hy hB hb3 he4 HE1 HE2 HE1' HE2' HRA HRB HRA' HRB' HRC HE3 HED HEI HEI0 HG HR PA PB PC PD HBE0 HBE1 HBE2 HBE3 HE1'' HE2'' HE3' HE4
  go_wp2_with fail
  go_region_held3 (fun s => s.cell? ⟨p, 0, none⟩ = some (.slice A1 n c1) ∧ s.cell? ⟨p, 1, none⟩ = some (.slice D1 m d1) ∧ s.cell? ⟨p, 2, none⟩ = some (.int .i64 lg) ∧ s.cell? ⟨p, 3, none⟩ = some (.int .i64 nx) ∧ s.cell? ⟨p, 4, none⟩ = some (.int .i64 sq) ∧ s.cell? ⟨p + 1, 0, none⟩ = some (.slice A2 n c2) ∧ s.cell? ⟨p + 1, 1, none⟩ = some (.slice D2 m d2) ∧ s.cell? ⟨p + 1, 2, none⟩ = some (.int .i64 lg) ∧ s.cell? ⟨p + 1, 3, none⟩ = some (.int .i64 nx) ∧ s.cell? ⟨p + 1, 4, none⟩ = some (.int .i64 sq) ∧ s.cell? ⟨x, 0, none⟩ = some (.slice A3 n3 c3) ∧ s.cell? ⟨x, 1, none⟩ = some (.slice D3 m3 d3) ∧ s.cell? ⟨x, 2, none⟩ = some (.int .i64 lg3) ∧ s.cell? ⟨x, 3, none⟩ = some (.int .i64 nx3) ∧ s.cell? ⟨x, 4, none⟩ = some (.int .i64 sq3) ∧ s.cell? ⟨y, 0, none⟩ = some (.slice A4 n4 c4) ∧ s.cell? ⟨y, 1, none⟩ = some (.slice D4 m4 d4) ∧ s.cell? ⟨y, 2, none⟩ = some (.int .i64 lg3) ∧ s.cell? ⟨y, 3, none⟩ = some (.int .i64 nx3) ∧ s.cell? ⟨y, 4, none⟩ = some (.int .i64 sq3))
    (first | with_reducible exact HS5.out | with_reducible exact HS4.out | with_reducible exact HS3.out | with_reducible exact HS2.out | with_reducible exact HS1.out | with_reducible exact HS0.out | go_keep | fail)
    (first
      | (have h := HB4.out
         go_at_call 16
         with_reducible refine (HPC.out _ h).mono ?_
         rintro r w9 ⟨rfl, hb⟩
         have HB5 : Hid (Below B w4 w9) := Lib.hid (HSTEP.out _ _ h hb)
         have HS5 : Hid (w9.cell? ⟨p, 0, none⟩ = some (.slice A1 n c1) ∧ w9.cell? ⟨p, 1, none⟩ = some (.slice D1 m d1) ∧ w9.cell? ⟨p, 2, none⟩ = some (.int .i64 lg) ∧ w9.cell? ⟨p, 3, none⟩ = some (.int .i64 nx) ∧ w9.cell? ⟨p, 4, none⟩ = some (.int .i64 sq) ∧ w9.cell? ⟨p + 1, 0, none⟩ = some (.slice A2 n c2) ∧ w9.cell? ⟨p + 1, 1, none⟩ = some (.slice D2 m d2) ∧ w9.cell? ⟨p + 1, 2, none⟩ = some (.int .i64 lg) ∧ w9.cell? ⟨p + 1, 3, none⟩ = some (.int .i64 nx) ∧ w9.cell? ⟨p + 1, 4, none⟩ = some (.int .i64 sq) ∧ w9.cell? ⟨x, 0, none⟩ = some (.slice A3 n3 c3) ∧ w9.cell? ⟨x, 1, none⟩ = some (.slice D3 m3 d3) ∧ w9.cell? ⟨x, 2, none⟩ = some (.int .i64 lg3) ∧ w9.cell? ⟨x, 3, none⟩ = some (.int .i64 nx3) ∧ w9.cell? ⟨x, 4, none⟩ = some (.int .i64 sq3) ∧ w9.cell? ⟨y, 0, none⟩ = some (.slice A4 n4 c4) ∧ w9.cell? ⟨y, 1, none⟩ = some (.slice D4 m4 d4) ∧ w9.cell? ⟨y, 2, none⟩ = some (.int .i64 lg3) ∧ w9.cell? ⟨y, 3, none⟩ = some (.int .i64 nx3) ∧ w9.cell? ⟨y, 4, none⟩ = some (.int .i64 sq3)) := by
           have h := HROW.out _ HB5.out
           exact Lib.hid ⟨cell_of_row _ _ _ _ _ _ h.1, cell_of_row _ _ _ _ _ _ h.1, cell_of_row _ _ _ _ _ _ h.1, cell_of_row _ _ _ _ _ _ h.1, cell_of_row _ _ _ _ _ _ h.1, cell_of_row _ _ _ _ _ _ h.2.1, cell_of_row _ _ _ _ _ _ h.2.1, cell_of_row _ _ _ _ _ _ h.2.1, cell_of_row _ _ _ _ _ _ h.2.1, cell_of_row _ _ _ _ _ _ h.2.1, cell_of_row _ _ _ _ _ _ h.2.2.1, cell_of_row _ _ _ _ _ _ h.2.2.1, cell_of_row _ _ _ _ _ _ h.2.2.1, cell_of_row _ _ _ _ _ _ h.2.2.1, cell_of_row _ _ _ _ _ _ h.2.2.1, cell_of_row _ _ _ _ _ _ h.2.2.2, cell_of_row _ _ _ _ _ _ h.2.2.2, cell_of_row _ _ _ _ _ _ h.2.2.2, cell_of_row _ _ _ _ _ _ h.2.2.2, cell_of_row _ _ _ _ _ _ h.2.2.2⟩
         clear hb h)
      | (have h := HB4.out
         go_at_call 17
         with_reducible refine (HPD.out _ h).mono ?_
         rintro r w9 ⟨rfl, hb⟩
         have HB5 : Hid (Below B w4 w9) := Lib.hid (HSTEP.out _ _ h hb)
         have HS5 : Hid (w9.cell? ⟨p, 0, none⟩ = some (.slice A1 n c1) ∧ w9.cell? ⟨p, 1, none⟩ = some (.slice D1 m d1) ∧ w9.cell? ⟨p, 2, none⟩ = some (.int .i64 lg) ∧ w9.cell? ⟨p, 3, none⟩ = some (.int .i64 nx) ∧ w9.cell? ⟨p, 4, none⟩ = some (.int .i64 sq) ∧ w9.cell? ⟨p + 1, 0, none⟩ = some (.slice A2 n c2) ∧ w9.cell? ⟨p + 1, 1, none⟩ = some (.slice D2 m d2) ∧ w9.cell? ⟨p + 1, 2, none⟩ = some (.int .i64 lg) ∧ w9.cell? ⟨p + 1, 3, none⟩ = some (.int .i64 nx) ∧ w9.cell? ⟨p + 1, 4, none⟩ = some (.int .i64 sq) ∧ w9.cell? ⟨x, 0, none⟩ = some (.slice A3 n3 c3) ∧ w9.cell? ⟨x, 1, none⟩ = some (.slice D3 m3 d3) ∧ w9.cell? ⟨x, 2, none⟩ = some (.int .i64 lg3) ∧ w9.cell? ⟨x, 3, none⟩ = some (.int .i64 nx3) ∧ w9.cell? ⟨x, 4, none⟩ = some (.int .i64 sq3) ∧ w9.cell? ⟨y, 0, none⟩ = some (.slice A4 n4 c4) ∧ w9.cell? ⟨y, 1, none⟩ = some (.slice D4 m4 d4) ∧ w9.cell? ⟨y, 2, none⟩ = some (.int .i64 lg3) ∧ w9.cell? ⟨y, 3, none⟩ = some (.int .i64 nx3) ∧ w9.cell? ⟨y, 4, none⟩ = some (.int .i64 sq3)) := by
           have h := HROW.out _ HB5.out
           exact Lib.hid ⟨cell_of_row _ _ _ _ _ _ h.1, cell_of_row _ _ _ _ _ _ h.1, cell_of_row _ _ _ _ _ _ h.1, cell_of_row _ _ _ _ _ _ h.1, cell_of_row _ _ _ _ _ _ h.1, cell_of_row _ _ _ _ _ _ h.2.1, cell_of_row _ _ _ _ _ _ h.2.1, cell_of_row _ _ _ _ _ _ h.2.1, cell_of_row _ _ _ _ _ _ h.2.1, cell_of_row _ _ _ _ _ _ h.2.1, cell_of_row _ _ _ _ _ _ h.2.2.1, cell_of_row _ _ _ _ _ _ h.2.2.1, cell_of_row _ _ _ _ _ _ h.2.2.1, cell_of_row _ _ _ _ _ _ h.2.2.1, cell_of_row _ _ _ _ _ _ h.2.2.1, cell_of_row _ _ _ _ _ _ h.2.2.2, cell_of_row _ _ _ _ _ _ h.2.2.2, cell_of_row _ _ _ _ _ _ h.2.2.2, cell_of_row _ _ _ _ _ _ h.2.2.2, cell_of_row _ _ _ _ _ _ h.2.2.2⟩
         clear hb h)
      | (have h := HB3.out
         go_at_call 16
         with_reducible refine (HPC.out _ h).mono ?_
         rintro r w8 ⟨rfl, hb⟩
         have HB4 : Hid (Below B w4 w8) := Lib.hid (HSTEP.out _ _ h hb)
         have HS4 : Hid (w8.cell? ⟨p, 0, none⟩ = some (.slice A1 n c1) ∧ w8.cell? ⟨p, 1, none⟩ = some (.slice D1 m d1) ∧ w8.cell? ⟨p, 2, none⟩ = some (.int .i64 lg) ∧ w8.cell? ⟨p, 3, none⟩ = some (.int .i64 nx) ∧ w8.cell? ⟨p, 4, none⟩ = some (.int .i64 sq) ∧ w8.cell? ⟨p + 1, 0, none⟩ = some (.slice A2 n c2) ∧ w8.cell? ⟨p + 1, 1, none⟩ = some (.slice D2 m d2) ∧ w8.cell? ⟨p + 1, 2, none⟩ = some (.int .i64 lg) ∧ w8.cell? ⟨p + 1, 3, none⟩ = some (.int .i64 nx) ∧ w8.cell? ⟨p + 1, 4, none⟩ = some (.int .i64 sq) ∧ w8.cell? ⟨x, 0, none⟩ = some (.slice A3 n3 c3) ∧ w8.cell? ⟨x, 1, none⟩ = some (.slice D3 m3 d3) ∧ w8.cell? ⟨x, 2, none⟩ = some (.int .i64 lg3) ∧ w8.cell? ⟨x, 3, none⟩ = some (.int .i64 nx3) ∧ w8.cell? ⟨x, 4, none⟩ = some (.int .i64 sq3) ∧ w8.cell? ⟨y, 0, none⟩ = some (.slice A4 n4 c4) ∧ w8.cell? ⟨y, 1, none⟩ = some (.slice D4 m4 d4) ∧ w8.cell? ⟨y, 2, none⟩ = some (.int .i64 lg3) ∧ w8.cell? ⟨y, 3, none⟩ = some (.int .i64 nx3) ∧ w8.cell? ⟨y, 4, none⟩ = some (.int .i64 sq3)) := by
           have h := HROW.out _ HB4.out
           exact Lib.hid ⟨cell_of_row _ _ _ _ _ _ h.1, cell_of_row _ _ _ _ _ _ h.1, cell_of_row _ _ _ _ _ _ h.1, cell_of_row _ _ _ _ _ _ h.1, cell_of_row _ _ _ _ _ _ h.1, cell_of_row _ _ _ _ _ _ h.2.1, cell_of_row _ _ _ _ _ _ h.2.1, cell_of_row _ _ _ _ _ _ h.2.1, cell_of_row _ _ _ _ _ _ h.2.1, cell_of_row _ _ _ _ _ _ h.2.1, cell_of_row _ _ _ _ _ _ h.2.2.1, cell_of_row _ _ _ _ _ _ h.2.2.1, cell_of_row _ _ _ _ _ _ h.2.2.1, cell_of_row _ _ _ _ _ _ h.2.2.1, cell_of_row _ _ _ _ _ _ h.2.2.1, cell_of_row _ _ _ _ _ _ h.2.2.2, cell_of_row _ _ _ _ _ _ h.2.2.2, cell_of_row _ _ _ _ _ _ h.2.2.2, cell_of_row _ _ _ _ _ _ h.2.2.2, cell_of_row _ _ _ _ _ _ h.2.2.2⟩
         clear hb h)
      | (have h := HB3.out
         go_at_call 17
         with_reducible refine (HPD.out _ h).mono ?_
         rintro r w8 ⟨rfl, hb⟩
         have HB4 : Hid (Below B w4 w8) := Lib.hid (HSTEP.out _ _ h hb)
         have HS4 : Hid (w8.cell? ⟨p, 0, none⟩ = some (.slice A1 n c1) ∧ w8.cell? ⟨p, 1, none⟩ = some (.slice D1 m d1) ∧ w8.cell? ⟨p, 2, none⟩ = some (.int .i64 lg) ∧ w8.cell? ⟨p, 3, none⟩ = some (.int .i64 nx) ∧ w8.cell? ⟨p, 4, none⟩ = some (.int .i64 sq) ∧ w8.cell? ⟨p + 1, 0, none⟩ = some (.slice A2 n c2) ∧ w8.cell? ⟨p + 1, 1, none⟩ = some (.slice D2 m d2) ∧ w8.cell? ⟨p + 1, 2, none⟩ = some (.int .i64 lg) ∧ w8.cell? ⟨p + 1, 3, none⟩ = some (.int .i64 nx) ∧ w8.cell? ⟨p + 1, 4, none⟩ = some (.int .i64 sq) ∧ w8.cell? ⟨x, 0, none⟩ = some (.slice A3 n3 c3) ∧ w8.cell? ⟨x, 1, none⟩ = some (.slice D3 m3 d3) ∧ w8.cell? ⟨x, 2, none⟩ = some (.int .i64 lg3) ∧ w8.cell? ⟨x, 3, none⟩ = some (.int .i64 nx3) ∧ w8.cell? ⟨x, 4, none⟩ = some (.int .i64 sq3) ∧ w8.cell? ⟨y, 0, none⟩ = some (.slice A4 n4 c4) ∧ w8.cell? ⟨y, 1, none⟩ = some (.slice D4 m4 d4) ∧ w8.cell? ⟨y, 2, none⟩ = some (.int .i64 lg3) ∧ w8.cell? ⟨y, 3, none⟩ = some (.int .i64 nx3) ∧ w8.cell? ⟨y, 4, none⟩ = some (.int .i64 sq3)) := by
           have h := HROW.out _ HB4.out
           exact Lib.hid ⟨cell_of_row _ _ _ _ _ _ h.1, cell_of_row _ _ _ _ _ _ h.1, cell_of_row _ _ _ _ _ _ h.1, cell_of_row _ _ _ _ _ _ h.1, cell_of_row _ _ _ _ _ _ h.1, cell_of_row _ _ _ _ _ _ h.2.1, cell_of_row _ _ _ _ _ _ h.2.1, cell_of_row _ _ _ _ _ _ h.2.1, cell_of_row _ _ _ _ _ _ h.2.1, cell_of_row _ _ _ _ _ _ h.2.1, cell_of_row _ _ _ _ _ _ h.2.2.1, cell_of_row _ _ _ _ _ _ h.2.2.1, cell_of_row _ _ _ _ _ _ h.2.2.1, cell_of_row _ _ _ _ _ _ h.2.2.1, cell_of_row _ _ _ _ _ _ h.2.2.1, cell_of_row _ _ _ _ _ _ h.2.2.2, cell_of_row _ _ _ _ _ _ h.2.2.2, cell_of_row _ _ _ _ _ _ h.2.2.2, cell_of_row _ _ _ _ _ _ h.2.2.2, cell_of_row _ _ _ _ _ _ h.2.2.2⟩
         clear hb h)
      | (have h := HB2.out
         go_at_call 16
         with_reducible refine (HPA.out _ h).mono ?_
         rintro r w7 ⟨rfl, hb⟩
         have HB3 : Hid (Below B w4 w7) := Lib.hid (HSTEP.out _ _ h hb)
         have HS3 : Hid (w7.cell? ⟨p, 0, none⟩ = some (.slice A1 n c1) ∧ w7.cell? ⟨p, 1, none⟩ = some (.slice D1 m d1) ∧ w7.cell? ⟨p, 2, none⟩ = some (.int .i64 lg) ∧ w7.cell? ⟨p, 3, none⟩ = some (.int .i64 nx) ∧ w7.cell? ⟨p, 4, none⟩ = some (.int .i64 sq) ∧ w7.cell? ⟨p + 1, 0, none⟩ = some (.slice A2 n c2) ∧ w7.cell? ⟨p + 1, 1, none⟩ = some (.slice D2 m d2) ∧ w7.cell? ⟨p + 1, 2, none⟩ = some (.int .i64 lg) ∧ w7.cell? ⟨p + 1, 3, none⟩ = some (.int .i64 nx) ∧ w7.cell? ⟨p + 1, 4, none⟩ = some (.int .i64 sq) ∧ w7.cell? ⟨x, 0, none⟩ = some (.slice A3 n3 c3) ∧ w7.cell? ⟨x, 1, none⟩ = some (.slice D3 m3 d3) ∧ w7.cell? ⟨x, 2, none⟩ = some (.int .i64 lg3) ∧ w7.cell? ⟨x, 3, none⟩ = some (.int .i64 nx3) ∧ w7.cell? ⟨x, 4, none⟩ = some (.int .i64 sq3) ∧ w7.cell? ⟨y, 0, none⟩ = some (.slice A4 n4 c4) ∧ w7.cell? ⟨y, 1, none⟩ = some (.slice D4 m4 d4) ∧ w7.cell? ⟨y, 2, none⟩ = some (.int .i64 lg3) ∧ w7.cell? ⟨y, 3, none⟩ = some (.int .i64 nx3) ∧ w7.cell? ⟨y, 4, none⟩ = some (.int .i64 sq3)) := by
           have h := HROW.out _ HB3.out
           exact Lib.hid ⟨cell_of_row _ _ _ _ _ _ h.1, cell_of_row _ _ _ _ _ _ h.1, cell_of_row _ _ _ _ _ _ h.1, cell_of_row _ _ _ _ _ _ h.1, cell_of_row _ _ _ _ _ _ h.1, cell_of_row _ _ _ _ _ _ h.2.1, cell_of_row _ _ _ _ _ _ h.2.1, cell_of_row _ _ _ _ _ _ h.2.1, cell_of_row _ _ _ _ _ _ h.2.1, cell_of_row _ _ _ _ _ _ h.2.1, cell_of_row _ _ _ _ _ _ h.2.2.1, cell_of_row _ _ _ _ _ _ h.2.2.1, cell_of_row _ _ _ _ _ _ h.2.2.1, cell_of_row _ _ _ _ _ _ h.2.2.1, cell_of_row _ _ _ _ _ _ h.2.2.1, cell_of_row _ _ _ _ _ _ h.2.2.2, cell_of_row _ _ _ _ _ _ h.2.2.2, cell_of_row _ _ _ _ _ _ h.2.2.2, cell_of_row _ _ _ _ _ _ h.2.2.2, cell_of_row _ _ _ _ _ _ h.2.2.2⟩
         clear hb h)
      | (have h := HB2.out
         go_at_call 17
         with_reducible refine (HPB.out _ h).mono ?_
         rintro r w7 ⟨rfl, hb⟩
         have HB3 : Hid (Below B w4 w7) := Lib.hid (HSTEP.out _ _ h hb)
         have HS3 : Hid (w7.cell? ⟨p, 0, none⟩ = some (.slice A1 n c1) ∧ w7.cell? ⟨p, 1, none⟩ = some (.slice D1 m d1) ∧ w7.cell? ⟨p, 2, none⟩ = some (.int .i64 lg) ∧ w7.cell? ⟨p, 3, none⟩ = some (.int .i64 nx) ∧ w7.cell? ⟨p, 4, none⟩ = some (.int .i64 sq) ∧ w7.cell? ⟨p + 1, 0, none⟩ = some (.slice A2 n c2) ∧ w7.cell? ⟨p + 1, 1, none⟩ = some (.slice D2 m d2) ∧ w7.cell? ⟨p + 1, 2, none⟩ = some (.int .i64 lg) ∧ w7.cell? ⟨p + 1, 3, none⟩ = some (.int .i64 nx) ∧ w7.cell? ⟨p + 1, 4, none⟩ = some (.int .i64 sq) ∧ w7.cell? ⟨x, 0, none⟩ = some (.slice A3 n3 c3) ∧ w7.cell? ⟨x, 1, none⟩ = some (.slice D3 m3 d3) ∧ w7.cell? ⟨x, 2, none⟩ = some (.int .i64 lg3) ∧ w7.cell? ⟨x, 3, none⟩ = some (.int .i64 nx3) ∧ w7.cell? ⟨x, 4, none⟩ = some (.int .i64 sq3) ∧ w7.cell? ⟨y, 0, none⟩ = some (.slice A4 n4 c4) ∧ w7.cell? ⟨y, 1, none⟩ = some (.slice D4 m4 d4) ∧ w7.cell? ⟨y, 2, none⟩ = some (.int .i64 lg3) ∧ w7.cell? ⟨y, 3, none⟩ = some (.int .i64 nx3) ∧ w7.cell? ⟨y, 4, none⟩ = some (.int .i64 sq3)) := by
           have h := HROW.out _ HB3.out
           exact Lib.hid ⟨cell_of_row _ _ _ _ _ _ h.1, cell_of_row _ _ _ _ _ _ h.1, cell_of_row _ _ _ _ _ _ h.1, cell_of_row _ _ _ _ _ _ h.1, cell_of_row _ _ _ _ _ _ h.1, cell_of_row _ _ _ _ _ _ h.2.1, cell_of_row _ _ _ _ _ _ h.2.1, cell_of_row _ _ _ _ _ _ h.2.1, cell_of_row _ _ _ _ _ _ h.2.1, cell_of_row _ _ _ _ _ _ h.2.1, cell_of_row _ _ _ _ _ _ h.2.2.1, cell_of_row _ _ _ _ _ _ h.2.2.1, cell_of_row _ _ _ _ _ _ h.2.2.1, cell_of_row _ _ _ _ _ _ h.2.2.1, cell_of_row _ _ _ _ _ _ h.2.2.1, cell_of_row _ _ _ _ _ _ h.2.2.2, cell_of_row _ _ _ _ _ _ h.2.2.2, cell_of_row _ _ _ _ _ _ h.2.2.2, cell_of_row _ _ _ _ _ _ h.2.2.2, cell_of_row _ _ _ _ _ _ h.2.2.2⟩
         clear hb h)
      | (have h := HB1.out
         go_at_call 16
         with_reducible refine (HPA.out _ h).mono ?_
         rintro r w6 ⟨rfl, hb⟩
         have HB2 : Hid (Below B w4 w6) := Lib.hid (HSTEP.out _ _ h hb)
         have HS2 : Hid (w6.cell? ⟨p, 0, none⟩ = some (.slice A1 n c1) ∧ w6.cell? ⟨p, 1, none⟩ = some (.slice D1 m d1) ∧ w6.cell? ⟨p, 2, none⟩ = some (.int .i64 lg) ∧ w6.cell? ⟨p, 3, none⟩ = some (.int .i64 nx) ∧ w6.cell? ⟨p, 4, none⟩ = some (.int .i64 sq) ∧ w6.cell? ⟨p + 1, 0, none⟩ = some (.slice A2 n c2) ∧ w6.cell? ⟨p + 1, 1, none⟩ = some (.slice D2 m d2) ∧ w6.cell? ⟨p + 1, 2, none⟩ = some (.int .i64 lg) ∧ w6.cell? ⟨p + 1, 3, none⟩ = some (.int .i64 nx) ∧ w6.cell? ⟨p + 1, 4, none⟩ = some (.int .i64 sq) ∧ w6.cell? ⟨x, 0, none⟩ = some (.slice A3 n3 c3) ∧ w6.cell? ⟨x, 1, none⟩ = some (.slice D3 m3 d3) ∧ w6.cell? ⟨x, 2, none⟩ = some (.int .i64 lg3) ∧ w6.cell? ⟨x, 3, none⟩ = some (.int .i64 nx3) ∧ w6.cell? ⟨x, 4, none⟩ = some (.int .i64 sq3) ∧ w6.cell? ⟨y, 0, none⟩ = some (.slice A4 n4 c4) ∧ w6.cell? ⟨y, 1, none⟩ = some (.slice D4 m4 d4) ∧ w6.cell? ⟨y, 2, none⟩ = some (.int .i64 lg3) ∧ w6.cell? ⟨y, 3, none⟩ = some (.int .i64 nx3) ∧ w6.cell? ⟨y, 4, none⟩ = some (.int .i64 sq3)) := by
           have h := HROW.out _ HB2.out
           exact Lib.hid ⟨cell_of_row _ _ _ _ _ _ h.1, cell_of_row _ _ _ _ _ _ h.1, cell_of_row _ _ _ _ _ _ h.1, cell_of_row _ _ _ _ _ _ h.1, cell_of_row _ _ _ _ _ _ h.1, cell_of_row _ _ _ _ _ _ h.2.1, cell_of_row _ _ _ _ _ _ h.2.1, cell_of_row _ _ _ _ _ _ h.2.1, cell_of_row _ _ _ _ _ _ h.2.1, cell_of_row _ _ _ _ _ _ h.2.1, cell_of_row _ _ _ _ _ _ h.2.2.1, cell_of_row _ _ _ _ _ _ h.2.2.1, cell_of_row _ _ _ _ _ _ h.2.2.1, cell_of_row _ _ _ _ _ _ h.2.2.1, cell_of_row _ _ _ _ _ _ h.2.2.1, cell_of_row _ _ _ _ _ _ h.2.2.2, cell_of_row _ _ _ _ _ _ h.2.2.2, cell_of_row _ _ _ _ _ _ h.2.2.2, cell_of_row _ _ _ _ _ _ h.2.2.2, cell_of_row _ _ _ _ _ _ h.2.2.2⟩
         clear hb h)
      | (have h := HB1.out
         go_at_call 17
         with_reducible refine (HPB.out _ h).mono ?_
         rintro r w6 ⟨rfl, hb⟩
         have HB2 : Hid (Below B w4 w6) := Lib.hid (HSTEP.out _ _ h hb)
         have HS2 : Hid (w6.cell? ⟨p, 0, none⟩ = some (.slice A1 n c1) ∧ w6.cell? ⟨p, 1, none⟩ = some (.slice D1 m d1) ∧ w6.cell? ⟨p, 2, none⟩ = some (.int .i64 lg) ∧ w6.cell? ⟨p, 3, none⟩ = some (.int .i64 nx) ∧ w6.cell? ⟨p, 4, none⟩ = some (.int .i64 sq) ∧ w6.cell? ⟨p + 1, 0, none⟩ = some (.slice A2 n c2) ∧ w6.cell? ⟨p + 1, 1, none⟩ = some (.slice D2 m d2) ∧ w6.cell? ⟨p + 1, 2, none⟩ = some (.int .i64 lg) ∧ w6.cell? ⟨p + 1, 3, none⟩ = some (.int .i64 nx) ∧ w6.cell? ⟨p + 1, 4, none⟩ = some (.int .i64 sq) ∧ w6.cell? ⟨x, 0, none⟩ = some (.slice A3 n3 c3) ∧ w6.cell? ⟨x, 1, none⟩ = some (.slice D3 m3 d3) ∧ w6.cell? ⟨x, 2, none⟩ = some (.int .i64 lg3) ∧ w6.cell? ⟨x, 3, none⟩ = some (.int .i64 nx3) ∧ w6.cell? ⟨x, 4, none⟩ = some (.int .i64 sq3) ∧ w6.cell? ⟨y, 0, none⟩ = some (.slice A4 n4 c4) ∧ w6.cell? ⟨y, 1, none⟩ = some (.slice D4 m4 d4) ∧ w6.cell? ⟨y, 2, none⟩ = some (.int .i64 lg3) ∧ w6.cell? ⟨y, 3, none⟩ = some (.int .i64 nx3) ∧ w6.cell? ⟨y, 4, none⟩ = some (.int .i64 sq3)) := by
           have h := HROW.out _ HB2.out
           exact Lib.hid ⟨cell_of_row _ _ _ _ _ _ h.1, cell_of_row _ _ _ _ _ _ h.1, cell_of_row _ _ _ _ _ _ h.1, cell_of_row _ _ _ _ _ _ h.1, cell_of_row _ _ _ _ _ _ h.1, cell_of_row _ _ _ _ _ _ h.2.1, cell_of_row _ _ _ _ _ _ h.2.1, cell_of_row _ _ _ _ _ _ h.2.1, cell_of_row _ _ _ _ _ _ h.2.1, cell_of_row _ _ _ _ _ _ h.2.1, cell_of_row _ _ _ _ _ _ h.2.2.1, cell_of_row _ _ _ _ _ _ h.2.2.1, cell_of_row _ _ _ _ _ _ h.2.2.1, cell_of_row _ _ _ _ _ _ h.2.2.1, cell_of_row _ _ _ _ _ _ h.2.2.1, cell_of_row _ _ _ _ _ _ h.2.2.2, cell_of_row _ _ _ _ _ _ h.2.2.2, cell_of_row _ _ _ _ _ _ h.2.2.2, cell_of_row _ _ _ _ _ _ h.2.2.2, cell_of_row _ _ _ _ _ _ h.2.2.2⟩
         clear hb h)
      | (have h := HB0.out
         go_at_call 13
         with_reducible refine (HWK.out _ h).mono ?_
         rintro r w5 ⟨rfl, hb⟩
         have HB1 : Hid (Below B w4 w5) := Lib.hid (HSTEP.out _ _ h hb)
         have HS1 : Hid (w5.cell? ⟨p, 0, none⟩ = some (.slice A1 n c1) ∧ w5.cell? ⟨p, 1, none⟩ = some (.slice D1 m d1) ∧ w5.cell? ⟨p, 2, none⟩ = some (.int .i64 lg) ∧ w5.cell? ⟨p, 3, none⟩ = some (.int .i64 nx) ∧ w5.cell? ⟨p, 4, none⟩ = some (.int .i64 sq) ∧ w5.cell? ⟨p + 1, 0, none⟩ = some (.slice A2 n c2) ∧ w5.cell? ⟨p + 1, 1, none⟩ = some (.slice D2 m d2) ∧ w5.cell? ⟨p + 1, 2, none⟩ = some (.int .i64 lg) ∧ w5.cell? ⟨p + 1, 3, none⟩ = some (.int .i64 nx) ∧ w5.cell? ⟨p + 1, 4, none⟩ = some (.int .i64 sq) ∧ w5.cell? ⟨x, 0, none⟩ = some (.slice A3 n3 c3) ∧ w5.cell? ⟨x, 1, none⟩ = some (.slice D3 m3 d3) ∧ w5.cell? ⟨x, 2, none⟩ = some (.int .i64 lg3) ∧ w5.cell? ⟨x, 3, none⟩ = some (.int .i64 nx3) ∧ w5.cell? ⟨x, 4, none⟩ = some (.int .i64 sq3) ∧ w5.cell? ⟨y, 0, none⟩ = some (.slice A4 n4 c4) ∧ w5.cell? ⟨y, 1, none⟩ = some (.slice D4 m4 d4) ∧ w5.cell? ⟨y, 2, none⟩ = some (.int .i64 lg3) ∧ w5.cell? ⟨y, 3, none⟩ = some (.int .i64 nx3) ∧ w5.cell? ⟨y, 4, none⟩ = some (.int .i64 sq3)) := by
           have h := HROW.out _ HB1.out
           exact Lib.hid ⟨cell_of_row _ _ _ _ _ _ h.1, cell_of_row _ _ _ _ _ _ h.1, cell_of_row _ _ _ _ _ _ h.1, cell_of_row _ _ _ _ _ _ h.1, cell_of_row _ _ _ _ _ _ h.1, cell_of_row _ _ _ _ _ _ h.2.1, cell_of_row _ _ _ _ _ _ h.2.1, cell_of_row _ _ _ _ _ _ h.2.1, cell_of_row _ _ _ _ _ _ h.2.1, cell_of_row _ _ _ _ _ _ h.2.1, cell_of_row _ _ _ _ _ _ h.2.2.1, cell_of_row _ _ _ _ _ _ h.2.2.1, cell_of_row _ _ _ _ _ _ h.2.2.1, cell_of_row _ _ _ _ _ _ h.2.2.1, cell_of_row _ _ _ _ _ _ h.2.2.1, cell_of_row _ _ _ _ _ _ h.2.2.2, cell_of_row _ _ _ _ _ _ h.2.2.2, cell_of_row _ _ _ _ _ _ h.2.2.2, cell_of_row _ _ _ _ _ _ h.2.2.2, cell_of_row _ _ _ _ _ _ h.2.2.2⟩
         clear hb h)
      | fail)
  all_goals
    have HEN2 := Lib.hid (HEND.out _ HB5.out)
    go_wp2_with fail
    go_ret
    exact ⟨rfl, HEN2.out⟩
end lawPuts
end Go.Proofs.Ytfodbblcflolgaa
