/- Reading: count and item. Made by gen_ri.py. -/
import Derived.Test.YtonoapgajgcjlaaRd
namespace Go.Proofs.Ytonoapgajgcjlaa
open Go.RowKit
open SK

namespace BK
/-- how many items there are said to be -/
def rCount (l : List UInt8) (p : Nat) : Except Int (Int × Nat) :=
  match rNum l p with
  | .error c => .error c
  | .ok (n, q) => if 64 < n then .error 5 else if n < 0 then .error 4 else .ok (n, q)
theorem get_count (l : List UInt8) : getOut l = match rCount l 0 with
    | .error c => .error c
    | .ok (n, p) => rEnd l (rItems l n.toNat p []) := by
  unfold getOut rCount
  cases rNum l 0 with
  | error c => rfl
  | ok x =>
    obtain ⟨n, p⟩ := x
    simp only
    split
    · rfl
    · split
      · rfl
      · rfl
theorem count_ok {l : List UInt8} {p q : Nat} {n : Int} (h : rCount l p = .ok (n, q)) : 0 ≤ n ∧ n ≤ 64 ∧ q ≤ l.length := by
  unfold rCount at h
  cases hn : rNum l p with
  | error c => rw [hn] at h; cases h
  | ok x =>
    obtain ⟨m, b⟩ := x
    rw [hn] at h
    simp only at h
    split at h
    · cases h
    · split at h
      · cases h
      · simp only [Except.ok.injEq, Prod.mk.injEq] at h
        obtain ⟨rfl, rfl⟩ := h
        exact ⟨by omega, by omega, num_le hn⟩
end BK

theorem Out.after {α : Type} {enc : α → Value} {r : Nat} {s : ByteArray} {w w1 w' : World} {x : Except Int (α × Nat)} {e : Ending} (h : Out enc r s w1 x e w') (hg : w.grownBy w1 (some r)) : Out enc r s w x e w' :=
  ⟨grown_trans hg h.1, h.2⟩

set_option maxRecDepth 100000 in
theorem count_any (w : World) (r p : Nat) (s : ByteArray) (h : RdAt w r s p) (hs : s.size ≤ 281474976710656) (hp : p ≤ s.size) :
    Calls Try.prog 36 #[.pointer (some ⟨r, 0, none⟩)] w fun e w' => Out numV r s w (BK.rCount s.data.toList p) e w' := by
  have HN := Lib.hid (number_any w r p s h hs hp)
  unfold BK.rCount
  cases hx : BK.rNum s.data.toList p with
  | error c =>
    rw [hx] at HN
    go_enter Try.func36, Try.ntmps36
    go_wp2_with fail
    refine HN.out.mono ?_
    rintro e w1 ⟨hg, rfl⟩
    exact ⟨rfl, hg, rfl⟩
  | ok x =>
    obtain ⟨n, q⟩ := x
    rw [hx] at HN
    clear hx
    simp only
    by_cases h1 : 64 < n
    · rw [if_pos h1]
      go_enter Try.func36, Try.ntmps36
      go_wp2_with fail
      refine HN.out.mono ?_
      rintro e w1 ⟨hg, rfl, hr⟩
      simp only [numV]
      go_wp2_with fail
      refine (leave_bad 5 _ (by decide)).mono ?_
      rintro e w2 ⟨rfl, rfl⟩
      exact ⟨rfl, hg, rfl⟩
    · rw [if_neg h1]
      by_cases h2 : n < 0
      · rw [if_pos h2]
        go_enter Try.func36, Try.ntmps36
        go_wp2_with fail
        refine HN.out.mono ?_
        rintro e w1 ⟨hg, rfl, hr⟩
        simp only [numV]
        go_wp2_with fail
        refine (leave_bad 4 _ (by decide)).mono ?_
        rintro e w2 ⟨rfl, rfl⟩
        exact ⟨rfl, hg, rfl⟩
      · rw [if_neg h2]
        go_enter Try.func36, Try.ntmps36
        go_wp2_with fail
        refine HN.out.mono ?_
        rintro e w1 ⟨hg, rfl, hr⟩
        have HG := Lib.hid hg
        have HR := Lib.hid hr
        clear hg hr
        simp only [numV]
        go_wp2
        go_ret
        exact ⟨HG.out, rfl, HR.out⟩

def itemV (e : E) : Value := e.val
def rowE (k : ByteArray) (g : Bool) (v : ByteArray) (t : Int) : Array Value := #[.string k, .int .i64 0, .bool g, .string v, .int .i64 t]

theorem rowE_val (k : ByteArray) (g : Bool) (v : ByteArray) (t : Int) : (⟨k, 0, g, v, t⟩ : E).val = .agg (rowE k g v t) := rfl

theorem grown_alloc (w : World) (o : Obj) (r : Option Nat) : w.grownBy (w.alloc o) r :=
  ⟨rfl, rfl, rfl, by simp, fun k hk _ => Below.heap_alloc w o k hk⟩
theorem RdAt.grown {w w' : World} {r p : Nat} {s : ByteArray} (h : RdAt w r s p) (hg : w.grownBy w' none) : RdAt w' r s p := (hg.block r h.lt (by simp)).trans h
theorem grown_new {a b : World} {r : Option Nat} (h : a.grownBy b r) (x j : Nat) (u : Value) (hx : a.heap.size ≤ x) : a.grownBy (b.setCell ⟨x, j, none⟩ u) r :=
  ⟨h.os, h.tape, h.output, Nat.le_trans h.size (by simp [World.setCell]), fun k hk hr => (Below.heap_setCell _ _ _ _ (by intro e; subst e; exact absurd hk (by simp; omega))).trans (h.block k hk hr)⟩

set_option maxRecDepth 100000 in
set_option maxHeartbeats 4000000 in
theorem item_any (w : World) (r p : Nat) (s : ByteArray) (h : RdAt w r s p) (hs : s.size ≤ 281474976710656) (hp : p ≤ s.size) :
    Calls Try.prog 37 #[.pointer (some ⟨r, 0, none⟩)] w fun e w' => Out itemV r s w (BK.rItem s.data.toList p) e w' := by
  obtain ⟨x, hx⟩ : ∃ x, w.heap.size = x := ⟨_, rfl⟩
  have hrx : r < x := by rw [← hx]; exact h.lt
  have hrow0 : (w.alloc (.cells (rowE ⟨#[]⟩ false ⟨#[]⟩ 0) 40)).heap[x]? = some (.cells (rowE ⟨#[]⟩ false ⟨#[]⟩ 0) 40 (0, 0)) := by rw [← hx]; exact heap_alloc_new w _
  have hg0 := grown_alloc w (.cells (rowE ⟨#[]⟩ false ⟨#[]⟩ 0) 40) none
  have hr0 := h.grown hg0
  have HX := Lib.hid hx
  have HRX := Lib.hid hrx
  have HT := Lib.hid (text_any _ r p s hr0 hs hp)
  simp only [rowE] at hrow0 hg0 hr0 HT
  have HROW0 := Lib.hid hrow0
  have HG0 := Lib.hid hg0
  clear hrow0 hg0 hr0 hrx h
  unfold BK.rItem
  cases hk : BK.rText s.data.toList p with
  | error c =>
    rw [hk] at HT
    go_enter Try.func37, Try.ntmps37
    go_wp2_with fail
    refine HT.out.mono ?_
    rintro e w1 ⟨hg, rfl⟩
    exact ⟨rfl, grown_trans (grown_r HG0.out) hg, rfl⟩
  | ok z =>
    obtain ⟨k, p1⟩ := z
    have hkk := BK.text_ok hk
    have HK1 : Hid (k.size ≤ 65535) := Lib.hid hkk.1
    have hp1 : p1 ≤ s.size := by rw [← size_list]; exact hkk.2.1
    have HP1 := Lib.hid hp1
    have HNU : Hid (∀ W, RdAt W r s p1 → Calls Try.prog 42 #[.pointer (some ⟨r, 0, none⟩)] W fun e w' => Out numV r s W (BK.rNum s.data.toList p1) e w') := Lib.hid (fun W h => number_any W r p1 s h hs hp1)
    rw [hk] at HT
    clear hk hkk hp1 hp
    simp only
    cases hn : BK.rNum s.data.toList p1 with
    | error c =>
      rw [hn] at HNU
      clear hn
      go_enter Try.func37, Try.ntmps37
      go_wp2_with fail
      refine HT.out.mono ?_
      rintro e w1 ⟨hg, rfl, hr⟩
      have HG1 := Lib.hid (grown_trans (grown_r HG0.out) hg)
      have HR1 := Lib.hid (hr.grown (grown_alloc w1 (.cells (rowE k false ⟨#[]⟩ 0) 40) none))
      simp only [rowE] at HR1
      clear hg hr
      simp only [textV]
      go_wp2_with fail
      refine (HNU.out _ HR1.out).mono ?_
      rintro e w2 ⟨hg, rfl⟩
      exact ⟨rfl, grown_trans (grown_trans HG1.out (grown_alloc _ _ _)) hg, rfl⟩
    | ok z =>
      obtain ⟨n, p2⟩ := z
      have hnn := BK.num_ok hn
      have hn0 := hnn.1
      have hn1 := hnn.2.1
      have hp2 : p2 ≤ s.size := by rw [← size_list]; exact hnn.2.2.1
      have HP2 := Lib.hid hp2
      have HTX : Hid (∀ W, RdAt W r s p2 → Calls Try.prog 43 #[.pointer (some ⟨r, 0, none⟩)] W fun e w' => Out textV r s W (BK.rText s.data.toList p2) e w') := Lib.hid (fun W h => text_any W r p2 s h hs hp2)
      rw [hn] at HNU
      clear hn hnn hp2
      simp only
      have HTL : Hid (BK.rTail s.data.toList k n p2 = if n < 0 then .error 4 else if n = 0 then BK.rFin ⟨k, 0, true, ⟨#[]⟩, 0⟩ p2 else match BK.rText s.data.toList p2 with | .error c => .error c | .ok (v, q) => BK.rFin ⟨k, 0, false, v, n - 1⟩ q) := Lib.hid rfl
      obtain ⟨X, hXX⟩ : ∃ X, BK.rTail s.data.toList k n p2 = X := ⟨_, rfl⟩
      rw [hXX] at HTL ⊢
      clear hXX
      go_enter Try.func37, Try.ntmps37
      go_wp2_with fail
      refine HT.out.mono ?_
      rintro e w1 ⟨hg, rfl, hr⟩
      obtain ⟨y, hy⟩ : ∃ y, w1.heap.size = y := ⟨_, rfl⟩
      have hxy : x < y := by rw [← hy, ← HX.out]; have := hg.size; simp at this; omega
      have HXY := Lib.hid hxy
      have HG1 := Lib.hid (grown_trans (grown_trans (grown_r HG0.out) hg) (grown_alloc w1 (.cells (rowE k false ⟨#[]⟩ 0) 40) (some r)))
      have HR1 := Lib.hid (hr.grown (grown_alloc w1 (.cells (rowE k false ⟨#[]⟩ 0) 40) none))
      have HY1 : Hid ((w1.alloc (.cells (rowE k false ⟨#[]⟩ 0) 40)).heap[y]? = some (.cells (rowE k false ⟨#[]⟩ 0) 40 (0, 0))) := Lib.hid (by rw [← hy]; exact heap_alloc_new w1 _)
      have HX1 : Hid ((w1.alloc (.cells (rowE k false ⟨#[]⟩ 0) 40)).heap[x]? = some (.cells (rowE ⟨#[]⟩ false ⟨#[]⟩ 0) 40 (0, 0))) := Lib.hid (by
        rw [Below.heap_alloc w1 _ x (by omega), hg.block x (by have := (Array.getElem?_eq_some_iff.1 HROW0.out).1; omega) (by have := HRX.out; simp; omega)]
        exact HROW0.out)
      clear hg hr hxy
      simp only [rowE] at HG1 HR1 HY1 HX1
      simp only [textV]
      go_wp2_with fail
      have HYE := Lib.hid hy
      clear hy
      generalize w1.alloc _ = wa at HG1 HR1 HY1 HX1 ⊢
      refine (HNU.out _ HR1.out).mono ?_
      rintro e w2 ⟨hg, rfl, hr⟩
      have HG2 := Lib.hid (grown_trans HG1.out hg)
      have HR2 := Lib.hid hr
      have HY2 := Lib.hid ((hg.block y (Array.getElem?_eq_some_iff.1 HY1.out).1 (by have := HRX.out; have := HXY.out; simp; omega)).trans HY1.out)
      have HX2 := Lib.hid ((hg.block x (Array.getElem?_eq_some_iff.1 HX1.out).1 (by have := HRX.out; simp; omega)).trans HX1.out)
      clear hg hr HG1 HR1 HY1 HX1 HNU HT HG0 HROW0
      simp only [numV]
      by_cases h1 : n < 0
      · have HF : Hid (X = .error 4) := Lib.hid (by rw [HTL.out, if_pos h1])
        go_wp2_with fail
        refine (leave_bad 4 _ (by decide)).mono ?_
        rintro e w3 ⟨rfl, rfl⟩
        exact ⟨rfl, HG2.out, by rw [HF.out]⟩
      · by_cases h2 : n = 0
        · have HX2' : Hid (X = BK.rFin ⟨k, 0, true, ⟨#[]⟩, 0⟩ p2) := Lib.hid (by rw [HTL.out, if_neg h1, if_pos h2])
          clear HTL
          have hbe : (n == 0) = true := by simpa using h2
          have f2 : w2.frozen? ⟨y, 2, none⟩ = false := frozen_of_row _ _ _ _ _ HY2.out
          have c2 : w2.cell? ⟨y, 2, none⟩ = some (.bool false) := cell_of_row _ _ _ _ _ _ HY2.out
          have HE : Hid ((⟨k, 0, true, ⟨#[]⟩, 0⟩ : E).wf) := Lib.hid ⟨by have := HK1.out; simp only; omega, Nat.zero_le _, ⟨by simp only; omega, by simp only; omega⟩, ⟨by simp only; omega, by simp only; omega⟩⟩
          have HY3 : Hid ((w2.setCell ⟨y, 2, none⟩ (.bool true)).heap[y]? = some (.cells (rowE k true ⟨#[]⟩ 0) 40 (0, 0))) := Lib.hid (heap_set_fr HY2.out 2 (.bool true))
          have HX3 : Hid ((w2.setCell ⟨y, 2, none⟩ (.bool true)).heap[x]? = some (.cells (rowE ⟨#[]⟩ false ⟨#[]⟩ 0) 40 (0, 0))) := Lib.hid ((Below.heap_setCell _ _ _ _ (by have := HXY.out; simp; omega)).trans HX2.out)
          have HG3 : Hid (w.grownBy (w2.setCell ⟨y, 2, none⟩ (.bool true)) (some r)) := Lib.hid (grown_new HG2.out _ _ _ (by have := HX.out; have := HXY.out; omega))
          have HR3 : Hid (RdAt (w2.setCell ⟨y, 2, none⟩ (.bool true)) r s p2) := Lib.hid ((Below.heap_setCell _ _ _ _ (by have := HRX.out; have := HXY.out; simp; omega)).trans HR2.out)
          obtain ⟨w3, hw3⟩ : ∃ w3, w2.setCell ⟨y, 2, none⟩ (.bool true) = w3 := ⟨_, rfl⟩
          have HBG := Lib.hid (fun W => bgood_any _ W HE.out)
          have hcl : rowE k true ⟨#[]⟩ 0 = #[.string k, .int .i64 0, .bool true, .string ⟨#[]⟩, .int .i64 0] := rfl
          rw [hw3] at HY3 HX3 HG3 HR3
          simp only [E.val] at HBG
          clear HE
          have HFIN : Hid (BK.rFin ⟨k, 0, true, ⟨#[]⟩, 0⟩ p2 = if good (BK.one ⟨k, 0, true, ⟨#[]⟩, 0⟩) = 0 then .ok (⟨k, 0, true, ⟨#[]⟩, 0⟩, p2) else .error (good (BK.one ⟨k, 0, true, ⟨#[]⟩, 0⟩))) := Lib.hid rfl
          obtain ⟨G, hG⟩ : ∃ G, good (BK.one (⟨k, 0, true, ⟨#[]⟩, 0⟩ : E)) = G := ⟨_, rfl⟩
          rw [hG] at HBG HFIN
          clear hG
          rw [← HX2'.out] at HFIN
          have e0 : w3.cell? ⟨y, 0, none⟩ = some (.string k) := cell_of_row _ _ _ _ _ _ HY3.out
          have e1 : w3.cell? ⟨y, 1, none⟩ = some (.int .i64 0) := cell_of_row _ _ _ _ _ _ HY3.out
          have e2 : w3.cell? ⟨y, 2, none⟩ = some (.bool true) := cell_of_row _ _ _ _ _ _ HY3.out
          have e3 : w3.cell? ⟨y, 3, none⟩ = some (.string ⟨#[]⟩) := cell_of_row _ _ _ _ _ _ HY3.out
          have e4 : w3.cell? ⟨y, 4, none⟩ = some (.int .i64 0) := cell_of_row _ _ _ _ _ _ HY3.out
          go_wp2_with fail
          refine (HBG.out _).mono ?_
          rintro e w4 ⟨rfl, hb⟩
          have HY4 := Lib.hid ((hb.block y (Array.getElem?_eq_some_iff.1 HY3.out).1).trans HY3.out)
          have HX4 := Lib.hid ((hb.block x (Array.getElem?_eq_some_iff.1 HX3.out).1).trans HX3.out)
          have HR4 := Lib.hid (HR3.out.below hb)
          have HG4 := Lib.hid (grown_trans HG3.out (grown_below hb))
          clear hb HY3 HX3 HG3 HR3 HBG e0 e1 e2 e3 e4 hw3
          by_cases hG : G = 0
          · subst hG
            have HF : Hid (X = .ok (⟨k, 0, true, ⟨#[]⟩, 0⟩, p2)) := Lib.hid (by rw [HFIN.out, if_pos rfl])
            have e0 : w4.cell? ⟨y, 0, none⟩ = some (.string k) := cell_of_row _ _ _ _ _ _ HY4.out
            have e1 : w4.cell? ⟨y, 1, none⟩ = some (.int .i64 0) := cell_of_row _ _ _ _ _ _ HY4.out
            have e2 : w4.cell? ⟨y, 2, none⟩ = some (.bool true) := cell_of_row _ _ _ _ _ _ HY4.out
            have e3 : w4.cell? ⟨y, 3, none⟩ = some (.string ⟨#[]⟩) := cell_of_row _ _ _ _ _ _ HY4.out
            have e4 : w4.cell? ⟨y, 4, none⟩ = some (.int .i64 0) := cell_of_row _ _ _ _ _ _ HY4.out
            have z0 : w4.cell? ⟨x, 0, none⟩ = some (.string ⟨#[]⟩) := cell_of_row _ _ _ _ _ _ HX4.out
            have z1 : w4.cell? ⟨x, 1, none⟩ = some (.int .i64 0) := cell_of_row _ _ _ _ _ _ HX4.out
            have z2 : w4.cell? ⟨x, 2, none⟩ = some (.bool false) := cell_of_row _ _ _ _ _ _ HX4.out
            have z3 : w4.cell? ⟨x, 3, none⟩ = some (.string ⟨#[]⟩) := cell_of_row _ _ _ _ _ _ HX4.out
            have z4 : w4.cell? ⟨x, 4, none⟩ = some (.int .i64 0) := cell_of_row _ _ _ _ _ _ HX4.out
            have y0 : w4.frozen? ⟨x, 0, none⟩ = false := frozen_of_row _ _ _ _ _ HX4.out
            have y1 : w4.frozen? ⟨x, 1, none⟩ = false := frozen_of_row _ _ _ _ _ HX4.out
            have y2 : w4.frozen? ⟨x, 2, none⟩ = false := frozen_of_row _ _ _ _ _ HX4.out
            have y3 : w4.frozen? ⟨x, 3, none⟩ = false := frozen_of_row _ _ _ _ _ HX4.out
            have y4 : w4.frozen? ⟨x, 4, none⟩ = false := frozen_of_row _ _ _ _ _ HX4.out
            have HSZ : Hid (w.heap.size ≤ x) := Lib.hid (by have := HX.out; omega)
            have HRR : Hid (r ≠ x) := Lib.hid (by have := HRX.out; omega)
            go_wp2_with fail
            refine (leave_ok _).mono ?_
            rintro e w7 ⟨rfl, rfl⟩
            have HX8 : Hid ((((((w4.setCell ⟨x, 0, none⟩ (.string k)).setCell ⟨x, 1, none⟩ (.int .i64 0)).setCell ⟨x, 2, none⟩ (.bool true)).setCell ⟨x, 3, none⟩ (.string ⟨#[]⟩)).setCell ⟨x, 4, none⟩ (.int .i64 0)).heap[x]? = some (.cells (rowE k true ⟨#[]⟩ 0) 40 (0, 0))) := Lib.hid (heap_set_fr (heap_set_fr (heap_set_fr (heap_set_fr (heap_set_fr HX4.out 0 (.string k)) 1 (.int .i64 0)) 2 (.bool true)) 3 (.string ⟨#[]⟩)) 4 (.int .i64 0))
            have HG8 : Hid (w.grownBy (((((w4.setCell ⟨x, 0, none⟩ (.string k)).setCell ⟨x, 1, none⟩ (.int .i64 0)).setCell ⟨x, 2, none⟩ (.bool true)).setCell ⟨x, 3, none⟩ (.string ⟨#[]⟩)).setCell ⟨x, 4, none⟩ (.int .i64 0)) (some r)) := Lib.hid (grown_new (grown_new (grown_new (grown_new (grown_new HG4.out _ _ _ HSZ.out) _ _ _ HSZ.out) _ _ _ HSZ.out) _ _ _ HSZ.out) _ _ _ HSZ.out)
            have HR8 : Hid (RdAt (((((w4.setCell ⟨x, 0, none⟩ (.string k)).setCell ⟨x, 1, none⟩ (.int .i64 0)).setCell ⟨x, 2, none⟩ (.bool true)).setCell ⟨x, 3, none⟩ (.string ⟨#[]⟩)).setCell ⟨x, 4, none⟩ (.int .i64 0)) r s p2) := Lib.hid ((Below.heap_setCell _ _ _ _ HRR.out).trans ((Below.heap_setCell _ _ _ _ HRR.out).trans ((Below.heap_setCell _ _ _ _ HRR.out).trans ((Below.heap_setCell _ _ _ _ HRR.out).trans ((Below.heap_setCell _ _ _ _ HRR.out).trans HR4.out)))))
            clear HX4 HG4 HR4
            go_wp2
            generalize (((((w4.setCell ⟨x, 0, none⟩ (.string k)).setCell ⟨x, 1, none⟩ (.int .i64 0)).setCell ⟨x, 2, none⟩ (.bool true)).setCell ⟨x, 3, none⟩ (.string ⟨#[]⟩)).setCell ⟨x, 4, none⟩ (.int .i64 0)) = w8 at HX8 HG8 HR8 ⊢
            have d0 : w8.cell? ⟨x, 0, none⟩ = some (.string k) := cell_of_row _ _ _ _ _ _ HX8.out
            have d1 : w8.cell? ⟨x, 1, none⟩ = some (.int .i64 0) := cell_of_row _ _ _ _ _ _ HX8.out
            have d2 : w8.cell? ⟨x, 2, none⟩ = some (.bool true) := cell_of_row _ _ _ _ _ _ HX8.out
            have d3 : w8.cell? ⟨x, 3, none⟩ = some (.string ⟨#[]⟩) := cell_of_row _ _ _ _ _ _ HX8.out
            have d4 : w8.cell? ⟨x, 4, none⟩ = some (.int .i64 0) := cell_of_row _ _ _ _ _ _ HX8.out
            refine bodyPost_ret (v := .agg #[.string k, .int .i64 0, .bool true, .string ⟨#[]⟩, .int .i64 0]) (by simp [results, Try.results37, go_sem, d0, d1, d2, d3, d4]) rfl ⟨HG8.out, ?_⟩
            rw [HF.out]
            exact ⟨rfl, HR8.out⟩
          · have HF : Hid (X = .error G) := Lib.hid (by rw [HFIN.out, if_neg hG])
            go_wp2_with fail
            refine (leave_bad G _ hG).mono ?_
            rintro e w7 ⟨rfl, rfl⟩
            exact ⟨rfl, HG4.out, by rw [HF.out]⟩
        · have hbe : (n == 0) = false := by simpa using h2
          have hwr : IntKind.i64.wrap (n - 1) = n - 1 := IntWalk.i64_in _ ⟨by omega, by omega⟩
          cases hv : BK.rText s.data.toList p2 with
          | error c =>
            have HF : Hid (X = .error c) := Lib.hid (by rw [HTL.out, if_neg h1, if_neg h2, hv])
            rw [hv] at HTX
            clear hv HTL
            have f4 : w2.frozen? ⟨y, 4, none⟩ = false := frozen_of_row _ _ _ _ _ HY2.out
            have c4 : w2.cell? ⟨y, 4, none⟩ = some (.int .i64 0) := cell_of_row _ _ _ _ _ _ HY2.out
            have HR3 : Hid (RdAt (w2.setCell ⟨y, 4, none⟩ (.int .i64 (n - 1))) r s p2) := Lib.hid ((Below.heap_setCell _ _ _ _ (by have := HRX.out; have := HXY.out; simp; omega)).trans HR2.out)
            go_wp2_with fail
            refine (HTX.out _ HR3.out).mono ?_
            rintro e w3 ⟨hg, rfl⟩
            exact ⟨rfl, grown_trans (grown_new HG2.out _ _ _ (by have := HX.out; have := HXY.out; omega)) hg, by rw [HF.out]⟩
          | ok z =>
            obtain ⟨v, p3⟩ := z
            have HV1 : Hid (v.size ≤ 65535) := Lib.hid (BK.text_ok hv).1
            have HX2' : Hid (X = BK.rFin ⟨k, 0, false, v, n - 1⟩ p3) := Lib.hid (by rw [HTL.out, if_neg h1, if_neg h2, hv])
            rw [hv] at HTX
            clear hv HTL
            have f4 : w2.frozen? ⟨y, 4, none⟩ = false := frozen_of_row _ _ _ _ _ HY2.out
            have c4 : w2.cell? ⟨y, 4, none⟩ = some (.int .i64 0) := cell_of_row _ _ _ _ _ _ HY2.out
            have HR3' : Hid (RdAt (w2.setCell ⟨y, 4, none⟩ (.int .i64 (n - 1))) r s p2) := Lib.hid ((Below.heap_setCell _ _ _ _ (by have := HRX.out; have := HXY.out; simp; omega)).trans HR2.out)
            have HY3' : Hid ((w2.setCell ⟨y, 4, none⟩ (.int .i64 (n - 1))).heap[y]? = some (.cells (rowE k false ⟨#[]⟩ (n - 1)) 40 (0, 0))) := Lib.hid (heap_set_fr HY2.out 4 (.int .i64 (n - 1)))
            have HX3' : Hid ((w2.setCell ⟨y, 4, none⟩ (.int .i64 (n - 1))).heap[x]? = some (.cells (rowE ⟨#[]⟩ false ⟨#[]⟩ 0) 40 (0, 0))) := Lib.hid ((Below.heap_setCell _ _ _ _ (by have := HXY.out; simp; omega)).trans HX2.out)
            have HG3' : Hid (w.grownBy (w2.setCell ⟨y, 4, none⟩ (.int .i64 (n - 1))) (some r)) := Lib.hid (grown_new HG2.out _ _ _ (by have := HX.out; have := HXY.out; omega))
            go_wp2_with fail
            generalize w2.setCell ⟨y, 4, none⟩ (.int .i64 (n - 1)) = w5 at HR3' HY3' HX3' HG3' ⊢
            refine (HTX.out _ HR3'.out).mono ?_
            rintro e w6 ⟨hg, rfl, hr⟩
            simp only [textV]
            have HY6 := Lib.hid ((hg.block y (Array.getElem?_eq_some_iff.1 HY3'.out).1 (by have := HRX.out; have := HXY.out; simp; omega)).trans HY3'.out)
            have HX6 := Lib.hid ((hg.block x (Array.getElem?_eq_some_iff.1 HX3'.out).1 (by have := HRX.out; simp; omega)).trans HX3'.out)
            have HG6 := Lib.hid (grown_trans HG3'.out hg)
            have f3 : w6.frozen? ⟨y, 3, none⟩ = false := frozen_of_row _ _ _ _ _ HY6.out
            have c3 : w6.cell? ⟨y, 3, none⟩ = some (.string ⟨#[]⟩) := cell_of_row _ _ _ _ _ _ HY6.out
            have HY3 : Hid ((w6.setCell ⟨y, 3, none⟩ (.string v)).heap[y]? = some (.cells (rowE k false v (n - 1)) 40 (0, 0))) := Lib.hid (heap_set_fr HY6.out 3 (.string v))
            have HX3 : Hid ((w6.setCell ⟨y, 3, none⟩ (.string v)).heap[x]? = some (.cells (rowE ⟨#[]⟩ false ⟨#[]⟩ 0) 40 (0, 0))) := Lib.hid ((Below.heap_setCell _ _ _ _ (by have := HXY.out; simp; omega)).trans HX6.out)
            have HG3 : Hid (w.grownBy (w6.setCell ⟨y, 3, none⟩ (.string v)) (some r)) := Lib.hid (grown_new HG6.out _ _ _ (by have := HX.out; have := HXY.out; omega))
            have HR3 : Hid (RdAt (w6.setCell ⟨y, 3, none⟩ (.string v)) r s p3) := Lib.hid ((Below.heap_setCell _ _ _ _ (by have := HRX.out; have := HXY.out; simp; omega)).trans hr)
            clear hg hr HR3' HY3' HX3' HG3'
            have HE : Hid ((⟨k, 0, false, v, n - 1⟩ : E).wf) := Lib.hid ⟨by have := HK1.out; simp only; omega, by have := HV1.out; simp only; omega, ⟨by simp only; omega, by simp only; omega⟩, ⟨by simp only; omega, by simp only; omega⟩⟩
            obtain ⟨w3, hw3⟩ : ∃ w3, w6.setCell ⟨y, 3, none⟩ (.string v) = w3 := ⟨_, rfl⟩
            have HBG := Lib.hid (fun W => bgood_any _ W HE.out)
            have hcl : rowE k false v (n - 1) = #[.string k, .int .i64 0, .bool false, .string v, .int .i64 (n - 1)] := rfl
            rw [hw3] at HY3 HX3 HG3 HR3
            simp only [E.val] at HBG
            clear HE
            have HFIN : Hid (BK.rFin ⟨k, 0, false, v, n - 1⟩ p3 = if good (BK.one ⟨k, 0, false, v, n - 1⟩) = 0 then .ok (⟨k, 0, false, v, n - 1⟩, p3) else .error (good (BK.one ⟨k, 0, false, v, n - 1⟩))) := Lib.hid rfl
            obtain ⟨G, hG⟩ : ∃ G, good (BK.one (⟨k, 0, false, v, n - 1⟩ : E)) = G := ⟨_, rfl⟩
            rw [hG] at HBG HFIN
            clear hG
            rw [← HX2'.out] at HFIN
            have e0 : w3.cell? ⟨y, 0, none⟩ = some (.string k) := cell_of_row _ _ _ _ _ _ HY3.out
            have e1 : w3.cell? ⟨y, 1, none⟩ = some (.int .i64 0) := cell_of_row _ _ _ _ _ _ HY3.out
            have e2 : w3.cell? ⟨y, 2, none⟩ = some (.bool false) := cell_of_row _ _ _ _ _ _ HY3.out
            have e3 : w3.cell? ⟨y, 3, none⟩ = some (.string v) := cell_of_row _ _ _ _ _ _ HY3.out
            have e4 : w3.cell? ⟨y, 4, none⟩ = some (.int .i64 (n - 1)) := cell_of_row _ _ _ _ _ _ HY3.out
            go_wp2_with fail
            refine (HBG.out _).mono ?_
            rintro e w4 ⟨rfl, hb⟩
            have HY4 := Lib.hid ((hb.block y (Array.getElem?_eq_some_iff.1 HY3.out).1).trans HY3.out)
            have HX4 := Lib.hid ((hb.block x (Array.getElem?_eq_some_iff.1 HX3.out).1).trans HX3.out)
            have HR4 := Lib.hid (HR3.out.below hb)
            have HG4 := Lib.hid (grown_trans HG3.out (grown_below hb))
            clear hb HY3 HX3 HG3 HR3 HBG e0 e1 e2 e3 e4 hw3
            by_cases hG : G = 0
            · subst hG
              have HF : Hid (X = .ok (⟨k, 0, false, v, n - 1⟩, p3)) := Lib.hid (by rw [HFIN.out, if_pos rfl])
              have e0 : w4.cell? ⟨y, 0, none⟩ = some (.string k) := cell_of_row _ _ _ _ _ _ HY4.out
              have e1 : w4.cell? ⟨y, 1, none⟩ = some (.int .i64 0) := cell_of_row _ _ _ _ _ _ HY4.out
              have e2 : w4.cell? ⟨y, 2, none⟩ = some (.bool false) := cell_of_row _ _ _ _ _ _ HY4.out
              have e3 : w4.cell? ⟨y, 3, none⟩ = some (.string v) := cell_of_row _ _ _ _ _ _ HY4.out
              have e4 : w4.cell? ⟨y, 4, none⟩ = some (.int .i64 (n - 1)) := cell_of_row _ _ _ _ _ _ HY4.out
              have z0 : w4.cell? ⟨x, 0, none⟩ = some (.string ⟨#[]⟩) := cell_of_row _ _ _ _ _ _ HX4.out
              have z1 : w4.cell? ⟨x, 1, none⟩ = some (.int .i64 0) := cell_of_row _ _ _ _ _ _ HX4.out
              have z2 : w4.cell? ⟨x, 2, none⟩ = some (.bool false) := cell_of_row _ _ _ _ _ _ HX4.out
              have z3 : w4.cell? ⟨x, 3, none⟩ = some (.string ⟨#[]⟩) := cell_of_row _ _ _ _ _ _ HX4.out
              have z4 : w4.cell? ⟨x, 4, none⟩ = some (.int .i64 0) := cell_of_row _ _ _ _ _ _ HX4.out
              have y0 : w4.frozen? ⟨x, 0, none⟩ = false := frozen_of_row _ _ _ _ _ HX4.out
              have y1 : w4.frozen? ⟨x, 1, none⟩ = false := frozen_of_row _ _ _ _ _ HX4.out
              have y2 : w4.frozen? ⟨x, 2, none⟩ = false := frozen_of_row _ _ _ _ _ HX4.out
              have y3 : w4.frozen? ⟨x, 3, none⟩ = false := frozen_of_row _ _ _ _ _ HX4.out
              have y4 : w4.frozen? ⟨x, 4, none⟩ = false := frozen_of_row _ _ _ _ _ HX4.out
              have HSZ : Hid (w.heap.size ≤ x) := Lib.hid (by have := HX.out; omega)
              have HRR : Hid (r ≠ x) := Lib.hid (by have := HRX.out; omega)
              go_wp2_with fail
              refine (leave_ok _).mono ?_
              rintro e w7 ⟨rfl, rfl⟩
              have HX8 : Hid ((((((w4.setCell ⟨x, 0, none⟩ (.string k)).setCell ⟨x, 1, none⟩ (.int .i64 0)).setCell ⟨x, 2, none⟩ (.bool false)).setCell ⟨x, 3, none⟩ (.string v)).setCell ⟨x, 4, none⟩ (.int .i64 (n - 1))).heap[x]? = some (.cells (rowE k false v (n - 1)) 40 (0, 0))) := Lib.hid (heap_set_fr (heap_set_fr (heap_set_fr (heap_set_fr (heap_set_fr HX4.out 0 (.string k)) 1 (.int .i64 0)) 2 (.bool false)) 3 (.string v)) 4 (.int .i64 (n - 1)))
              have HG8 : Hid (w.grownBy (((((w4.setCell ⟨x, 0, none⟩ (.string k)).setCell ⟨x, 1, none⟩ (.int .i64 0)).setCell ⟨x, 2, none⟩ (.bool false)).setCell ⟨x, 3, none⟩ (.string v)).setCell ⟨x, 4, none⟩ (.int .i64 (n - 1))) (some r)) := Lib.hid (grown_new (grown_new (grown_new (grown_new (grown_new HG4.out _ _ _ HSZ.out) _ _ _ HSZ.out) _ _ _ HSZ.out) _ _ _ HSZ.out) _ _ _ HSZ.out)
              have HR8 : Hid (RdAt (((((w4.setCell ⟨x, 0, none⟩ (.string k)).setCell ⟨x, 1, none⟩ (.int .i64 0)).setCell ⟨x, 2, none⟩ (.bool false)).setCell ⟨x, 3, none⟩ (.string v)).setCell ⟨x, 4, none⟩ (.int .i64 (n - 1))) r s p3) := Lib.hid ((Below.heap_setCell _ _ _ _ HRR.out).trans ((Below.heap_setCell _ _ _ _ HRR.out).trans ((Below.heap_setCell _ _ _ _ HRR.out).trans ((Below.heap_setCell _ _ _ _ HRR.out).trans ((Below.heap_setCell _ _ _ _ HRR.out).trans HR4.out)))))
              clear HX4 HG4 HR4
              go_wp2
              generalize (((((w4.setCell ⟨x, 0, none⟩ (.string k)).setCell ⟨x, 1, none⟩ (.int .i64 0)).setCell ⟨x, 2, none⟩ (.bool false)).setCell ⟨x, 3, none⟩ (.string v)).setCell ⟨x, 4, none⟩ (.int .i64 (n - 1))) = w8 at HX8 HG8 HR8 ⊢
              have d0 : w8.cell? ⟨x, 0, none⟩ = some (.string k) := cell_of_row _ _ _ _ _ _ HX8.out
              have d1 : w8.cell? ⟨x, 1, none⟩ = some (.int .i64 0) := cell_of_row _ _ _ _ _ _ HX8.out
              have d2 : w8.cell? ⟨x, 2, none⟩ = some (.bool false) := cell_of_row _ _ _ _ _ _ HX8.out
              have d3 : w8.cell? ⟨x, 3, none⟩ = some (.string v) := cell_of_row _ _ _ _ _ _ HX8.out
              have d4 : w8.cell? ⟨x, 4, none⟩ = some (.int .i64 (n - 1)) := cell_of_row _ _ _ _ _ _ HX8.out
              refine bodyPost_ret (v := .agg #[.string k, .int .i64 0, .bool false, .string v, .int .i64 (n - 1)]) (by simp [results, Try.results37, go_sem, d0, d1, d2, d3, d4]) rfl ⟨HG8.out, ?_⟩
              rw [HF.out]
              exact ⟨rfl, HR8.out⟩
            · have HF : Hid (X = .error G) := Lib.hid (by rw [HFIN.out, if_neg hG])
              go_wp2_with fail
              refine (leave_bad G _ hG).mono ?_
              rintro e w7 ⟨rfl, rfl⟩
              exact ⟨rfl, HG4.out, by rw [HF.out]⟩
end Go.Proofs.Ytonoapgajgcjlaa
