/- The walk of the document's one. Made by gen_rg.py. -/
import Derived.Test.YtcmnbfcceeljpaaGg
namespace Go.Proofs.Ytcmnbfcceeljpaa
open Go.RowKit
open SK

theorem rget_ok {s : ByteArray} {p q : Nat} {n : Int} (h : BK.rNum s.data.toList p = .ok (n, q)) (hs : s.size ≤ 140737488351232) (hp : p ≤ s.size) (W : World) :
    Calls Try.prog 32 #[.string s, .int .i64 p] W fun e w' => e = .returned (.tuple #[.int .i64 n, .int .i64 q, .int .i64 0]) ∧ W = w' := by
  refine (refGet_any s (p : Int) W hs (by omega) (by omega)).mono ?_
  rintro e w' ⟨h1, h2⟩
  unfold GetOut at h1
  rw [num_good h] at h1
  exact ⟨h1, h2⟩
theorem rget_bad {s : ByteArray} {p : Nat} {c : Int} (h : BK.rNum s.data.toList p = .error c) (hs : s.size ≤ 140737488351232) (hp : p ≤ s.size) :
    ∃ a b, ∀ W, Calls Try.prog 32 #[.string s, .int .i64 p] W fun e w' => e = .returned (.tuple #[.int .i64 a, .int .i64 b, .int .i64 c]) ∧ W = w' := by
  obtain ⟨hv, -⟩ := num_bad h
  refine ⟨(VM.vget s.data.toList p).1, (VM.vget s.data.toList p).2.1, fun W => (refGet_any s (p : Int) W hs (by omega) (by omega)).mono ?_⟩
  rintro e w' ⟨h1, h2⟩
  unfold GetOut at h1
  rw [hv] at h1
  exact ⟨h1, h2⟩
theorem rtxt_ok {s : ByteArray} {p q : Nat} {t : ByteArray} (h : BK.rText s.data.toList p = .ok (t, q)) (hs : s.size ≤ 140737488351232) (hp : p ≤ s.size) (W : World) :
    Calls Try.prog 47 #[.string s, .int .i64 p] W fun e w' => e = .returned (.tuple #[.string t, .int .i64 q, .int .i64 0]) ∧ W = w' := by
  refine (refGetText_any s (p : Int) W hs (by omega) (by omega)).mono ?_
  rintro e w' ⟨h1, h2⟩
  unfold TextOut at h1
  rw [text_good h, str_mk] at h1
  exact ⟨h1, h2⟩
theorem rtxt_bad {s : ByteArray} {p : Nat} {c : Int} (h : BK.rText s.data.toList p = .error c) (hs : s.size ≤ 140737488351232) (hp : p ≤ s.size) :
    ∃ a b, ∀ W, Calls Try.prog 47 #[.string s, .int .i64 p] W fun e w' => e = .returned (.tuple #[.string a, .int .i64 b, .int .i64 c]) ∧ W = w' := by
  obtain ⟨hv, -⟩ := text_bad h
  refine ⟨⟨(vtext s.data.toList p).1.toArray⟩, (vtext s.data.toList p).2.1, fun W => (refGetText_any s (p : Int) W hs (by omega) (by omega)).mono ?_⟩
  rintro e w' ⟨h1, h2⟩
  unfold TextOut at h1
  rw [hv] at h1
  exact ⟨h1, h2⟩
theorem one_full (l : List UInt8) (p : Nat) (K : ByteArray) : BK.rOne l p K =
  match BK.rNum l p with
  | .error c => .error c
  | .ok (n, p1) => if n < 0 ∨ (K.size : Int) < n then .error 4 else
    match BK.rText l p1 with
    | .error c => .error c
    | .ok (t, p2) =>
      match BK.rNum l p2 with
      | .error c => .error c
      | .ok (s, p3) =>
        match BK.rNum l p3 with
        | .error c => .error c
        | .ok (m, p4) => if m < 0 then .error 4 else if m = 0 then .ok (⟨K.extract 0 n.toNat ++ t, s, true, ⟨#[]⟩, 0⟩, p4) else
          match BK.rText l p4 with
          | .error c => .error c
          | .ok (v, q) => .ok (⟨K.extract 0 n.toNat ++ t, s, false, v, m - 1⟩, q) := by
  unfold BK.rOne BK.rKey
  cases BK.rNum l p with
  | error c => rfl
  | ok z =>
    obtain ⟨n, p1⟩ := z
    simp only [BK.rRest]
    by_cases hn : n < 0 ∨ (K.size : Int) < n
    · rw [if_pos hn, if_pos hn]
    · rw [if_neg hn, if_neg hn]
      cases BK.rText l p1 with
      | error c => rfl
      | ok z => rfl

def OneOut (w : World) (x : Except Int (E × Nat)) (e : Ending) (w' : World) : Prop :=
  Below w.heap.size w w' ∧ match x with
    | .ok (x, q) => e = .returned (.tuple #[x.val, .int .i64 q, .int .i64 0])
    | .error c => e = .returned (.tuple #[E.zero.val, .int .i64 0, .int .i64 c])

theorem below_new {B x : Nat} {a b : World} (h : Below B a b) (hx : B ≤ x) (j : Nat) (u : Value) : Below B a (b.setCell ⟨x, j, none⟩ u) := h.setCell (p := ⟨x, j, none⟩) hx u

set_option maxRecDepth 100000 in
set_option maxHeartbeats 4000000 in
theorem rone_any (s K : ByteArray) (p : Nat) (w : World) (hs : s.size ≤ 140737488351232) (hp : p ≤ s.size) (hK : K.size ≤ 64) :
    Calls Try.prog 33 #[.string s, .int .i64 p, .string K] w fun e w' => OneOut w (BK.rOne s.data.toList p K) e w' := by
  have HO := Lib.hid (one_full s.data.toList p K)
  obtain ⟨X, hX⟩ : ∃ X, BK.rOne s.data.toList p K = X := ⟨_, rfl⟩
  rw [hX] at HO ⊢
  clear hX
  obtain ⟨x, hx⟩ : ∃ x, w.heap.size = x := ⟨_, rfl⟩
  have hrx : ((w.alloc (.cells #[.string ⟨#[]⟩, .int .i64 0, .bool false, .string ⟨#[]⟩, .int .i64 0] 44)).alloc (.cells #[.string ⟨#[]⟩, .int .i64 0, .bool false, .string ⟨#[]⟩, .int .i64 0] 44)).heap[x]? = some (.cells #[.string ⟨#[]⟩, .int .i64 0, .bool false, .string ⟨#[]⟩, .int .i64 0] 44 (0, 0)) := by
    rw [← hx]; exact (Below.heap_alloc _ _ _ (by simp)).trans (heap_alloc_new w _)
  have hry : ((w.alloc (.cells #[.string ⟨#[]⟩, .int .i64 0, .bool false, .string ⟨#[]⟩, .int .i64 0] 44)).alloc (.cells #[.string ⟨#[]⟩, .int .i64 0, .bool false, .string ⟨#[]⟩, .int .i64 0] 44)).heap[x + 1]? = some (.cells #[.string ⟨#[]⟩, .int .i64 0, .bool false, .string ⟨#[]⟩, .int .i64 0] 44 (0, 0)) := by
    have := heap_alloc_new (w.alloc (.cells #[.string ⟨#[]⟩, .int .i64 0, .bool false, .string ⟨#[]⟩, .int .i64 0] 44)) (.cells #[.string ⟨#[]⟩, .int .i64 0, .bool false, .string ⟨#[]⟩, .int .i64 0] 44)
    rw [← hx]; simpa using this
  have hb1 : Below x w ((w.alloc (.cells #[.string ⟨#[]⟩, .int .i64 0, .bool false, .string ⟨#[]⟩, .int .i64 0] 44)).alloc (.cells #[.string ⟨#[]⟩, .int .i64 0, .bool false, .string ⟨#[]⟩, .int .i64 0] 44)) := by
    rw [← hx]; exact ((Below.refl _ w).alloc (Nat.le_refl _) _).alloc (by simp) _
  have hs1 : ((w.alloc (.cells #[.string ⟨#[]⟩, .int .i64 0, .bool false, .string ⟨#[]⟩, .int .i64 0] 44)).alloc (.cells #[.string ⟨#[]⟩, .int .i64 0, .bool false, .string ⟨#[]⟩, .int .i64 0] 44)).heap.size = x + 1 + 1 := by rw [← hx]; simp
  have HXX := Lib.hid hx
  have HRX := Lib.hid hrx
  have HRY := Lib.hid hry
  have HB1 := Lib.hid hb1
  have HS1 := Lib.hid hs1
  clear hrx hry hb1 hs1
  go_enter Try.func33, Try.ntmps33
  cases hn : BK.rNum s.data.toList p with
  | error c =>
    obtain ⟨b0, b1, hg⟩ := rget_bad hn hs hp
    have HT := Lib.hid hg
    have hc := BK.num_err hn
    have HF : Hid (X = .error c) := Lib.hid (by rw [HO.out, hn])
    have hbe : (c == 0) = false := by simpa using hc
    have hbn : (c != 0) = true := by simpa using hc
    clear hn hg HO
    go_wp2_with fail
    generalize (w.alloc (.cells #[.string ⟨#[]⟩, .int .i64 0, .bool false, .string ⟨#[]⟩, .int .i64 0] 44)).alloc (.cells #[.string ⟨#[]⟩, .int .i64 0, .bool false, .string ⟨#[]⟩, .int .i64 0] 44) = w1 at HRX HRY HB1 HS1 ⊢
    obtain ⟨y, hy⟩ : ∃ y, x + 1 = y := ⟨_, rfl⟩
    have HXY : Hid (x < y) := Lib.hid (by omega)
    rw [hy] at HRY HS1
    simp only [hy]
    clear hx hy
    have cx0 : w1.cell? ⟨x, 0, none⟩ = some (.string ⟨#[]⟩) := cell_of_row _ _ _ _ _ _ HRX.out
    have cx1 : w1.cell? ⟨x, 1, none⟩ = some (.int .i64 0) := cell_of_row _ _ _ _ _ _ HRX.out
    have cx2 : w1.cell? ⟨x, 2, none⟩ = some (.bool false) := cell_of_row _ _ _ _ _ _ HRX.out
    have cx3 : w1.cell? ⟨x, 3, none⟩ = some (.string ⟨#[]⟩) := cell_of_row _ _ _ _ _ _ HRX.out
    have cx4 : w1.cell? ⟨x, 4, none⟩ = some (.int .i64 0) := cell_of_row _ _ _ _ _ _ HRX.out
    have fx0 : w1.frozen? ⟨x, 0, none⟩ = false := frozen_of_row _ _ _ _ _ HRX.out
    have fx1 : w1.frozen? ⟨x, 1, none⟩ = false := frozen_of_row _ _ _ _ _ HRX.out
    have fx2 : w1.frozen? ⟨x, 2, none⟩ = false := frozen_of_row _ _ _ _ _ HRX.out
    have fx3 : w1.frozen? ⟨x, 3, none⟩ = false := frozen_of_row _ _ _ _ _ HRX.out
    have fx4 : w1.frozen? ⟨x, 4, none⟩ = false := frozen_of_row _ _ _ _ _ HRX.out
    have cy0 : w1.cell? ⟨y, 0, none⟩ = some (.string ⟨#[]⟩) := cell_of_row _ _ _ _ _ _ HRY.out
    have cy1 : w1.cell? ⟨y, 1, none⟩ = some (.int .i64 0) := cell_of_row _ _ _ _ _ _ HRY.out
    have cy2 : w1.cell? ⟨y, 2, none⟩ = some (.bool false) := cell_of_row _ _ _ _ _ _ HRY.out
    have cy3 : w1.cell? ⟨y, 3, none⟩ = some (.string ⟨#[]⟩) := cell_of_row _ _ _ _ _ _ HRY.out
    have cy4 : w1.cell? ⟨y, 4, none⟩ = some (.int .i64 0) := cell_of_row _ _ _ _ _ _ HRY.out
    have HXE : Hid ((((((w1.setCell ⟨x, 0, none⟩ (.string ⟨#[]⟩)).setCell ⟨x, 1, none⟩ (.int .i64 0)).setCell ⟨x, 2, none⟩ (.bool false)).setCell ⟨x, 3, none⟩ (.string ⟨#[]⟩)).setCell ⟨x, 4, none⟩ (.int .i64 0)).heap[x]? = some (.cells #[.string ⟨#[]⟩, .int .i64 0, .bool false, .string ⟨#[]⟩, .int .i64 0] 44 (0, 0))) := Lib.hid (heap_set_fr (heap_set_fr (heap_set_fr (heap_set_fr (heap_set_fr HRX.out 0 (.string ⟨#[]⟩)) 1 (.int .i64 0)) 2 (.bool false)) 3 (.string ⟨#[]⟩)) 4 (.int .i64 0))
    have HBE : Hid (Below x w (((((w1.setCell ⟨x, 0, none⟩ (.string ⟨#[]⟩)).setCell ⟨x, 1, none⟩ (.int .i64 0)).setCell ⟨x, 2, none⟩ (.bool false)).setCell ⟨x, 3, none⟩ (.string ⟨#[]⟩)).setCell ⟨x, 4, none⟩ (.int .i64 0))) := Lib.hid (below_new (below_new (below_new (below_new (below_new HB1.out (Nat.le_refl _) _ _) (Nat.le_refl _) _ _) (Nat.le_refl _) _ _) (Nat.le_refl _) _ _) (Nat.le_refl _) _ _)
    refine (HT.out _).mono ?_
    rintro e w2 ⟨rfl, rfl⟩
    go_wp2
    generalize (((((w1.setCell ⟨x, 0, none⟩ (.string ⟨#[]⟩)).setCell ⟨x, 1, none⟩ (.int .i64 0)).setCell ⟨x, 2, none⟩ (.bool false)).setCell ⟨x, 3, none⟩ (.string ⟨#[]⟩)).setCell ⟨x, 4, none⟩ (.int .i64 0)) = we at HXE HBE ⊢
    have d0 : we.cell? ⟨x, 0, none⟩ = some (.string ⟨#[]⟩) := cell_of_row _ _ _ _ _ _ HXE.out
    have d1 : we.cell? ⟨x, 1, none⟩ = some (.int .i64 0) := cell_of_row _ _ _ _ _ _ HXE.out
    have d2 : we.cell? ⟨x, 2, none⟩ = some (.bool false) := cell_of_row _ _ _ _ _ _ HXE.out
    have d3 : we.cell? ⟨x, 3, none⟩ = some (.string ⟨#[]⟩) := cell_of_row _ _ _ _ _ _ HXE.out
    have d4 : we.cell? ⟨x, 4, none⟩ = some (.int .i64 0) := cell_of_row _ _ _ _ _ _ HXE.out
    refine bodyPost_ret (v := .tuple #[.agg #[.string ⟨#[]⟩, .int .i64 0, .bool false, .string ⟨#[]⟩, .int .i64 0], .int .i64 0, .int .i64 c]) (by simp [results, Try.results33, go_sem, d0, d1, d2, d3, d4]) rfl ⟨by rw [HXX.out]; exact HBE.out, ?_⟩
    rw [HF.out]
    rfl
  | ok z =>
    obtain ⟨n, p1⟩ := z
    have hT := fun W => rget_ok hn hs hp W
    have HT := Lib.hid hT
    have hp1 : p1 ≤ s.size := by have := BK.num_le hn; rwa [size_list] at this
    have hrn := BK.num_ok hn
    have hlon := hrn.1
    have hhin := hrn.2.1
    simp only [hn] at HO
    clear hT hrn hn
    go_wp2_with fail
    generalize (w.alloc (.cells #[.string ⟨#[]⟩, .int .i64 0, .bool false, .string ⟨#[]⟩, .int .i64 0] 44)).alloc (.cells #[.string ⟨#[]⟩, .int .i64 0, .bool false, .string ⟨#[]⟩, .int .i64 0] 44) = w1 at HRX HRY HB1 HS1 ⊢
    obtain ⟨y, hy⟩ : ∃ y, x + 1 = y := ⟨_, rfl⟩
    have HXY : Hid (x < y) := Lib.hid (by omega)
    rw [hy] at HRY HS1
    simp only [hy]
    clear hx hy
    have cx0 : w1.cell? ⟨x, 0, none⟩ = some (.string ⟨#[]⟩) := cell_of_row _ _ _ _ _ _ HRX.out
    have cx1 : w1.cell? ⟨x, 1, none⟩ = some (.int .i64 0) := cell_of_row _ _ _ _ _ _ HRX.out
    have cx2 : w1.cell? ⟨x, 2, none⟩ = some (.bool false) := cell_of_row _ _ _ _ _ _ HRX.out
    have cx3 : w1.cell? ⟨x, 3, none⟩ = some (.string ⟨#[]⟩) := cell_of_row _ _ _ _ _ _ HRX.out
    have cx4 : w1.cell? ⟨x, 4, none⟩ = some (.int .i64 0) := cell_of_row _ _ _ _ _ _ HRX.out
    have fx0 : w1.frozen? ⟨x, 0, none⟩ = false := frozen_of_row _ _ _ _ _ HRX.out
    have fx1 : w1.frozen? ⟨x, 1, none⟩ = false := frozen_of_row _ _ _ _ _ HRX.out
    have fx2 : w1.frozen? ⟨x, 2, none⟩ = false := frozen_of_row _ _ _ _ _ HRX.out
    have fx3 : w1.frozen? ⟨x, 3, none⟩ = false := frozen_of_row _ _ _ _ _ HRX.out
    have fx4 : w1.frozen? ⟨x, 4, none⟩ = false := frozen_of_row _ _ _ _ _ HRX.out
    have cy0 : w1.cell? ⟨y, 0, none⟩ = some (.string ⟨#[]⟩) := cell_of_row _ _ _ _ _ _ HRY.out
    have cy1 : w1.cell? ⟨y, 1, none⟩ = some (.int .i64 0) := cell_of_row _ _ _ _ _ _ HRY.out
    have cy2 : w1.cell? ⟨y, 2, none⟩ = some (.bool false) := cell_of_row _ _ _ _ _ _ HRY.out
    have cy3 : w1.cell? ⟨y, 3, none⟩ = some (.string ⟨#[]⟩) := cell_of_row _ _ _ _ _ _ HRY.out
    have cy4 : w1.cell? ⟨y, 4, none⟩ = some (.int .i64 0) := cell_of_row _ _ _ _ _ _ HRY.out
    have HXE : Hid ((((((w1.setCell ⟨x, 0, none⟩ (.string ⟨#[]⟩)).setCell ⟨x, 1, none⟩ (.int .i64 0)).setCell ⟨x, 2, none⟩ (.bool false)).setCell ⟨x, 3, none⟩ (.string ⟨#[]⟩)).setCell ⟨x, 4, none⟩ (.int .i64 0)).heap[x]? = some (.cells #[.string ⟨#[]⟩, .int .i64 0, .bool false, .string ⟨#[]⟩, .int .i64 0] 44 (0, 0))) := Lib.hid (heap_set_fr (heap_set_fr (heap_set_fr (heap_set_fr (heap_set_fr HRX.out 0 (.string ⟨#[]⟩)) 1 (.int .i64 0)) 2 (.bool false)) 3 (.string ⟨#[]⟩)) 4 (.int .i64 0))
    have HBE : Hid (Below x w (((((w1.setCell ⟨x, 0, none⟩ (.string ⟨#[]⟩)).setCell ⟨x, 1, none⟩ (.int .i64 0)).setCell ⟨x, 2, none⟩ (.bool false)).setCell ⟨x, 3, none⟩ (.string ⟨#[]⟩)).setCell ⟨x, 4, none⟩ (.int .i64 0))) := Lib.hid (below_new (below_new (below_new (below_new (below_new HB1.out (Nat.le_refl _) _ _) (Nat.le_refl _) _ _) (Nat.le_refl _) _ _) (Nat.le_refl _) _ _) (Nat.le_refl _) _ _)
    refine (HT.out _).mono ?_
    rintro e w2 ⟨rfl, rfl⟩
    by_cases h1 : n < 0
    · have HF : Hid (X = .error 4) := Lib.hid (by rw [HO.out, if_pos (Or.inl h1)])
      clear HO
      go_wp2
      generalize (((((w1.setCell ⟨x, 0, none⟩ (.string ⟨#[]⟩)).setCell ⟨x, 1, none⟩ (.int .i64 0)).setCell ⟨x, 2, none⟩ (.bool false)).setCell ⟨x, 3, none⟩ (.string ⟨#[]⟩)).setCell ⟨x, 4, none⟩ (.int .i64 0)) = we at HXE HBE ⊢
      have d0 : we.cell? ⟨x, 0, none⟩ = some (.string ⟨#[]⟩) := cell_of_row _ _ _ _ _ _ HXE.out
      have d1 : we.cell? ⟨x, 1, none⟩ = some (.int .i64 0) := cell_of_row _ _ _ _ _ _ HXE.out
      have d2 : we.cell? ⟨x, 2, none⟩ = some (.bool false) := cell_of_row _ _ _ _ _ _ HXE.out
      have d3 : we.cell? ⟨x, 3, none⟩ = some (.string ⟨#[]⟩) := cell_of_row _ _ _ _ _ _ HXE.out
      have d4 : we.cell? ⟨x, 4, none⟩ = some (.int .i64 0) := cell_of_row _ _ _ _ _ _ HXE.out
      refine bodyPost_ret (v := .tuple #[.agg #[.string ⟨#[]⟩, .int .i64 0, .bool false, .string ⟨#[]⟩, .int .i64 0], .int .i64 0, .int .i64 4]) (by simp [results, Try.results33, go_sem, d0, d1, d2, d3, d4]) rfl ⟨by rw [HXX.out]; exact HBE.out, ?_⟩
      rw [HF.out]
      rfl
    by_cases h2 : (K.size : Int) < n
    · have HF : Hid (X = .error 4) := Lib.hid (by rw [HO.out, if_pos (Or.inr h2)])
      clear HO
      go_wp2
      generalize (((((w1.setCell ⟨x, 0, none⟩ (.string ⟨#[]⟩)).setCell ⟨x, 1, none⟩ (.int .i64 0)).setCell ⟨x, 2, none⟩ (.bool false)).setCell ⟨x, 3, none⟩ (.string ⟨#[]⟩)).setCell ⟨x, 4, none⟩ (.int .i64 0)) = we at HXE HBE ⊢
      have d0 : we.cell? ⟨x, 0, none⟩ = some (.string ⟨#[]⟩) := cell_of_row _ _ _ _ _ _ HXE.out
      have d1 : we.cell? ⟨x, 1, none⟩ = some (.int .i64 0) := cell_of_row _ _ _ _ _ _ HXE.out
      have d2 : we.cell? ⟨x, 2, none⟩ = some (.bool false) := cell_of_row _ _ _ _ _ _ HXE.out
      have d3 : we.cell? ⟨x, 3, none⟩ = some (.string ⟨#[]⟩) := cell_of_row _ _ _ _ _ _ HXE.out
      have d4 : we.cell? ⟨x, 4, none⟩ = some (.int .i64 0) := cell_of_row _ _ _ _ _ _ HXE.out
      refine bodyPost_ret (v := .tuple #[.agg #[.string ⟨#[]⟩, .int .i64 0, .bool false, .string ⟨#[]⟩, .int .i64 0], .int .i64 0, .int .i64 4]) (by simp [results, Try.results33, go_sem, d0, d1, d2, d3, d4]) rfl ⟨by rw [HXX.out]; exact HBE.out, ?_⟩
      rw [HF.out]
      rfl
    obtain ⟨N, rfl⟩ := Int.eq_ofNat_of_zero_le (show 0 ≤ n by omega)
    have HOa := Lib.hid (HO.out.trans (if_neg (by omega)))
    rw [Int.toNat_natCast] at HOa
    clear HO h1
    have HO := Lib.hid HOa.out
    clear HOa
    cases ht : BK.rText s.data.toList p1 with
    | error c =>
      obtain ⟨b0, b1, hg⟩ := rtxt_bad ht hs hp1
      have HT := Lib.hid hg
      have hc := BK.text_err ht
      have HF : Hid (X = .error c) := Lib.hid (by rw [HO.out, ht])
      have hbe : (c == 0) = false := by simpa using hc
      have hbn : (c != 0) = true := by simpa using hc
      clear ht hg HO
      go_wp2_with fail
      refine (HT.out _).mono ?_
      rintro e w2 ⟨rfl, rfl⟩
      go_wp2
      generalize (((((w1.setCell ⟨x, 0, none⟩ (.string ⟨#[]⟩)).setCell ⟨x, 1, none⟩ (.int .i64 0)).setCell ⟨x, 2, none⟩ (.bool false)).setCell ⟨x, 3, none⟩ (.string ⟨#[]⟩)).setCell ⟨x, 4, none⟩ (.int .i64 0)) = we at HXE HBE ⊢
      have d0 : we.cell? ⟨x, 0, none⟩ = some (.string ⟨#[]⟩) := cell_of_row _ _ _ _ _ _ HXE.out
      have d1 : we.cell? ⟨x, 1, none⟩ = some (.int .i64 0) := cell_of_row _ _ _ _ _ _ HXE.out
      have d2 : we.cell? ⟨x, 2, none⟩ = some (.bool false) := cell_of_row _ _ _ _ _ _ HXE.out
      have d3 : we.cell? ⟨x, 3, none⟩ = some (.string ⟨#[]⟩) := cell_of_row _ _ _ _ _ _ HXE.out
      have d4 : we.cell? ⟨x, 4, none⟩ = some (.int .i64 0) := cell_of_row _ _ _ _ _ _ HXE.out
      refine bodyPost_ret (v := .tuple #[.agg #[.string ⟨#[]⟩, .int .i64 0, .bool false, .string ⟨#[]⟩, .int .i64 0], .int .i64 0, .int .i64 c]) (by simp [results, Try.results33, go_sem, d0, d1, d2, d3, d4]) rfl ⟨by rw [HXX.out]; exact HBE.out, ?_⟩
      rw [HF.out]
      rfl
    | ok z =>
      obtain ⟨t, p2⟩ := z
      have hT := fun W => rtxt_ok ht hs hp1 W
      have HT := Lib.hid hT
      have hp2 : p2 ≤ s.size := by have := (BK.text_le ht).2; rwa [size_list] at this
      have hszt := (BK.text_le ht).1
      simp only [ht] at HO
      clear hT ht
      go_wp2_with fail
      refine (HT.out _).mono ?_
      rintro e w2 ⟨rfl, rfl⟩
      have hsl := fun W => str_head W K N (by omega)
      have hes : (K.extract 0 N).size ≤ 64 := by rw [ByteArray.size_extract]; omega
      obtain ⟨KH, hKH⟩ : ∃ KH, K.extract 0 N = KH := ⟨_, rfl⟩
      rw [hKH] at hes HO
      simp only [hKH] at hsl
      have k1 : ¬ 9223372036854775807 < KH.size + t.size := by omega
      obtain ⟨KT, hKT⟩ : ∃ KT, KH ++ t = KT := ⟨_, rfl⟩
      rw [hKT] at HO
      have hz0 : (0 : Int) ≤ (N : Int) := by omega
      clear hKH

      cases hq : BK.rNum s.data.toList p2 with
      | error c =>
        obtain ⟨b0, b1, hg⟩ := rget_bad hq hs hp2
        have HT := Lib.hid hg
        have hc := BK.num_err hq
        have HF : Hid (X = .error c) := Lib.hid (by rw [HO.out, hq])
        have hbe : (c == 0) = false := by simpa using hc
        have hbn : (c != 0) = true := by simpa using hc
        clear hq hg HO
        go_wp2_with fail
        refine (HT.out _).mono ?_
        rintro e w2 ⟨rfl, rfl⟩
        go_wp2
        generalize (((((w1.setCell ⟨x, 0, none⟩ (.string ⟨#[]⟩)).setCell ⟨x, 1, none⟩ (.int .i64 0)).setCell ⟨x, 2, none⟩ (.bool false)).setCell ⟨x, 3, none⟩ (.string ⟨#[]⟩)).setCell ⟨x, 4, none⟩ (.int .i64 0)) = we at HXE HBE ⊢
        have d0 : we.cell? ⟨x, 0, none⟩ = some (.string ⟨#[]⟩) := cell_of_row _ _ _ _ _ _ HXE.out
        have d1 : we.cell? ⟨x, 1, none⟩ = some (.int .i64 0) := cell_of_row _ _ _ _ _ _ HXE.out
        have d2 : we.cell? ⟨x, 2, none⟩ = some (.bool false) := cell_of_row _ _ _ _ _ _ HXE.out
        have d3 : we.cell? ⟨x, 3, none⟩ = some (.string ⟨#[]⟩) := cell_of_row _ _ _ _ _ _ HXE.out
        have d4 : we.cell? ⟨x, 4, none⟩ = some (.int .i64 0) := cell_of_row _ _ _ _ _ _ HXE.out
        refine bodyPost_ret (v := .tuple #[.agg #[.string ⟨#[]⟩, .int .i64 0, .bool false, .string ⟨#[]⟩, .int .i64 0], .int .i64 0, .int .i64 c]) (by simp [results, Try.results33, go_sem, d0, d1, d2, d3, d4]) rfl ⟨by rw [HXX.out]; exact HBE.out, ?_⟩
        rw [HF.out]
        rfl
      | ok z =>
        obtain ⟨sq, p3⟩ := z
        have hT := fun W => rget_ok hq hs hp2 W
        have HT := Lib.hid hT
        have hp3 : p3 ≤ s.size := by have := BK.num_le hq; rwa [size_list] at this
        have hrsq := BK.num_ok hq
        have hlosq := hrsq.1
        have hhisq := hrsq.2.1
        simp only [hq] at HO
        clear hT hrsq hq
        go_wp2_with fail
        refine (HT.out _).mono ?_
        rintro e w2 ⟨rfl, rfl⟩
        cases hm : BK.rNum s.data.toList p3 with
        | error c =>
          obtain ⟨b0, b1, hg⟩ := rget_bad hm hs hp3
          have HT := Lib.hid hg
          have hc := BK.num_err hm
          have HF : Hid (X = .error c) := Lib.hid (by rw [HO.out, hm])
          have hbe : (c == 0) = false := by simpa using hc
          have hbn : (c != 0) = true := by simpa using hc
          clear hm hg HO
          go_wp2_with fail
          refine (HT.out _).mono ?_
          rintro e w2 ⟨rfl, rfl⟩
          go_wp2
          generalize (((((w1.setCell ⟨x, 0, none⟩ (.string ⟨#[]⟩)).setCell ⟨x, 1, none⟩ (.int .i64 0)).setCell ⟨x, 2, none⟩ (.bool false)).setCell ⟨x, 3, none⟩ (.string ⟨#[]⟩)).setCell ⟨x, 4, none⟩ (.int .i64 0)) = we at HXE HBE ⊢
          have d0 : we.cell? ⟨x, 0, none⟩ = some (.string ⟨#[]⟩) := cell_of_row _ _ _ _ _ _ HXE.out
          have d1 : we.cell? ⟨x, 1, none⟩ = some (.int .i64 0) := cell_of_row _ _ _ _ _ _ HXE.out
          have d2 : we.cell? ⟨x, 2, none⟩ = some (.bool false) := cell_of_row _ _ _ _ _ _ HXE.out
          have d3 : we.cell? ⟨x, 3, none⟩ = some (.string ⟨#[]⟩) := cell_of_row _ _ _ _ _ _ HXE.out
          have d4 : we.cell? ⟨x, 4, none⟩ = some (.int .i64 0) := cell_of_row _ _ _ _ _ _ HXE.out
          refine bodyPost_ret (v := .tuple #[.agg #[.string ⟨#[]⟩, .int .i64 0, .bool false, .string ⟨#[]⟩, .int .i64 0], .int .i64 0, .int .i64 c]) (by simp [results, Try.results33, go_sem, d0, d1, d2, d3, d4]) rfl ⟨by rw [HXX.out]; exact HBE.out, ?_⟩
          rw [HF.out]
          rfl
        | ok z =>
          obtain ⟨m, p4⟩ := z
          have hT := fun W => rget_ok hm hs hp3 W
          have HT := Lib.hid hT
          have hp4 : p4 ≤ s.size := by have := BK.num_le hm; rwa [size_list] at this
          have hrm := BK.num_ok hm
          have hlom := hrm.1
          have hhim := hrm.2.1
          simp only [hm] at HO
          clear hT hrm hm
          go_wp2_with fail
          refine (HT.out _).mono ?_
          rintro e w2 ⟨rfl, rfl⟩
          by_cases h1 : m < 0
          · have HF : Hid (X = .error 4) := Lib.hid (by rw [HO.out, if_pos h1])
            clear HO
            go_wp2
            generalize (((((w1.setCell ⟨x, 0, none⟩ (.string ⟨#[]⟩)).setCell ⟨x, 1, none⟩ (.int .i64 0)).setCell ⟨x, 2, none⟩ (.bool false)).setCell ⟨x, 3, none⟩ (.string ⟨#[]⟩)).setCell ⟨x, 4, none⟩ (.int .i64 0)) = we at HXE HBE ⊢
            have d0 : we.cell? ⟨x, 0, none⟩ = some (.string ⟨#[]⟩) := cell_of_row _ _ _ _ _ _ HXE.out
            have d1 : we.cell? ⟨x, 1, none⟩ = some (.int .i64 0) := cell_of_row _ _ _ _ _ _ HXE.out
            have d2 : we.cell? ⟨x, 2, none⟩ = some (.bool false) := cell_of_row _ _ _ _ _ _ HXE.out
            have d3 : we.cell? ⟨x, 3, none⟩ = some (.string ⟨#[]⟩) := cell_of_row _ _ _ _ _ _ HXE.out
            have d4 : we.cell? ⟨x, 4, none⟩ = some (.int .i64 0) := cell_of_row _ _ _ _ _ _ HXE.out
            refine bodyPost_ret (v := .tuple #[.agg #[.string ⟨#[]⟩, .int .i64 0, .bool false, .string ⟨#[]⟩, .int .i64 0], .int .i64 0, .int .i64 4]) (by simp [results, Try.results33, go_sem, d0, d1, d2, d3, d4]) rfl ⟨by rw [HXX.out]; exact HBE.out, ?_⟩
            rw [HF.out]
            rfl
          · by_cases h2 : m = 0
            · skip
              have hzr : (w1.alloc (.cells #[.string KT, .int .i64 sq, .bool false, .string ⟨#[]⟩, .int .i64 0] 44)).heap[w1.heap.size]? = some (.cells #[.string KT, .int .i64 sq, .bool false, .string ⟨#[]⟩, .int .i64 0] 44 (0, 0)) := heap_alloc_new w1 _
              have hxr : (w1.alloc (.cells #[.string KT, .int .i64 sq, .bool false, .string ⟨#[]⟩, .int .i64 0] 44)).heap[x]? = some (.cells #[.string ⟨#[]⟩, .int .i64 0, .bool false, .string ⟨#[]⟩, .int .i64 0] 44 (0, 0)) := (Below.heap_alloc _ _ _ (by have := (Array.getElem?_eq_some_iff.1 HRX.out).1; omega)).trans HRX.out
              have hyr : (w1.alloc (.cells #[.string KT, .int .i64 sq, .bool false, .string ⟨#[]⟩, .int .i64 0] 44)).heap[y]? = some (.cells #[.string ⟨#[]⟩, .int .i64 0, .bool false, .string ⟨#[]⟩, .int .i64 0] 44 (0, 0)) := (Below.heap_alloc _ _ _ (by have := (Array.getElem?_eq_some_iff.1 HRY.out).1; omega)).trans HRY.out
              have hbz : Below x w (w1.alloc (.cells #[.string KT, .int .i64 sq, .bool false, .string ⟨#[]⟩, .int .i64 0] 44)) := HB1.out.alloc (by have := (Array.getElem?_eq_some_iff.1 HRX.out).1; omega) _
              have hzx : x ≤ w1.heap.size := by have := (Array.getElem?_eq_some_iff.1 HRX.out).1; omega
              have hzn : x ≠ w1.heap.size := by have := (Array.getElem?_eq_some_iff.1 HRX.out).1; omega
              have HZR0 := Lib.hid hzr
              have HXR0 := Lib.hid hxr
              have HYR0 := Lib.hid hyr
              have HBZ0 := Lib.hid hbz
              have HZX := Lib.hid hzx
              have HZN := Lib.hid hzn
              clear hzr hxr hyr hbz hzx hzn cx0 cx1 cx2 cx3 cx4 fx0 fx1 fx2 fx3 fx4 cy0 cy1 cy2 cy3 cy4 HXE HBE
              have HF : Hid (X = .ok (⟨KT, sq, true, ⟨#[]⟩, 0⟩, p4)) := Lib.hid (by rw [HO.out, if_neg (by omega), if_pos h2])
              have hbe : (m == 0) = true := by simpa using h2
              go_upto_if 91 with fail

              generalize w1.alloc (.cells #[.string KT, .int .i64 sq, .bool false, .string ⟨#[]⟩, .int .i64 0] 44) = wa at HZR0 HXR0 HYR0 HBZ0 ⊢
              obtain ⟨z, hz⟩ : ∃ z, w1.heap.size = z := ⟨_, rfl⟩
              rw [hz] at HZR0 HZX HZN ⊢
              clear hz

              have cz2 : wa.cell? ⟨z, 2, none⟩ = some (.bool false) := cell_of_row _ _ _ _ _ _ HZR0.out
              have fz2 : wa.frozen? ⟨z, 2, none⟩ = false := frozen_of_row _ _ _ _ _ HZR0.out

              have HZR : Hid ((wa.setCell ⟨z, 2, none⟩ (.bool true)).heap[z]? = some (.cells #[.string KT, .int .i64 sq, .bool true, .string ⟨#[]⟩, .int .i64 0] 44 (0, 0))) := Lib.hid (heap_set_fr HZR0.out 2 (.bool true))
              have HXR : Hid ((wa.setCell ⟨z, 2, none⟩ (.bool true)).heap[x]? = some (.cells #[.string ⟨#[]⟩, .int .i64 0, .bool false, .string ⟨#[]⟩, .int .i64 0] 44 (0, 0))) := Lib.hid ((Below.heap_setCell _ _ _ _ HZN.out).trans HXR0.out)
              have HBZ : Hid (Below x w (wa.setCell ⟨z, 2, none⟩ (.bool true))) := Lib.hid (below_new HBZ0.out HZX.out _ _)
              obtain ⟨wz, hwz⟩ : ∃ wz, wa.setCell ⟨z, 2, none⟩ (.bool true) = wz := ⟨_, rfl⟩
              rw [hwz] at HZR HXR HBZ
              have e0 : wz.cell? ⟨z, 0, none⟩ = some (.string KT) := cell_of_row _ _ _ _ _ _ HZR.out
              have e1 : wz.cell? ⟨z, 1, none⟩ = some (.int .i64 sq) := cell_of_row _ _ _ _ _ _ HZR.out
              have e2 : wz.cell? ⟨z, 2, none⟩ = some (.bool true) := cell_of_row _ _ _ _ _ _ HZR.out
              have e3 : wz.cell? ⟨z, 3, none⟩ = some (.string ⟨#[]⟩) := cell_of_row _ _ _ _ _ _ HZR.out
              have e4 : wz.cell? ⟨z, 4, none⟩ = some (.int .i64 0) := cell_of_row _ _ _ _ _ _ HZR.out
              have g0 : wz.cell? ⟨x, 0, none⟩ = some (.string ⟨#[]⟩) := cell_of_row _ _ _ _ _ _ HXR.out
              have g1 : wz.cell? ⟨x, 1, none⟩ = some (.int .i64 0) := cell_of_row _ _ _ _ _ _ HXR.out
              have g2 : wz.cell? ⟨x, 2, none⟩ = some (.bool false) := cell_of_row _ _ _ _ _ _ HXR.out
              have g3 : wz.cell? ⟨x, 3, none⟩ = some (.string ⟨#[]⟩) := cell_of_row _ _ _ _ _ _ HXR.out
              have g4 : wz.cell? ⟨x, 4, none⟩ = some (.int .i64 0) := cell_of_row _ _ _ _ _ _ HXR.out
              have y0 : wz.frozen? ⟨x, 0, none⟩ = false := frozen_of_row _ _ _ _ _ HXR.out
              have y1 : wz.frozen? ⟨x, 1, none⟩ = false := frozen_of_row _ _ _ _ _ HXR.out
              have y2 : wz.frozen? ⟨x, 2, none⟩ = false := frozen_of_row _ _ _ _ _ HXR.out
              have y3 : wz.frozen? ⟨x, 3, none⟩ = false := frozen_of_row _ _ _ _ _ HXR.out
              have y4 : wz.frozen? ⟨x, 4, none⟩ = false := frozen_of_row _ _ _ _ _ HXR.out
              have HX9 : Hid (((((((wz).setCell ⟨x, 0, none⟩ (.string KT)).setCell ⟨x, 1, none⟩ (.int .i64 sq)).setCell ⟨x, 2, none⟩ (.bool true)).setCell ⟨x, 3, none⟩ (.string ⟨#[]⟩)).setCell ⟨x, 4, none⟩ (.int .i64 0)).heap[x]? = some (.cells #[.string KT, .int .i64 sq, .bool true, .string ⟨#[]⟩, .int .i64 0] 44 (0, 0))) := Lib.hid (heap_set_fr (heap_set_fr (heap_set_fr (heap_set_fr (heap_set_fr HXR.out 0 (.string KT)) 1 (.int .i64 sq)) 2 (.bool true)) 3 (.string ⟨#[]⟩)) 4 (.int .i64 0))
              have HB9 : Hid (Below x w ((((((wz).setCell ⟨x, 0, none⟩ (.string KT)).setCell ⟨x, 1, none⟩ (.int .i64 sq)).setCell ⟨x, 2, none⟩ (.bool true)).setCell ⟨x, 3, none⟩ (.string ⟨#[]⟩)).setCell ⟨x, 4, none⟩ (.int .i64 0))) := Lib.hid (below_new (below_new (below_new (below_new (below_new HBZ.out (Nat.le_refl _) _ _) (Nat.le_refl _) _ _) (Nat.le_refl _) _ _) (Nat.le_refl _) _ _) (Nat.le_refl _) _ _)
              clear HZR HXR HBZ
              go_wp2
              generalize ((((((wz).setCell ⟨x, 0, none⟩ (.string KT)).setCell ⟨x, 1, none⟩ (.int .i64 sq)).setCell ⟨x, 2, none⟩ (.bool true)).setCell ⟨x, 3, none⟩ (.string ⟨#[]⟩)).setCell ⟨x, 4, none⟩ (.int .i64 0)) = wf at HX9 HB9 ⊢
              have d0 : wf.cell? ⟨x, 0, none⟩ = some (.string KT) := cell_of_row _ _ _ _ _ _ HX9.out
              have d1 : wf.cell? ⟨x, 1, none⟩ = some (.int .i64 sq) := cell_of_row _ _ _ _ _ _ HX9.out
              have d2 : wf.cell? ⟨x, 2, none⟩ = some (.bool true) := cell_of_row _ _ _ _ _ _ HX9.out
              have d3 : wf.cell? ⟨x, 3, none⟩ = some (.string ⟨#[]⟩) := cell_of_row _ _ _ _ _ _ HX9.out
              have d4 : wf.cell? ⟨x, 4, none⟩ = some (.int .i64 0) := cell_of_row _ _ _ _ _ _ HX9.out
              refine bodyPost_ret (v := .tuple #[.agg #[.string KT, .int .i64 sq, .bool true, .string ⟨#[]⟩, .int .i64 0], .int .i64 p4, .int .i64 0]) (by simp [results, Try.results33, go_sem, d0, d1, d2, d3, d4]) rfl ⟨by rw [HXX.out]; exact HB9.out, ?_⟩
              rw [HF.out]
              rfl
            · skip
              have hzr : (w1.alloc (.cells #[.string KT, .int .i64 sq, .bool false, .string ⟨#[]⟩, .int .i64 0] 44)).heap[w1.heap.size]? = some (.cells #[.string KT, .int .i64 sq, .bool false, .string ⟨#[]⟩, .int .i64 0] 44 (0, 0)) := heap_alloc_new w1 _
              have hxr : (w1.alloc (.cells #[.string KT, .int .i64 sq, .bool false, .string ⟨#[]⟩, .int .i64 0] 44)).heap[x]? = some (.cells #[.string ⟨#[]⟩, .int .i64 0, .bool false, .string ⟨#[]⟩, .int .i64 0] 44 (0, 0)) := (Below.heap_alloc _ _ _ (by have := (Array.getElem?_eq_some_iff.1 HRX.out).1; omega)).trans HRX.out
              have hyr : (w1.alloc (.cells #[.string KT, .int .i64 sq, .bool false, .string ⟨#[]⟩, .int .i64 0] 44)).heap[y]? = some (.cells #[.string ⟨#[]⟩, .int .i64 0, .bool false, .string ⟨#[]⟩, .int .i64 0] 44 (0, 0)) := (Below.heap_alloc _ _ _ (by have := (Array.getElem?_eq_some_iff.1 HRY.out).1; omega)).trans HRY.out
              have hbz : Below x w (w1.alloc (.cells #[.string KT, .int .i64 sq, .bool false, .string ⟨#[]⟩, .int .i64 0] 44)) := HB1.out.alloc (by have := (Array.getElem?_eq_some_iff.1 HRX.out).1; omega) _
              have hzx : x ≤ w1.heap.size := by have := (Array.getElem?_eq_some_iff.1 HRX.out).1; omega
              have hzn : x ≠ w1.heap.size := by have := (Array.getElem?_eq_some_iff.1 HRX.out).1; omega
              have HZR0 := Lib.hid hzr
              have HXR0 := Lib.hid hxr
              have HYR0 := Lib.hid hyr
              have HBZ0 := Lib.hid hbz
              have HZX := Lib.hid hzx
              have HZN := Lib.hid hzn
              clear hzr hxr hyr hbz hzx hzn cx0 cx1 cx2 cx3 cx4 fx0 fx1 fx2 fx3 fx4 cy0 cy1 cy2 cy3 cy4 HXE HBE
              have hbe : (m == 0) = false := by simpa using h2
              have hwr : IntKind.i64.wrap (m - 1) = m - 1 := IntWalk.i64_in _ ⟨by omega, by omega⟩
              have HO2 := Lib.hid (HO.out.trans ((if_neg (by omega)).trans (if_neg h2)))
              clear HO
              go_upto_if 91 with fail

              generalize w1.alloc (.cells #[.string KT, .int .i64 sq, .bool false, .string ⟨#[]⟩, .int .i64 0] 44) = wa at HZR0 HXR0 HYR0 HBZ0 ⊢
              obtain ⟨z, hz⟩ : ∃ z, w1.heap.size = z := ⟨_, rfl⟩
              rw [hz] at HZR0 HZX HZN ⊢
              clear hz

              clear h1 h2
              cases hv : BK.rText s.data.toList p4 with
              | error c =>
                obtain ⟨b0, b1, hg⟩ := rtxt_bad hv hs hp4
                have HT := Lib.hid hg
                have hc := BK.text_err hv
                have HF : Hid (X = .error c) := Lib.hid (by rw [HO2.out, hv])
                have hbe2 : (c == 0) = false := by simpa using hc
                have hbn : (c != 0) = true := by simpa using hc
                clear hv hg HO2
                go_wp2_with fail
                refine (HT.out _).mono ?_
                rintro e w2 ⟨rfl, rfl⟩
                have cx0 : wa.cell? ⟨x, 0, none⟩ = some (.string ⟨#[]⟩) := cell_of_row _ _ _ _ _ _ HXR0.out
                have cx1 : wa.cell? ⟨x, 1, none⟩ = some (.int .i64 0) := cell_of_row _ _ _ _ _ _ HXR0.out
                have cx2 : wa.cell? ⟨x, 2, none⟩ = some (.bool false) := cell_of_row _ _ _ _ _ _ HXR0.out
                have cx3 : wa.cell? ⟨x, 3, none⟩ = some (.string ⟨#[]⟩) := cell_of_row _ _ _ _ _ _ HXR0.out
                have cx4 : wa.cell? ⟨x, 4, none⟩ = some (.int .i64 0) := cell_of_row _ _ _ _ _ _ HXR0.out
                have fx0 : wa.frozen? ⟨x, 0, none⟩ = false := frozen_of_row _ _ _ _ _ HXR0.out
                have fx1 : wa.frozen? ⟨x, 1, none⟩ = false := frozen_of_row _ _ _ _ _ HXR0.out
                have fx2 : wa.frozen? ⟨x, 2, none⟩ = false := frozen_of_row _ _ _ _ _ HXR0.out
                have fx3 : wa.frozen? ⟨x, 3, none⟩ = false := frozen_of_row _ _ _ _ _ HXR0.out
                have fx4 : wa.frozen? ⟨x, 4, none⟩ = false := frozen_of_row _ _ _ _ _ HXR0.out
                have cy0 : wa.cell? ⟨y, 0, none⟩ = some (.string ⟨#[]⟩) := cell_of_row _ _ _ _ _ _ HYR0.out
                have cy1 : wa.cell? ⟨y, 1, none⟩ = some (.int .i64 0) := cell_of_row _ _ _ _ _ _ HYR0.out
                have cy2 : wa.cell? ⟨y, 2, none⟩ = some (.bool false) := cell_of_row _ _ _ _ _ _ HYR0.out
                have cy3 : wa.cell? ⟨y, 3, none⟩ = some (.string ⟨#[]⟩) := cell_of_row _ _ _ _ _ _ HYR0.out
                have cy4 : wa.cell? ⟨y, 4, none⟩ = some (.int .i64 0) := cell_of_row _ _ _ _ _ _ HYR0.out
                have HXE : Hid ((((((wa.setCell ⟨x, 0, none⟩ (.string ⟨#[]⟩)).setCell ⟨x, 1, none⟩ (.int .i64 0)).setCell ⟨x, 2, none⟩ (.bool false)).setCell ⟨x, 3, none⟩ (.string ⟨#[]⟩)).setCell ⟨x, 4, none⟩ (.int .i64 0)).heap[x]? = some (.cells #[.string ⟨#[]⟩, .int .i64 0, .bool false, .string ⟨#[]⟩, .int .i64 0] 44 (0, 0))) := Lib.hid (heap_set_fr (heap_set_fr (heap_set_fr (heap_set_fr (heap_set_fr HXR0.out 0 (.string ⟨#[]⟩)) 1 (.int .i64 0)) 2 (.bool false)) 3 (.string ⟨#[]⟩)) 4 (.int .i64 0))
                have HBE : Hid (Below x w (((((wa.setCell ⟨x, 0, none⟩ (.string ⟨#[]⟩)).setCell ⟨x, 1, none⟩ (.int .i64 0)).setCell ⟨x, 2, none⟩ (.bool false)).setCell ⟨x, 3, none⟩ (.string ⟨#[]⟩)).setCell ⟨x, 4, none⟩ (.int .i64 0))) := Lib.hid (below_new (below_new (below_new (below_new (below_new HBZ0.out (Nat.le_refl _) _ _) (Nat.le_refl _) _ _) (Nat.le_refl _) _ _) (Nat.le_refl _) _ _) (Nat.le_refl _) _ _)

                go_wp2
                generalize (((((wa.setCell ⟨x, 0, none⟩ (.string ⟨#[]⟩)).setCell ⟨x, 1, none⟩ (.int .i64 0)).setCell ⟨x, 2, none⟩ (.bool false)).setCell ⟨x, 3, none⟩ (.string ⟨#[]⟩)).setCell ⟨x, 4, none⟩ (.int .i64 0)) = we at HXE HBE ⊢
                have d0 : we.cell? ⟨x, 0, none⟩ = some (.string ⟨#[]⟩) := cell_of_row _ _ _ _ _ _ HXE.out
                have d1 : we.cell? ⟨x, 1, none⟩ = some (.int .i64 0) := cell_of_row _ _ _ _ _ _ HXE.out
                have d2 : we.cell? ⟨x, 2, none⟩ = some (.bool false) := cell_of_row _ _ _ _ _ _ HXE.out
                have d3 : we.cell? ⟨x, 3, none⟩ = some (.string ⟨#[]⟩) := cell_of_row _ _ _ _ _ _ HXE.out
                have d4 : we.cell? ⟨x, 4, none⟩ = some (.int .i64 0) := cell_of_row _ _ _ _ _ _ HXE.out
                refine bodyPost_ret (v := .tuple #[.agg #[.string ⟨#[]⟩, .int .i64 0, .bool false, .string ⟨#[]⟩, .int .i64 0], .int .i64 0, .int .i64 c]) (by simp [results, Try.results33, go_sem, d0, d1, d2, d3, d4]) rfl ⟨by rw [HXX.out]; exact HBE.out, ?_⟩
                rw [HF.out]
                rfl
              | ok z2 =>
                obtain ⟨v, p5⟩ := z2
                have hT := fun W => rtxt_ok hv hs hp4 W
                have HT := Lib.hid hT
                have HO := Lib.hid HO2.out
                simp only [hv] at HO
                clear hT hv HO2
                go_wp2_with fail
                refine (HT.out _).mono ?_
                rintro e w2 ⟨rfl, rfl⟩
                have HF : Hid (X = .ok (⟨KT, sq, false, v, m - 1⟩, p5)) := Lib.hid (by rw [HO.out])
                have cz4 : wa.cell? ⟨z, 4, none⟩ = some (.int .i64 0) := cell_of_row _ _ _ _ _ _ HZR0.out
                have fz4 : wa.frozen? ⟨z, 4, none⟩ = false := frozen_of_row _ _ _ _ _ HZR0.out
                have hz1 := heap_set_fr HZR0.out 4 (.int .i64 (m - 1))
                have cz3 : (wa.setCell ⟨z, 4, none⟩ (.int .i64 (m - 1))).cell? ⟨z, 3, none⟩ = some (.string ⟨#[]⟩) := cell_of_row _ _ _ _ _ _ hz1
                have fz3 : (wa.setCell ⟨z, 4, none⟩ (.int .i64 (m - 1))).frozen? ⟨z, 3, none⟩ = false := frozen_of_row _ _ _ _ _ hz1

                have HZR : Hid (((wa.setCell ⟨z, 4, none⟩ (.int .i64 (m - 1))).setCell ⟨z, 3, none⟩ (.string v)).heap[z]? = some (.cells #[.string KT, .int .i64 sq, .bool false, .string v, .int .i64 (m - 1)] 44 (0, 0))) := Lib.hid (heap_set_fr hz1 3 (.string v))
                have HXR : Hid (((wa.setCell ⟨z, 4, none⟩ (.int .i64 (m - 1))).setCell ⟨z, 3, none⟩ (.string v)).heap[x]? = some (.cells #[.string ⟨#[]⟩, .int .i64 0, .bool false, .string ⟨#[]⟩, .int .i64 0] 44 (0, 0))) := Lib.hid ((Below.heap_setCell _ _ _ _ HZN.out).trans ((Below.heap_setCell _ _ _ _ HZN.out).trans HXR0.out))
                have HBZ : Hid (Below x w ((wa.setCell ⟨z, 4, none⟩ (.int .i64 (m - 1))).setCell ⟨z, 3, none⟩ (.string v))) := Lib.hid (below_new (below_new HBZ0.out HZX.out _ _) HZX.out _ _)
                obtain ⟨wz, hwz⟩ : ∃ wz, (wa.setCell ⟨z, 4, none⟩ (.int .i64 (m - 1))).setCell ⟨z, 3, none⟩ (.string v) = wz := ⟨_, rfl⟩
                rw [hwz] at HZR HXR HBZ
                have e0 : wz.cell? ⟨z, 0, none⟩ = some (.string KT) := cell_of_row _ _ _ _ _ _ HZR.out
                have e1 : wz.cell? ⟨z, 1, none⟩ = some (.int .i64 sq) := cell_of_row _ _ _ _ _ _ HZR.out
                have e2 : wz.cell? ⟨z, 2, none⟩ = some (.bool false) := cell_of_row _ _ _ _ _ _ HZR.out
                have e3 : wz.cell? ⟨z, 3, none⟩ = some (.string v) := cell_of_row _ _ _ _ _ _ HZR.out
                have e4 : wz.cell? ⟨z, 4, none⟩ = some (.int .i64 (m - 1)) := cell_of_row _ _ _ _ _ _ HZR.out
                have g0 : wz.cell? ⟨x, 0, none⟩ = some (.string ⟨#[]⟩) := cell_of_row _ _ _ _ _ _ HXR.out
                have g1 : wz.cell? ⟨x, 1, none⟩ = some (.int .i64 0) := cell_of_row _ _ _ _ _ _ HXR.out
                have g2 : wz.cell? ⟨x, 2, none⟩ = some (.bool false) := cell_of_row _ _ _ _ _ _ HXR.out
                have g3 : wz.cell? ⟨x, 3, none⟩ = some (.string ⟨#[]⟩) := cell_of_row _ _ _ _ _ _ HXR.out
                have g4 : wz.cell? ⟨x, 4, none⟩ = some (.int .i64 0) := cell_of_row _ _ _ _ _ _ HXR.out
                have y0 : wz.frozen? ⟨x, 0, none⟩ = false := frozen_of_row _ _ _ _ _ HXR.out
                have y1 : wz.frozen? ⟨x, 1, none⟩ = false := frozen_of_row _ _ _ _ _ HXR.out
                have y2 : wz.frozen? ⟨x, 2, none⟩ = false := frozen_of_row _ _ _ _ _ HXR.out
                have y3 : wz.frozen? ⟨x, 3, none⟩ = false := frozen_of_row _ _ _ _ _ HXR.out
                have y4 : wz.frozen? ⟨x, 4, none⟩ = false := frozen_of_row _ _ _ _ _ HXR.out
                have HX9 : Hid (((((((wz).setCell ⟨x, 0, none⟩ (.string KT)).setCell ⟨x, 1, none⟩ (.int .i64 sq)).setCell ⟨x, 2, none⟩ (.bool false)).setCell ⟨x, 3, none⟩ (.string v)).setCell ⟨x, 4, none⟩ (.int .i64 (m - 1))).heap[x]? = some (.cells #[.string KT, .int .i64 sq, .bool false, .string v, .int .i64 (m - 1)] 44 (0, 0))) := Lib.hid (heap_set_fr (heap_set_fr (heap_set_fr (heap_set_fr (heap_set_fr HXR.out 0 (.string KT)) 1 (.int .i64 sq)) 2 (.bool false)) 3 (.string v)) 4 (.int .i64 (m - 1)))
                have HB9 : Hid (Below x w ((((((wz).setCell ⟨x, 0, none⟩ (.string KT)).setCell ⟨x, 1, none⟩ (.int .i64 sq)).setCell ⟨x, 2, none⟩ (.bool false)).setCell ⟨x, 3, none⟩ (.string v)).setCell ⟨x, 4, none⟩ (.int .i64 (m - 1)))) := Lib.hid (below_new (below_new (below_new (below_new (below_new HBZ.out (Nat.le_refl _) _ _) (Nat.le_refl _) _ _) (Nat.le_refl _) _ _) (Nat.le_refl _) _ _) (Nat.le_refl _) _ _)
                clear HZR HXR HBZ
                go_wp2
                generalize ((((((wz).setCell ⟨x, 0, none⟩ (.string KT)).setCell ⟨x, 1, none⟩ (.int .i64 sq)).setCell ⟨x, 2, none⟩ (.bool false)).setCell ⟨x, 3, none⟩ (.string v)).setCell ⟨x, 4, none⟩ (.int .i64 (m - 1))) = wf at HX9 HB9 ⊢
                have d0 : wf.cell? ⟨x, 0, none⟩ = some (.string KT) := cell_of_row _ _ _ _ _ _ HX9.out
                have d1 : wf.cell? ⟨x, 1, none⟩ = some (.int .i64 sq) := cell_of_row _ _ _ _ _ _ HX9.out
                have d2 : wf.cell? ⟨x, 2, none⟩ = some (.bool false) := cell_of_row _ _ _ _ _ _ HX9.out
                have d3 : wf.cell? ⟨x, 3, none⟩ = some (.string v) := cell_of_row _ _ _ _ _ _ HX9.out
                have d4 : wf.cell? ⟨x, 4, none⟩ = some (.int .i64 (m - 1)) := cell_of_row _ _ _ _ _ _ HX9.out
                refine bodyPost_ret (v := .tuple #[.agg #[.string KT, .int .i64 sq, .bool false, .string v, .int .i64 (m - 1)], .int .i64 p5, .int .i64 0]) (by simp [results, Try.results33, go_sem, d0, d1, d2, d3, d4]) rfl ⟨by rw [HXX.out]; exact HB9.out, ?_⟩
                rw [HF.out]
                rfl
end Go.Proofs.Ytcmnbfcceeljpaa
