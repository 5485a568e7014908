/- Texts joined by bundle.py: NRo. -/
import Derived.Test.YtnglaolbfpdgoaaGreatZaa
import Derived.Laws.OwnMore

/- A row that lies in memory as it is listed; rows of numbers, of bytes; 'make'. -/
namespace Go.Proofs.YtnglaolbfpdgoaaGreat.B9
open Go.RowKit

/-- block g holds just these cells -/
def Lies (w : World) (g : Nat) (t : TypeId) (xs : List Value) : Prop := w.heap[g]? = some (.cells xs.toArray t (0, 0))

namespace Lies
variable {w w' : World} {g : Nat} {t : TypeId} {xs : List Value}

theorem new (w : World) (t : TypeId) (xs : List Value) : Lies (w.alloc (.cells xs.toArray t)) w.heap.size t xs := heap_alloc_new w _
theorem lt (h : Lies w g t xs) : g < w.heap.size := (Array.getElem?_eq_some_iff.1 h).1
theorem cell (h : Lies w g t xs) {j : Nat} {v : Value} (hj : xs[j]? = some v) : w.cell? ⟨g, j, none⟩ = some v := by
  rw [cell_of_row _ _ _ _ _ _ h]; simpa using hj
theorem frozen (h : Lies w g t xs) (j : Nat) : w.frozen? ⟨g, j, none⟩ = false := frozen_of_row _ _ _ _ _ h
theorem set (h : Lies w g t xs) (j : Nat) (u : Value) : Lies (w.setCell ⟨g, j, none⟩ u) g t (xs.set j u) := by
  have := heap_set_fr h j u
  unfold Lies
  rw [this]
  simp
theorem below {B : Nat} (h : Lies w g t xs) (hb : Below B w w') (hg : g < B) : Lies w' g t xs := (hb.block g hg).trans h
theorem all (h : Lies w g t xs) (hb : Below w.heap.size w w') : Lies w' g t xs := h.below hb h.lt
theorem drewN (h : Lies w g t xs) (n : Nat) : Lies (w.drewN n) g t xs := h
theorem grown {r : Option Nat} (h : Lies w g t xs) (hb : w.grownBy w' r) (hr : r ≠ some g) : Lies w' g t xs := (hb.block g h.lt (fun e => hr e.symm)).trans h
theorem own (h : Lies w g t xs) (hx : xs.length ≤ maxLen) {base : Nat} (hb : base ≤ g) : w.ownsRow base t 1 (.slice (some ⟨g, 0, none⟩) xs.length xs.length) xs.length xs := by
  refine ⟨by simp, .inr ⟨g, xs.length, _, rfl, hb, h, Nat.le_refl _, hx, by simp, ?_⟩⟩
  simp
end Lies

def nums (l : List Nat) : List Value := l.map fun n => Value.int .i64 (n : Nat)

theorem nums_length (l : List Nat) : (nums l).length = l.length := by simp [nums]
theorem nums_snoc (l : List Nat) (n : Nat) : nums (l ++ [n]) = nums l ++ [.int .i64 (n : Nat)] := by simp [nums]
theorem nums_at (l : List Nat) (j : Nat) (h : j < l.length) : (nums l)[j]? = some (.int .i64 (l[j] : Nat)) := by simp [nums, h]
theorem nums_set (l : List Nat) (j n : Nat) : (nums l).set j (.int .i64 (n : Nat)) = nums (l.set j n) := by simp [nums, List.map_set]
theorem nums_zeros (n : Nat) : nums (List.replicate n 0) = List.replicate n (.int .i64 0) := by simp [nums]
theorem bytes_set (l : List UInt8) (j : Nat) (x : UInt8) : (Lib.byteCells l).set j (.int .u8 (x.toNat : Int)) = Lib.byteCells (l.set j x) := by simp [Lib.byteCells, List.map_set]
theorem bytes_at (l : List UInt8) (j : Nat) (h : j < l.length) : (Lib.byteCells l)[j]? = some (.int .u8 (l[j].toNat : Int)) := by simp [Lib.byteCells, h]
theorem bytes_zeros (n : Nat) : Lib.byteCells (List.replicate n 0) = List.replicate n (.int .u8 0) := by simp [Lib.byteCells]

/-- a slice of numbers that a call has made: its block is new -/
def NumsAt (w : World) (base : Nat) (A : Option Addr) (l : List Nat) : Prop :=
  0 < l.length → ∃ b, A = some ⟨b, 0, none⟩ ∧ base ≤ b ∧ b < w.heap.size ∧ ∀ j, (h : j < l.length) → w.cell? ⟨b, j, none⟩ = some (.int .i64 (l[j] : Nat))

theorem own_nums {w : World} {base : Nat} {e : TypeId} {v : Value} {l : List Nat} (h : w.ownsRow base e 1 v l.length (nums l)) : ∃ A c, v = .slice A l.length c ∧ NumsAt w base A l := by
  have h' := h
  rcases h.2 with ⟨rfl, h0⟩ | ⟨g, cap, cur, rfl, hb, hg, _, _, _, _⟩
  · exact ⟨none, 0, by rw [h0], fun hn => by omega⟩
  · refine ⟨some ⟨g, 0, none⟩, cap, rfl, fun _ => ⟨g, rfl, hb, (Array.getElem?_eq_some_iff.1 hg).1, fun j hj => ?_⟩⟩
    have hc := h'.cells (g := g) rfl j _ (nums_at l j hj)
    rw [addr_add0] at hc
    exact hc

theorem NumsAt.grown {w w' : World} {base : Nat} {A : Option Addr} {l : List Nat} {r : Option Nat} (h : NumsAt w base A l) (hg : w.grownBy w' r) (hr : ∀ g, r = some g → g < base) : NumsAt w' base A l := by
  intro hn
  obtain ⟨b, hA, hb, hlt, hc⟩ := h hn
  refine ⟨b, hA, hb, Nat.lt_of_lt_of_le hlt hg.size, fun j hj => ?_⟩
  exact hg.cell (hc j hj) (fun e => by have := hr b e.symm; omega)

theorem NumsAt.set {w : World} {base : Nat} {A : Option Addr} {l : List Nat} (h : NumsAt w base A l) {g : Nat} (hg : g < base) (j : Nat) (u : Value) : NumsAt (w.setCell ⟨g, j, none⟩ u) base A l :=
  h.grown (r := some g) (grownBy_setCell w ⟨g, j, none⟩ u) (fun _ e => by cases e; exact hg)

theorem NumsAt.drewN {w : World} {base : Nat} {A : Option Addr} {l : List Nat} (h : NumsAt w base A l) (n : Nat) : NumsAt (w.drewN n) base A l := h
theorem NumsAt.all {w w' : World} {base : Nat} {A : Option Addr} {l : List Nat} (h : NumsAt w base A l) (hb : Below w.heap.size w w') : NumsAt w' base A l :=
  h.grown (r := none) (grown_below hb) (fun _ e => by cases e)

theorem info_int : (Tryz.prog.info? 3).map (fun i => (i.zero, i.size, i.bytes)) = some (some (.int .i64 0), 1, 8) := by kernel_rfl

theorem make_ints (w : World) (n : Nat) (h : n * 8 ≤ 281474976710656) : (Instr.makeSlice 34 (.int .i64 (n : Int)) (.int .i64 (n : Int))).run Tryz.prog w = .ok (.slice (some ⟨w.heap.size, 0, none⟩) n n) (w.alloc (.cells (nums (List.replicate n 0)).toArray 3)) := by
  obtain ⟨i0, hi, hz0, hz1, hz2⟩ := info_parts info_int
  have h := run_make (P := Tryz.prog) w 34 3 i0 (.int .i64 0) Tryz.underlying34 hi hz0 .i64 .i64 (n : Int) (n : Int) (by omega) (Int.le_refl _) (by rw [hz2]; omega) (by omega)
  rw [Int.toNat_natCast] at h
  have e : madeCells #[Value.int .i64 0] n = (nums (List.replicate n 0)).toArray := by
    apply Array.toList_inj.1
    rw [toList_madeCells_one, nums_zeros]
  rw [← e]
  simpa [hz1, Value.cells] using h

theorem make_bytes (w : World) (n : Nat) (h : n ≤ 281474976710656) : (Instr.makeSlice 98 (.int .i64 (n : Int)) (.int .i64 (n : Int))).run Tryz.prog w = .ok (.slice (some ⟨w.heap.size, 0, none⟩) n n) (w.alloc (.cells (Lib.byteCells (List.replicate n 0)).toArray 5)) := by
  obtain ⟨i0, hi, hz0, hz1, hz2⟩ := info_parts info_u8
  have h := run_make (P := Tryz.prog) w 98 5 i0 (.int .u8 0) Tryz.underlying98 hi hz0 .i64 .i64 (n : Int) (n : Int) (by omega) (Int.le_refl _) (by rw [hz2]; omega) (by omega)
  rw [Int.toNat_natCast] at h
  have e : madeCells #[Value.int .u8 0] n = (Lib.byteCells (List.replicate n 0)).toArray := by
    apply Array.toList_inj.1
    rw [toList_madeCells_one, bytes_zeros]
  rw [← e]
  simpa [hz1, Value.cells] using h
end Go.Proofs.YtnglaolbfpdgoaaGreat.B9

