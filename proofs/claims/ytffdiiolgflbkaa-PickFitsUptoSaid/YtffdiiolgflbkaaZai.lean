/- Texts joined by bundle.py: Clone. -/
import Derived.Test.YtffdiiolgflbkaaZaa

/- The walk of strings.Clone. -/
namespace Go.Proofs.Ytffdiiolgflbkaa
open Go.RowKit

/-- a new row of noughts, and then a text's bytes in it -/
def byteWorld (w : World) (n : Nat) : World := w.alloc (.cells (madeCells #[.int .u8 0] n) 5)
def textWorld (w : World) (s : ByteArray) : World := (byteWorld w s.size).setRow w.heap.size (Lib.byteCells s.data.toList).toArray

theorem byteWorld_row (w : World) (n : Nat) : (byteWorld w n).heap[w.heap.size]? = some (.cells (madeCells #[.int .u8 0] n) 5 (0, 0)) := heap_alloc_new w _

theorem textWorld_row (w : World) (s : ByteArray) : (textWorld w s).heap[w.heap.size]? = some (.cells (Lib.byteCells s.data.toList).toArray 5 (0, 0)) :=
  setRow_heap _ _ _ _ _ _ (byteWorld_row w s.size)

theorem textWorld_below (w : World) (s : ByteArray) : Below w.heap.size w (textWorld w s) :=
  below_setRow ((Below.refl _ _).alloc (Nat.le_refl _) _) (Nat.le_refl _)

theorem make_bytes (w : World) (n : Nat) (h : n ≤ 281474976710656) : (Instr.makeSlice 102 (.int .i64 (n : Int)) (.int .i64 (n : Int))).run Try.prog w = .ok (.slice (some ⟨w.heap.size, 0, none⟩) n n) (byteWorld w n) := by
  obtain ⟨i0, hi, hz0, hz1, hz2⟩ := info_parts info_u8
  have h := run_make (P := Try.prog) w 102 5 i0 (.int .u8 0) Try.underlying102 hi hz0 .i64 .i64 (n : Int) (n : Int) (by omega) (Int.le_refl _) (by rw [hz2]; omega) (by omega)
  rw [Int.toNat_natCast] at h
  simpa [hz1, Value.cells, byteWorld] using h

theorem copy_text (w : World) (s : ByteArray) (ty : TypeId) : (Builtin.copy_ #[102, 9] ty #[.slice (some ⟨w.heap.size, 0, none⟩) s.size s.size, .string s]).run Try.prog (byteWorld w s.size) = .ok (goInt s.size) (textWorld w s) := by
  have h := Lib.run_copy_row_string (P := Try.prog) (byteWorld w s.size) 102 9 ty 5 w.heap.size 0 s.size s.size s (madeCells #[.int .u8 0] s.size) 5 Try.underlying102 (by kernel_rfl) (byteWorld_row w s.size) (Nat.le_refl _) (by rw [size_madeCells]; omega)
  rw [h]
  have hd : (madeCells #[Value.int .u8 0] s.size).toList.drop (0 + s.size) = [] := List.drop_eq_nil_of_le (by simp [size_madeCells])
  rw [hd]
  simp [textWorld]

theorem text_string (w : World) (s : ByteArray) (h0 : 0 < s.size) (h1 : s.size ≤ 281474976710656) (ty : TypeId) :
    (Builtin.unsafeString_ #[143, 3] ty #[.pointer (some ⟨w.heap.size, 0, none⟩), .int .i64 (s.size : Int)]).run Try.prog (textWorld w s) = .ok (.string s) ((textWorld w s).freeze ⟨w.heap.size, 0, none⟩ s.size) := by
  have hl := size_list s
  have hrow := textWorld_row w s
  have h := Lib.run_unsafeString_row (P := Try.prog) (textWorld w s) 143 3 ty 5 Try.underlying143 (by kernel_rfl) w.heap.size s.size
    (by simp [World.shape?, hrow, Lib.byteCells_length, hl]) s.data.toList (by intro h; rw [h] at hl; simp at hl; omega) (by rw [hl]; exact Nat.le_refl _) (by rw [hl]; omega) (by
      intro j x hj
      have hadd : (⟨w.heap.size, 0, none⟩ : Addr).add j = ⟨w.heap.size, j, none⟩ := by unfold Addr.add; split <;> simp_all
      rw [hadd, cell_of_row _ _ _ _ _ _ hrow]
      simp [Lib.byteCells, hj])
  rw [hl] at h
  simpa using h

theorem cloneIn_any (s : ByteArray) (w : World) (hs : s.size ≤ 281474976710656) :
    Calls Try.prog 81 #[.string s] w fun e w' => e = .returned (.string s) ∧ Below w.heap.size w w' := by
  by_cases h0 : s.size = 0
  · have hs0 : s = ⟨#[]⟩ := by
      apply ByteArray.ext
      exact Array.eq_empty_of_size_eq_zero h0
    subst hs0
    clear h0 hs
    go_enter Try.func81, Try.ntmps81
    go_wp2
    go_ret
    exact ⟨rfl, Below.refl _ _⟩
  · have h1 : 0 < s.size := by omega
    have hne : ((s.size : Int) == 0) = false := beq_eq_false_iff_ne.2 (by omega)
    have hmk := make_bytes w s.size hs
    have hcp := copy_text w s
    have hus := text_string w s h1 hs
    have hB := Lib.below_freeze (textWorld_below w s) (p := ⟨w.heap.size, 0, none⟩) (Nat.le_refl _) s.size
    go_enter Try.func81, Try.ntmps81
    go_wp2
    go_ret
    exact ⟨rfl, hB⟩

theorem clone_any (s : ByteArray) (w : World) (hs : s.size ≤ 281474976710656) :
    Calls Try.prog 65 #[.string s] w fun e w' => e = .returned (.string s) ∧ Below w.heap.size w w' := by
  go_enter Try.func65, Try.ntmps65
  go_wp2_with fail
  refine (cloneIn_any s _ hs).mono ?_
  rintro e w1 ⟨rfl, hB⟩
  go_wp2
  go_ret
  exact ⟨rfl, hB⟩
end Go.Proofs.Ytffdiiolgflbkaa

