/- CacheNil: of a nil cache, and of one without a budget, nothing is kept. For every file, data and number. -/
import Derived.Test.YtlfhjbilnfkabaaWk
import Derived.Test.YtlfhjbilnfkabaaLaw
namespace Go.Proofs.Ytlfhjbilnfkabaa
open Go.ChangeShapes Go.WideShapes Go.ChangeAt Go.RowKit

/-- a cache that keeps nothing, behind a world -/
def Idle (w : World) (v : Value) : Prop := ∀ W, Below w.heap.size w W → Calls Try.prog 35 #[v] W fun e w' => e = .returned (.bool true) ∧ W = w'
theorem Idle.below {w w' : World} {v : Value} (h : Idle w v) (hb : Below w.heap.size w w') : Idle w' v := fun W hW => h W (hb.trans (hW.mono hb.size))
theorem idle_none (w : World) : Idle w (.pointer none) := fun W _ => idle_nil W
theorem idle_at {w : World} {c : Nat} (hl : c < w.heap.size) (h : w.cell? ⟨c, 0, none⟩ = some (.pointer none)) : Idle w (.pointer (some ⟨c, 0, none⟩)) := fun W hb => idle_no c W ((World.cell?_of_block (a := ⟨c, 0, none⟩) (hb.block c hl)).trans h)

section
variable {w : World} {v : Value}
set_option maxRecDepth 100000 in
theorem ifind (h : Idle w v) (f k : Int) : Calls Try.prog 38 #[v, keyV f k] w fun e w' => e = .returned (.pointer none) ∧ Below w.heap.size w w' := by
  have HAL := Lib.hid ((Below.refl w.heap.size w).alloc (Nat.le_refl _) (.cells #[.int .i64 f, .int .i64 k] 42))
  have HI := Lib.hid (h _ HAL.out)
  clear h
  unfold keyV
  go_enter Try.func38, Try.ntmps38
  go_wp2_with fail
  refine HI.out.mono ?_
  rintro e w2 ⟨rfl, rfl⟩
  go_wp2
  go_ret
  exact ⟨rfl, HAL.out⟩
set_option maxRecDepth 100000 in
theorem iget (h : Idle w v) (f k : Int) : Calls Try.prog 24 #[v, keyV f k] w fun e w' => e = .returned (.tuple #[.string ⟨#[]⟩, .bool false]) ∧ Below w.heap.size w w' := by
  have HAL := Lib.hid ((Below.refl w.heap.size w).alloc (Nat.le_refl _) (.cells #[.int .i64 f, .int .i64 k] 42))
  have HI := Lib.hid (ifind (h.below HAL.out) f k)
  have HSZ : Hid (w.heap.size ≤ (w.alloc (.cells #[.int .i64 f, .int .i64 k] 42)).heap.size) := Lib.hid (by simp)
  have hrow := heap_alloc_new w (.cells #[.int .i64 f, .int .i64 k] 42)
  have k0 : (w.alloc (.cells #[.int .i64 f, .int .i64 k] 42)).cell? ⟨w.heap.size, 0, none⟩ = some (.int .i64 f) := cell_of_row _ _ _ _ _ _ hrow
  have k1 : (w.alloc (.cells #[.int .i64 f, .int .i64 k] 42)).cell? ⟨w.heap.size, 1, none⟩ = some (.int .i64 k) := cell_of_row _ _ _ _ _ _ hrow
  clear h hrow
  unfold keyV at HI ⊢
  go_enter Try.func24, Try.ntmps24
  go_wp2_with fail
  refine HI.out.mono ?_
  rintro e w2 ⟨rfl, hb⟩
  have HB := Lib.hid (HAL.out.trans (hb.mono HSZ.out))
  clear hb k0 k1
  go_wp2
  go_ret2
  exact ⟨rfl, HB.out⟩
set_option maxRecDepth 100000 in
theorem ipin (h : Idle w v) (f k : Int) : Calls Try.prog 20 #[v, keyV f k] w fun e w' => e = .returned (.bool false) ∧ Below w.heap.size w w' := by
  have HAL := Lib.hid ((Below.refl w.heap.size w).alloc (Nat.le_refl _) (.cells #[.int .i64 f, .int .i64 k] 42))
  have HI := Lib.hid (ifind (h.below HAL.out) f k)
  have HSZ : Hid (w.heap.size ≤ (w.alloc (.cells #[.int .i64 f, .int .i64 k] 42)).heap.size) := Lib.hid (by simp)
  have hrow := heap_alloc_new w (.cells #[.int .i64 f, .int .i64 k] 42)
  have k0 : (w.alloc (.cells #[.int .i64 f, .int .i64 k] 42)).cell? ⟨w.heap.size, 0, none⟩ = some (.int .i64 f) := cell_of_row _ _ _ _ _ _ hrow
  have k1 : (w.alloc (.cells #[.int .i64 f, .int .i64 k] 42)).cell? ⟨w.heap.size, 1, none⟩ = some (.int .i64 k) := cell_of_row _ _ _ _ _ _ hrow
  clear h hrow
  unfold keyV at HI ⊢
  go_enter Try.func20, Try.ntmps20
  go_wp2_with fail
  refine HI.out.mono ?_
  rintro e w2 ⟨rfl, hb⟩
  have HB := Lib.hid (HAL.out.trans (hb.mono HSZ.out))
  clear hb k0 k1
  go_wp2
  go_ret
  exact ⟨rfl, HB.out⟩
set_option maxRecDepth 100000 in
theorem iunpin (h : Idle w v) (f k : Int) : Calls Try.prog 25 #[v, keyV f k] w fun e w' => e = .returned (.bool false) ∧ Below w.heap.size w w' := by
  have HAL := Lib.hid ((Below.refl w.heap.size w).alloc (Nat.le_refl _) (.cells #[.int .i64 f, .int .i64 k] 42))
  have HI := Lib.hid (ifind (h.below HAL.out) f k)
  have HSZ : Hid (w.heap.size ≤ (w.alloc (.cells #[.int .i64 f, .int .i64 k] 42)).heap.size) := Lib.hid (by simp)
  have hrow := heap_alloc_new w (.cells #[.int .i64 f, .int .i64 k] 42)
  have k0 : (w.alloc (.cells #[.int .i64 f, .int .i64 k] 42)).cell? ⟨w.heap.size, 0, none⟩ = some (.int .i64 f) := cell_of_row _ _ _ _ _ _ hrow
  have k1 : (w.alloc (.cells #[.int .i64 f, .int .i64 k] 42)).cell? ⟨w.heap.size, 1, none⟩ = some (.int .i64 k) := cell_of_row _ _ _ _ _ _ hrow
  clear h hrow
  unfold keyV at HI ⊢
  go_enter Try.func25, Try.ntmps25
  go_wp2_with fail
  refine HI.out.mono ?_
  rintro e w2 ⟨rfl, hb⟩
  have HB := Lib.hid (HAL.out.trans (hb.mono HSZ.out))
  clear hb k0 k1
  go_wp2
  go_ret
  exact ⟨rfl, HB.out⟩
set_option maxRecDepth 100000 in
theorem iput (h : Idle w v) (f k : Int) (d : ByteArray) : Calls Try.prog 19 #[v, keyV f k, .string d] w fun e w' => e = .returned (.int .i64 1) ∧ Below w.heap.size w w' := by
  have HAL := Lib.hid ((Below.refl w.heap.size w).alloc (Nat.le_refl _) (.cells #[.int .i64 f, .int .i64 k] 42))
  have HI := Lib.hid (h _ HAL.out)
  clear h
  unfold keyV
  go_enter Try.func19, Try.ntmps19
  go_wp2_with fail
  refine HI.out.mono ?_
  rintro e w2 ⟨rfl, rfl⟩
  go_wp2
  go_ret
  exact ⟨rfl, HAL.out⟩
set_option maxRecDepth 100000 in
theorem idrop (h : Idle w v) (f : Int) : Calls Try.prog 23 #[v, .int .i64 f] w fun e w' => e = .returned (.tuple #[]) ∧ Below w.heap.size w w' := by
  have HAL := Lib.hid ((Below.refl w.heap.size w).alloc (Nat.le_refl _) (.cells #[.int .i64 f] 2))
  have HI := Lib.hid (h _ HAL.out)
  clear h
  go_enter Try.func23, Try.ntmps23
  go_wp2_with fail
  refine HI.out.mono ?_
  rintro e w2 ⟨rfl, rfl⟩
  go_wp2
  exact bodyPost_ret (v := .tuple #[]) (by simp [results, Try.results23, go_sem]) rfl ⟨rfl, HAL.out⟩
set_option maxRecDepth 100000 in
theorem ishrink (h : Idle w v) (n : Int) : Calls Try.prog 22 #[v, .int .i64 n] w fun e w' => e = .returned (.bool false) ∧ w = w' := by
  have HI := Lib.hid (h _ (Below.refl _ _))
  clear h
  go_enter Try.func22, Try.ntmps22
  go_wp2_with fail
  refine HI.out.mono ?_
  rintro e w2 ⟨rfl, rfl⟩
  go_wp2
  go_ret
  exact ⟨rfl, rfl⟩
set_option maxRecDepth 100000 in
theorem ikept (h : Idle w v) : Calls Try.prog 16 #[v] w fun e w' => e = .returned (.slice none 0 0) ∧ w = w' := by
  have HI := Lib.hid (h _ (Below.refl _ _))
  clear h
  go_enter Try.func16, Try.ntmps16
  go_wp2_with fail
  refine HI.out.mono ?_
  rintro e w2 ⟨rfl, rfl⟩
  go_wp2
  go_ret
  exact ⟨rfl, rfl⟩
end
end Go.Proofs.Ytlfhjbilnfkabaa
