/- The lock's numbers; the atomics; how a budget and the document's lie in memory. -/
import Derived.Test.YtlfhjbilnfkabaaBm
import Derived.Conc.MuLone
import Derived.Laws.LoneSync
namespace Go.Proofs.Ytlfhjbilnfkabaa
open Go.RowKit Go.MuLone
open BM

abbrev lk : Go.Conc.Locks.MuLink := { lock := 52, unlock := 53, ilock := 62, iunlock := 63, lockSlow := 70, unlockSlow := 73, disable := 66, enable := 68, acquire := 69, relMerge := 71, cas32 := 67, add32 := 72, tMutex := 65, tIMutex := 63, tPMutex := 109, tPIMutex := 113, tPI32 := 115, tUP := 117, tNoCopy := 60, tU32 := 61 }
theorem muLib : Go.Conc.Locks.MuLib Try.prog lk :=
  ⟨Try.func52, Try.func53, Try.func62, Try.func63, Try.func66, Try.func68, Try.func69, Try.func71, Try.func67, Try.func72,
   Try.underlying63, Try.runUnderlying63, Try.sizeOf63, Try.isAgg63, Try.zeroValue63,
   Try.underlying65, Try.runUnderlying65, Try.sizeOf65, Try.isAgg65, Try.zeroValue65,
   Try.underlying109, Try.runUnderlying109, Try.sizeOf109, Try.isAgg109, Try.zeroValue109,
   Try.underlying113, Try.runUnderlying113, Try.sizeOf113, Try.isAgg113, Try.zeroValue113,
   Try.underlying115, Try.runUnderlying115, Try.sizeOf115, Try.isAgg115, Try.zeroValue115,
   Try.underlying117, Try.runUnderlying117, Try.sizeOf117, Try.isAgg117, Try.zeroValue117,
   Try.underlying60, Try.runUnderlying60, Try.sizeOf60, Try.isAgg60, Try.zeroValue60,
   Try.underlying21, Try.runUnderlying21, Try.sizeOf21, Try.isAgg21, Try.zeroValue21, (by kernel_rfl)⟩

/-! ### the atomics -/
theorem load_any (a : Nat) (o : Nat) (n : Int) (w : World) (h : w.cell? ⟨a, o, none⟩ = some (.int .i64 n)) :
    Calls Try.prog 37 #[.pointer (some ⟨a, o, none⟩)] w fun e w' => e = .returned (.int .i64 n) ∧ w = w' := by
  have hl := run_call_load (P := Try.prog) Try.func57 (by kernel_rfl) (by kernel_rfl) (by kernel_rfl) .i64 (by kernel_rfl) h
  go_enter Try.func37, Try.ntmps37
  go_wp2
  go_ret
  exact ⟨rfl, rfl⟩

theorem load_q (a : Nat) (o : Nat) (n : Int) (w : World) (h : w.cell? ⟨a, o, none⟩ = some (.int .i64 n)) :
    Calls Try.prog 37 #[.pointer (some ⟨a, o, none⟩)] w fun e w' => e = .returned (.int .i64 n) ∧ w' = w :=
  (load_any a o n w h).mono fun _ _ h => ⟨h.1, h.2.symm⟩

theorem store_any (a : Nat) (o : Nat) (n m : Int) (w : World) (h : w.cell? ⟨a, o, none⟩ = some (.int .i64 n)) (hf : w.frozen? ⟨a, o, none⟩ = false) :
    Calls Try.prog 64 #[.pointer (some ⟨a, o, none⟩), .int .i64 m] w fun e w' => e = .returned (.tuple #[]) ∧ w.setCell ⟨a, o, none⟩ (.int .i64 m) = w' := by
  have hl := run_call_store (P := Try.prog) Try.func74 (by kernel_rfl) (by kernel_rfl) (by kernel_rfl) (by kernel_rfl) (k := .i64) (y := m) h hf
  go_enter Try.func64, Try.ntmps64
  go_wp2
  go_end0
  exact ⟨rfl, rfl⟩

theorem add_at (a : Nat) (o : Nat) (n m s : Int) (hs : n + m = s) (hb : -9223372036854775808 ≤ s ∧ s ≤ 9223372036854775807) (w : World) (h : w.cell? ⟨a, o, none⟩ = some (.int .i64 n)) (hf : w.frozen? ⟨a, o, none⟩ = false) :
    Calls Try.prog 65 #[.pointer (some ⟨a, o, none⟩), .int .i64 m] w fun e w' => e = .returned (.int .i64 s) ∧ w.setCell ⟨a, o, none⟩ (.int .i64 s) = w' := by
  subst hs
  have hl := run_call_add (P := Try.prog) Try.func75 (by kernel_rfl) (by kernel_rfl) (by kernel_rfl) .i64 (by kernel_rfl) (y := m) (s := n + m) h hf (by simp [go_sem, IntKind.wrap_i64]; omega)
  go_enter Try.func65, Try.ntmps65
  go_wp2
  go_ret
  exact ⟨rfl, rfl⟩

/-! ### in memory -/
def bC (l c u h k0 k1 k2 k3 : Int) : Array Value := #[.int .i64 l, .int .i32 c, .int .u32 0, .int .i64 u, .int .i64 h, .int .i64 k0, .int .i64 k1, .int .i64 k2, .int .i64 k3]
/-- a budget lies at b; c: its lock's word -/
def BAt (w : World) (b : Nat) (c : Int) (s : S) : Prop := w.heap[b]? = some (.cells (bC s.lim c s.used s.high s.k0 s.k1 s.k2 s.k3) 72 (0, 0))
/-- the document's -/
def RAt (w : World) (r : Nat) (s : S) : Prop := w.heap[r]? = some (.cells #[.int .i64 s.lim, .int .i64 s.k0, .int .i64 s.k1, .int .i64 s.k2, .int .i64 s.k3, .int .i64 s.high] 81 (0, 0))

section
variable {w w' : World} {b r : Nat} {c : Int} {s : S}
theorem BAt.lt (h : BAt w b c s) : b < w.heap.size := (Array.getElem?_eq_some_iff.1 h).1
theorem RAt.lt (h : RAt w r s) : r < w.heap.size := (Array.getElem?_eq_some_iff.1 h).1
theorem BAt.kept {row : Option Nat} (h : BAt w b c s) (hg : w.grownBy w' row) (hr : some b ≠ row) : BAt w' b c s := (hg.block b h.lt hr).trans h
theorem RAt.kept {row : Option Nat} (h : RAt w r s) (hg : w.grownBy w' row) (hr : some r ≠ row) : RAt w' r s := (hg.block r h.lt hr).trans h
theorem BAt.below (h : BAt w b c s) (hb : Below w.heap.size w w') : BAt w' b c s := (hb.block b h.lt).trans h
theorem RAt.below (h : RAt w r s) (hb : Below w.heap.size w w') : RAt w' r s := (hb.block r h.lt).trans h
theorem BAt.cell (h : BAt w b c s) (j : Nat) : w.cell? ⟨b, j, none⟩ = (bC s.lim c s.used s.high s.k0 s.k1 s.k2 s.k3)[j]? := cell_of_row _ _ _ _ _ _ h
theorem BAt.frozen (h : BAt w b c s) (j : Nat) : w.frozen? ⟨b, j, none⟩ = false := frozen_of_row _ _ _ _ _ h
theorem RAt.cell (h : RAt w r s) (j : Nat) : w.cell? ⟨r, j, none⟩ = #[Value.int .i64 s.lim, .int .i64 s.k0, .int .i64 s.k1, .int .i64 s.k2, .int .i64 s.k3, .int .i64 s.high][j]? := cell_of_row _ _ _ _ _ _ h
theorem RAt.frozen (h : RAt w r s) (j : Nat) : w.frozen? ⟨r, j, none⟩ = false := frozen_of_row _ _ _ _ _ h
theorem BAt.ne {s' : S} (h : BAt w b c s) (k : RAt w r s') : b ≠ r := by
  rintro rfl
  unfold BAt at h
  unfold RAt at k
  rw [h] at k
  injection k with k
  injection k with _ k
  exact absurd k (by decide)
end
end Go.Proofs.Ytlfhjbilnfkabaa
