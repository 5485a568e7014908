/- The lock's numbers; the atomics; how a budget and the document's lie in memory. -/
import Derived.Test.YtapncnbildampaaBm
import Derived.Conc.MuLone
import Derived.Laws.LoneSync
namespace Go.Proofs.Ytapncnbildampaa
open Go.RowKit Go.MuLone
open BM

abbrev lk : Go.Conc.Locks.MuLink := { lock := 27, unlock := 28, ilock := 32, iunlock := 33, lockSlow := 40, unlockSlow := 43, disable := 36, enable := 38, acquire := 39, relMerge := 41, cas32 := 37, add32 := 42, tMutex := 48, tIMutex := 46, tPMutex := 65, tPIMutex := 68, tPI32 := 70, tUP := 72, tNoCopy := 43, tU32 := 44 }
theorem muLib : Go.Conc.Locks.MuLib Try.prog lk :=
  ⟨Try.func27, Try.func28, Try.func32, Try.func33, Try.func36, Try.func38, Try.func39, Try.func41, Try.func37, Try.func42,
   Try.underlying46, Try.runUnderlying46, Try.sizeOf46, Try.isAgg46, Try.zeroValue46,
   Try.underlying48, Try.runUnderlying48, Try.sizeOf48, Try.isAgg48, Try.zeroValue48,
   Try.underlying65, Try.runUnderlying65, Try.sizeOf65, Try.isAgg65, Try.zeroValue65,
   Try.underlying68, Try.runUnderlying68, Try.sizeOf68, Try.isAgg68, Try.zeroValue68,
   Try.underlying70, Try.runUnderlying70, Try.sizeOf70, Try.isAgg70, Try.zeroValue70,
   Try.underlying72, Try.runUnderlying72, Try.sizeOf72, Try.isAgg72, Try.zeroValue72,
   Try.underlying43, Try.runUnderlying43, Try.sizeOf43, Try.isAgg43, Try.zeroValue43,
   Try.underlying21, Try.runUnderlying21, Try.sizeOf21, Try.isAgg21, Try.zeroValue21, (by kernel_rfl)⟩

/-! ### the atomics -/
theorem load_any (a : Nat) (o : Nat) (n : Int) (w : World) (h : w.cell? ⟨a, o, none⟩ = some (.int .i64 n)) :
    Calls Try.prog 25 #[.pointer (some ⟨a, o, none⟩)] w fun e w' => e = .returned (.int .i64 n) ∧ w = w' := by
  have hl := run_call_load (P := Try.prog) Try.func31 (by kernel_rfl) (by kernel_rfl) (by kernel_rfl) .i64 (by kernel_rfl) h
  go_enter Try.func25, Try.ntmps25
  go_wp2
  go_ret
  exact ⟨rfl, rfl⟩

theorem load_q (a : Nat) (o : Nat) (n : Int) (w : World) (h : w.cell? ⟨a, o, none⟩ = some (.int .i64 n)) :
    Calls Try.prog 25 #[.pointer (some ⟨a, o, none⟩)] w fun e w' => e = .returned (.int .i64 n) ∧ w' = w :=
  (load_any a o n w h).mono fun _ _ h => ⟨h.1, h.2.symm⟩

theorem store_any (a : Nat) (o : Nat) (n m : Int) (w : World) (h : w.cell? ⟨a, o, none⟩ = some (.int .i64 n)) (hf : w.frozen? ⟨a, o, none⟩ = false) :
    Calls Try.prog 34 #[.pointer (some ⟨a, o, none⟩), .int .i64 m] w fun e w' => e = .returned (.tuple #[]) ∧ w.setCell ⟨a, o, none⟩ (.int .i64 m) = w' := by
  have hl := run_call_store (P := Try.prog) Try.func44 (by kernel_rfl) (by kernel_rfl) (by kernel_rfl) (by kernel_rfl) (k := .i64) (y := m) h hf
  go_enter Try.func34, Try.ntmps34
  go_wp2
  go_end0
  exact ⟨rfl, rfl⟩

theorem add_at (a : Nat) (o : Nat) (n m s : Int) (hs : n + m = s) (hb : -9223372036854775808 ≤ s ∧ s ≤ 9223372036854775807) (w : World) (h : w.cell? ⟨a, o, none⟩ = some (.int .i64 n)) (hf : w.frozen? ⟨a, o, none⟩ = false) :
    Calls Try.prog 35 #[.pointer (some ⟨a, o, none⟩), .int .i64 m] w fun e w' => e = .returned (.int .i64 s) ∧ w.setCell ⟨a, o, none⟩ (.int .i64 s) = w' := by
  subst hs
  have hl := run_call_add (P := Try.prog) Try.func45 (by kernel_rfl) (by kernel_rfl) (by kernel_rfl) .i64 (by kernel_rfl) (y := m) (s := n + m) h hf (by simp [go_sem, IntKind.wrap_i64]; omega)
  go_enter Try.func35, Try.ntmps35
  go_wp2
  go_ret
  exact ⟨rfl, rfl⟩

/-! ### in memory -/
def bC (l c u h k0 k1 k2 k3 : Int) : Array Value := #[.int .i64 l, .int .i32 c, .int .u32 0, .int .i64 u, .int .i64 h, .int .i64 k0, .int .i64 k1, .int .i64 k2, .int .i64 k3]
/-- a budget lies at b; c: its lock's word -/
def BAt (w : World) (b : Nat) (c : Int) (s : S) : Prop := w.heap[b]? = some (.cells (bC s.lim c s.used s.high s.k0 s.k1 s.k2 s.k3) 55 (0, 0))
/-- the document's -/
def RAt (w : World) (r : Nat) (s : S) : Prop := w.heap[r]? = some (.cells #[.int .i64 s.lim, .int .i64 s.k0, .int .i64 s.k1, .int .i64 s.k2, .int .i64 s.k3, .int .i64 s.high] 57 (0, 0))

section
variable {w w' : World} {b r : Nat} {c : Int} {s : S}
theorem BAt.lt (h : BAt w b c s) : b < w.heap.size := (Array.getElem?_eq_some_iff.1 h).1
theorem RAt.lt (h : RAt w r s) : r < w.heap.size := (Array.getElem?_eq_some_iff.1 h).1
theorem BAt.kept {row : Option Nat} (h : BAt w b c s) (hg : w.grownBy w' row) (hr : some b ≠ row) : BAt w' b c s := (hg.block b h.lt hr).trans h
theorem RAt.kept {row : Option Nat} (h : RAt w r s) (hg : w.grownBy w' row) (hr : some r ≠ row) : RAt w' r s := (hg.block r h.lt hr).trans h
theorem BAt.below (h : BAt w b c s) (hb : Below w.heap.size w w') : BAt w' b c s := (hb.block b h.lt).trans h
theorem RAt.below (h : RAt w r s) (hb : Below w.heap.size w w') : RAt w' r s := (hb.block r h.lt).trans h
theorem BAt.cell (h : BAt w b c s) (j : Nat) : w.cell? ⟨b, j, none⟩ = (bC s.lim c s.used s.high s.k0 s.k1 s.k2 s.k3)[j]? := cell_of_row _ _ _ _ _ _ h
theorem BAt.frozen (h : BAt w b c s) (j : Nat) : w.frozen? ⟨b, j, none⟩ = false := frozen_of_row _ _ _ _ _ h
theorem RAt.cell (h : RAt w r s) (j : Nat) : w.cell? ⟨r, j, none⟩ = #[Value.int .i64 s.lim, .int .i64 s.k0, .int .i64 s.k1, .int .i64 s.k2, .int .i64 s.k3, .int .i64 s.high][j]? := cell_of_row _ _ _ _ _ _ h
theorem RAt.frozen (h : RAt w r s) (j : Nat) : w.frozen? ⟨r, j, none⟩ = false := frozen_of_row _ _ _ _ _ h
theorem BAt.ne {s' : S} (h : BAt w b c s) (k : RAt w r s') : b ≠ r := by
  rintro rfl
  unfold BAt at h
  unfold RAt at k
  rw [h] at k
  injection k with k
  injection k with _ k
  exact absurd k (by decide)
end
end Go.Proofs.Ytapncnbildampaa
