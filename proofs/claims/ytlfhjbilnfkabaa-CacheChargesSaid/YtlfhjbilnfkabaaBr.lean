/- The document's budget. -/
import Derived.Test.YtlfhjbilnfkabaaBb
namespace Go.Proofs.Ytlfhjbilnfkabaa
open Go.RowKit
open BM

/-- what a call leaves that changes the document's budget at r -/
def ROut (w : World) (r : Nat) (x : Int × S) (e : Ending) (w' : World) : Prop := e = .returned (.int .i64 x.1) ∧ RAt w' r x.2 ∧ w.grownBy w' (some r)

theorem rnew_at (w : World) (x y : Int) (hy : y = x) : RAt (w.alloc (.cells #[.int .i64 y, .int .i64 0, .int .i64 0, .int .i64 0, .int .i64 0, .int .i64 0] 81)) w.heap.size ⟨x, 0, 0, 0, 0, 0⟩ := by
  subst hy
  exact heap_alloc_new w _

theorem rnew_any (l : Int) (w : World) : Calls Try.prog 10 #[.int .i64 l] w fun e w' => e = .returned (.pointer (some ⟨w.heap.size, 0, none⟩)) ∧ RAt w' w.heap.size (new l) ∧ Below w.heap.size w w' := by
  have HN := Lib.hid (fun y (hy : y = top l) => rnew_at w (top l) y hy)
  have HT : Hid (top l = min (max l 0) 1099511627776) := rfl
  go_enter Try.func10, Try.ntmps10
  go_wp2
  all_goals
    go_ret
    exact ⟨rfl, HN.out _ (by rw [HT.out]; omega), (Below.refl _ _).alloc (Nat.le_refl _) _⟩

theorem rused_any {w : World} {r : Nat} {s : S} (h : RAt w r s) (p0 : 0 ≤ s.k0 ∧ s.k0 ≤ 1099511627776) (p1 : 0 ≤ s.k1 ∧ s.k1 ≤ 1099511627776) (p2 : 0 ≤ s.k2 ∧ s.k2 ≤ 1099511627776) (p3 : 0 ≤ s.k3 ∧ s.k3 ≤ 1099511627776) :
    Calls Try.prog 26 #[.pointer (some ⟨r, 0, none⟩)] w fun e w' => e = .returned (.int .i64 s.used) ∧ ∃ n, w' = w.drewN n := by
  have c1 : w.cell? ⟨r, 1, none⟩ = some (.int .i64 s.k0) := h.cell 1
  have c2 : w.cell? ⟨r, 2, none⟩ = some (.int .i64 s.k1) := h.cell 2
  have c3 : w.cell? ⟨r, 3, none⟩ = some (.int .i64 s.k2) := h.cell 3
  have c4 : w.cell? ⟨r, 4, none⟩ = some (.int .i64 s.k3) := h.cell 4
  have HU : Hid (s.used = s.k0 + s.k1 + s.k2 + s.k3) := rfl
  obtain ⟨a0, e0⟩ : ∃ a, s.k0 = a := ⟨_, rfl⟩
  obtain ⟨a1, e1⟩ : ∃ a, s.k1 = a := ⟨_, rfl⟩
  obtain ⟨a2, e2⟩ : ∃ a, s.k2 = a := ⟨_, rfl⟩
  obtain ⟨a3, e3⟩ : ∃ a, s.k3 = a := ⟨_, rfl⟩
  rw [e0] at c1 HU p0; rw [e1] at c2 HU p1; rw [e2] at c3 HU p2; rw [e3] at c4 HU p3
  clear h e0 e1 e2 e3
  go_enter Try.func26, Try.ntmps26
  go_wp2
  go_quiet (fail)
  go_wp2
  go_ret
  exact ⟨ret_int HU.out.symm, _, rfl⟩
end Go.Proofs.Ytlfhjbilnfkabaa
