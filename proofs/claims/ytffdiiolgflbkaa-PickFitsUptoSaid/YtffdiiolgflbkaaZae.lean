/- Texts joined by bundle.py: Two. -/
import Derived.Test.YtffdiiolgflbkaaZaa
import Derived.Deep.RegionHeld3
import Derived.Deep.DrawnRows
import Derived.Deep.AppendLies

/- Two rows of unlike elements, each appended to: general. -/
namespace Go.Proofs.Ytffdiiolgflbkaa
open Go.RowKit
attribute [local go_sem ↓] Go.wp_at_zero Go.wp_at_succ

section
variable {w w' : World} {b1 b2 : Nat} {e1 e2 : TypeId} {s1 s2 : Nat} {v1 v2 : Value} {n1 n2 : Nat} {xs1 xs2 : List Value}

/-- two rows whose elements' types differ never share a block -/
theorem own_apart (h1 : w.ownsRow b1 e1 s1 v1 n1 xs1) (h2 : w.ownsRow b2 e2 s2 v2 n2 xs2) (hne : e1 ≠ e2) : v1.ownBlock = none ∨ v1.ownBlock ≠ v2.ownBlock := by
  rcases h1.2 with ⟨rfl, _⟩ | ⟨g, cap, cur, rfl, _, hg, _⟩
  · left; rfl
  · right
    intro he
    rcases h2.2 with ⟨rfl, _⟩ | ⟨g', cap', cur', rfl, _, hg', _⟩
    · simp [Value.ownBlock] at he
    · have : g = g' := by simpa [Value.ownBlock] using he
      subst this
      rw [hg] at hg'
      injection hg' with hg'
      injection hg' with _ ht
      exact hne ht

theorem own_drew (h : w.ownsRow b1 e1 s1 v1 n1 xs1) : w.drew.ownsRow b1 e1 s1 v1 n1 xs1 := h

/-- a block that is not yet there is no row's own -/
theorem own_new (h : w.ownsRow b1 e1 s1 v1 n1 xs1) {B : Nat} (hB : w.heap.size ≤ B) : some B ≠ v1.ownBlock := fun he => by
  have := (h.lt B he.symm).2
  omega
end

theorem alloc_at (w : World) (o : Obj) (B : Nat) (h : w.heap.size = B) : (w.alloc o).heap[B]? = some o := by subst h; exact heap_alloc_new w o
theorem alloc_old (w : World) (o x : Obj) (B : Nat) (h : w.heap[B]? = some x) : (w.alloc o).heap[B]? = some x := by
  have hlt : B < w.heap.size := (Array.getElem?_eq_some_iff.1 h).1
  exact (Below.heap_alloc w o B hlt).trans h
theorem drew_at (w : World) (x : Obj) (B : Nat) (h : w.heap[B]? = some x) : w.drew.heap[B]? = some x := h

/-- two rows that the call owns, of unlike elements -/
structure Two (base : Nat) (e1 : TypeId) (s1 : Nat) (v1 : Value) (n1 : Nat) (xs1 : List Value) (e2 : TypeId) (s2 : Nat) (v2 : Value) (n2 : Nat) (xs2 : List Value) (W w : World) : Prop where
  own1 : w.ownsRow base e1 s1 v1 n1 xs1
  own2 : w.ownsRow base e2 s2 v2 n2 xs2
  below : Below base W w
  base_le : base ≤ w.heap.size

section
variable {base : Nat} {e1 e2 : TypeId} {s1 s2 : Nat} {v1 v2 : Value} {n1 n2 : Nat} {xs1 xs2 : List Value} {W w w' : World}
theorem Two.alloc (h : Two base e1 s1 v1 n1 xs1 e2 s2 v2 n2 xs2 W w) (o : Obj) : Two base e1 s1 v1 n1 xs1 e2 s2 v2 n2 xs2 W (w.alloc o) :=
  ⟨h.own1.alloc o, h.own2.alloc o, h.below.alloc h.base_le o, by have := h.base_le; simp; omega⟩
theorem Two.drew (h : Two base e1 s1 v1 n1 xs1 e2 s2 v2 n2 xs2 W w) : Two base e1 s1 v1 n1 xs1 e2 s2 v2 n2 xs2 W w.drew :=
  ⟨own_drew h.own1, own_drew h.own2, h.below.drew, h.base_le⟩
theorem Two.app1 {v : Value} {n : Nat} {xs : List Value} (h : Two base e1 s1 v1 n1 xs1 e2 s2 v2 n2 xs2 W w) (hne : e1 ≠ e2) (ho : w'.ownsRow base e1 s1 v n xs) (hg : w.grownBy w' v1.ownBlock) : Two base e1 s1 v n xs e2 s2 v2 n2 xs2 W w' :=
  ⟨ho, h.own2.kept hg (own_apart h.own2 h.own1 (Ne.symm hne)), h.below.grown hg h.base_le (fun g hg => (h.own1.lt g hg).1), Nat.le_trans h.base_le hg.size⟩
theorem Two.app2 {v : Value} {n : Nat} {xs : List Value} (h : Two base e1 s1 v1 n1 xs1 e2 s2 v2 n2 xs2 W w) (hne : e1 ≠ e2) (ho : w'.ownsRow base e2 s2 v n xs) (hg : w.grownBy w' v2.ownBlock) : Two base e1 s1 v1 n1 xs1 e2 s2 v n xs W w' :=
  ⟨h.own1.kept hg (own_apart h.own1 h.own2 hne), ho, h.below.grown hg h.base_le (fun g hg => (h.own2.lt g hg).1), Nat.le_trans h.base_le hg.size⟩
end

end Go.Proofs.Ytffdiiolgflbkaa

