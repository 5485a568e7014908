/- What a round over an iterator keeps. -/
import Derived.RangeFuncNested
import Derived.RangeFuncBound
import Derived.RangeFuncCalls
import Derived.RangeFuncLeaves
import Derived.Shelf.Abstract
import Derived.Shelf.RegionOpen
import Derived.WalkKit
import Derived.OwnWalkIn
import Derived.TacticsInMore
import Derived.LoopNIn
import Derived.LoopIn
import Derived.Test.YtfbhdggmefacjaaSb
import Derived.Test.YtfbhdggmefacjaaLs
import Derived.Deep.QuietTactic
namespace Go.Proofs.Ytfbhdggmefacjaa
open Go.RowKit Go.Shelf
open SK
attribute [local go_sem] Oper.semAt_some

/-- what a round leaves: all blocks below N but some -/
structure Kept (S : List Nat) (N : Nat) (w w' : World) : Prop where
  os : w'.os = w.os
  tape : w'.tape = w.tape
  output : w'.output = w.output
  size : w.heap.size ≤ w'.heap.size
  block : ∀ k, k < N → k ∉ S → w'.heap[k]? = w.heap[k]?

theorem Kept.of_below {S : List Nat} {N : Nat} {w w' : World} (h : Below N w w') : Kept S N w w' := ⟨h.os, h.tape, h.output, h.size, fun k hk _ => h.block k hk⟩
theorem Kept.refl (S : List Nat) (N : Nat) (w : World) : Kept S N w w := .of_below (Below.refl _ _)
theorem Kept.trans {S : List Nat} {N : Nat} {a b c : World} (h : Kept S N a b) (k : Kept S N b c) : Kept S N a c :=
  ⟨k.os.trans h.os, k.tape.trans h.tape, k.output.trans h.output, Nat.le_trans h.size k.size, fun x hx hn => (k.block x hx hn).trans (h.block x hx hn)⟩
theorem Kept.set {S : List Nat} {N : Nat} {w w1 : World} (h : Kept S N w w1) (b j : Nat) (v : Value) (hb : b ∈ S ∨ N ≤ b) : Kept S N w (w1.setCell ⟨b, j, none⟩ v) :=
  ⟨h.os, h.tape, h.output, by rw [setCell_size]; exact h.size, fun x hx hn => (Below.heap_setCell _ _ _ _ (by
    rcases hb with hb | hb
    · exact fun e => hn (e ▸ hb)
    · show x ≠ b
      omega)).trans (h.block x hx hn)⟩
theorem Kept.cell {S : List Nat} {N : Nat} {w w' : World} (h : Kept S N w w') {b j : Nat} (hb : b < N) (hn : b ∉ S) : w'.cell? ⟨b, j, none⟩ = w.cell? ⟨b, j, none⟩ := World.cell?_of_block (h.block b hb hn)
theorem Kept.put {S : List Nat} {N : Nat} {w : World} (W : World) (l : Nat) (o o' : Obj) (hN : N ≤ w.heap.size) (hl : w.heap.size ≤ l) (h : W.heap[l]? = some o) (_ : o.isCells = false) (_ : o.isWalk = false) : Kept S N W (W.putObj l o') :=
  .of_below ((Below.refl N W).grown (grownBy_putObj' W l o') (by have := (Array.getElem?_eq_some_iff.1 h).1; omega) (fun k e => by cases e; omega))


theorem Kept.grown {S : List Nat} {N : Nat} {w A B : World} {row : Option Nat} (h : Kept S N w A) (hN : N ≤ w.heap.size) (hg : A.grownBy B row) (hr : ∀ r, row = some r → N ≤ r) : Kept S N w B :=
  ⟨hg.os.trans h.os, hg.tape.trans h.tape, hg.output.trans h.output, Nat.le_trans h.size hg.size, fun k hk hn => (hg.block k (by have := h.size; omega) (fun e => by have := hr k e.symm; omega)).trans (h.block k hk hn)⟩
theorem Kept.below {S : List Nat} {N n : Nat} {w w' : World} (h : Kept S N w w') (hn : n ≤ N) (hS : ∀ k ∈ S, n ≤ k) : Below n w w' :=
  ⟨h.os, h.tape, h.output, h.size, fun k hk => h.block k (by omega) (fun hm => by have := hS k hm; omega)⟩

theorem KeepsFrom.of_grow {B : Nat} {w w' : World} (hb : Below w.heap.size w w') : KeepsFrom B w w' := ⟨hb.size, fun k _ _ hk _ => (hb.block k (Array.getElem?_eq_some_iff.1 hk).1).trans hk⟩
theorem own_less {w : World} {b b' : Nat} {e : TypeId} {size : Nat} {v : Value} {n : Nat} {xs : List Value} (h : w.ownsRow b e size v n xs) (hb : b' ≤ b) : w.ownsRow b' e size v n xs :=
  ⟨h.1, h.2.imp id fun ⟨g, cap, cur, h1, h2, h3⟩ => ⟨g, cap, cur, h1, Nat.le_trans hb h2, h3⟩⟩

theorem EntsIn.kept {w w' : World} {A : Option Addr} {l : List E} {S : List Nat} {N : Nat} (h : EntsIn w A l) (hk : Kept S N w w') (hf : ∀ b ∈ fb A, b < N ∧ b ∉ S) : EntsIn w' A l :=
  ⟨h.wf, fun hn => by
    obtain ⟨b, off, hA, hlt, hc⟩ := h.at_ hn
    have hb := hk.block b (hf b (by rw [hA]; simp [fb])).1 (hf b (by rw [hA]; simp [fb])).2
    refine ⟨b, off, hA, Nat.lt_of_lt_of_le hlt hk.size, fun j hj => ?_⟩
    obtain ⟨c0, c1, c2, c3, c4⟩ := hc j hj
    exact ⟨(World.cell?_of_block (a := ⟨b, _, none⟩) hb).trans c0, (World.cell?_of_block (a := ⟨b, _, none⟩) hb).trans c1, (World.cell?_of_block (a := ⟨b, _, none⟩) hb).trans c2, (World.cell?_of_block (a := ⟨b, _, none⟩) hb).trans c3, (World.cell?_of_block (a := ⟨b, _, none⟩) hb).trans c4⟩⟩

end Go.Proofs.Ytfbhdggmefacjaa
