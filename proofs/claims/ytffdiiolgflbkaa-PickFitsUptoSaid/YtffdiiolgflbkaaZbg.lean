/- Texts joined by bundle.py: St. -/
import Derived.Test.YtffdiiolgflbkaaZaa
import Derived.StillTailTactics

/- A region that draws its order, read step by step up to its last operations: the steps behind a letter, so that a guarded operation costs no more than another one. General. -/
namespace Go.Proofs.Ytffdiiolgflbkaa
open Go.RowKit

structure StillW (P : Program) (ops : Array Oper) (w : World) (Q : Act → Prop) (W : List Oper → Act → Prop) : Prop where
  nil : ∀ {a : Act}, Q a → W [] a
  cons : ∀ {a : Act} {o : Oper} {rest : List Oper}, (∀ K : Act → Prop, (∀ a, W rest a → K a) → if Region.wanted o (yielded ops a.tmps) then o.still P a w K else K (a.put o.dst undef)) → W (o :: rest) a

theorem still_letter {P : Program} {ops : Array Oper} {w : World} {Q : Act → Prop} {l : List Oper} {a : Act} (h : ∀ W : List Oper → Act → Prop, Hid (StillW P ops w Q W) → W l a) : wpStill P ops w Q l a :=
  h (wpStill P ops w Q) (Lib.hid ⟨wpStill_nil, wpStill_step⟩)
end Go.Proofs.Ytffdiiolgflbkaa

