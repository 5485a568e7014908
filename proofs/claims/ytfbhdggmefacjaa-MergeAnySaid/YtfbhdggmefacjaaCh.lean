/- slices.Sort of numbers that the call owns. -/
import Derived.Test.YtfbhdggmefacjaaCf
import Derived.Test.YtfbhdggmefacjaaSh
import Derived.Sort.OwnSortedInts
namespace Go.Proofs.Ytfbhdggmefacjaa
open Go.RowKit Go.Shelf
open SK VB

theorem sort64_any (Bs : Nat) (v : Value) (m : Nat) (xs : List Int) (W : World) (hm : xs.length = m) (ho : W.ownsRow Bs 2 1 v m (xs.map (Value.int .i64))) (hb : Bs ≤ W.heap.size) (h6 : m ≤ 1000000) :
    Calls Try.prog 32 #[v] W fun e w' => e = .returned (.tuple #[]) ∧ (∃ ys, ys.Perm xs ∧ Rises ys ∧ w'.ownsRow Bs 2 1 v m (ys.map (Value.int .i64))) ∧ Below Bs W w' := by
  have hr : Rises (xs.mergeSort fun x y => decide (x ≤ y)) := by
    have := List.pairwise_mergeSort (le := fun x y : Int => decide (x ≤ y)) (fun a b c h1 h2 => by simp only [decide_eq_true_eq] at *; omega) (fun a b => by simp only [Bool.or_eq_true, decide_eq_true_eq]; omega) xs
    exact this.imp (by simp)
  have hp : (xs.mergeSort fun x y => decide (x ≤ y)).Perm xs := List.mergeSort_perm _ _
  rcases ho.2 with ⟨rfl, h0⟩ | ⟨g, cap, cur, rfl, hg, hgb, h1, h2, h3, h4⟩
  · have hx : xs = [] := List.eq_nil_of_length_eq_zero (by omega)
    refine (Try.slices_Sort_int64_none none 0 W).mono fun e w' h => ?_
    obtain ⟨rfl, rfl⟩ := h
    exact ⟨rfl, ⟨xs, .refl _, by subst hx; exact List.Pairwise.nil, ho⟩, Below.refl _ _⟩
  · subst hm
    have hgl := (Array.getElem?_eq_some_iff.1 hgb).1
    refine (Try.slices_Sort_int64 g 0 cap xs W (holds_of_blockI hgb (by simpa using h4)) hgl (by omega)).mono fun e w' h => ?_
    obtain ⟨rfl, nn, os, rfl⟩ := h
    refine ⟨rfl, ⟨_, hp, hr, ?_⟩, (Below.refl _ W).grown (grownBy_sortedI _) (by omega) (fun k e => by cases e; exact hg)⟩
    exact ownsRow_sortedI (by simp) hg hgb h1 h2 h3
end Go.Proofs.Ytfbhdggmefacjaa
