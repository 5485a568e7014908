/- A version is made out of none by one edit: plain mathematics. -/
import Derived.Test.YtiflkilfkdpecaaLz
namespace Go.Proofs.Ytiflkilfkdpecaa
namespace VS
theorem takeWhile_all {α : Type} {p : α → Bool} : ∀ {l : List α}, (∀ x ∈ l, p x = true) → l.takeWhile p = l ∧ l.dropWhile p = []
  | [], _ => ⟨rfl, rfl⟩
  | a :: l, h => by
    have h1 := takeWhile_all (l := l) fun x hx => h x (List.mem_cons_of_mem _ hx)
    have h2 := h a (List.mem_cons_self ..)
    simp [h2, h1.1, h1.2]
theorem with_last {l : List M} {m : M} (h : ∀ x ∈ l, ahead x m = true) : with_ l m = l ++ [m] := by
  have h1 : ∀ x ∈ l, (!(ahead m x)) = true := fun x hx => by
    cases h2 : ahead m x with
    | false => rfl
    | true => have := ahead_trans (h x hx) h2; rw [ahead_irrefl] at this; cases this
  unfold with_
  rw [(takeWhile_all h1).1, (takeWhile_all h1).2]
theorem fold_sorted : ∀ (l a : List M), (a ++ l).Pairwise (fun x y => ahead x y = true) → l.foldl with_ a = a ++ l
  | [], a, _ => by simp
  | m :: l, a, h => by
    have h1 := List.pairwise_append.1 h
    rw [List.foldl_cons, with_last fun x hx => h1.2.2 x hx m (List.mem_cons_self ..)]
    have := fold_sorted l (a ++ [m]) (by simpa using h)
    simpa using this
def whole (v : V) : Ed := ⟨v.L, [], v.log, v.next, v.seq⟩
theorem behind_whole {v : V} (h : Ok v) : behind V.none (whole v) = v.L := by
  show v.L.foldl with_ [] = v.L
  rw [fold_sorted v.L [] (by simpa using h.order)]
  rfl
theorem whole_ok {v : V} (h : Ok v) (h1 : 0 ≤ v.log) (h2 : 0 ≤ v.next) (h3 : 0 ≤ v.seq) : apply V.none (whole v) = (v, 0) := by
  have hg : good V.none (whole v) = true := by
    unfold good
    rw [behind_whole h]
    simp only [Bool.and_eq_true, decide_eq_true_eq]
    refine ⟨⟨⟨?_, rfl⟩, ?_⟩, h.apart⟩
    · unfold headOk
      have := h.head
      simp only [decide_eq_true_eq]
      exact ⟨h1, h2, h3, this⟩
    · rw [addOk_iff]
      exact ⟨fun m hm => ⟨h.fine m hm, by simp [files, V.none], by simp⟩, h.uniq⟩
  unfold apply
  rw [if_pos hg, behind_whole h]
  rfl
end VS
end Go.Proofs.Ytiflkilfkdpecaa
