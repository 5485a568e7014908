/- The document's Get and From. -/
import Derived.Test.YtgnlhnfjanoahaaRs
namespace Go.Proofs.Ytgnlhnfjanoahaa
open Go.RowKit
open SK

def ecs (l : List E) : List Value := l.flatMap E.cells
theorem ecs_len (l : List E) : (ecs l).length = l.length * 5 := by
  induction l with
  | nil => rfl
  | cons p r ih => show (p.cells ++ ecs r).length = _; rw [List.length_append, ih, List.length_cons]; simp [E.cells]; omega
theorem ecs_snoc (l : List E) (p : E) : ecs (l ++ [p]) = ecs l ++ p.cells := by simp [ecs]
theorem ecs_at : ∀ (l : List E) (j : Nat) (h : j < l.length) (i : Nat), i < 5 → (ecs l)[j * 5 + i]? = (l[j]).cells[i]?
  | p :: r, 0, _, i, hi => by
    show (p.cells ++ ecs r)[0 * 5 + i]? = _
    rw [List.getElem?_append_left (by simp [E.cells]; omega)]
    simp
  | p :: r, j + 1, h, i, hi => by
    have := ecs_at r j (by simpa using h) i hi
    show (p.cells ++ ecs r)[(j + 1) * 5 + i]? = _
    rw [List.getElem?_append_right (by simp [E.cells]; omega)]
    simp only [List.getElem_cons_succ]
    rw [← this]
    congr 1
    simp [E.cells]
    omega

theorem own_ents {w : World} {base : Nat} {e : TypeId} {v : Value} {n : Nat} {l : List E} (hw : ∀ x ∈ l, x.wf) (hn : l.length = n) (h : w.ownsRow base e 5 v n (ecs l)) :
    ∃ A c, v = .slice A n c ∧ EntsIn w A l ∧ ∀ x ∈ fb A, base ≤ x ∧ x < w.heap.size := by
  subst hn
  have h' := h
  rcases h.2 with ⟨rfl, h0⟩ | ⟨g, cap, cur, rfl, hbg, hg, _, _, _, _⟩
  · exact ⟨none, 0, by rw [h0], ⟨hw, fun hn => by omega⟩, by simp [fb]⟩
  · have hlt := (Array.getElem?_eq_some_iff.1 hg).1
    refine ⟨some ⟨g, 0, none⟩, cap, rfl, ⟨hw, fun _ => ⟨g, 0, rfl, hlt, fun j hj => ?_⟩⟩, by simp [fb]; exact ⟨hbg, hlt⟩⟩
    have hcell : ∀ i x, i < 5 → (l[j]).cells[i]? = some x → w.cell? ⟨g, 0 + j * 5 + i, none⟩ = some x := by
      intro i x hi hx
      have hc := h'.cells (g := g) rfl (j * 5 + i) x (by rw [ecs_at l j hj i hi]; exact hx)
      rw [addr_add0] at hc
      rw [Nat.zero_add]
      exact hc
    exact ⟨hcell 0 _ (by omega) rfl, hcell 1 _ (by omega) rfl, hcell 2 _ (by omega) rfl, hcell 3 _ (by omega) rfl, hcell 4 _ (by omega) rfl⟩

theorem info_rent : (Try.prog.info? 37).map (fun i => (i.zero, i.size, i.bytes)) = some (some (.agg #[.string ⟨#[]⟩, .int .i64 0, .bool false, .string ⟨#[]⟩, .int .i64 0]), 5, 56) := by kernel_rfl

theorem five_cells (w : World) (a b c d e : Value) (t : TypeId) : ∀ j u, [a, b, c, d, e][j]? = some u → (w.alloc (.cells #[a, b, c, d, e] t)).cell? ((⟨w.heap.size, 0, none⟩ : Addr).add j) = some u := by
  intro j u hj
  rw [addr_add0, cell_of_row _ _ _ _ _ _ (heap_alloc_new w _)]
  simpa using hj

theorem find_none {p : E → Bool} {l : List E} (h : ∀ i, (hi : i < l.length) → p l[i] = false) : l.find? p = none := by
  rw [List.find?_eq_none]
  intro x hx
  obtain ⟨i, hi, rfl⟩ := List.getElem_of_mem hx
  simp [h i hi]
theorem find_at {p : E → Bool} {l : List E} {j : Nat} (hj : j < l.length) (h : ∀ i, (hi : i < j) → p (l[i]'(by omega)) = false) (hp : p l[j] = true) : l.find? p = some l[j] := by
  have hs : l = l.take j ++ l[j] :: l.drop (j + 1) := by rw [← List.drop_eq_getElem_cons, List.take_append_drop]
  have h1 : (l.take j).find? p = none := find_none fun i hi => by
    rw [List.length_take] at hi
    rw [List.getElem_take]
    exact h i (by omega)
  have h2 : (l.take j ++ l[j] :: l.drop (j + 1)).find? p = some l[j] := by rw [List.find?_append, h1, Option.none_or, List.find?_cons, hp]
  rw [← hs] at h2
  exact h2

end Go.Proofs.Ytgnlhnfjanoahaa
