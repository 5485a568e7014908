/- What a pinned block outlives: plain mathematics; boxes beside a cache. -/
import Derived.Test.YtlfhjbilnfkabaaLp
namespace Go.Proofs.Ytlfhjbilnfkabaa
open Go.ChangeShapes Go.WideShapes Go.ChangeAt Go.RowKit
open BM CM

theorem dl_mem {stop : S → Bool} {m : Blk → Bool} {x : Blk} (hm : m x = false) : ∀ (r done : Ls) (s : S), x ∈ done ∨ x ∈ r → x ∈ (dl stop m done r s).1
  | [], done, s, h => by simpa [dl] using h
  | y :: r, done, s, h => by
    rw [dl]
    split
    · simpa using h
    · split
      · rename_i hy
        refine dl_mem hm r done _ (h.imp id fun h => ?_)
        rcases List.mem_cons.1 h with rfl | h
        · rw [hm] at hy; cases hy
        · exact h
      · refine dl_mem hm r (done ++ [y]) s ?_
        rcases h with h | h
        · exact .inl (by simp [h])
        · rcases List.mem_cons.1 h with rfl | h
          · exact .inl (by simp)
          · exact .inr h
theorem shr_mem {n : Int} {L : Ls} {s : S} {x : Blk} (hx : x ∈ L) (hl : loose x = false) : x ∈ (shrB n L s).2.1 := by
  unfold shrB
  split
  · exact hx
  · exact dl_mem hl L [] s (.inr hx)
theorem drop_mem {f : Int} {L : Ls} {s : S} {x : Blk} (hx : x ∈ L) (hl : x.file ≠ f) : x ∈ (dropB f L s).1 := by
  unfold dropB
  exact dl_mem (by unfold ofFile; simpa using hl) L [] s (.inr hx)
theorem put_mem {f k : Int} {d : ByteArray} {L : Ls} {s : S} {x : Blk} (hx : x ∈ L) (hl : loose x = false) : x ∈ (putB f k d L s).2.1 := by
  unfold putB
  split
  · exact hx
  · split
    · simp only [List.mem_append]
      exact .inl (shr_mem hx hl)
    · exact hx
theorem get_mem {f k : Int} {L : Ls} {x : Blk} (ha : Apt L) (hx : x ∈ L) (h1 : x.file = f) (h2 : x.block = k) : ∃ L', getB f k L = (x.data, true, L') ∧ x ∈ L' ∧ L'.length = L.length := by
  have hf : ∃ i, findB f k L = some i := by
    cases hf : findB f k L with
    | some i => exact ⟨i, rfl⟩
    | none =>
      unfold findB at hf
      rw [List.findIdx?_eq_none_iff] at hf
      have := hf x hx
      rw [hitB_iff.2 ⟨h1, h2⟩] at this
      cases this
  obtain ⟨i, hf⟩ := hf
  obtain ⟨hi, e1, e2⟩ := find_hit hf
  have hxi : L[i] = x := by
    obtain ⟨j, hj, rfl⟩ := List.getElem_of_mem hx
    by_cases hij : i = j
    · subst hij; rfl
    · rcases Nat.lt_or_gt_of_ne hij with h | h
      · exact absurd ⟨e1.trans h1.symm, e2.trans h2.symm⟩ (List.pairwise_iff_getElem.1 ha i j hi hj h)
      · exact absurd ⟨h1.trans e1.symm, h2.trans e2.symm⟩ (List.pairwise_iff_getElem.1 ha j i hj hi h)
  have hg : getB f k L = (x.data, true, L.eraseIdx i ++ [x]) := by
    unfold getB
    rw [hf]
    simp [hi, hxi]
  refine ⟨_, hg, by simp, ?_⟩
  have := getB_len f k L
  rw [hg] at this
  exact this
theorem put_nil (f k : Int) (d : ByteArray) (s : S) : putB f k d [] s = if (cost d : Int) ≤ left s then (0, [⟨f, k, d, 0⟩], (BM.reserve 1 (cost d : Nat) s).2) else (14, [], s) := by
  have hs : shrB (cost d : Nat) [] s = if (cost d : Int) ≤ left s then (true, [], s) else (false, [], s) := by
    unfold shrB
    by_cases h : (cost d : Int) ≤ left s
    · rw [if_neg (by simp [totB]; omega), if_pos h]; simp [dl]
    · rw [if_pos (by simp [totB]; omega), if_neg h]
  unfold putB
  rw [show findB f k [] = none from rfl, hs]
  by_cases h : (cost d : Int) ≤ left s
  · rw [if_pos h, if_pos h]; simp
  · rw [if_neg h, if_neg h]; simp
theorem pin_one (f k : Int) (d : ByteArray) : pinB f k 1 [⟨f, k, d, 0⟩] = (true, [⟨f, k, d, 1⟩]) := by
  have hf : findB f k [⟨f, k, d, 0⟩] = some 0 := by simp [findB, hitB, List.findIdx?_cons]
  unfold pinB
  rw [hf]
  simp

/-- a box beside a cache -/
structure Box (W : World) (y : Nat) (cs : Array Value) (t : TypeId) (P : Nat → Prop) : Prop where
  row : W.heap[y]? = some (.cells cs t (0, 0))
  no : ¬ P y
section
variable {W w w' : World} {y : Nat} {cs : Array Value} {t : TypeId} {P : Nat → Prop} {c z b N N' : Nat} {Z Z' : Zs} {s' : S}
theorem Box.still (h : Box w y cs t P) (hb : Below w.heap.size w w') : Box w' y cs t P := ⟨(hb.block _ (Array.getElem?_eq_some_iff.1 h.row).1).trans h.row, h.no⟩
theorem Box.turn (h : Box w y cs t (own c z b Z)) (t' : Turn W w w' c z b N Z N' Z' s') : Box w' y cs t (own c z b Z') :=
  ⟨(t'.only.block _ (Array.getElem?_eq_some_iff.1 h.row).1 h.no).trans h.row, fun ho => (t'.own_ _ ho).elim h.no (fun hl => by have := (Array.getElem?_eq_some_iff.1 h.row).1; omega)⟩
theorem Box.cell (h : Box w y cs t P) {j : Nat} {v : Value} (hv : cs[j]? = some v) : w.cell? ⟨y, j, none⟩ = some v := cell_of_row _ _ _ _ _ _ (h.row.trans (by rfl)) |>.trans hv
end
end Go.Proofs.Ytlfhjbilnfkabaa
