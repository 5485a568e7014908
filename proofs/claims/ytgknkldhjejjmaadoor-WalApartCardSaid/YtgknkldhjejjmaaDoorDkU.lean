/- List: the names of all files, rising, in a slice of the call's own. -/
import Derived.Test.YtgknkldhjejjmaaDoorDkT
import Derived.Sort.OwnSorted
import Derived.Sort.KeysCollected
import Derived.Laws.IdiomRangeMap
namespace Go.Proofs.YtgknkldhjejjmaaDoor
open Go.RowKit Go.Maps Go.Sort
open DM

theorem info_string : (Tryd.prog.info? 9).map (fun i => (i.zero, i.size, i.bytes)) = some (some (.string ⟨#[]⟩), 1, 16) := by kernel_rfl

def ListOut (w : World) (ss : List Bs) (e : Ending) (w' : World) : Prop := ∃ v, e = .returned v ∧ w'.ownsRow w.heap.size 9 1 v ss.length (ss.map encStr) ∧ Below w.heap.size w w'

/-- where the loop stands -/
structure ListRel (w : World) (b1 n : Nat) (D0 : DataW Unit) (left : Lit → Bool) (cnt : Nat) (ss : List Bs) (v : Value) (wr : World) : Prop where
  ranges : wr.ranges Tryd.prog 9 ptrElem b1 w.heap.size n D0 left cnt
  got : Collected D0 left ss
  row : wr.ownsRow w.heap.size 9 1 v ss.length (ss.map encStr)
  below : Below w.heap.size w wr
  few : ss.length + cnt ≤ 4096
  iter : w.heap.size < wr.heap.size

theorem one_cell (w : World) (v : Value) (t : TypeId) : ∀ j u, [v][j]? = some u → (w.alloc (.cells #[v] t)).cell? ((⟨w.heap.size, 0, none⟩ : Addr).add j) = some u := by
  intro j u hj
  match j, hj with
  | 0, hj => simp at hj; subst hj; simp [Addr.add]
  | j + 1, hj => simp at hj

theorem list_end {w : World} {b1 n : Nat} {blk : Nat → Nat} {l : Nm} {left : Lit → Bool} {cnt : Nat} {ss : List Bs} {v : Value} {wr : World} (h : ListRel w b1 n (D blk l) left cnt ss v wr) (hs : Sorted l) (hl : ∀ kl, left kl = false) : ss.mergeSort leB = l.map (·.1) := by
  have hp := h.got.perm h.ranges.owns keyLaw Tryd.underlying9 hl
  rw [mergeSort_of_perm hp, D_keys, keys_sorted hs]

end Go.Proofs.YtgknkldhjejjmaaDoor
