/- Slices of texts that come in, opened, nil and empty ones too; their sizes. Slices of numbers. -/
import Derived.Test.YtnamihkdoigieaaKit
import Derived.Test.YtnamihkdoigieaaLaw
import Derived.Deep.Slices
import Derived.Deep.Strs
import Derived.ChangeSame
import Derived.SizedLaws
import Derived.Deep.CondSized
import Derived.Deep.QuietTactic
namespace Go.Proofs.Ytnamihkdoigieaa
open Go.ChangeShapes Go.WideShapes Go.ChangeAt Go.RowKit Go.Deep

/-- a slice of texts that lies below block B: nil and empty ones too -/
def StrsIn (w : World) (B : Nat) (A : Option Addr) (l : List ByteArray) : Prop :=
  0 < l.length → ∃ b off, A = some ⟨b, off, none⟩ ∧ b < B ∧ ∀ j, (h : j < l.length) → w.cell? ⟨b, off + j, none⟩ = some (.string l[j])

theorem StrsIn.below {w w' : World} {B : Nat} {A : Option Addr} {l : List ByteArray} (h : StrsIn w B A l) (hb : Below B w w') : StrsIn w' B A l := by
  intro hn
  obtain ⟨b, off, hA, hlt, hc⟩ := h hn
  exact ⟨b, off, hA, hlt, fun j hj => (hb.cell (p := ⟨b, off + j, none⟩) hlt).trans (hc j hj)⟩

theorem StrsIn.more {w : World} {B B' : Nat} {A : Option Addr} {l : List ByteArray} (h : StrsIn w B A l) (hB : B ≤ B') : StrsIn w B' A l := by
  intro hn
  obtain ⟨b, off, hA, hlt, hc⟩ := h hn
  exact ⟨b, off, hA, by omega, hc⟩

theorem own_slice {w : World} {base : Nat} {e : TypeId} {size : Nat} {v : Value} {n : Nat} {xs : List Value} (h : w.ownsRow base e size v n xs) : ∃ A c, v = .slice A n c := by
  rcases h.2 with ⟨rfl, h0⟩ | ⟨g, cap, cur, rfl, _⟩
  · exact ⟨none, 0, by rw [h0]⟩
  · exact ⟨_, _, rfl⟩

/-- a slice of one-cell elements that lies below block B -/
def CellsIn (w : World) (B : Nat) (A : Option Addr) (n : Nat) (xs : List Value) : Prop :=
  0 < n → ∃ b off, A = some ⟨b, off, none⟩ ∧ b < B ∧ ∀ j x, xs[j]? = some x → w.cell? ⟨b, off + j, none⟩ = some x

theorem CellsIn.below {w w' : World} {B : Nat} {A : Option Addr} {n : Nat} {xs : List Value} (h : CellsIn w B A n xs) (hb : Below B w w') : CellsIn w' B A n xs := by
  intro hn
  obtain ⟨b, off, hA, hlt, hc⟩ := h hn
  exact ⟨b, off, hA, hlt, fun j x hj => (hb.cell (p := ⟨b, off + j, none⟩) hlt).trans (hc j x hj)⟩

theorem CellsIn.more {w : World} {B B' : Nat} {A : Option Addr} {n : Nat} {xs : List Value} (h : CellsIn w B A n xs) (hB : B ≤ B') : CellsIn w B' A n xs := by
  intro hn
  obtain ⟨b, off, hA, hlt, hc⟩ := h hn
  exact ⟨b, off, hA, by omega, hc⟩

theorem own_cells {w : World} {base : Nat} {e : TypeId} {v : Value} {n : Nat} {xs : List Value} (h : w.ownsRow base e 1 v n xs) : ∃ A c, v = .slice A n c ∧ CellsIn w w.heap.size A n xs := by
  have h' := h
  rcases h.2 with ⟨rfl, h0⟩ | ⟨g, cap, cur, rfl, _, hg, _, _, _, _⟩
  · exact ⟨none, 0, by rw [h0], fun hn => by omega⟩
  · refine ⟨some ⟨g, 0, none⟩, cap, rfl, fun _ => ⟨g, 0, rfl, (Array.getElem?_eq_some_iff.1 hg).1, fun j x hj => ?_⟩⟩
    have hc := h'.cells (g := g) rfl j x hj
    rw [addr_add0] at hc
    rw [Nat.zero_add, hc]

theorem weights_all {H : Type} {P : Program} {e : TypeId} {d : DataW H} : ∀ {l : List (DataW H)}, d ∈ l → ∀ n ∈ d.weights P e, n ∈ DataW.weightsAll P e l
  | x :: l, h, n, hn => by
    simp only [DataW.weightsAll, List.mem_append]
    rcases List.mem_cons.1 h with rfl | h
    · exact Or.inl hn
    · exact Or.inr (weights_all h n hn)

theorem plain_addr {w : World} {a : Addr} {v : Value} (h : w.cell? a = some v) : ∃ b off, a = ⟨b, off, none⟩ := by
  obtain ⟨b, off, spot⟩ := a
  obtain rfl : spot = none := World.cell?_spot h
  exact ⟨b, off, rfl⟩

theorem add_off (b off k : Nat) : (⟨b, off, none⟩ : Addr).add k = ⟨b, off + k, none⟩ := by unfold Addr.add; split <;> simp_all

section
variable {H : Type} {enc : TypeId × Value → H} {w : World}

theorem open_texts {r : Reach} {b0 : Nat} {v : Value} {d : DataW H} {p : List MemPlace} (hval : Value.okWide Try.prog w r b0 26 v) (h : DataW.Trod enc Try.prog w 0 (fun _ => true) true 26 v d p)
    (hw : ∀ m ∈ d.weights Try.prog 26, m ≤ reachBytes) :
    ∃ A n cap l, v = .slice A n cap ∧ l.length = n ∧ StrsIn w w.heap.size A l ∧ n ≤ cap ∧ n * 16 ≤ reachBytes ∧ ∀ q ∈ l, q.size ≤ reachBytes := by
  obtain ⟨a0, len, cap, rfl⟩ := okWide_slice Try.underlying26 hval
  obtain ⟨fuel, hf⟩ := h
  rcases open_strs Try.underlying26 Try.underlying9 (by kernel_rfl) hf with ⟨hcs, hx⟩ | ⟨a, len', cap', m, Sx, hcs, -, hl, hm, hmm, hx, hi⟩
  · simp [Value.cells] at hcs
    obtain ⟨rfl, rfl, rfl⟩ := hcs
    exact ⟨none, 0, 0, [], rfl, rfl, by intro h; simp at h, by decide, by decide, by simp⟩
  · simp [Value.cells] at hcs
    obtain ⟨rfl, rfl, rfl⟩ := hcs
    simp only [if_true] at hmm
    simp only [Prod.mk.injEq] at hx
    obtain ⟨rfl, -⟩ := hx
    refine ⟨some a, len, cap, (List.range len).map Sx, rfl, by simp, fun hn => ?_, hl, ?_, fun q hq => ?_⟩
    · simp only [List.length_map, List.length_range] at hn
      obtain ⟨b, off, rfl⟩ := plain_addr (hi 0 (by omega)).1
      refine ⟨b, off, rfl, block_lt_of_cell (hi 0 (by omega)).1, fun j hj => ?_⟩
      simp only [List.length_map, List.length_range] at hj
      have hc := (hi j (by omega)).1
      rw [add_off] at hc
      simp only [List.getElem_map, List.getElem_range]
      exact hc
    · have h1 := hw ((len + (cap - len)) * 16) (by
        simp only [DataW.weights, Try.underlying26, List.mem_cons, List.length_map, List.length_range]
        left
        rw [show Try.prog.bytesOf 9 = 16 by kernel_rfl, hmm])
      exact Nat.le_trans (Nat.mul_le_mul_right 16 (Nat.le_add_right len (cap - len))) h1
    · obtain ⟨i, hi', rfl⟩ := List.mem_map.1 hq
      have hil := List.mem_range.1 hi'
      refine hw _ ?_
      simp only [DataW.weights, Try.underlying26, List.mem_cons, List.mem_append]
      refine Or.inr (Or.inl (weights_all (List.mem_map.2 ⟨i, List.mem_range.2 hil, rfl⟩) _ ?_))
      simp [DataW.weights]
end

theorem texts_sized {H : Type} {P : Program} {ts : List TypeId} {ds : List (DataW H)} (h : (DataW.weightsEach P ts ds).all (· ≤ reachBytes) = true) {j : Nat} {t : TypeId} {d : DataW H} (ht : ts[j]? = some t) (hd : ds[j]? = some d) :
    ∀ m ∈ d.weights P t, m ≤ reachBytes := fun m hm => by
  have := List.all_eq_true.1 h _ (DataW.weights_mem_each ht hd m hm)
  simpa using this
end Go.Proofs.Ytnamihkdoigieaa
