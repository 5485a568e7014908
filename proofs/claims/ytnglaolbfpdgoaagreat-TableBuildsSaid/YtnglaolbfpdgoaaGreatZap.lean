/- Texts joined by bundle.py: NOp. -/
import Derived.Test.YtnglaolbfpdgoaaGreatZaa
import Derived.Test.YtnglaolbfpdgoaaGreatZao
import Derived.Deep.Slices
import Derived.Deep.Strs
import Derived.ChangeSame
import Derived.SizedLaws
import Derived.Deep.CondSized
import Derived.Deep.QuietTactic

/- Slices of texts that come in, opened, nil and empty ones too; their sizes. Slices of numbers. -/
namespace Go.Proofs.YtnglaolbfpdgoaaGreat.B9
open Go.ChangeShapes Go.WideShapes Go.ChangeAt Go.RowKit Go.Deep

/-- a slice of texts that lies below block B: nil and empty ones too -/
def StrsIn (w : World) (B : Nat) (A : Option Addr) (l : List ByteArray) : Prop :=
  0 < l.length → ∃ b off, A = some ⟨b, off, none⟩ ∧ b < B ∧ ∀ j, (h : j < l.length) → w.cell? ⟨b, off + j, none⟩ = some (.string l[j])

theorem StrsIn.below {w w' : World} {B : Nat} {A : Option Addr} {l : List ByteArray} (h : StrsIn w B A l) (hb : Below B w w') : StrsIn w' B A l := by
  intro hn
  obtain ⟨b, off, hA, hlt, hc⟩ := h hn
  exact ⟨b, off, hA, hlt, fun j hj => (hb.cell (p := ⟨b, off + j, none⟩) hlt).trans (hc j hj)⟩

theorem StrsIn.more {w : World} {B B' : Nat} {A : Option Addr} {l : List ByteArray} (h : StrsIn w B A l) (hB : B ≤ B') : StrsIn w B' A l := by
  intro hn
  obtain ⟨b, off, hA, hlt, hc⟩ := h hn
  exact ⟨b, off, hA, by omega, hc⟩

theorem own_slice {w : World} {base : Nat} {e : TypeId} {size : Nat} {v : Value} {n : Nat} {xs : List Value} (h : w.ownsRow base e size v n xs) : ∃ A c, v = .slice A n c := by
  rcases h.2 with ⟨rfl, h0⟩ | ⟨g, cap, cur, rfl, _⟩
  · exact ⟨none, 0, by rw [h0]⟩
  · exact ⟨_, _, rfl⟩

/-- a slice of one-cell elements that lies below block B -/
def CellsIn (w : World) (B : Nat) (A : Option Addr) (n : Nat) (xs : List Value) : Prop :=
  0 < n → ∃ b off, A = some ⟨b, off, none⟩ ∧ b < B ∧ ∀ j x, xs[j]? = some x → w.cell? ⟨b, off + j, none⟩ = some x

theorem CellsIn.below {w w' : World} {B : Nat} {A : Option Addr} {n : Nat} {xs : List Value} (h : CellsIn w B A n xs) (hb : Below B w w') : CellsIn w' B A n xs := by
  intro hn
  obtain ⟨b, off, hA, hlt, hc⟩ := h hn
  exact ⟨b, off, hA, hlt, fun j x hj => (hb.cell (p := ⟨b, off + j, none⟩) hlt).trans (hc j x hj)⟩

theorem CellsIn.more {w : World} {B B' : Nat} {A : Option Addr} {n : Nat} {xs : List Value} (h : CellsIn w B A n xs) (hB : B ≤ B') : CellsIn w B' A n xs := by
  intro hn
  obtain ⟨b, off, hA, hlt, hc⟩ := h hn
  exact ⟨b, off, hA, by omega, hc⟩

theorem own_cells {w : World} {base : Nat} {e : TypeId} {v : Value} {n : Nat} {xs : List Value} (h : w.ownsRow base e 1 v n xs) : ∃ A c, v = .slice A n c ∧ CellsIn w w.heap.size A n xs := by
  have h' := h
  rcases h.2 with ⟨rfl, h0⟩ | ⟨g, cap, cur, rfl, _, hg, _, _, _, _⟩
  · exact ⟨none, 0, by rw [h0], fun hn => by omega⟩
  · refine ⟨some ⟨g, 0, none⟩, cap, rfl, fun _ => ⟨g, 0, rfl, (Array.getElem?_eq_some_iff.1 hg).1, fun j x hj => ?_⟩⟩
    have hc := h'.cells (g := g) rfl j x hj
    rw [addr_add0] at hc
    rw [Nat.zero_add, hc]

theorem weights_all {H : Type} {P : Program} {e : TypeId} {d : DataW H} : ∀ {l : List (DataW H)}, d ∈ l → ∀ n ∈ d.weights P e, n ∈ DataW.weightsAll P e l
  | x :: l, h, n, hn => by
    simp only [DataW.weightsAll, List.mem_append]
    rcases List.mem_cons.1 h with rfl | h
    · exact Or.inl hn
    · exact Or.inr (weights_all h n hn)

theorem plain_addr {w : World} {a : Addr} {v : Value} (h : w.cell? a = some v) : ∃ b off, a = ⟨b, off, none⟩ := by
  obtain ⟨b, off, spot⟩ := a
  obtain rfl : spot = none := World.cell?_spot h
  exact ⟨b, off, rfl⟩

theorem add_off (b off k : Nat) : (⟨b, off, none⟩ : Addr).add k = ⟨b, off + k, none⟩ := by unfold Addr.add; split <;> simp_all
end Go.Proofs.YtnglaolbfpdgoaaGreat.B9

