/- Texts joined by bundle.py: FTxt. -/
import Derived.Test.YtgknkldhjejjmaaGreatDoorZaw
import Derived.Test.YtgknkldhjejjmaaGreatDoorZaq
import Derived.SizedLaws
import Derived.Deep.Slices
import Derived.Deep.Strs
import Derived.ChangeSame
import Derived.Deep.CondSized
import Derived.Deep.QuietTactic
import Derived.BigQuiet

/- FrameAlls, where what comes in is of bulk up to the bound: of every bytes the bodies, where they end, and why, are the document's. -/
namespace Go.Proofs.YtgknkldhjejjmaaGreatDoor
open Go.ChangeShapes Go.WideShapes Go.ChangeAt Go.RowKit Go.Deep

/-- a slice of texts that lies below block B: nil and empty ones too -/
def StrsIn (w : World) (B : Nat) (A : Option Addr) (l : List ByteArray) : Prop :=
  0 < l.length → ∃ b off, A = some ⟨b, off, none⟩ ∧ b < B ∧ ∀ j, (h : j < l.length) → w.cell? ⟨b, off + j, none⟩ = some (.string l[j])

theorem StrsIn.below {w w' : World} {B : Nat} {A : Option Addr} {l : List ByteArray} (h : StrsIn w B A l) (hb : Below B w w') : StrsIn w' B A l := by
  intro hn
  obtain ⟨b, off, hA, hlt, hc⟩ := h hn
  exact ⟨b, off, hA, hlt, fun j hj => (hb.cell (p := ⟨b, off + j, none⟩) hlt).trans (hc j hj)⟩

theorem StrsIn.more {w : World} {B B' : Nat} {A : Option Addr} {l : List ByteArray} (h : StrsIn w B A l) (hB : B ≤ B') : StrsIn w B' A l := by
  intro hn
  obtain ⟨b, off, hA, hlt, hc⟩ := h hn
  exact ⟨b, off, hA, by omega, hc⟩

def texts (l : List (List UInt8)) : List ByteArray := l.map fun b => ⟨b.toArray⟩

theorem texts_length (l : List (List UInt8)) : (texts l).length = l.length := by simp [texts]

/-- a row that the call owns, as a slice of texts -/
theorem strs_of_own {w : World} {base : Nat} {e : TypeId} {v : Value} {n : Nat} {l : List (List UInt8)} (hn : l.length = n) (h : w.ownsRow base e 1 v n (strs l)) : ∃ A c, v = .slice A n c ∧ StrsIn w w.heap.size A (texts l) := by
  subst hn
  have h' := h
  rcases h.2 with ⟨rfl, h0⟩ | ⟨g, cap, cur, rfl, _, hg, _, _, _, _⟩
  · exact ⟨none, 0, by rw [h0], fun hn => by rw [texts_length] at hn; omega⟩
  · refine ⟨some ⟨g, 0, none⟩, cap, rfl, fun _ => ⟨g, 0, rfl, (Array.getElem?_eq_some_iff.1 hg).1, fun j hj => ?_⟩⟩
    rw [texts_length] at hj
    have hc := h'.cells (g := g) rfl j (.string ⟨l[j].toArray⟩) (by simp [strs, hj])
    rw [addr_add0] at hc
    rw [Nat.zero_add, hc]
    simp [texts]

theorem own_slice {w : World} {base : Nat} {e : TypeId} {size : Nat} {v : Value} {n : Nat} {xs : List Value} (h : w.ownsRow base e size v n xs) : ∃ A c, v = .slice A n c := by
  rcases h.2 with ⟨rfl, h0⟩ | ⟨g, cap, cur, rfl, _⟩
  · exact ⟨none, 0, by rw [h0]⟩
  · exact ⟨_, _, rfl⟩

theorem all_nonzero : ∀ (f : Nat) (l : List UInt8), (FM.all f l).2.2 ≠ 0
  | 0, _ => by simp [FM.all]
  | f + 1, l => by
    unfold FM.all
    split
    · assumption
    · exact all_nonzero f _

theorem all_few : ∀ (f : Nat) (l : List UInt8), (FM.all f l).1.length * 8 ≤ l.length
  | 0, l => by simp [FM.all]
  | f + 1, l => by
    obtain ⟨b, m, c, hg⟩ : ∃ b m c, FM.get l = (b, m, c) := ⟨_, _, _, rfl⟩
    by_cases hc : c = 0
    · subst hc
      obtain ⟨hm, -, -⟩ := FM.get_ok hg
      obtain ⟨hm8, hml, -, -, -⟩ := FM.meas_ok hm
      have ih := all_few f (l.drop m)
      rw [List.length_drop] at ih
      rw [FM.all_step hg]
      simp only [List.length_cons]
      omega
    · rw [FM.all_err (by rw [hg]) hc]
      simp

theorem fweights_all {H : Type} {P : Program} {e : TypeId} {d : DataW H} : ∀ {l : List (DataW H)}, d ∈ l → ∀ n ∈ d.weights P e, n ∈ DataW.weightsAll P e l
  | x :: l, h, n, hn => by
    simp only [DataW.weightsAll, List.mem_append]
    rcases List.mem_cons.1 h with rfl | h
    · exact Or.inl hn
    · exact Or.inr (fweights_all h n hn)

theorem fplain_addr {w : World} {a : Addr} {v : Value} (h : w.cell? a = some v) : ∃ b off, a = ⟨b, off, none⟩ := by
  obtain ⟨b, off, spot⟩ := a
  obtain rfl : spot = none := World.cell?_spot h
  exact ⟨b, off, rfl⟩

theorem fadd_off (b off k : Nat) : (⟨b, off, none⟩ : Addr).add k = ⟨b, off + k, none⟩ := by unfold Addr.add; split <;> simp_all

section
variable {H : Type} {enc : TypeId × Value → H} {w : World}

set_option maxRecDepth 100000 in
theorem open_texts {r : Reach} {b0 : Nat} {v : Value} {d : DataW H} {p : List MemPlace} (hval : Value.okWide Tryz.prog w r b0 38 v) (h : DataW.Trod enc Tryz.prog w 0 (fun _ => true) true 38 v d p)
    (hw : ∀ m ∈ d.weights Tryz.prog 38, m ≤ reachBytes) :
    ∃ A n cap l, v = .slice A n cap ∧ l.length = n ∧ StrsIn w w.heap.size A l ∧ n ≤ cap ∧ n * 16 ≤ reachBytes ∧ ∀ q ∈ l, q.size ≤ reachBytes := by
  obtain ⟨a0, len, cap, rfl⟩ := okWide_slice Tryz.underlying38 hval
  obtain ⟨fuel, hf⟩ := h
  rcases open_strs Tryz.underlying38 Tryz.underlying9 (by kernel_rfl) hf with ⟨hcs, hx⟩ | ⟨a, len', cap', m, Sx, hcs, -, hl, hm, hmm, hx, hi⟩
  · simp [Value.cells] at hcs
    obtain ⟨rfl, rfl, rfl⟩ := hcs
    exact ⟨none, 0, 0, [], rfl, rfl, by intro h; simp at h, by decide, by decide, by simp⟩
  · simp [Value.cells] at hcs
    obtain ⟨rfl, rfl, rfl⟩ := hcs
    simp only [if_true] at hmm
    simp only [Prod.mk.injEq] at hx
    obtain ⟨rfl, -⟩ := hx
    refine ⟨some a, len, cap, (List.range len).map Sx, rfl, by simp, fun hn => ?_, hl, ?_, fun q hq => ?_⟩
    · simp only [List.length_map, List.length_range] at hn
      obtain ⟨b, off, rfl⟩ := fplain_addr (hi 0 (by omega)).1
      refine ⟨b, off, rfl, block_lt_of_cell (hi 0 (by omega)).1, fun j hj => ?_⟩
      simp only [List.length_map, List.length_range] at hj
      have hc := (hi j (by omega)).1
      rw [fadd_off] at hc
      simp only [List.getElem_map, List.getElem_range]
      exact hc
    · have h1 := hw ((len + (cap - len)) * 16) (by
        simp only [DataW.weights, Tryz.underlying38, List.mem_cons, List.length_map, List.length_range]
        left
        rw [show Tryz.prog.bytesOf 9 = 16 by kernel_rfl, hmm])
      exact Nat.le_trans (Nat.mul_le_mul_right 16 (Nat.le_add_right len (cap - len))) h1
    · obtain ⟨i, hi', rfl⟩ := List.mem_map.1 hq
      have hil := List.mem_range.1 hi'
      refine hw _ ?_
      simp only [DataW.weights, Tryz.underlying38, List.mem_cons, List.mem_append]
      refine Or.inr (Or.inl (fweights_all (List.mem_map.2 ⟨i, List.mem_range.2 hil, rfl⟩) _ ?_))
      simp [DataW.weights]
end

theorem texts_sized {H : Type} {P : Program} {ts : List TypeId} {ds : List (DataW H)} (h : (DataW.weightsEach P ts ds).all (· ≤ reachBytes) = true) {j : Nat} {t : TypeId} {d : DataW H} (ht : ts[j]? = some t) (hd : ds[j]? = some d) :
    ∀ m ∈ d.weights P t, m ≤ reachBytes := fun m hm => by
  have := List.all_eq_true.1 h _ (DataW.weights_mem_each ht hd m hm)
  simpa using this
end Go.Proofs.YtgknkldhjejjmaaGreatDoor

