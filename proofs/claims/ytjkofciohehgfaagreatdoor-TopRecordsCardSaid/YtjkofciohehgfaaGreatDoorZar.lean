/- Texts joined by bundle.py: YDDkT. -/
import Derived.Test.YtjkofciohehgfaaGreatDoorZaq
import Derived.Test.YtjkofciohehgfaaGreatDoorRows
import Derived.WalkKit
import Derived.ProofKit
import Derived.OpenShut
import Derived.JoinedCond
import Derived.SizedLaws
import Derived.Lib.SmallJoins

/- A slice of numbers that comes in, opened, with its size; an array of two numbers. -/
namespace Go.Proofs.YtjkofciohehgfaaGreatDoor.L8
open Go.ChangeShapes Go.WideShapes Go.ChangeAt Go.RowKit
open DM

section
variable {H : Type} {enc : TypeId × Value → H} {P : Program} {w : World}

def NumsAt (w : World) (A : Option Addr) (zs : List Int) : Prop :=
  0 < zs.length → ∃ b off, A = some ⟨b, off, none⟩ ∧ b < w.heap.size ∧ ∀ j, (h : j < zs.length) → w.cell? ⟨b, off + j, none⟩ = some (.int .i64 zs[j])

theorem open_nums {r : Reach} {b0 : Nat} {t e : TypeId} {v : Value} {d : DataW H} {p : List MemPlace} (ht : P.underlying t = some (.slice e)) (he : P.underlying e = some (.int .i64)) (hc : P.cellsOf e = 1) (h8 : P.bytesOf e = 8)
    (hval : Value.okWide P w r b0 t v) (h : DataW.Trod enc P w 0 (fun _ => true) true t v d p) (hw : ∀ m ∈ d.weights P t, m ≤ reachBytes) :
    ∃ A n cap zs, v = .slice A n cap ∧ zs.length = n ∧ NumsAt w A zs ∧ (∀ z ∈ zs, fits z) ∧ n * 8 ≤ reachBytes := by
  obtain ⟨a0, len, cap, rfl⟩ := okWide_slice ht hval
  obtain ⟨fuel, hf⟩ := h
  rcases _root_.Go.ChangeShapes.open_ints ht he hc hf with ⟨hcs, hx⟩ | ⟨a, len', cap', zs, hcs, -, hl, hm, hz, hx, hcell, hwz⟩
  · simp [Value.cells] at hcs
    obtain ⟨rfl, rfl, rfl⟩ := hcs
    exact ⟨none, 0, 0, [], rfl, rfl, by intro h; simp at h, by simp, by decide⟩
  · simp [Value.cells] at hcs
    obtain ⟨rfl, rfl, rfl⟩ := hcs
    simp only [if_true] at hz
    simp only [Prod.mk.injEq] at hx
    have htl : (zs.take len).length = len := by rw [List.length_take]; omega
    refine ⟨some a, len, cap, zs.take len, rfl, htl, fun hn => ?_, fun z hzm => ?_, ?_⟩
    · rw [htl] at hn
      obtain ⟨b, off, rfl, hc2⟩ := ints_at hcell (by omega)
      have hlt := block_lt_of_cell (hc2 0 (by omega))
      refine ⟨b, off, rfl, hlt, fun j hj => ?_⟩
      have hj' : j < zs.length := by rw [htl] at hj; omega
      rw [hc2 j hj']
      simp [List.getD, hj']
    · have := hwz z (List.mem_of_mem_take hzm)
      simpa [fits, Lit.wf, IntKind.min, IntKind.max, IntKind.signed, IntKind.bits] using this
    · obtain ⟨rfl, -⟩ := hx
      have h1 := hw (((_root_.Go.ChangeShapes.lits (H := H) .i64 (zs.take len)).length + (_root_.Go.ChangeShapes.lits (H := H) .i64 (zs.drop len)).length) * 8) (by
        simp only [DataW.weights, ht, List.mem_cons]
        left
        rw [h8])
      have h2 : (_root_.Go.ChangeShapes.lits (H := H) .i64 (zs.take len)).length = len := by simp [lits]; omega
      rw [h2] at h1
      omega

theorem nums_sized {H : Type} {P : Program} {ts : List TypeId} {ds : List (DataW H)} (h : (DataW.weightsEach P ts ds).all (· ≤ reachBytes) = true) {j : Nat} {t : TypeId} {d : DataW H} (ht : ts[j]? = some t) (hd : ds[j]? = some d) :
    ∀ m ∈ d.weights P t, m ≤ reachBytes := fun m hm => by
  have := List.all_eq_true.1 h _ (DataW.weights_mem_each ht hd m hm)
  simpa using this
end

section
variable {H : Type} {enc : TypeId × Value → H} {P : Program} {w : World} {base : Nat} {spare : Nat → Bool} {held : Bool}
theorem open_ints2 {r : Reach} {b0 : Nat} {t e : TypeId} {v : Value} {d : DataW H} {p : List MemPlace} (ht : P.underlying t = some (.array 2 e)) (he : P.underlying e = some (.int .i64)) (hc : P.cellsOf e = 1) (hC : P.cellsOf t = 2)
    (hv : Value.okWide P w r b0 t v) (h : DataW.Trod enc P w base spare held t v d p) :
    ∃ a b : Int, v = .agg #[.int .i64 a, .int .i64 b] ∧ p = [] ∧ fits a ∧ fits b := by
  unfold Value.okWide at hv
  rw [ht] at hv
  obtain ⟨cs, rfl, hsz, -⟩ := hv
  obtain ⟨c0, c1, rfl⟩ := _root_.Go.Joins.array2 (hsz.trans hC)
  obtain ⟨fuel, hf⟩ := h
  obtain ⟨xs, m, -, hx, -, hlen, hel⟩ := DataW.trod_array ht hf
  match xs, hlen with
  | [y0, y1], _ =>
    have e0 := hel 0 (by decide)
    have e1 := hel 1 (by decide)
    rw [hc] at e0 e1
    simp only [Value.cells, List.getElem?_cons_zero, List.getElem?_cons_succ, Nat.zero_mul, Nat.one_mul, List.drop_zero, List.drop_succ_cons, List.take_succ_cons, List.take_zero] at e0 e1
    obtain ⟨a, ha, hxa, hsa⟩ := DataW.trod_int he e0
    obtain ⟨b, hb, hxb, hsb⟩ := DataW.trod_int he e1
    simp at ha hb
    subst ha; subst hb; subst hxa; subst hxb
    simp only [Prod.mk.injEq, List.map_cons, List.map_nil, List.flatMap_cons, List.flatMap_nil, List.append_nil] at hx
    exact ⟨a, b, rfl, hx.2, by simpa [fits, Lit.wf, IntKind.min, IntKind.max, IntKind.signed, IntKind.bits] using hsa, by simpa [fits, Lit.wf, IntKind.min, IntKind.max, IntKind.signed, IntKind.bits] using hsb⟩
end
theorem Live.still {B : Nat} {w0 w w' : World} {d : Nat} {s : St} {N M : Nat} (h : Live B w0 w d s N M) (hb : Below w.heap.size w w') : Live B w0 w' d s N M := by
  obtain ⟨g, hg⟩ := h.rep
  exact ⟨h.moves.of_below hb h.le', h.ok, h.lim, ⟨g, hg.still ⟨hb.os, hb.tape, hb.output, hb.size, fun k hk _ => hb.block k hk⟩⟩, h.le, h.few⟩

end Go.Proofs.YtjkofciohehgfaaGreatDoor.L8


