/- An array of two texts that comes in, opened; its texts' sizes. -/
import Derived.Test.YtfodbblcflolgaaLaw
import Derived.SizedLaws
import Derived.Lib.SmallJoins
namespace Go.Proofs.Ytfodbblcflolgaa
open Go.ChangeShapes Go.WideShapes Go.ChangeAt Go.RowKit

section
variable {H : Type} {enc : TypeId × Value → H} {P : Program} {w : World} {base : Nat} {spare : Nat → Bool} {held : Bool}

theorem open_strs2 {r : Reach} {b0 : Nat} {t e : TypeId} {v : Value} {d : DataW H} {p : List MemPlace} (ht : P.underlying t = some (.array 2 e)) (he : P.underlying e = some .string) (hc : P.cellsOf e = 1) (hC : P.cellsOf t = 2)
    (hv : Value.okWide P w r b0 t v) (h : DataW.Trod enc P w base spare held t v d p) :
    ∃ a b : ByteArray, v = .agg #[.string a, .string b] ∧ d = .agg [.lit (.string a.data.toList), .lit (.string b.data.toList)] ∧ p = [] ∧ a.size ≤ maxLen ∧ b.size ≤ maxLen := by
  unfold Value.okWide at hv
  rw [ht] at hv
  obtain ⟨cs, rfl, hsz, -⟩ := hv
  obtain ⟨c0, c1, rfl⟩ := _root_.Go.Joins.array2 (hsz.trans hC)
  obtain ⟨fuel, hf⟩ := h
  obtain ⟨xs, m, -, hx, -, hlen, hel⟩ := DataW.trod_array ht hf
  match xs, hlen with
  | [y0, y1], _ =>
    have e0 := hel 0 (by decide)
    have e1 := hel 1 (by decide)
    rw [hc] at e0 e1
    simp only [Value.cells, List.getElem?_cons_zero, List.getElem?_cons_succ, Nat.zero_mul, Nat.one_mul, List.drop_zero, List.drop_succ_cons, List.take_succ_cons, List.take_zero] at e0 e1
    obtain ⟨a, ha, hxa, hsa⟩ := DataW.trod_string he e0
    obtain ⟨b, hb, hxb, hsb⟩ := DataW.trod_string he e1
    simp at ha hb
    subst ha; subst hb; subst hxa; subst hxb
    simp only [Prod.mk.injEq, List.map_cons, List.map_nil, List.flatMap_cons, List.flatMap_nil, List.append_nil] at hx
    exact ⟨a, b, rfl, hx.1, hx.2, hsa, hsb⟩
end

theorem sized_strs2 {H : Type} {P : Program} {ts : List TypeId} {ds : List (DataW H)} (h : (DataW.weightsEach P ts ds).all (· ≤ reachBytes) = true) {j : Nat} {t e : TypeId} {a b : List UInt8} (ht : ts[j]? = some t)
    (hd : ds[j]? = some (.agg [.lit (.string a), .lit (.string b)])) (hu : P.underlying t = some (.array 2 e)) : a.length ≤ reachBytes ∧ b.length ≤ reachBytes := by
  have h1 := List.all_eq_true.1 h _ (DataW.weights_mem_each ht hd a.length (by simp [DataW.weights, DataW.weightsAll, hu]))
  have h2 := List.all_eq_true.1 h _ (DataW.weights_mem_each ht hd b.length (by simp [DataW.weights, DataW.weightsAll, hu]))
  exact ⟨by simpa using h1, by simpa using h2⟩
end Go.Proofs.Ytfodbblcflolgaa
