/- Texts joined by bundle.py: Ks. -/
import Derived.Test.YtffdiiolgflbkaaZac
import Derived.SizedLaws
import Derived.Lib.SmallJoins
import Derived.KernelRfl

/- An array of four texts, and the limits, that come in, opened. Made by gen_ks.py. -/
namespace Go.Proofs.Ytffdiiolgflbkaa
open Go.ChangeShapes Go.WideShapes Go.ChangeAt Go.RowKit

section
variable {H : Type} {enc : TypeId × Value → H} {w : World} {r : Reach} {b0 : Nat} {v : Value} {d : DataW H} {p : List MemPlace}

set_option maxRecDepth 100000 in
theorem open_strs4 (hv : Value.okWide Try.prog w r b0 73 v) (h : DataW.Trod enc Try.prog w 0 (fun _ => true) true 73 v d p) :
    ∃ s : Nat → ByteArray, v = .agg #[.string (s 0), .string (s 1), .string (s 2), .string (s 3)] ∧ p = [] := by
  unfold Value.okWide at hv
  rw [Try.underlying73] at hv
  obtain ⟨cs, rfl, hsz, -⟩ := hv
  have hs4 : cs.size = 4 := hsz
  obtain ⟨c0, c1, c2, c3, rfl⟩ : ∃ c0 c1 c2 c3, cs = #[c0, c1, c2, c3] := by
    obtain ⟨l⟩ := cs
    match l, hs4 with
    | [a, b, c, d], _ => exact ⟨a, b, c, d, rfl⟩
  obtain ⟨fuel, hf⟩ := h
  obtain ⟨xs, m, -, hx, -, hlen, hel⟩ := DataW.trod_array Try.underlying73 hf
  match xs, hlen with
  | [y0, y1, y2, y3], _ =>
    have e0 := hel 0 (by decide)
    have e1 := hel 1 (by decide)
    have e2 := hel 2 (by decide)
    have e3 := hel 3 (by decide)
    rw [show Try.prog.cellsOf 9 = 1 by kernel_rfl] at e0 e1 e2 e3
    simp only [Value.cells, List.getElem?_cons_zero, List.getElem?_cons_succ, Nat.mul_one, List.drop_zero, List.drop_succ_cons, List.take_succ_cons, List.take_zero] at e0 e1 e2 e3
    obtain ⟨a0, ha0, hx0, hs0⟩ := DataW.trod_string Try.underlying9 e0
    obtain ⟨a1, ha1, hx1, hs1⟩ := DataW.trod_string Try.underlying9 e1
    obtain ⟨a2, ha2, hx2, hs2⟩ := DataW.trod_string Try.underlying9 e2
    obtain ⟨a3, ha3, hx3, hs3⟩ := DataW.trod_string Try.underlying9 e3
    simp at ha0 ha1 ha2 ha3
    subst ha0 ha1 ha2 ha3 hx0 hx1 hx2 hx3
    simp only [Prod.mk.injEq, List.map_cons, List.map_nil, List.flatMap_cons, List.flatMap_nil, List.append_nil] at hx
    exact ⟨fun j => match j with | 0 => a0 | 1 => a1 | 2 => a2 | _ => a3, rfl, hx.2⟩

set_option maxRecDepth 100000 in
theorem open_lims (hval : Value.okWide Try.prog w r b0 72 v) (h : DataW.Trod enc Try.prog w 0 (fun _ => true) true 72 v d p) :
    ∃ a0 a1 a2 : Int, v = .agg #[.int .i64 a0, .int .i64 a1, .int .i64 a2] ∧ p = [] ∧ (-9223372036854775808 ≤ a0 ∧ a0 ≤ 9223372036854775807) ∧ (-9223372036854775808 ≤ a1 ∧ a1 ≤ 9223372036854775807) ∧ (-9223372036854775808 ≤ a2 ∧ a2 ≤ 9223372036854775807) := by
  unfold Value.okWide at hval
  rw [Try.underlying72] at hval
  obtain ⟨cs, rfl, hsz, -⟩ := hval
  have hs3 : cs.size = 3 := hsz
  obtain ⟨c0, c1, c2, rfl⟩ : ∃ c0 c1 c2, cs = #[c0, c1, c2] := by
    obtain ⟨l⟩ := cs
    match l, hs3 with
    | [a, b, c], _ => exact ⟨a, b, c, rfl⟩
  obtain ⟨fuel, hf⟩ := h
  obtain ⟨ys, m, -, hx, -, hlen, hel⟩ := DataW.trod_struct Try.underlying72 hf
  have hlen3 : ys.length = 3 := hlen
  match ys, hlen3 with
  | [y0, y1, y2], _ =>
    have e0 : DataW.trod enc Try.prog w 0 (fun _ => true) true m 3 ((([c0, c1, c2] : List Value).drop 0).take (Try.prog.cellsOf 3)) = some y0 := hel 0 _ rfl
    have e1 : DataW.trod enc Try.prog w 0 (fun _ => true) true m 2 ((([c0, c1, c2] : List Value).drop 1).take (Try.prog.cellsOf 2)) = some y1 := hel 1 _ rfl
    have e2 : DataW.trod enc Try.prog w 0 (fun _ => true) true m 2 ((([c0, c1, c2] : List Value).drop 2).take (Try.prog.cellsOf 2)) = some y2 := hel 2 _ rfl
    rw [show Try.prog.cellsOf 3 = 1 by kernel_rfl] at e0
    rw [show Try.prog.cellsOf 2 = 1 by kernel_rfl] at e1 e2
    simp only [List.drop_zero, List.drop_succ_cons, List.take_succ_cons, List.take_zero] at e0 e1 e2
    obtain ⟨a0, ha0, hx0, hs0⟩ := DataW.trod_int Try.underlying3 e0
    obtain ⟨a1, ha1, hx1, hs1⟩ := DataW.trod_int Try.underlying2 e1
    obtain ⟨a2, ha2, hx2, hs2⟩ := DataW.trod_int Try.underlying2 e2
    simp at ha0 ha1 ha2
    subst ha0 ha1 ha2 hx0 hx1 hx2
    simp only [Prod.mk.injEq, List.map_cons, List.map_nil, List.flatMap_cons, List.flatMap_nil, List.append_nil] at hx
    refine ⟨a0, a1, a2, rfl, hx.2, ?_, ?_, ?_⟩
    · simpa [Lit.wf, IntKind.min, IntKind.max, IntKind.signed, IntKind.bits] using hs0
    · simpa [Lit.wf, IntKind.min, IntKind.max, IntKind.signed, IntKind.bits] using hs1
    · simpa [Lit.wf, IntKind.min, IntKind.max, IntKind.signed, IntKind.bits] using hs2
end
end Go.Proofs.Ytffdiiolgflbkaa

