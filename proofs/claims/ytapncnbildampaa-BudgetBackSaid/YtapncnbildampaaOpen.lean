/- A slice of calls that comes in, opened, nil and empty ones too; its sizes. -/
import Derived.Test.YtapncnbildampaaAct
import Derived.Test.YtapncnbildampaaLaw
import Derived.Deep.Slices
import Derived.Deep.Fields
import Derived.ChangeSame
import Derived.SizedLaws
namespace Go.Proofs.Ytapncnbildampaa
open Go.ChangeShapes Go.WideShapes Go.ChangeAt Go.RowKit Go.Deep

/-- a slice of calls that lies below block B: nil and empty ones too -/
def ActsIn (w : World) (B : Nat) (A : Option Addr) (l : List AC) : Prop :=
  (∀ p ∈ l, p.wf) ∧
  (0 < l.length → ∃ b off, A = some ⟨b, off, none⟩ ∧ b < B ∧ ∀ j, (h : j < l.length) →
    w.cell? ⟨b, off + j * 3, none⟩ = some (.int .i64 l[j].d) ∧ w.cell? ⟨b, off + j * 3 + 1, none⟩ = some (.int .i64 l[j].k) ∧ w.cell? ⟨b, off + j * 3 + 2, none⟩ = some (.int .i64 l[j].n))

theorem ActsIn.below {w w' : World} {B : Nat} {A : Option Addr} {l : List AC} (h : ActsIn w B A l) (hb : Below B w w') : ActsIn w' B A l := by
  refine ⟨h.1, fun hn => ?_⟩
  obtain ⟨b, off, hA, hlt, hc⟩ := h.2 hn
  exact ⟨b, off, hA, hlt, fun j hj => ⟨(hb.cell (p := ⟨b, off + j * 3, none⟩) hlt).trans (hc j hj).1, (hb.cell (p := ⟨b, off + j * 3 + 1, none⟩) hlt).trans (hc j hj).2.1, (hb.cell (p := ⟨b, off + j * 3 + 2, none⟩) hlt).trans (hc j hj).2.2⟩⟩

section
variable {H : Type} {enc : TypeId × Value → H} {P : Program} {w : World} {base : Nat} {spare : Nat → Bool} {held : Bool}
theorem open_slice_fields {t e : TypeId} {fs : Array Field} {fuel : Nat} {cs : List Value} {x : DataW H × List MemPlace} (ht : P.underlying t = some (.slice e)) (he : P.underlying e = some (.struct fs))
    (hone : oneCellFields P fs = true) (hC : P.cellsOf e = fs.size) (h : DataW.trod enc P w base spare held fuel t cs = some x) :
    (cs = [.slice none 0 0] ∧ x = (.nil, [])) ∨
    ∃ (a : Addr) (len cap m : Nat) (D : Nat → DataW H) (Pl : Nat → List MemPlace), cs = [.slice (some a) len cap] ∧ base ≤ a.block ∧ len ≤ cap ∧ cap ≤ maxLen ∧ m = (if spare a.block then cap else len) ∧
      x = (.slice ((List.range len).map D) ((List.range (m - len)).map fun j => D (len + j)), MemPlace.row a (m * fs.size) ++ (List.range m).flatMap Pl) ∧
      ∀ i, i < m → ∃ (ys : List (DataW H × List MemPlace)) (n : Nat), D i = .agg (ys.map (·.1)) ∧ Pl i = ys.flatMap (·.2) ∧ ys.length = fs.size ∧
        ∀ (j : Nat) (f : Field), fs[j]? = some f → ∃ (v : Value) (y : DataW H × List MemPlace), w.cell? (a.add (i * fs.size + j)) = some v ∧ ys[j]? = some y ∧ DataW.trod enc P w base spare held n f.type [v] = some y := by
  rcases open_slice ht h with h0 | ⟨a, len, cap, m, n, D, Pl, hcs, hb, hl, hm, hmm, hx, hi⟩
  · exact .inl h0
  · refine .inr ⟨a, len, cap, m, D, Pl, hcs, hb, hl, hm, hmm, by rw [hC] at hx; exact hx, fun i him => ?_⟩
    obtain ⟨cs', hc, ht'⟩ := hi i him
    rw [hC] at hc
    obtain ⟨ys, n', hn', hy, hlen, hyl, hf⟩ := DataW.trod_struct he ht'
    obtain ⟨_, hcl, hat⟩ := World.cells?_some hc
    simp only [Prod.mk.injEq] at hy
    refine ⟨ys, n', hy.1, hy.2, hyl, fun j f hj => ?_⟩
    obtain ⟨ho, hk⟩ := hone_of hone j f hj
    have hjl : j < fs.size := (Array.getElem?_eq_some_iff.1 hj).1
    have hcell := hat j hjl
    have hv : cs'[j]? = some (cs'[j]'(by omega)) := List.getElem?_eq_getElem (by omega)
    have h1 := hf j f hj
    rw [ho, hk] at h1
    have hone' : (cs'.drop j).take 1 = [cs'[j]'(by omega)] := by
      rw [List.drop_eq_getElem_cons (by omega)]
      rfl
    rw [hone'] at h1
    have hys : ys[j]? = some (ys[j]'(by omega)) := List.getElem?_eq_getElem (by omega)
    refine ⟨_, _, ?_, hys, h1.trans hys⟩
    rw [← Go.Deep.add_add, hcell, hv]
end

theorem weights_all {H : Type} {P : Program} {e : TypeId} {d : DataW H} : ∀ {l : List (DataW H)}, d ∈ l → ∀ n ∈ d.weights P e, n ∈ DataW.weightsAll P e l
  | x :: l, h, n, hn => by
    simp only [DataW.weightsAll, List.mem_append]
    rcases List.mem_cons.1 h with rfl | h
    · exact Or.inl hn
    · exact Or.inr (weights_all h n hn)

theorem plain_addr {w : World} {a : Addr} {v : Value} (h : w.cell? a = some v) : ∃ b off, a = ⟨b, off, none⟩ := by
  obtain ⟨b, off, spot⟩ := a
  obtain rfl : spot = none := World.cell?_spot h
  exact ⟨b, off, rfl⟩

theorem add_off (b off k : Nat) : (⟨b, off, none⟩ : Addr).add k = ⟨b, off + k, none⟩ := by unfold Addr.add; split <;> simp_all

section
variable {H : Type} {enc : TypeId × Value → H} {w : World}

theorem open_acts {r : Reach} {b0 : Nat} {v : Value} {d : DataW H} {p : List MemPlace} (hval : Value.okWide Try.prog w r b0 22 v) (h : DataW.Trod enc Try.prog w 0 (fun _ => true) true 22 v d p)
    (hw : ∀ m ∈ d.weights Try.prog 22, m ≤ reachBytes) :
    ∃ A n cap l, v = .slice A n cap ∧ l.length = n ∧ ActsIn w w.heap.size A l ∧ n * 24 ≤ reachBytes := by
  obtain ⟨a0, len, cap, rfl⟩ := okWide_slice Try.underlying22 hval
  obtain ⟨fuel, hf⟩ := h
  rcases open_slice_fields Try.underlying22 Try.underlying30 (by kernel_rfl) (by kernel_rfl) hf with ⟨hcs, hx⟩ | ⟨a, len', cap', m, D, Pl, hcs, -, hl, hm, hmm, hx, hi⟩
  · simp [Value.cells] at hcs
    obtain ⟨rfl, rfl, rfl⟩ := hcs
    exact ⟨none, 0, 0, [], rfl, rfl, ⟨by simp, by simp⟩, by decide⟩
  · simp [Value.cells] at hcs
    obtain ⟨rfl, rfl, rfl⟩ := hcs
    simp only [if_true] at hmm
    simp only [Prod.mk.injEq] at hx
    obtain ⟨rfl, -⟩ := hx
    have hpart : ∀ i, i < len → ∃ q : AC, q.wf ∧
        w.cell? (a.add (i * 3)) = some (.int .i64 q.d) ∧ w.cell? (a.add (i * 3 + 1)) = some (.int .i64 q.k) ∧ w.cell? (a.add (i * 3 + 2)) = some (.int .i64 q.n) := by
      intro i hil
      obtain ⟨ys, n, hD, -, hyl, hfs⟩ := hi i (by omega)
      obtain ⟨v0, y0, c0, hy0, h0⟩ := hfs 0 _ rfl
      obtain ⟨v1, y1, c1, hy1, h1⟩ := hfs 1 _ rfl
      obtain ⟨v2, y2, c2, hy2, h2⟩ := hfs 2 _ rfl
      obtain ⟨z0, hz0, -, w0⟩ := DataW.trod_int Try.underlying3 h0
      obtain ⟨z1, hz1, -, w1⟩ := DataW.trod_int Try.underlying3 h1
      obtain ⟨z2, hz2, -, w2⟩ := DataW.trod_int Try.underlying2 h2
      simp only [List.cons.injEq, and_true] at hz0 hz1 hz2
      subst hz0; subst hz1; subst hz2
      exact ⟨⟨z0, z1, z2⟩, ⟨by simpa [Lit.wf, IntKind.min, IntKind.max, IntKind.signed, IntKind.bits] using w0, by simpa [Lit.wf, IntKind.min, IntKind.max, IntKind.signed, IntKind.bits] using w1, by simpa [Lit.wf, IntKind.min, IntKind.max, IntKind.signed, IntKind.bits] using w2⟩, c0, c1, c2⟩
    obtain ⟨f, hf2⟩ := choose_lt hpart
    refine ⟨some a, len, cap, (List.range len).map f, rfl, by simp, ⟨fun q hq => ?_, fun hn => ?_⟩, ?_⟩
    · obtain ⟨i, hi', rfl⟩ := List.mem_map.1 hq
      exact (hf2 i (List.mem_range.1 hi')).1
    · simp only [List.length_map, List.length_range] at hn
      obtain ⟨b, off, rfl⟩ := plain_addr (hf2 0 hn).2.1
      refine ⟨b, off, rfl, block_lt_of_cell (hf2 0 hn).2.1, fun j hj => ?_⟩
      simp only [List.length_map, List.length_range] at hj
      obtain ⟨-, c0, c1, c2⟩ := hf2 j hj
      rw [add_off] at c0 c1 c2
      simp only [List.getElem_map, List.getElem_range]
      exact ⟨c0, c1, c2⟩
    · have h1 := hw ((len + (cap - len)) * 24) (by
        simp only [DataW.weights, Try.underlying22, List.mem_cons, List.length_map, List.length_range]
        left
        rw [show Try.prog.bytesOf 30 = 24 by kernel_rfl, hmm])
      exact Nat.le_trans (Nat.mul_le_mul_right 24 (Nat.le_add_right len (cap - len))) h1
end

/-- a struct of three numbers that comes in -/
theorem open_act {H : Type} {enc : TypeId × Value → H} {w : World} {r : Reach} {b0 : Nat} {v : Value} {d : DataW H} {p : List MemPlace} (hval : Value.okWide Try.prog w r b0 30 v) (h : DataW.Trod enc Try.prog w 0 (fun _ => true) true 30 v d p) :
    ∃ a : AC, v = a.val ∧ p = [] ∧ a.wf := by
  unfold Value.okWide at hval
  rw [Try.underlying30] at hval
  obtain ⟨cs, rfl, hsz, -⟩ := hval
  have hs3 : cs.size = 3 := hsz
  obtain ⟨c0, c1, c2, rfl⟩ : ∃ c0 c1 c2, cs = #[c0, c1, c2] := by
    obtain ⟨l⟩ := cs
    match l, hs3 with
    | [a, b, c], _ => exact ⟨a, b, c, rfl⟩
  obtain ⟨fuel, hf⟩ := h
  obtain ⟨ys, m, -, hx, -, hlen, hel⟩ := DataW.trod_struct Try.underlying30 hf
  have hlen3 : ys.length = 3 := hlen
  match ys, hlen3 with
  | [y0, y1, y2], _ =>
    have e0 : DataW.trod enc Try.prog w 0 (fun _ => true) true m 3 ((([c0, c1, c2] : List Value).drop 0).take (Try.prog.cellsOf 3)) = some y0 := hel 0 _ rfl
    have e1 : DataW.trod enc Try.prog w 0 (fun _ => true) true m 3 ((([c0, c1, c2] : List Value).drop 1).take (Try.prog.cellsOf 3)) = some y1 := hel 1 _ rfl
    have e2 : DataW.trod enc Try.prog w 0 (fun _ => true) true m 2 ((([c0, c1, c2] : List Value).drop 2).take (Try.prog.cellsOf 2)) = some y2 := hel 2 _ rfl
    rw [show Try.prog.cellsOf 3 = 1 by kernel_rfl] at e0 e1
    rw [show Try.prog.cellsOf 2 = 1 by kernel_rfl] at e2
    simp only [List.drop_zero, List.drop_succ_cons, List.take_succ_cons, List.take_zero] at e0 e1 e2
    obtain ⟨a0, ha0, hx0, hs0⟩ := DataW.trod_int Try.underlying3 e0
    obtain ⟨a1, ha1, hx1, hs1⟩ := DataW.trod_int Try.underlying3 e1
    obtain ⟨a2, ha2, hx2, hs2⟩ := DataW.trod_int Try.underlying2 e2
    simp at ha0 ha1 ha2
    subst ha0 ha1 ha2 hx0 hx1 hx2
    simp only [Prod.mk.injEq, List.map_cons, List.map_nil, List.flatMap_cons, List.flatMap_nil, List.append_nil] at hx
    refine ⟨⟨a0, a1, a2⟩, rfl, hx.2, ?_, ?_, ?_⟩
    · simpa [Lit.wf, IntKind.min, IntKind.max, IntKind.signed, IntKind.bits] using hs0
    · simpa [Lit.wf, IntKind.min, IntKind.max, IntKind.signed, IntKind.bits] using hs1
    · simpa [Lit.wf, IntKind.min, IntKind.max, IntKind.signed, IntKind.bits] using hs2

theorem parts_sized {H : Type} {P : Program} {ts : List TypeId} {ds : List (DataW H)} (h : (DataW.weightsEach P ts ds).all (· ≤ reachBytes) = true) {j : Nat} {t : TypeId} {d : DataW H} (ht : ts[j]? = some t) (hd : ds[j]? = some d) :
    ∀ m ∈ d.weights P t, m ≤ reachBytes := fun m hm => by
  have := List.all_eq_true.1 h _ (DataW.weights_mem_each ht hd m hm)
  simpa using this
end Go.Proofs.Ytapncnbildampaa
