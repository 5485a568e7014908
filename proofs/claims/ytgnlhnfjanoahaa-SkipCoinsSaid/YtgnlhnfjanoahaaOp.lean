/- What comes in, opened: entries, one entry, coins, a key with a number; their sizes. -/
import Derived.Test.YtgnlhnfjanoahaaNw
import Derived.Test.YtgnlhnfjanoahaaLaw
import Derived.Deep.Slices
import Derived.Deep.Fields
import Derived.ChangeSame
import Derived.SizedLaws
import Derived.OpenShut
import Derived.Lib.SmallJoins
namespace Go.Proofs.Ytgnlhnfjanoahaa
open Go.ChangeShapes Go.WideShapes Go.ChangeAt Go.RowKit Go.Deep
open SK

instance : Inhabited E := ⟨E.zero⟩

/-- entries that come in: nil and empty ones too -/
structure EntsIn (w : World) (A : Option Addr) (l : List E) : Prop where
  wf : ∀ e ∈ l, e.wf
  at_ : 0 < l.length → ∃ b off, A = some ⟨b, off, none⟩ ∧ b < w.heap.size ∧ ∀ j, (h : j < l.length) →
    w.cell? ⟨b, off + j * 5, none⟩ = some (.string l[j].key) ∧ w.cell? ⟨b, off + j * 5 + 1, none⟩ = some (.int .i64 l[j].seq) ∧ w.cell? ⟨b, off + j * 5 + 2, none⟩ = some (.bool l[j].gone) ∧
      w.cell? ⟨b, off + j * 5 + 3, none⟩ = some (.string l[j].value) ∧ w.cell? ⟨b, off + j * 5 + 4, none⟩ = some (.int .i64 l[j].til)

theorem EntsIn.below {w w' : World} {A : Option Addr} {l : List E} (h : EntsIn w A l) (hb : Below w.heap.size w w') : EntsIn w' A l :=
  ⟨h.wf, fun hn => by
    obtain ⟨b, off, hA, hlt, hc⟩ := h.at_ hn
    refine ⟨b, off, hA, Nat.lt_of_lt_of_le hlt hb.size, fun j hj => ?_⟩
    obtain ⟨c0, c1, c2, c3, c4⟩ := hc j hj
    exact ⟨(hb.cell (p := ⟨b, off + j * 5, none⟩) hlt).trans c0, (hb.cell (p := ⟨b, off + j * 5 + 1, none⟩) hlt).trans c1, (hb.cell (p := ⟨b, off + j * 5 + 2, none⟩) hlt).trans c2, (hb.cell (p := ⟨b, off + j * 5 + 3, none⟩) hlt).trans c3, (hb.cell (p := ⟨b, off + j * 5 + 4, none⟩) hlt).trans c4⟩⟩

theorem EntsIn.take {w : World} {A : Option Addr} {l : List E} (h : EntsIn w A l) (n : Nat) : EntsIn w A (l.take n) :=
  ⟨fun e he => h.wf e (List.mem_of_mem_take he), fun hn => by
    rw [List.length_take] at hn
    obtain ⟨b, off, hA, hlt, hc⟩ := h.at_ (by omega)
    refine ⟨b, off, hA, hlt, fun j hj => ?_⟩
    rw [List.length_take] at hj
    rw [List.getElem_take]
    exact hc j (by omega)⟩

section
variable {H : Type} {enc : TypeId × Value → H} {P : Program} {w : World} {base : Nat} {spare : Nat → Bool} {held : Bool}
theorem open_slice_fields {t e : TypeId} {fs : Array Field} {fuel : Nat} {cs : List Value} {x : DataW H × List MemPlace} (ht : P.underlying t = some (.slice e)) (he : P.underlying e = some (.struct fs))
    (hone : oneCellFields P fs = true) (hC : P.cellsOf e = fs.size) (h : DataW.trod enc P w base spare held fuel t cs = some x) :
    (cs = [.slice none 0 0] ∧ x = (.nil, [])) ∨
    ∃ (a : Addr) (len cap m : Nat) (D : Nat → DataW H) (Pl : Nat → List MemPlace), cs = [.slice (some a) len cap] ∧ base ≤ a.block ∧ len ≤ cap ∧ cap ≤ maxLen ∧ m = (if spare a.block then cap else len) ∧
      x = (.slice ((List.range len).map D) ((List.range (m - len)).map fun j => D (len + j)), MemPlace.row a (m * fs.size) ++ (List.range m).flatMap Pl) ∧
      ∀ i, i < m → ∃ (ys : List (DataW H × List MemPlace)) (n : Nat), D i = .agg (ys.map (·.1)) ∧ Pl i = ys.flatMap (·.2) ∧ ys.length = fs.size ∧
        ∀ (j : Nat) (f : Field), fs[j]? = some f → ∃ (v : Value) (y : DataW H × List MemPlace), w.cell? (a.add (i * fs.size + j)) = some v ∧ ys[j]? = some y ∧ DataW.trod enc P w base spare held n f.type [v] = some y := by
  rcases open_slice ht h with h0 | ⟨a, len, cap, m, n, D, Pl, hcs, hb, hl, hm, hmm, hx, hi⟩
  · exact .inl h0
  · refine .inr ⟨a, len, cap, m, D, Pl, hcs, hb, hl, hm, hmm, by rw [hC] at hx; exact hx, fun i him => ?_⟩
    obtain ⟨cs', hc, ht'⟩ := hi i him
    rw [hC] at hc
    obtain ⟨ys, n', hn', hy, hlen, hyl, hf⟩ := DataW.trod_struct he ht'
    obtain ⟨_, hcl, hat⟩ := World.cells?_some hc
    simp only [Prod.mk.injEq] at hy
    refine ⟨ys, n', hy.1, hy.2, hyl, fun j f hj => ?_⟩
    obtain ⟨ho, hk⟩ := hone_of hone j f hj
    have hjl : j < fs.size := (Array.getElem?_eq_some_iff.1 hj).1
    have hcell := hat j hjl
    have hv : cs'[j]? = some (cs'[j]'(by omega)) := List.getElem?_eq_getElem (by omega)
    have h1 := hf j f hj
    rw [ho, hk] at h1
    have hone' : (cs'.drop j).take 1 = [cs'[j]'(by omega)] := by
      rw [List.drop_eq_getElem_cons (by omega)]
      rfl
    rw [hone'] at h1
    have hys : ys[j]? = some (ys[j]'(by omega)) := List.getElem?_eq_getElem (by omega)
    refine ⟨_, _, ?_, hys, h1.trans hys⟩
    rw [← Go.Deep.add_add, hcell, hv]
end

theorem weights_all {H : Type} {P : Program} {e : TypeId} {d : DataW H} : ∀ {l : List (DataW H)}, d ∈ l → ∀ n ∈ d.weights P e, n ∈ DataW.weightsAll P e l
  | x :: l, h, n, hn => by
    simp only [DataW.weightsAll, List.mem_append]
    rcases List.mem_cons.1 h with rfl | h
    · exact Or.inl hn
    · exact Or.inr (weights_all h n hn)

theorem plain_addr {w : World} {a : Addr} {v : Value} (h : w.cell? a = some v) : ∃ b off, a = ⟨b, off, none⟩ := by
  obtain ⟨b, off, spot⟩ := a
  obtain rfl : spot = none := World.cell?_spot h
  exact ⟨b, off, rfl⟩

theorem add_off (b off k : Nat) : (⟨b, off, none⟩ : Addr).add k = ⟨b, off + k, none⟩ := by unfold Addr.add; split <;> simp_all


section
variable {H : Type} {enc : TypeId × Value → H} {w : World}

theorem lit_range {z : Int} (h : (Lit.int .i64 z).wf = true) : -9223372036854775808 ≤ z ∧ z ≤ 9223372036854775807 := by
  simpa [Lit.wf, IntKind.min, IntKind.max, IntKind.signed, IntKind.bits] using h

theorem open_ents {r : Reach} {b0 : Nat} {v : Value} {d : DataW H} {p : List MemPlace} (hval : Value.okWide Try.prog w r b0 23 v) (h : DataW.Trod enc Try.prog w 0 (fun _ => true) true 23 v d p)
    (hw : ∀ m ∈ d.weights Try.prog 23, m ≤ reachBytes) :
    ∃ A n cap l, v = .slice A n cap ∧ l.length = n ∧ EntsIn w A l ∧ n * 56 ≤ reachBytes ∧ n ≤ cap := by
  obtain ⟨a0, len, cap, rfl⟩ := okWide_slice Try.underlying23 hval
  obtain ⟨fuel, hf⟩ := h
  rcases open_slice_fields Try.underlying23 Try.underlying40 (by kernel_rfl) (by kernel_rfl) hf with ⟨hcs, hx⟩ | ⟨a, len', cap', m, D, Pl, hcs, -, hl, hm, hmm, hx, hi⟩
  · simp [Value.cells] at hcs
    obtain ⟨rfl, rfl, rfl⟩ := hcs
    exact ⟨none, 0, 0, [], rfl, rfl, ⟨by simp, by simp⟩, by decide, by decide⟩
  · simp [Value.cells] at hcs
    obtain ⟨rfl, rfl, rfl⟩ := hcs
    simp only [if_true] at hmm
    simp only [Prod.mk.injEq] at hx
    obtain ⟨rfl, -⟩ := hx
    have hpart : ∀ i, i < len → ∃ q : E, q.wf ∧
        w.cell? (a.add (i * 5)) = some (.string q.key) ∧ w.cell? (a.add (i * 5 + 1)) = some (.int .i64 q.seq) ∧ w.cell? (a.add (i * 5 + 2)) = some (.bool q.gone) ∧ w.cell? (a.add (i * 5 + 3)) = some (.string q.value) ∧ w.cell? (a.add (i * 5 + 4)) = some (.int .i64 q.til) := by
      intro i hil
      obtain ⟨ys, n, hD, -, hyl, hfs⟩ := hi i (by omega)
      obtain ⟨v0, y0, c0, hy0, h0⟩ := hfs 0 _ rfl
      obtain ⟨v1, y1, c1, hy1, h1⟩ := hfs 1 _ rfl
      obtain ⟨v2, y2, c2, hy2, h2⟩ := hfs 2 _ rfl
      obtain ⟨v3, y3, c3, hy3, h3⟩ := hfs 3 _ rfl
      obtain ⟨v4, y4, c4, hy4, h4⟩ := hfs 4 _ rfl
      obtain ⟨s0, hs0, hz0, -⟩ := DataW.trod_string Try.underlying9 h0
      obtain ⟨z1, hs1, -, hw1⟩ := DataW.trod_int Try.underlying2 h1
      obtain ⟨b2, hs2, -⟩ := DataW.trod_bool Try.underlying4 h2
      obtain ⟨s3, hs3, hz3, -⟩ := DataW.trod_string Try.underlying9 h3
      obtain ⟨z4, hs4, -, hw4⟩ := DataW.trod_int Try.underlying2 h4
      simp only [List.cons.injEq, and_true] at hs0 hs1 hs2 hs3 hs4
      subst hs0; subst hs1; subst hs2; subst hs3; subst hs4
      have hk0 : s0.size ≤ reachBytes := by
        refine hw _ ?_
        simp only [DataW.weights, Try.underlying23, List.mem_cons, List.mem_append]
        refine Or.inr (Or.inl (weights_all (List.mem_map.2 ⟨i, List.mem_range.2 hil, rfl⟩) _ ?_))
        rw [hD]
        simp only [DataW.weights, Try.underlying40]
        refine DataW.weights_mem_each (j := 0) (t := 9) (d := .lit (.string s0.data.toList)) rfl ?_ _ (by simp [DataW.weights])
        rw [List.getElem?_map, hy0, hz0]; rfl
      have hk3 : s3.size ≤ reachBytes := by
        refine hw _ ?_
        simp only [DataW.weights, Try.underlying23, List.mem_cons, List.mem_append]
        refine Or.inr (Or.inl (weights_all (List.mem_map.2 ⟨i, List.mem_range.2 hil, rfl⟩) _ ?_))
        rw [hD]
        simp only [DataW.weights, Try.underlying40]
        refine DataW.weights_mem_each (j := 3) (t := 9) (d := .lit (.string s3.data.toList)) rfl ?_ _ (by simp [DataW.weights])
        rw [List.getElem?_map, hy3, hz3]; rfl
      exact ⟨⟨s0, z1, b2, s3, z4⟩, ⟨hk0, hk3, lit_range hw1, lit_range hw4⟩, c0, c1, c2, c3, c4⟩
    obtain ⟨f, hf2⟩ := choose_lt hpart
    refine ⟨some a, len, cap, (List.range len).map f, rfl, by simp, ⟨fun q hq => ?_, fun hn => ?_⟩, ?_, hl⟩
    · obtain ⟨i, hi', rfl⟩ := List.mem_map.1 hq
      exact (hf2 i (List.mem_range.1 hi')).1
    · simp only [List.length_map, List.length_range] at hn
      obtain ⟨b, off, rfl⟩ := plain_addr (hf2 0 hn).2.1
      refine ⟨b, off, rfl, block_lt_of_cell (hf2 0 hn).2.1, fun j hj => ?_⟩
      simp only [List.length_map, List.length_range] at hj
      obtain ⟨-, c0, c1, c2, c3, c4⟩ := hf2 j hj
      rw [add_off] at c0 c1 c2 c3 c4
      simp only [List.getElem_map, List.getElem_range]
      exact ⟨c0, c1, c2, c3, c4⟩
    · have h1 := hw ((len + (cap - len)) * 56) (by
        simp only [DataW.weights, Try.underlying23, List.mem_cons, List.length_map, List.length_range]
        left
        rw [show Try.prog.bytesOf 40 = 56 by kernel_rfl, hmm])
      exact Nat.le_trans (Nat.mul_le_mul_right 56 (Nat.le_add_right len (cap - len))) h1
end

theorem parts_sized {H : Type} {P : Program} {ts : List TypeId} {ds : List (DataW H)} (h : (DataW.weightsEach P ts ds).all (· ≤ reachBytes) = true) {j : Nat} {t : TypeId} {d : DataW H} (ht : ts[j]? = some t) (hd : ds[j]? = some d) :
    ∀ m ∈ d.weights P t, m ≤ reachBytes := fun m hm => by
  have := List.all_eq_true.1 h _ (DataW.weights_mem_each ht hd m hm)
  simpa using this

/-- a struct of 5 that comes in -/
theorem open_ent {H : Type} {enc : TypeId × Value → H} {w : World} {r : Reach} {b0 : Nat} {v : Value} {d : DataW H} {p : List MemPlace} (hval : Value.okWide Try.prog w r b0 40 v) (h : DataW.Trod enc Try.prog w 0 (fun _ => true) true 40 v d p)
    (hw : ∀ m ∈ d.weights Try.prog 40, m ≤ reachBytes) : ∃ a : E, v = a.val ∧ p = [] ∧ a.wf := by
  unfold Value.okWide at hval
  rw [Try.underlying40] at hval
  obtain ⟨cs, rfl, hsz, -⟩ := hval
  have hsn : cs.size = 5 := hsz
  obtain ⟨c0, c1, c2, c3, c4, rfl⟩ : ∃ c0 c1 c2 c3 c4, cs = #[c0, c1, c2, c3, c4] := by
    obtain ⟨l⟩ := cs
    match l, hsn with
    | [c0, c1, c2, c3, c4], _ => exact ⟨c0, c1, c2, c3, c4, rfl⟩
  obtain ⟨fuel, hf⟩ := h
  obtain ⟨ys, m, -, hx, -, hlen, hel⟩ := DataW.trod_struct Try.underlying40 hf
  have hlenn : ys.length = 5 := hlen
  match ys, hlenn with
  | [y0, y1, y2, y3, y4], _ =>
    have e0 : DataW.trod enc Try.prog w 0 (fun _ => true) true m 9 ((([c0, c1, c2, c3, c4] : List Value).drop 0).take (Try.prog.cellsOf 9)) = some y0 := hel 0 _ rfl
    rw [show Try.prog.cellsOf 9 = 1 by kernel_rfl] at e0
    have e1 : DataW.trod enc Try.prog w 0 (fun _ => true) true m 2 ((([c0, c1, c2, c3, c4] : List Value).drop 1).take (Try.prog.cellsOf 2)) = some y1 := hel 1 _ rfl
    rw [show Try.prog.cellsOf 2 = 1 by kernel_rfl] at e1
    have e2 : DataW.trod enc Try.prog w 0 (fun _ => true) true m 4 ((([c0, c1, c2, c3, c4] : List Value).drop 2).take (Try.prog.cellsOf 4)) = some y2 := hel 2 _ rfl
    rw [show Try.prog.cellsOf 4 = 1 by kernel_rfl] at e2
    have e3 : DataW.trod enc Try.prog w 0 (fun _ => true) true m 9 ((([c0, c1, c2, c3, c4] : List Value).drop 3).take (Try.prog.cellsOf 9)) = some y3 := hel 3 _ rfl
    rw [show Try.prog.cellsOf 9 = 1 by kernel_rfl] at e3
    have e4 : DataW.trod enc Try.prog w 0 (fun _ => true) true m 2 ((([c0, c1, c2, c3, c4] : List Value).drop 4).take (Try.prog.cellsOf 2)) = some y4 := hel 4 _ rfl
    rw [show Try.prog.cellsOf 2 = 1 by kernel_rfl] at e4
    simp only [List.drop_zero, List.drop_succ_cons, List.take_succ_cons, List.take_zero] at e0 e1 e2 e3 e4
    obtain ⟨a0, ha0, hx0, -⟩ := DataW.trod_string Try.underlying9 e0
    obtain ⟨a1, ha1, hx1, hs1⟩ := DataW.trod_int Try.underlying2 e1
    obtain ⟨a2, ha2, hx2⟩ := DataW.trod_bool Try.underlying4 e2
    obtain ⟨a3, ha3, hx3, -⟩ := DataW.trod_string Try.underlying9 e3
    obtain ⟨a4, ha4, hx4, hs4⟩ := DataW.trod_int Try.underlying2 e4
    simp at ha0 ha1 ha2 ha3 ha4
    subst ha0 ha1 ha2 ha3 ha4 hx0 hx1 hx2 hx3 hx4
    simp only [Prod.mk.injEq, List.map_cons, List.map_nil, List.flatMap_cons, List.flatMap_nil, List.append_nil] at hx
    obtain ⟨rfl, hp⟩ := hx
    have hz0 : a0.size ≤ reachBytes := by
      refine hw _ ?_
      simp only [DataW.weights, Try.underlying40]
      exact DataW.weights_mem_each (j := 0) (t := 9) (d := .lit (.string a0.data.toList)) rfl rfl _ (by simp [DataW.weights])
    have hz3 : a3.size ≤ reachBytes := by
      refine hw _ ?_
      simp only [DataW.weights, Try.underlying40]
      exact DataW.weights_mem_each (j := 3) (t := 9) (d := .lit (.string a3.data.toList)) rfl rfl _ (by simp [DataW.weights])
    exact ⟨⟨a0, a1, a2, a3, a4⟩, rfl, hp, hz0, hz3, lit_range hs1, lit_range hs4⟩

/-- a struct of 2 that comes in -/
theorem open_ask {H : Type} {enc : TypeId × Value → H} {w : World} {r : Reach} {b0 : Nat} {v : Value} {d : DataW H} {p : List MemPlace} (hval : Value.okWide Try.prog w r b0 25 v) (h : DataW.Trod enc Try.prog w 0 (fun _ => true) true 25 v d p)
    (hw : ∀ m ∈ d.weights Try.prog 25, m ≤ reachBytes) : ∃ (k : ByteArray) (q : Int), v = .agg #[.string k, .int .i64 q] ∧ p = [] ∧ k.size ≤ reachBytes ∧ -9223372036854775808 ≤ q ∧ q ≤ 9223372036854775807 := by
  unfold Value.okWide at hval
  rw [Try.underlying25] at hval
  obtain ⟨cs, rfl, hsz, -⟩ := hval
  have hsn : cs.size = 2 := hsz
  obtain ⟨c0, c1, rfl⟩ : ∃ c0 c1, cs = #[c0, c1] := by
    obtain ⟨l⟩ := cs
    match l, hsn with
    | [c0, c1], _ => exact ⟨c0, c1, rfl⟩
  obtain ⟨fuel, hf⟩ := h
  obtain ⟨ys, m, -, hx, -, hlen, hel⟩ := DataW.trod_struct Try.underlying25 hf
  have hlenn : ys.length = 2 := hlen
  match ys, hlenn with
  | [y0, y1], _ =>
    have e0 : DataW.trod enc Try.prog w 0 (fun _ => true) true m 9 ((([c0, c1] : List Value).drop 0).take (Try.prog.cellsOf 9)) = some y0 := hel 0 _ rfl
    rw [show Try.prog.cellsOf 9 = 1 by kernel_rfl] at e0
    have e1 : DataW.trod enc Try.prog w 0 (fun _ => true) true m 3 ((([c0, c1] : List Value).drop 1).take (Try.prog.cellsOf 3)) = some y1 := hel 1 _ rfl
    rw [show Try.prog.cellsOf 3 = 1 by kernel_rfl] at e1
    simp only [List.drop_zero, List.drop_succ_cons, List.take_succ_cons, List.take_zero] at e0 e1
    obtain ⟨a0, ha0, hx0, -⟩ := DataW.trod_string Try.underlying9 e0
    obtain ⟨a1, ha1, hx1, hs1⟩ := DataW.trod_int Try.underlying3 e1
    simp at ha0 ha1
    subst ha0 ha1 hx0 hx1
    simp only [Prod.mk.injEq, List.map_cons, List.map_nil, List.flatMap_cons, List.flatMap_nil, List.append_nil] at hx
    obtain ⟨rfl, hp⟩ := hx
    have hz0 : a0.size ≤ reachBytes := by
      refine hw _ ?_
      simp only [DataW.weights, Try.underlying25]
      exact DataW.weights_mem_each (j := 0) (t := 9) (d := .lit (.string a0.data.toList)) rfl rfl _ (by simp [DataW.weights])
    exact ⟨a0, a1, rfl, hp, hz0, lit_range hs1⟩

theorem open_coins {H : Type} {enc : TypeId × Value → H} {P : Program} {w : World} {r : Reach} {b0 : Nat} {t e : TypeId} {v : Value} {d : DataW H} {p : List MemPlace} (ht : P.underlying t = some (.slice e)) (he : P.underlying e = some (.int .i64)) (hc : P.cellsOf e = 1) (h8 : P.bytesOf e = 8)
    (hval : Value.okWide P w r b0 t v) (h : DataW.Trod enc P w 0 (fun _ => true) true t v d p) (hw : ∀ m ∈ d.weights P t, m ≤ reachBytes) :
    ∃ A n cap zs, v = .slice A n cap ∧ zs.length = n ∧ CoinsIn w A zs ∧ n * 8 ≤ reachBytes := by
  obtain ⟨a0, len, cap, rfl⟩ := okWide_slice ht hval
  obtain ⟨fuel, hf⟩ := h
  rcases _root_.Go.ChangeShapes.open_ints ht he hc hf with ⟨hcs, hx⟩ | ⟨a, len', cap', zs, hcs, -, hl, hm, hz, hx, hcell, hwz⟩
  · simp [Value.cells] at hcs
    obtain ⟨rfl, rfl, rfl⟩ := hcs
    exact ⟨none, 0, 0, [], rfl, rfl, ⟨by simp, by simp⟩, by decide⟩
  · simp [Value.cells] at hcs
    obtain ⟨rfl, rfl, rfl⟩ := hcs
    simp only [if_true] at hz
    simp only [Prod.mk.injEq] at hx
    have htl : (zs.take len).length = len := by rw [List.length_take]; omega
    refine ⟨some a, len, cap, zs.take len, rfl, htl, ⟨fun z hzm => lit_range (hwz z (List.mem_of_mem_take hzm)), fun hn => ?_⟩, ?_⟩
    · rw [htl] at hn
      obtain ⟨b, off, rfl, hc2⟩ := ints_at hcell (by omega)
      have hlt := block_lt_of_cell (hc2 0 (by omega))
      refine ⟨b, off, rfl, hlt, fun j hj => ?_⟩
      have hj' : j < zs.length := by rw [htl] at hj; omega
      rw [hc2 j hj']
      simp [List.getD, hj']
    · obtain ⟨rfl, -⟩ := hx
      have h1 := hw (((_root_.Go.ChangeShapes.lits (H := H) .i64 (zs.take len)).length + (_root_.Go.ChangeShapes.lits (H := H) .i64 (zs.drop len)).length) * 8) (by
        simp only [DataW.weights, ht, List.mem_cons]
        left
        rw [h8])
      have h2 : (_root_.Go.ChangeShapes.lits (H := H) .i64 (zs.take len)).length = len := by simp [lits]; omega
      rw [h2] at h1
      omega
end Go.Proofs.Ytgnlhnfjanoahaa
