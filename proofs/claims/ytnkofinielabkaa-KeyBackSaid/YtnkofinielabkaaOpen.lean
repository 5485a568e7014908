/- A slice of parts that comes in, opened, nil and empty ones too; its sizes. -/
import Derived.Test.YtnkofinielabkaaMake
import Derived.Test.YtnkofinielabkaaLaw
import Derived.Deep.Slices
import Derived.Deep.Fields
import Derived.ChangeSame
import Derived.SizedLaws
namespace Go.Proofs.Ytnkofinielabkaa
open Go.ChangeShapes Go.WideShapes Go.ChangeAt Go.RowKit Go.Deep

section
variable {H : Type} {enc : TypeId × Value → H} {P : Program} {w : World} {base : Nat} {spare : Nat → Bool} {held : Bool}
theorem open_slice_fields {t e : TypeId} {fs : Array Field} {fuel : Nat} {cs : List Value} {x : DataW H × List MemPlace} (ht : P.underlying t = some (.slice e)) (he : P.underlying e = some (.struct fs))
    (hone : oneCellFields P fs = true) (hC : P.cellsOf e = fs.size) (h : DataW.trod enc P w base spare held fuel t cs = some x) :
    (cs = [.slice none 0 0] ∧ x = (.nil, [])) ∨
    ∃ (a : Addr) (len cap m : Nat) (D : Nat → DataW H) (Pl : Nat → List MemPlace), cs = [.slice (some a) len cap] ∧ base ≤ a.block ∧ len ≤ cap ∧ cap ≤ maxLen ∧ m = (if spare a.block then cap else len) ∧
      x = (.slice ((List.range len).map D) ((List.range (m - len)).map fun j => D (len + j)), MemPlace.row a (m * fs.size) ++ (List.range m).flatMap Pl) ∧
      ∀ i, i < m → ∃ (ys : List (DataW H × List MemPlace)) (n : Nat), D i = .agg (ys.map (·.1)) ∧ Pl i = ys.flatMap (·.2) ∧ ys.length = fs.size ∧
        ∀ (j : Nat) (f : Field), fs[j]? = some f → ∃ (v : Value) (y : DataW H × List MemPlace), w.cell? (a.add (i * fs.size + j)) = some v ∧ ys[j]? = some y ∧ DataW.trod enc P w base spare held n f.type [v] = some y := by
  rcases open_slice ht h with h0 | ⟨a, len, cap, m, n, D, Pl, hcs, hb, hl, hm, hmm, hx, hi⟩
  · exact .inl h0
  · refine .inr ⟨a, len, cap, m, D, Pl, hcs, hb, hl, hm, hmm, by rw [hC] at hx; exact hx, fun i him => ?_⟩
    obtain ⟨cs', hc, ht'⟩ := hi i him
    rw [hC] at hc
    obtain ⟨ys, n', hn', hy, hlen, hyl, hf⟩ := DataW.trod_struct he ht'
    obtain ⟨_, hcl, hat⟩ := World.cells?_some hc
    simp only [Prod.mk.injEq] at hy
    refine ⟨ys, n', hy.1, hy.2, hyl, fun j f hj => ?_⟩
    obtain ⟨ho, hk⟩ := hone_of hone j f hj
    have hjl : j < fs.size := (Array.getElem?_eq_some_iff.1 hj).1
    have hcell := hat j hjl
    have hv : cs'[j]? = some (cs'[j]'(by omega)) := List.getElem?_eq_getElem (by omega)
    have h1 := hf j f hj
    rw [ho, hk] at h1
    have hone' : (cs'.drop j).take 1 = [cs'[j]'(by omega)] := by
      rw [List.drop_eq_getElem_cons (by omega)]
      rfl
    rw [hone'] at h1
    have hys : ys[j]? = some (ys[j]'(by omega)) := List.getElem?_eq_getElem (by omega)
    refine ⟨_, _, ?_, hys, h1.trans hys⟩
    rw [← Go.Deep.add_add, hcell, hv]
end

instance : Inhabited KM.KP := ⟨⟨false, 0, ⟨#[]⟩⟩⟩

theorem weights_all {H : Type} {P : Program} {e : TypeId} {d : DataW H} : ∀ {l : List (DataW H)}, d ∈ l → ∀ n ∈ d.weights P e, n ∈ DataW.weightsAll P e l
  | x :: l, h, n, hn => by
    simp only [DataW.weightsAll, List.mem_append]
    rcases List.mem_cons.1 h with rfl | h
    · exact Or.inl hn
    · exact Or.inr (weights_all h n hn)

theorem plain_addr {w : World} {a : Addr} {v : Value} (h : w.cell? a = some v) : ∃ b off, a = ⟨b, off, none⟩ := by
  obtain ⟨b, off, spot⟩ := a
  obtain rfl : spot = none := World.cell?_spot h
  exact ⟨b, off, rfl⟩

theorem add_off (b off k : Nat) : (⟨b, off, none⟩ : Addr).add k = ⟨b, off + k, none⟩ := by unfold Addr.add; split <;> simp_all

section
variable {H : Type} {enc : TypeId × Value → H} {w : World}

theorem open_parts {r : Reach} {b0 : Nat} {v : Value} {d : DataW H} {p : List MemPlace} (hval : Value.okWide Try.prog w r b0 22 v) (h : DataW.Trod enc Try.prog w 0 (fun _ => true) true 22 v d p)
    (hw : ∀ m ∈ d.weights Try.prog 22, m ≤ reachBytes) :
    ∃ A n cap l, v = .slice A n cap ∧ l.length = n ∧ PartsIn w w.heap.size A l ∧ n * 32 ≤ reachBytes ∧ ∀ q ∈ l, q.s.size ≤ reachBytes := by
  obtain ⟨a0, len, cap, rfl⟩ := okWide_slice Try.underlying22 hval
  obtain ⟨fuel, hf⟩ := h
  rcases open_slice_fields Try.underlying22 Try.underlying33 (by kernel_rfl) (by kernel_rfl) hf with ⟨hcs, hx⟩ | ⟨a, len', cap', m, D, Pl, hcs, -, hl, hm, hmm, hx, hi⟩
  · simp [Value.cells] at hcs
    obtain ⟨rfl, rfl, rfl⟩ := hcs
    exact ⟨none, 0, 0, [], rfl, rfl, ⟨by simp, by simp⟩, by decide, by simp⟩
  · simp [Value.cells] at hcs
    obtain ⟨rfl, rfl, rfl⟩ := hcs
    simp only [if_true] at hmm
    simp only [Prod.mk.injEq] at hx
    obtain ⟨rfl, -⟩ := hx
    have hpart : ∀ i, i < len → ∃ q : KM.KP, (-9223372036854775808 ≤ q.n ∧ q.n ≤ 9223372036854775807) ∧ q.s.size ≤ reachBytes ∧
        w.cell? (a.add (i * 3)) = some (.bool q.t) ∧ w.cell? (a.add (i * 3 + 1)) = some (.int .i64 q.n) ∧ w.cell? (a.add (i * 3 + 2)) = some (.string q.s) := by
      intro i hil
      obtain ⟨ys, n, hD, -, hyl, hfs⟩ := hi i (by omega)
      obtain ⟨v0, y0, c0, hy0, h0⟩ := hfs 0 _ rfl
      obtain ⟨v1, y1, c1, hy1, h1⟩ := hfs 1 _ rfl
      obtain ⟨v2, y2, c2, hy2, h2⟩ := hfs 2 _ rfl
      obtain ⟨bt, hb, -⟩ := DataW.trod_bool Try.underlying4 h0
      obtain ⟨z, hz, -, hwf⟩ := DataW.trod_int Try.underlying2 h1
      obtain ⟨s, hs2, hy2', -⟩ := DataW.trod_string Try.underlying9 h2
      simp only [List.cons.injEq, and_true] at hb hz hs2
      subst hb; subst hz; subst hs2
      refine ⟨⟨bt, z, s⟩, by simpa [Lit.wf, IntKind.min, IntKind.max, IntKind.signed, IntKind.bits] using hwf, ?_, c0, c1, c2⟩
      refine hw _ ?_
      simp only [DataW.weights, Try.underlying22, List.mem_cons, List.mem_append]
      refine Or.inr (Or.inl (weights_all (List.mem_map.2 ⟨i, List.mem_range.2 hil, rfl⟩) _ ?_))
      rw [hD]
      simp only [DataW.weights, Try.underlying33]
      refine DataW.weights_mem_each (j := 2) (t := 9) (d := .lit (.string s.data.toList)) rfl ?_ _ (by simp [DataW.weights])
      rw [List.getElem?_map, hy2, hy2']; rfl
    obtain ⟨f, hf2⟩ := choose_lt hpart
    refine ⟨some a, len, cap, (List.range len).map f, rfl, by simp, ⟨fun q hq => ?_, fun hn => ?_⟩, ?_, fun q hq => ?_⟩
    · obtain ⟨i, hi', rfl⟩ := List.mem_map.1 hq
      exact (hf2 i (List.mem_range.1 hi')).1
    · simp only [List.length_map, List.length_range] at hn
      obtain ⟨b, off, rfl⟩ := plain_addr (hf2 0 hn).2.2.1
      refine ⟨b, off, rfl, block_lt_of_cell (hf2 0 hn).2.2.1, fun j hj => ?_⟩
      simp only [List.length_map, List.length_range] at hj
      obtain ⟨-, -, c0, c1, c2⟩ := hf2 j hj
      rw [add_off] at c0 c1 c2
      simp only [List.getElem_map, List.getElem_range]
      exact ⟨c0, c1, c2⟩
    · have h1 := hw ((len + (cap - len)) * 32) (by
        simp only [DataW.weights, Try.underlying22, List.mem_cons, List.length_map, List.length_range]
        left
        rw [show Try.prog.bytesOf 33 = 32 by kernel_rfl, hmm])
      exact Nat.le_trans (Nat.mul_le_mul_right 32 (Nat.le_add_right len (cap - len))) h1
    · obtain ⟨i, hi', rfl⟩ := List.mem_map.1 hq
      exact (hf2 i (List.mem_range.1 hi')).2.1
end

theorem parts_sized {H : Type} {P : Program} {ts : List TypeId} {ds : List (DataW H)} (h : (DataW.weightsEach P ts ds).all (· ≤ reachBytes) = true) {j : Nat} {t : TypeId} {d : DataW H} (ht : ts[j]? = some t) (hd : ds[j]? = some d) :
    ∀ m ∈ d.weights P t, m ≤ reachBytes := fun m hm => by
  have := List.all_eq_true.1 h _ (DataW.weights_mem_each ht hd m hm)
  simpa using this
end Go.Proofs.Ytnkofinielabkaa
