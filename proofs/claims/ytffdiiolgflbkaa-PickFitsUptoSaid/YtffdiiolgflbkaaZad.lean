/- Texts joined by bundle.py: Op. -/
import Derived.Test.YtffdiiolgflbkaaZab
import Derived.Test.YtffdiiolgflbkaaZac
import Derived.Deep.Slices
import Derived.Deep.Fields
import Derived.ChangeSame
import Derived.SizedLaws
import Derived.OpenShut
import Derived.Lib.SmallJoins
import Derived.OwnWalk

/- Entries that come in, opened; their sizes; and those that a call has made. -/
namespace Go.Proofs.Ytffdiiolgflbkaa
open Go.ChangeShapes Go.WideShapes Go.ChangeAt Go.RowKit Go.Deep
open SK

instance : Inhabited E := ⟨E.zero⟩

/-- entries that come in: nil and empty ones too -/
structure EntsIn (w : World) (A : Option Addr) (l : List E) : Prop where
  wf : ∀ e ∈ l, e.wf
  at_ : 0 < l.length → ∃ b off, A = some ⟨b, off, none⟩ ∧ b < w.heap.size ∧ ∀ j, (h : j < l.length) →
    w.cell? ⟨b, off + j * 5, none⟩ = some (.string l[j].key) ∧ w.cell? ⟨b, off + j * 5 + 1, none⟩ = some (.int .i64 l[j].seq) ∧ w.cell? ⟨b, off + j * 5 + 2, none⟩ = some (.bool l[j].gone) ∧
      w.cell? ⟨b, off + j * 5 + 3, none⟩ = some (.string l[j].value) ∧ w.cell? ⟨b, off + j * 5 + 4, none⟩ = some (.int .i64 l[j].til)

theorem EntsIn.below {w w' : World} {A : Option Addr} {l : List E} (h : EntsIn w A l) (hb : Below w.heap.size w w') : EntsIn w' A l :=
  ⟨h.wf, fun hn => by
    obtain ⟨b, off, hA, hlt, hc⟩ := h.at_ hn
    refine ⟨b, off, hA, Nat.lt_of_lt_of_le hlt hb.size, fun j hj => ?_⟩
    obtain ⟨c0, c1, c2, c3, c4⟩ := hc j hj
    exact ⟨(hb.cell (p := ⟨b, off + j * 5, none⟩) hlt).trans c0, (hb.cell (p := ⟨b, off + j * 5 + 1, none⟩) hlt).trans c1, (hb.cell (p := ⟨b, off + j * 5 + 2, none⟩) hlt).trans c2, (hb.cell (p := ⟨b, off + j * 5 + 3, none⟩) hlt).trans c3, (hb.cell (p := ⟨b, off + j * 5 + 4, none⟩) hlt).trans c4⟩⟩

theorem EntsIn.take {w : World} {A : Option Addr} {l : List E} (h : EntsIn w A l) (n : Nat) : EntsIn w A (l.take n) :=
  ⟨fun e he => h.wf e (List.mem_of_mem_take he), fun hn => by
    rw [List.length_take] at hn
    obtain ⟨b, off, hA, hlt, hc⟩ := h.at_ (by omega)
    refine ⟨b, off, hA, hlt, fun j hj => ?_⟩
    rw [List.length_take] at hj
    rw [List.getElem_take]
    exact hc j (by omega)⟩

section
variable {H : Type} {enc : TypeId × Value → H} {P : Program} {w : World} {base : Nat} {spare : Nat → Bool} {held : Bool}
theorem open_slice_fields {t e : TypeId} {fs : Array Field} {fuel : Nat} {cs : List Value} {x : DataW H × List MemPlace} (ht : P.underlying t = some (.slice e)) (he : P.underlying e = some (.struct fs))
    (hone : oneCellFields P fs = true) (hC : P.cellsOf e = fs.size) (h : DataW.trod enc P w base spare held fuel t cs = some x) :
    (cs = [.slice none 0 0] ∧ x = (.nil, [])) ∨
    ∃ (a : Addr) (len cap m : Nat) (D : Nat → DataW H) (Pl : Nat → List MemPlace), cs = [.slice (some a) len cap] ∧ base ≤ a.block ∧ len ≤ cap ∧ cap ≤ maxLen ∧ m = (if spare a.block then cap else len) ∧
      x = (.slice ((List.range len).map D) ((List.range (m - len)).map fun j => D (len + j)), MemPlace.row a (m * fs.size) ++ (List.range m).flatMap Pl) ∧
      ∀ i, i < m → ∃ (ys : List (DataW H × List MemPlace)) (n : Nat), D i = .agg (ys.map (·.1)) ∧ Pl i = ys.flatMap (·.2) ∧ ys.length = fs.size ∧
        ∀ (j : Nat) (f : Field), fs[j]? = some f → ∃ (v : Value) (y : DataW H × List MemPlace), w.cell? (a.add (i * fs.size + j)) = some v ∧ ys[j]? = some y ∧ DataW.trod enc P w base spare held n f.type [v] = some y := by
  rcases open_slice ht h with h0 | ⟨a, len, cap, m, n, D, Pl, hcs, hb, hl, hm, hmm, hx, hi⟩
  · exact .inl h0
  · refine .inr ⟨a, len, cap, m, D, Pl, hcs, hb, hl, hm, hmm, by rw [hC] at hx; exact hx, fun i him => ?_⟩
    obtain ⟨cs', hc, ht'⟩ := hi i him
    rw [hC] at hc
    obtain ⟨ys, n', hn', hy, hlen, hyl, hf⟩ := DataW.trod_struct he ht'
    obtain ⟨_, hcl, hat⟩ := World.cells?_some hc
    simp only [Prod.mk.injEq] at hy
    refine ⟨ys, n', hy.1, hy.2, hyl, fun j f hj => ?_⟩
    obtain ⟨ho, hk⟩ := hone_of hone j f hj
    have hjl : j < fs.size := (Array.getElem?_eq_some_iff.1 hj).1
    have hcell := hat j hjl
    have hv : cs'[j]? = some (cs'[j]'(by omega)) := List.getElem?_eq_getElem (by omega)
    have h1 := hf j f hj
    rw [ho, hk] at h1
    have hone' : (cs'.drop j).take 1 = [cs'[j]'(by omega)] := by
      rw [List.drop_eq_getElem_cons (by omega)]
      rfl
    rw [hone'] at h1
    have hys : ys[j]? = some (ys[j]'(by omega)) := List.getElem?_eq_getElem (by omega)
    refine ⟨_, _, ?_, hys, h1.trans hys⟩
    rw [← Go.Deep.add_add, hcell, hv]
end

theorem weights_all {H : Type} {P : Program} {e : TypeId} {d : DataW H} : ∀ {l : List (DataW H)}, d ∈ l → ∀ n ∈ d.weights P e, n ∈ DataW.weightsAll P e l
  | x :: l, h, n, hn => by
    simp only [DataW.weightsAll, List.mem_append]
    rcases List.mem_cons.1 h with rfl | h
    · exact Or.inl hn
    · exact Or.inr (weights_all h n hn)

theorem plain_addr {w : World} {a : Addr} {v : Value} (h : w.cell? a = some v) : ∃ b off, a = ⟨b, off, none⟩ := by
  obtain ⟨b, off, spot⟩ := a
  obtain rfl : spot = none := World.cell?_spot h
  exact ⟨b, off, rfl⟩

theorem add_off (b off k : Nat) : (⟨b, off, none⟩ : Addr).add k = ⟨b, off + k, none⟩ := by unfold Addr.add; split <;> simp_all


section
variable {H : Type} {enc : TypeId × Value → H} {w : World}

theorem lit_range {z : Int} (h : (Lit.int .i64 z).wf = true) : -9223372036854775808 ≤ z ∧ z ≤ 9223372036854775807 := by
  simpa [Lit.wf, IntKind.min, IntKind.max, IntKind.signed, IntKind.bits] using h

end

theorem parts_sized {H : Type} {P : Program} {ts : List TypeId} {ds : List (DataW H)} (h : (DataW.weightsEach P ts ds).all (· ≤ reachBytes) = true) {j : Nat} {t : TypeId} {d : DataW H} (ht : ts[j]? = some t) (hd : ds[j]? = some d) :
    ∀ m ∈ d.weights P t, m ≤ reachBytes := fun m hm => by
  have := List.all_eq_true.1 h _ (DataW.weights_mem_each ht hd m hm)
  simpa using this

/-! ### entries that a call has made -/

def fb (A : Option Addr) : List Nat := match A with | some a => [a.block] | none => []
def ecs (l : List E) : List Value := l.flatMap E.cells
theorem ecs_len (l : List E) : (ecs l).length = l.length * 5 := by
  induction l with
  | nil => rfl
  | cons p r ih => show (p.cells ++ ecs r).length = _; rw [List.length_append, ih, List.length_cons]; simp [E.cells]; omega
theorem ecs_snoc (l : List E) (p : E) : ecs (l ++ [p]) = ecs l ++ p.cells := by simp [ecs]
theorem ecs_at : ∀ (l : List E) (j : Nat) (h : j < l.length) (i : Nat), i < 5 → (ecs l)[j * 5 + i]? = (l[j]).cells[i]?
  | p :: r, 0, _, i, hi => by
    show (p.cells ++ ecs r)[0 * 5 + i]? = _
    rw [List.getElem?_append_left (by simp [E.cells]; omega)]
    simp
  | p :: r, j + 1, h, i, hi => by
    have := ecs_at r j (by simpa using h) i hi
    show (p.cells ++ ecs r)[(j + 1) * 5 + i]? = _
    rw [List.getElem?_append_right (by simp [E.cells]; omega)]
    simp only [List.getElem_cons_succ]
    rw [← this]
    congr 1
    simp [E.cells]
    omega

theorem own_ents {w : World} {base : Nat} {e : TypeId} {v : Value} {n : Nat} {l : List E} (hw : ∀ x ∈ l, x.wf) (hn : l.length = n) (h : w.ownsRow base e 5 v n (ecs l)) :
    ∃ A c, v = .slice A n c ∧ EntsIn w A l ∧ (∀ x ∈ fb A, base ≤ x ∧ x < w.heap.size) ∧ n ≤ c := by
  subst hn
  have h' := h
  rcases h.2 with ⟨rfl, h0⟩ | ⟨g, cap, cur, rfl, hbg, hg, hnc, _, _, _⟩
  · exact ⟨none, 0, by rw [h0], ⟨hw, fun hn => by omega⟩, by simp [fb], by omega⟩
  · have hlt := (Array.getElem?_eq_some_iff.1 hg).1
    refine ⟨some ⟨g, 0, none⟩, cap, rfl, ⟨hw, fun _ => ⟨g, 0, rfl, hlt, fun j hj => ?_⟩⟩, by simp [fb]; exact ⟨hbg, hlt⟩, hnc⟩
    have hcell : ∀ i x, i < 5 → (l[j]).cells[i]? = some x → w.cell? ⟨g, 0 + j * 5 + i, none⟩ = some x := by
      intro i x hi hx
      have hc := h'.cells (g := g) rfl (j * 5 + i) x (by rw [ecs_at l j hj i hi]; exact hx)
      rw [addr_add0] at hc
      rw [Nat.zero_add]
      exact hc
    exact ⟨hcell 0 _ (by omega) rfl, hcell 1 _ (by omega) rfl, hcell 2 _ (by omega) rfl, hcell 3 _ (by omega) rfl, hcell 4 _ (by omega) rfl⟩

end Go.Proofs.Ytffdiiolgflbkaa

