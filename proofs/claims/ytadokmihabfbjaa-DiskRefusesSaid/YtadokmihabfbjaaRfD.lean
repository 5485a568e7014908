/- How the reference lies in memory, and what may turn. -/
import Derived.Test.YtadokmihabfbjaaRfC
import Derived.Test.YtadokmihabfbjaaRmB
namespace Go.Proofs.Ytadokmihabfbjaa
open Go.RowKit Go.Maps
open DM

/-- the kinds of blocks that the reference writes to -/
def kinR (t : TypeId) : Bool := t == 53 || t == 60 || t == 91
/-- the kinds of blocks that the reference reads -/
def refK (t : TypeId) : Bool := kinR t || t == 58 || t == 3
def Far (o : Obj) : Prop := ∀ (c : Array Value) (t : TypeId) (fr : Nat × Nat), o = .cells c t fr → kinR t = false

structure MovesR (B : Nat) (w w' : World) : Prop where
  below : Below B w w'
  kept : ∀ (b : Nat) (o : Obj), w.heap[b]? = some o → Far o → w'.heap[b]? = some o

theorem MovesR.refl (B : Nat) (w : World) : MovesR B w w := ⟨Below.refl _ _, fun _ _ h _ => h⟩
theorem MovesR.trans {B : Nat} {a b c : World} (h : MovesR B a b) (k : MovesR B b c) : MovesR B a c := ⟨h.below.trans k.below, fun x o h1 h2 => k.kept x o (h.kept x o h1 h2) h2⟩
theorem MovesR.size {B : Nat} {a b : World} (h : MovesR B a b) : a.heap.size ≤ b.heap.size := h.below.size
theorem MovesR.drewN {B : Nat} {a w : World} (h : MovesR B a w) (n : Nat) : MovesR B a (w.drewN n) := ⟨below_drewN h.below n, h.kept⟩
theorem MovesR.drew {B : Nat} {a w : World} (h : MovesR B a w) : MovesR B a w.drew := ⟨h.below.drew, h.kept⟩
def KinR (w : World) (r : Nat) : Prop := ∀ o, w.heap[r]? = some o → ¬ Far o
theorem MovesR.grown {B : Nat} {a w w' : World} {row : Option Nat} (h : MovesR B a w) (hg : w.grownBy w' row) (hB : B ≤ w.heap.size) (hr : ∀ k, row = some k → B ≤ k ∧ (KinR w k ∨ a.heap.size ≤ k)) : MovesR B a w' :=
  ⟨h.below.grown hg hB (fun k hk => (hr k hk).1), fun b o h1 h2 => by
    have h3 := h.kept b o h1 h2
    have hb := (Array.getElem?_eq_some_iff.1 h1).1
    rw [hg.block b (Array.getElem?_eq_some_iff.1 h3).1 (fun e => by
      rcases (hr b e.symm).2 with h4 | h4
      · exact h4 o h3 h2
      · omega)]
    exact h3⟩
theorem MovesR.of_below {B : Nat} {a w w' : World} (h : MovesR B a w) (hb : Below w.heap.size w w') (hB : B ≤ w.heap.size) : MovesR B a w' :=
  h.grown (row := none) ⟨hb.os, hb.tape, hb.output, hb.size, fun k hk _ => hb.block k hk⟩ hB (fun k hk => by cases hk)
theorem MovesR.alloc {B : Nat} {a w : World} (h : MovesR B a w) (hB : B ≤ w.heap.size) (o : Obj) : MovesR B a (w.alloc o) := h.of_below ((Below.refl _ _).alloc (Nat.le_refl _) o) hB
theorem kinR_cells {w : World} {r : Nat} {c : Array Value} {t : TypeId} {fr : Nat × Nat} (h : w.heap[r]? = some (.cells c t fr)) (ht : kinR t = true) : KinR w r := fun o ho hf => by
  rw [h] at ho
  have := hf c t fr (Option.some.inj ho).symm
  rw [ht] at this
  cases this
theorem own_kinR {w : World} {base : Nat} {e : TypeId} {s : Nat} {v : Value} {n : Nat} {xs : List Value} (h : w.ownsRow base e s v n xs) (he : kinR e = true) : ∀ k, v.ownBlock = some k → KinR w k := by
  intro k hk
  rcases h.2 with ⟨rfl, _⟩ | ⟨g, cap, cur, rfl, _, hg, _⟩
  · simp [Value.ownBlock] at hk
  · simp [Value.ownBlock] at hk
    subst hk
    exact kinR_cells hg he

theorem own_keep {w w' : World} {B : Nat} {e : TypeId} {s : Nat} {v : Value} {n : Nat} {xs : List Value} (h : w.ownsRow B e s v n xs) (hk : ∀ (b : Nat) (c : Array Value) (fr : Nat × Nat), w.heap[b]? = some (Obj.cells c e fr) → w'.heap[b]? = some (Obj.cells c e fr)) : w'.ownsRow B e s v n xs := by
  refine ⟨h.1, ?_⟩
  rcases h.2 with h2 | ⟨g, cap, cur, h1, h2, h3, h4⟩
  · exact .inl h2
  · exact .inr ⟨g, cap, cur, h1, h2, hk _ _ _ h3, h4⟩

/-! ### a reference -/
structure RV where
  fv : Value
  nv : Value
  lv : Value
  qv : Value
  cv : Value
  qs : List Value

def fC (l : List F) : List Value := l.flatMap fun f => [encS f.data, .int .i64 f.sync]
theorem fC_len (l : List F) : (fC l).length = l.length * 2 := by
  induction l with
  | nil => rfl
  | cons p r ih => show ([encS p.data, Value.int .i64 p.sync] ++ fC r).length = _; rw [List.length_append, ih, List.length_cons]; simp; omega
def rC (t : RS) (g : RV) : Array Value := #[.int .i64 t.room, g.fv, g.nv, g.lv, g.qv, .bool t.off, .int .i64 t.cutLeft, .int .i64 t.cutNames, g.cv, .int .i64 t.brk]

/-- all but the reference's own block; the rows that its fields have -/
structure RBody (B : Nat) (w : World) (files : List F) (names lasts : RN) (queue : List RN) (cut : List Int) (g : RV) : Prop where
  frow : w.ownsRow B 60 2 g.fv files.length (fC files)
  nrow : Prs B w g.nv names
  lrow : Prs B w g.lv lasts
  qrow : w.ownsRow B 91 1 g.qv queue.length g.qs
  ents : ∀ i, (h : i < queue.length) → ∃ v, g.qs[i]? = some v ∧ Prs B w v queue[i]
  crow : w.ownsRow B 3 1 g.cv cut.length (cut.map (Value.int .i64))

structure RHalf (B : Nat) (w : World) (r : Nat) (files : List F) (names lasts : RN) (queue : List RN) (cut : List Int) (g : RV) (C : Array Value) : Prop where
  body : RBody B w files names lasts queue cut g
  at_ : w.heap[r]? = some (.cells C 53 (0, 0))
  le : B ≤ r

def RRep (B : Nat) (w : World) (r : Nat) (t : RS) (g : RV) : Prop := RHalf B w r t.files t.names t.lasts t.queue t.cutBytes g (rC t g)

section
variable {B : Nat} {w w' : World} {r : Nat} {files : List F} {names lasts : RN} {queue : List RN} {cut : List Int} {g : RV} {C : Array Value}
theorem RBody.keep (h : RBody B w files names lasts queue cut g) (hk : ∀ (b : Nat) (c : Array Value) (t : TypeId) (fr : Nat × Nat), w.heap[b]? = some (.cells c t fr) → refK t = true → t ≠ 53 → w'.heap[b]? = some (.cells c t fr)) : RBody B w' files names lasts queue cut g :=
  ⟨own_keep h.frow (fun b c fr hb => hk b c _ fr hb (by decide) (by decide)), own_keep h.nrow (fun b c fr hb => hk b c _ fr hb (by decide) (by decide)), own_keep h.lrow (fun b c fr hb => hk b c _ fr hb (by decide) (by decide)),
    own_keep h.qrow (fun b c fr hb => hk b c _ fr hb (by decide) (by decide)), fun i hi => by
      obtain ⟨v, h1, h2⟩ := h.ents i hi
      exact ⟨v, h1, own_keep h2 (fun b c fr hb => hk b c _ fr hb (by decide) (by decide))⟩, own_keep h.crow (fun b c fr hb => hk b c _ fr hb (by decide) (by decide))⟩
theorem RHalf.lt (h : RHalf B w r files names lasts queue cut g C) : r < w.heap.size := (Array.getElem?_eq_some_iff.1 h.at_).1
theorem RHalf.cells (h : RHalf B w r files names lasts queue cut g C) (j : Nat) : w.cell? ⟨r, j, none⟩ = C[j]? := cell_of_row _ _ _ _ _ _ h.at_
theorem RHalf.frozen (h : RHalf B w r files names lasts queue cut g C) (j : Nat) : w.frozen? ⟨r, j, none⟩ = false := frozen_of_row _ _ _ _ _ h.at_
theorem RHalf.kin (h : RHalf B w r files names lasts queue cut g C) : KinR w r := kinR_cells h.at_ (by decide)
theorem RHalf.keep (h : RHalf B w r files names lasts queue cut g C) (hk : ∀ (b : Nat) (c : Array Value) (t : TypeId) (fr : Nat × Nat), w.heap[b]? = some (.cells c t fr) → refK t = true → w'.heap[b]? = some (.cells c t fr)) : RHalf B w' r files names lasts queue cut g C :=
  ⟨h.body.keep (fun b c t fr h1 h2 _ => hk b c t fr h1 h2), hk _ _ _ _ h.at_ (by decide), h.le⟩
theorem RHalf.below (h : RHalf B w r files names lasts queue cut g C) (hb : Below w.heap.size w w') : RHalf B w' r files names lasts queue cut g C :=
  h.keep (fun b _ _ _ h1 _ => (hb.block b (Array.getElem?_eq_some_iff.1 h1).1).trans h1)
theorem RHalf.alloc (h : RHalf B w r files names lasts queue cut g C) (o : Obj) : RHalf B (w.alloc o) r files names lasts queue cut g C := h.below ((Below.refl _ _).alloc (Nat.le_refl _) o)
theorem RHalf.drewN (h : RHalf B w r files names lasts queue cut g C) (n : Nat) : RHalf B (w.drewN n) r files names lasts queue cut g C := h.below (below_drewN (Below.refl _ _) n)
theorem RHalf.drew (h : RHalf B w r files names lasts queue cut g C) : RHalf B w.drew r files names lasts queue cut g C := h.below (Below.refl _ _).drew
/-- a field is stored -/
theorem RHalf.set (h : RHalf B w r files names lasts queue cut g C) (j : Nat) (u : Value) : RHalf B (w.setCell ⟨r, j, none⟩ u) r files names lasts queue cut g (C.setIfInBounds j u) :=
  ⟨h.body.keep (fun b c t fr h1 _ h3 => (Below.heap_setCell _ _ _ _ (fun e => by
      have e' : b = r := e
      subst e'
      rw [h.at_] at h1
      injection h1 with h1
      injection h1 with _ h1
      exact h3 h1.symm)).trans h1), heap_set_fr h.at_ j u, h.le⟩
theorem MovesR.set {a : World} (hm : MovesR B a w) (hB : B ≤ w.heap.size) (h : RHalf B w r files names lasts queue cut g C) (j : Nat) (u : Value) : MovesR B a (w.setCell ⟨r, j, none⟩ u) :=
  hm.grown (grownBy_setCell w ⟨r, j, none⟩ u) hB (fun k e => by cases e; exact ⟨h.le, Or.inl h.kin⟩)
/-- a program's call leaves a reference -/
theorem RHalf.moved (h : RHalf B w r files names lasts queue cut g C) {B' : Nat} (hm : Moves B' w w') : RHalf B w' r files names lasts queue cut g C :=
  h.keep (fun b c t fr h1 h2 => hm.kept b c t fr h1 (by
    unfold refK kinR at h2
    simp only [Bool.or_eq_true, beq_iff_eq] at h2
    rcases h2 with (((h2 | h2) | h2) | h2) | h2 <;> subst h2 <;> decide))
end

/-! ### a program's disk over a reference's call -/
theorem Row.keep {B : Nat} {w w' : World} {v : Value} {l : Bs} (h : Row B w v l) (hk : ∀ (b : Nat) (c : Array Value) (fr : Nat × Nat), w.heap[b]? = some (.cells c 5 fr) → w'.heap[b]? = some (.cells c 5 fr)) : Row B w' v l := by
  rcases h with h | ⟨r, cap, cur, h1, h2, h3, h4⟩
  · exact .inl h
  · exact .inr ⟨r, cap, cur, h1, h2, hk _ _ _ h3, h4⟩
theorem OwnM.keep {w w' : World} {b n : Nat} {D : DataW Unit} (h : OwnM w b n D) (hk : ∀ (b : Nat) (es : Array MapEntry) (k : Nat), w.heap[b]? = some (.map es k) → w'.heap[b]? = some (.map es k)) : OwnM w' b n D := by
  obtain ⟨es, clock, hb, hr⟩ := h
  exact ⟨es, clock, hk _ _ _ hb, hr⟩
theorem Rep.far {B : Nat} {w w' : World} {d : Nat} {s : St} {g : Gh} (h : Rep B w d s g) {B' : Nat} (hm : MovesR B' w w') : Rep B w' d s g := by
  have hc : ∀ (b : Nat) (c : Array Value) (t : TypeId) (fr : Nat × Nat), w.heap[b]? = some (.cells c t fr) → kinR t = false → w'.heap[b]? = some (.cells c t fr) := fun b c t fr h1 h2 => hm.kept b _ h1 (fun c' t' fr' e => by
    injection e with _ e
    rw [← e]; exact h2)
  have hmap : ∀ (b : Nat) (es : Array MapEntry) (k : Nat), w.heap[b]? = some (.map es k) → w'.heap[b]? = some (.map es k) := fun b es k h1 => hm.kept b _ h1 (fun c' t' fr' e => by cases e)
  refine ⟨⟨?_, own_keep h.body.queue (fun b c fr hb => hc b c _ fr hb (by decide)), fun n hn => ?_, h.body.apart, own_keep h.body.cut (fun b c fr hb => hc b c _ fr hb (by decide)), h.body.bk⟩, hc _ _ _ _ h.at_ (by decide), h.le⟩
  · rcases h.body.maps with h1 | ⟨b1, b2, e1, e2, hne, l1, l2, o1, o2⟩
    · exact .inl h1
    · exact .inr ⟨b1, b2, e1, e2, hne, l1, l2, o1.keep hmap, o2.keep hmap⟩
  · obtain ⟨h1, h2, h3⟩ := h.body.files n hn
    exact ⟨h1, hc _ _ _ _ h2 (by decide), h3.keep (fun b c fr hb => hc b c _ fr hb (by decide))⟩
end Go.Proofs.Ytadokmihabfbjaa
