/- Texts joined by bundle.py: RfD, RfE, RfF, RfH, RfG. -/
import Derived.Test.YtgknkldhjejjmaaGreatDoorZbe
import Derived.Test.YtgknkldhjejjmaaGreatDoorZbd
import Derived.StillTailTactics
import Derived.Deep.RegionWith
import Derived.Deep.RegionLaw

/- How the reference lies in memory, and what may turn. -/
namespace Go.Proofs.YtgknkldhjejjmaaGreatDoor
open Go.RowKit Go.Maps
open DM

/-- the kinds of blocks that the reference writes to -/
def kinR (t : TypeId) : Bool := t == 56 || t == 90 || t == 105
/-- the kinds of blocks that the reference reads -/
def refK (t : TypeId) : Bool := kinR t || t == 88 || t == 3
def Far (o : Obj) : Prop := ∀ (c : Array Value) (t : TypeId) (fr : Nat × Nat), o = .cells c t fr → kinR t = false

structure MovesR (B : Nat) (w w' : World) : Prop where
  below : Below B w w'
  kept : ∀ (b : Nat) (o : Obj), w.heap[b]? = some o → Far o → w'.heap[b]? = some o

theorem MovesR.refl (B : Nat) (w : World) : MovesR B w w := ⟨Below.refl _ _, fun _ _ h _ => h⟩
theorem MovesR.trans {B : Nat} {a b c : World} (h : MovesR B a b) (k : MovesR B b c) : MovesR B a c := ⟨h.below.trans k.below, fun x o h1 h2 => k.kept x o (h.kept x o h1 h2) h2⟩
theorem MovesR.size {B : Nat} {a b : World} (h : MovesR B a b) : a.heap.size ≤ b.heap.size := h.below.size
theorem MovesR.drewN {B : Nat} {a w : World} (h : MovesR B a w) (n : Nat) : MovesR B a (w.drewN n) := ⟨below_drewN h.below n, h.kept⟩
theorem MovesR.drew {B : Nat} {a w : World} (h : MovesR B a w) : MovesR B a w.drew := ⟨h.below.drew, h.kept⟩
def KinR (w : World) (r : Nat) : Prop := ∀ o, w.heap[r]? = some o → ¬ Far o
theorem MovesR.grown {B : Nat} {a w w' : World} {row : Option Nat} (h : MovesR B a w) (hg : w.grownBy w' row) (hB : B ≤ w.heap.size) (hr : ∀ k, row = some k → B ≤ k ∧ (KinR w k ∨ a.heap.size ≤ k)) : MovesR B a w' :=
  ⟨h.below.grown hg hB (fun k hk => (hr k hk).1), fun b o h1 h2 => by
    have h3 := h.kept b o h1 h2
    have hb := (Array.getElem?_eq_some_iff.1 h1).1
    rw [hg.block b (Array.getElem?_eq_some_iff.1 h3).1 (fun e => by
      rcases (hr b e.symm).2 with h4 | h4
      · exact h4 o h3 h2
      · omega)]
    exact h3⟩
theorem MovesR.of_below {B : Nat} {a w w' : World} (h : MovesR B a w) (hb : Below w.heap.size w w') (hB : B ≤ w.heap.size) : MovesR B a w' :=
  h.grown (row := none) ⟨hb.os, hb.tape, hb.output, hb.size, fun k hk _ => hb.block k hk⟩ hB (fun k hk => by cases hk)
theorem MovesR.alloc {B : Nat} {a w : World} (h : MovesR B a w) (hB : B ≤ w.heap.size) (o : Obj) : MovesR B a (w.alloc o) := h.of_below ((Below.refl _ _).alloc (Nat.le_refl _) o) hB
theorem kinR_cells {w : World} {r : Nat} {c : Array Value} {t : TypeId} {fr : Nat × Nat} (h : w.heap[r]? = some (.cells c t fr)) (ht : kinR t = true) : KinR w r := fun o ho hf => by
  rw [h] at ho
  have := hf c t fr (Option.some.inj ho).symm
  rw [ht] at this
  cases this
theorem own_kinR {w : World} {base : Nat} {e : TypeId} {s : Nat} {v : Value} {n : Nat} {xs : List Value} (h : w.ownsRow base e s v n xs) (he : kinR e = true) : ∀ k, v.ownBlock = some k → KinR w k := by
  intro k hk
  rcases h.2 with ⟨rfl, _⟩ | ⟨g, cap, cur, rfl, _, hg, _⟩
  · simp [Value.ownBlock] at hk
  · simp [Value.ownBlock] at hk
    subst hk
    exact kinR_cells hg he

theorem own_keep {w w' : World} {B : Nat} {e : TypeId} {s : Nat} {v : Value} {n : Nat} {xs : List Value} (h : w.ownsRow B e s v n xs) (hk : ∀ (b : Nat) (c : Array Value) (fr : Nat × Nat), w.heap[b]? = some (Obj.cells c e fr) → w'.heap[b]? = some (Obj.cells c e fr)) : w'.ownsRow B e s v n xs := by
  refine ⟨h.1, ?_⟩
  rcases h.2 with h2 | ⟨g, cap, cur, h1, h2, h3, h4⟩
  · exact .inl h2
  · exact .inr ⟨g, cap, cur, h1, h2, hk _ _ _ h3, h4⟩

/-! ### a reference -/
structure RV where
  fv : Value
  nv : Value
  lv : Value
  qv : Value
  cv : Value
  qs : List Value

def fC (l : List F) : List Value := l.flatMap fun f => [encS f.data, .int .i64 f.sync]
theorem fC_len (l : List F) : (fC l).length = l.length * 2 := by
  induction l with
  | nil => rfl
  | cons p r ih => show ([encS p.data, Value.int .i64 p.sync] ++ fC r).length = _; rw [List.length_append, ih, List.length_cons]; simp; omega
def rC (t : RS) (g : RV) : Array Value := #[.int .i64 t.room, g.fv, g.nv, g.lv, g.qv, .bool t.off, .int .i64 t.cutLeft, .int .i64 t.cutNames, g.cv, .int .i64 t.brk]

/-- all but the reference's own block; the rows that its fields have -/
structure RBody (B : Nat) (w : World) (files : List F) (names lasts : RN) (queue : List RN) (cut : List Int) (g : RV) : Prop where
  frow : w.ownsRow B 90 2 g.fv files.length (fC files)
  nrow : Prs B w g.nv names
  lrow : Prs B w g.lv lasts
  qrow : w.ownsRow B 105 1 g.qv queue.length g.qs
  ents : ∀ i, (h : i < queue.length) → ∃ v, g.qs[i]? = some v ∧ Prs B w v queue[i]
  crow : w.ownsRow B 3 1 g.cv cut.length (cut.map (Value.int .i64))

structure RHalf (B : Nat) (w : World) (r : Nat) (files : List F) (names lasts : RN) (queue : List RN) (cut : List Int) (g : RV) (C : Array Value) : Prop where
  body : RBody B w files names lasts queue cut g
  at_ : w.heap[r]? = some (.cells C 56 (0, 0))
  le : B ≤ r

def RRep (B : Nat) (w : World) (r : Nat) (t : RS) (g : RV) : Prop := RHalf B w r t.files t.names t.lasts t.queue t.cutBytes g (rC t g)

section
variable {B : Nat} {w w' : World} {r : Nat} {files : List F} {names lasts : RN} {queue : List RN} {cut : List Int} {g : RV} {C : Array Value}
theorem RBody.keep (h : RBody B w files names lasts queue cut g) (hk : ∀ (b : Nat) (c : Array Value) (t : TypeId) (fr : Nat × Nat), w.heap[b]? = some (.cells c t fr) → refK t = true → t ≠ 56 → w'.heap[b]? = some (.cells c t fr)) : RBody B w' files names lasts queue cut g :=
  ⟨own_keep h.frow (fun b c fr hb => hk b c _ fr hb (by decide) (by decide)), own_keep h.nrow (fun b c fr hb => hk b c _ fr hb (by decide) (by decide)), own_keep h.lrow (fun b c fr hb => hk b c _ fr hb (by decide) (by decide)),
    own_keep h.qrow (fun b c fr hb => hk b c _ fr hb (by decide) (by decide)), fun i hi => by
      obtain ⟨v, h1, h2⟩ := h.ents i hi
      exact ⟨v, h1, own_keep h2 (fun b c fr hb => hk b c _ fr hb (by decide) (by decide))⟩, own_keep h.crow (fun b c fr hb => hk b c _ fr hb (by decide) (by decide))⟩
theorem RHalf.lt (h : RHalf B w r files names lasts queue cut g C) : r < w.heap.size := (Array.getElem?_eq_some_iff.1 h.at_).1
theorem RHalf.cells (h : RHalf B w r files names lasts queue cut g C) (j : Nat) : w.cell? ⟨r, j, none⟩ = C[j]? := cell_of_row _ _ _ _ _ _ h.at_
theorem RHalf.frozen (h : RHalf B w r files names lasts queue cut g C) (j : Nat) : w.frozen? ⟨r, j, none⟩ = false := frozen_of_row _ _ _ _ _ h.at_
theorem RHalf.kin (h : RHalf B w r files names lasts queue cut g C) : KinR w r := kinR_cells h.at_ (by decide)
theorem RHalf.keep (h : RHalf B w r files names lasts queue cut g C) (hk : ∀ (b : Nat) (c : Array Value) (t : TypeId) (fr : Nat × Nat), w.heap[b]? = some (.cells c t fr) → refK t = true → w'.heap[b]? = some (.cells c t fr)) : RHalf B w' r files names lasts queue cut g C :=
  ⟨h.body.keep (fun b c t fr h1 h2 _ => hk b c t fr h1 h2), hk _ _ _ _ h.at_ (by decide), h.le⟩
theorem RHalf.below (h : RHalf B w r files names lasts queue cut g C) (hb : Below w.heap.size w w') : RHalf B w' r files names lasts queue cut g C :=
  h.keep (fun b _ _ _ h1 _ => (hb.block b (Array.getElem?_eq_some_iff.1 h1).1).trans h1)
theorem RHalf.alloc (h : RHalf B w r files names lasts queue cut g C) (o : Obj) : RHalf B (w.alloc o) r files names lasts queue cut g C := h.below ((Below.refl _ _).alloc (Nat.le_refl _) o)
theorem RHalf.drewN (h : RHalf B w r files names lasts queue cut g C) (n : Nat) : RHalf B (w.drewN n) r files names lasts queue cut g C := h.below (below_drewN (Below.refl _ _) n)
theorem RHalf.drew (h : RHalf B w r files names lasts queue cut g C) : RHalf B w.drew r files names lasts queue cut g C := h.below (Below.refl _ _).drew
/-- a field is stored -/
theorem RHalf.set (h : RHalf B w r files names lasts queue cut g C) (j : Nat) (u : Value) : RHalf B (w.setCell ⟨r, j, none⟩ u) r files names lasts queue cut g (C.setIfInBounds j u) :=
  ⟨h.body.keep (fun b c t fr h1 _ h3 => (Below.heap_setCell _ _ _ _ (fun e => by
      have e' : b = r := e
      subst e'
      rw [h.at_] at h1
      injection h1 with h1
      injection h1 with _ h1
      exact h3 h1.symm)).trans h1), heap_set_fr h.at_ j u, h.le⟩
theorem MovesR.set {a : World} (hm : MovesR B a w) (hB : B ≤ w.heap.size) (h : RHalf B w r files names lasts queue cut g C) (j : Nat) (u : Value) : MovesR B a (w.setCell ⟨r, j, none⟩ u) :=
  hm.grown (grownBy_setCell w ⟨r, j, none⟩ u) hB (fun k e => by cases e; exact ⟨h.le, Or.inl h.kin⟩)
/-- a program's call leaves a reference -/
theorem RHalf.moved (h : RHalf B w r files names lasts queue cut g C) {B' : Nat} (hm : Moves B' w w') : RHalf B w' r files names lasts queue cut g C :=
  h.keep (fun b c t fr h1 h2 => hm.kept b c t fr h1 (by
    unfold refK kinR at h2
    simp only [Bool.or_eq_true, beq_iff_eq] at h2
    rcases h2 with (((h2 | h2) | h2) | h2) | h2 <;> subst h2 <;> decide))
end

/-! ### a program's disk over a reference's call -/
theorem Row.keep {B : Nat} {w w' : World} {v : Value} {l : Bs} (h : Row B w v l) (hk : ∀ (b : Nat) (c : Array Value) (fr : Nat × Nat), w.heap[b]? = some (.cells c 5 fr) → w'.heap[b]? = some (.cells c 5 fr)) : Row B w' v l := by
  rcases h with h | ⟨r, cap, cur, h1, h2, h3, h4⟩
  · exact .inl h
  · exact .inr ⟨r, cap, cur, h1, h2, hk _ _ _ h3, h4⟩
theorem OwnM.keep {w w' : World} {b n : Nat} {D : DataW Unit} (h : OwnM w b n D) (hk : ∀ (b : Nat) (es : Array MapEntry) (k : Nat), w.heap[b]? = some (.map es k) → w'.heap[b]? = some (.map es k)) : OwnM w' b n D := by
  obtain ⟨es, clock, hb, hr⟩ := h
  exact ⟨es, clock, hk _ _ _ hb, hr⟩
theorem Rep.far {B : Nat} {w w' : World} {d : Nat} {s : St} {g : Gh} (h : Rep B w d s g) {B' : Nat} (hm : MovesR B' w w') : Rep B w' d s g := by
  have hc : ∀ (b : Nat) (c : Array Value) (t : TypeId) (fr : Nat × Nat), w.heap[b]? = some (.cells c t fr) → kinR t = false → w'.heap[b]? = some (.cells c t fr) := fun b c t fr h1 h2 => hm.kept b _ h1 (fun c' t' fr' e => by
    injection e with _ e
    rw [← e]; exact h2)
  have hmap : ∀ (b : Nat) (es : Array MapEntry) (k : Nat), w.heap[b]? = some (.map es k) → w'.heap[b]? = some (.map es k) := fun b es k h1 => hm.kept b _ h1 (fun c' t' fr' e => by cases e)
  refine ⟨⟨?_, own_keep h.body.queue (fun b c fr hb => hc b c _ fr hb (by decide)), fun n hn => ?_, h.body.apart, own_keep h.body.cut (fun b c fr hb => hc b c _ fr hb (by decide)), h.body.bk⟩, hc _ _ _ _ h.at_ (by decide), h.le⟩
  · rcases h.body.maps with h1 | ⟨b1, b2, e1, e2, hne, l1, l2, o1, o2⟩
    · exact .inl h1
    · exact .inr ⟨b1, b2, e1, e2, hne, l1, l2, o1.keep hmap, o2.keep hmap⟩
  · obtain ⟨h1, h2, h3⟩ := h.body.files n hn
    exact ⟨h1, hc _ _ _ _ h2 (by decide), h3.keep (fun b c fr hb => hc b c _ fr hb (by decide))⟩
end Go.Proofs.YtgknkldhjejjmaaGreatDoor

/- The reference: New, Trap, Used. Made by gen_rfe.py. -/
namespace Go.Proofs.YtgknkldhjejjmaaGreatDoor
open Go.RowKit Go.Maps
open DM

theorem grown_refl (w : World) (r : Option Nat) : w.grownBy w r := ⟨rfl, rfl, rfl, Nat.le_refl _, fun _ _ _ => rfl⟩
theorem grown_set {a b : World} {r : Nat} (h : a.grownBy b (some r)) (j : Nat) (u : Value) : a.grownBy (b.setCell ⟨r, j, none⟩ u) (some r) := World.grownBy.trans h (grownBy_setCell _ _ _)

/-- what a call of the reference leaves that answers a number -/
def ROut (B : Nat) (w : World) (r : Nat) (x : Int × RS) (e : Ending) (w' : World) : Prop := e = .returned (.int .i64 x.1) ∧ (∃ g, RRep B w' r x.2 g) ∧ MovesR B w w'
/-- .. that answers nothing -/
def RVoid (B : Nat) (w : World) (r : Nat) (t : RS) (e : Ending) (w' : World) : Prop := e = .returned (.tuple #[]) ∧ (∃ g, RRep B w' r t g) ∧ MovesR B w w'

def RS.new (room : Int) : RS := ⟨max room 0, [], [], [], [], false, 0, 0, [], 0⟩

theorem rnew_rep (w : World) (B : Nat) (hB : B ≤ w.heap.size) (room x : Int) (hx : x = max room 0) : RRep B (w.alloc (.cells #[.int .i64 x, .slice none 0 0, .slice none 0 0, .slice none 0 0, .slice none 0 0, .bool false, .int .i64 0, .int .i64 0, .slice none 0 0, .int .i64 0] 56)) w.heap.size (RS.new room) ⟨.slice none 0 0, .slice none 0 0, .slice none 0 0, .slice none 0 0, .slice none 0 0, []⟩ := by
  subst hx
  refine ⟨⟨World.ownsRow_nil _ _ _ _, World.ownsRow_nil _ _ _ _, World.ownsRow_nil _ _ _ _, World.ownsRow_nil _ _ _ _, fun i hi => by simp [RS.new] at hi, World.ownsRow_nil _ _ _ _⟩, heap_alloc_new w _, hB⟩

theorem rnew_any (room : Int) (w : World) (B : Nat) (hB : B ≤ w.heap.size) : Calls Tryz.prog 5 #[.int .i64 room] w fun e w' => ∃ r, e = .returned (.pointer (some ⟨r, 0, none⟩)) ∧ (∃ g, RRep B w' r (RS.new room) g) ∧ Below w.heap.size w w' := by
  have HN := Lib.hid (fun x hx => rnew_rep w B hB room x hx)
  by_cases h : room < 0
  · clear hB
    go_enter Tryz.func5, Tryz.ntmps5
    go_wp2
    go_ret
    exact ⟨_, rfl, ⟨_, HN.out 0 (by omega)⟩, (Below.refl _ _).alloc (Nat.le_refl _) _⟩
  · clear hB
    go_enter Tryz.func5, Tryz.ntmps5
    go_wp2
    go_ret
    exact ⟨_, rfl, ⟨_, HN.out room (by omega)⟩, (Below.refl _ _).alloc (Nat.le_refl _) _⟩

theorem rrep_eq {B : Nat} {w : World} {r : Nat} {t t' : RS} {g : RV} {C : Array Value} (h : RHalf B w r t.files t.names t.lasts t.queue t.cutBytes g C) (hC : C = rC t' g) (hf : t'.files = t.files) (hn : t'.names = t.names) (hl : t'.lasts = t.lasts) (hq : t'.queue = t.queue) (hc : t'.cutBytes = t.cutBytes) : RRep B w r t' g := by
  subst hC
  unfold RRep
  rw [hf, hn, hl, hq, hc]
  exact h

theorem trap_bit {a : Nat} (h : 0 < a) : ((a - 1 : Nat) : Int) = (a : Int) - 1 := by omega

set_option maxHeartbeats 1000000 in
theorem trap_zz {B : Nat} {w : World} {r : Nat} {t : RS} {g : RV} (h : RRep B w r t g) (_hB : B ≤ w.heap.size) (hc : t.cutLeft = 0) (hb' : t.brk = 0) (_bc : t.cutLeft ≤ 9223372036854775807) (_bb : t.brk ≤ 9223372036854775807) :
    Calls Tryz.prog 68 #[.pointer (some ⟨r, 0, none⟩)] w (fun e w' => e = .returned (.int .i64 t.trap.1) ∧ RRep B w' r t.trap.2 g ∧ MovesR B w w' ∧ w.grownBy w' (some r)) := by
  have hv : t.trap.1 = 0 := by
    show (if t.cutLeft = 1 then (1 : Int) else if t.brk = 1 then 2 else 0) = 0
    rw [if_neg (by omega), if_neg (by omega)]
  rw [hv]
  have c6 := h.cells 6
  have c9 := h.cells 9
  have f6 := h.frozen 6
  have f9 := h.frozen 9
  have HS := Lib.hid (fun (u1 u2 : Int) (h1 : u1 = ((t.cutLeft - 1 : Nat) : Int)) (h2 : u2 = ((t.brk - 1 : Nat) : Int)) => (rrep_eq (h) (t' := t.trap.2) (by simp [rC, RS.trap]; omega) rfl rfl rfl rfl rfl : RRep B w r t.trap.2 g))
  have HM := Lib.hid (fun (u1 u2 : Int) => (⟨MovesR.refl B w, grown_refl w (some r)⟩ : MovesR B w w ∧ w.grownBy w (some r)))
  simp only [rC] at c6 c9
  change w.cell? ⟨r, 6, none⟩ = some (.int .i64 t.cutLeft) at c6
  change w.cell? ⟨r, 9, none⟩ = some (.int .i64 t.brk) at c9
  obtain ⟨a, ha⟩ : ∃ a, t.cutLeft = a := ⟨_, rfl⟩
  obtain ⟨b, hb⟩ : ∃ b, t.brk = b := ⟨_, rfl⟩
  rw [ha] at c6 HS _bc hc
  rw [hb] at c9 HS _bb hb'
  clear h hv ha hb
  have q1 : ((a : Int) == 1) = false := by rw [beq_eq_false_iff_ne]; omega
  have q2 : ¬ (0 : Int) < (a : Int) := by omega
  have q3 : ((b : Int) == 1) = false := by rw [beq_eq_false_iff_ne]; omega
  have q4 : ¬ (0 : Int) < (b : Int) := by omega
  go_enter Tryz.func68, Tryz.ntmps68
  go_wp2
  go_ret
  exact ⟨rfl, HS.out ((a - 1 : Nat) : Int) ((b - 1 : Nat) : Int) (by omega) (by omega), HM.out 0 0⟩

set_option maxHeartbeats 1000000 in
theorem trap_zo {B : Nat} {w : World} {r : Nat} {t : RS} {g : RV} (h : RRep B w r t g) (_hB : B ≤ w.heap.size) (hc : t.cutLeft = 0) (hb' : t.brk = 1) (_bc : t.cutLeft ≤ 9223372036854775807) (_bb : t.brk ≤ 9223372036854775807) :
    Calls Tryz.prog 68 #[.pointer (some ⟨r, 0, none⟩)] w (fun e w' => e = .returned (.int .i64 t.trap.1) ∧ RRep B w' r t.trap.2 g ∧ MovesR B w w' ∧ w.grownBy w' (some r)) := by
  have hv : t.trap.1 = 2 := by
    show (if t.cutLeft = 1 then (1 : Int) else if t.brk = 1 then 2 else 0) = 2
    rw [if_neg (by omega), if_pos (by omega)]
  rw [hv]
  have c6 := h.cells 6
  have c9 := h.cells 9
  have f6 := h.frozen 6
  have f9 := h.frozen 9
  have HS := Lib.hid (fun (u1 u2 : Int) (h1 : u1 = ((t.cutLeft - 1 : Nat) : Int)) (h2 : u2 = ((t.brk - 1 : Nat) : Int)) => (rrep_eq ((h).set 9 (.int .i64 u2)) (t' := t.trap.2) (by simp [rC, RS.trap]; omega) rfl rfl rfl rfl rfl : RRep B (w.setCell ⟨r, 9, none⟩ (.int .i64 u2)) r t.trap.2 g))
  have HM := Lib.hid (fun (u1 u2 : Int) => (⟨(MovesR.refl B w).set (by first | exact _hB | (rw [setCell_size]; exact _hB)) (h) 9 _, grown_set (grown_refl w (some r)) 9 _⟩ : MovesR B w (w.setCell ⟨r, 9, none⟩ (.int .i64 u2)) ∧ w.grownBy (w.setCell ⟨r, 9, none⟩ (.int .i64 u2)) (some r)))
  simp only [rC] at c6 c9
  change w.cell? ⟨r, 6, none⟩ = some (.int .i64 t.cutLeft) at c6
  change w.cell? ⟨r, 9, none⟩ = some (.int .i64 t.brk) at c9
  obtain ⟨a, ha⟩ : ∃ a, t.cutLeft = a := ⟨_, rfl⟩
  obtain ⟨b, hb⟩ : ∃ b, t.brk = b := ⟨_, rfl⟩
  rw [ha] at c6 HS _bc hc
  rw [hb] at c9 HS _bb hb'
  clear h hv ha hb
  have q1 : ((a : Int) == 1) = false := by rw [beq_eq_false_iff_ne]; omega
  have q2 : ¬ (0 : Int) < (a : Int) := by omega
  have q3 : ((b : Int) == 1) = true := by rw [beq_iff_eq]; omega
  have q4 : (0 : Int) < (b : Int) := by omega
  go_enter Tryz.func68, Tryz.ntmps68
  go_wp2
  go_ret
  exact ⟨rfl, HS.out ((a - 1 : Nat) : Int) _ (by omega) (by omega), HM.out 0 _⟩

set_option maxHeartbeats 1000000 in
theorem trap_zm {B : Nat} {w : World} {r : Nat} {t : RS} {g : RV} (h : RRep B w r t g) (_hB : B ≤ w.heap.size) (hc : t.cutLeft = 0) (hb' : 1 < t.brk) (_bc : t.cutLeft ≤ 9223372036854775807) (_bb : t.brk ≤ 9223372036854775807) :
    Calls Tryz.prog 68 #[.pointer (some ⟨r, 0, none⟩)] w (fun e w' => e = .returned (.int .i64 t.trap.1) ∧ RRep B w' r t.trap.2 g ∧ MovesR B w w' ∧ w.grownBy w' (some r)) := by
  have hv : t.trap.1 = 0 := by
    show (if t.cutLeft = 1 then (1 : Int) else if t.brk = 1 then 2 else 0) = 0
    rw [if_neg (by omega), if_neg (by omega)]
  rw [hv]
  have c6 := h.cells 6
  have c9 := h.cells 9
  have f6 := h.frozen 6
  have f9 := h.frozen 9
  have HS := Lib.hid (fun (u1 u2 : Int) (h1 : u1 = ((t.cutLeft - 1 : Nat) : Int)) (h2 : u2 = ((t.brk - 1 : Nat) : Int)) => (rrep_eq ((h).set 9 (.int .i64 u2)) (t' := t.trap.2) (by simp [rC, RS.trap]; omega) rfl rfl rfl rfl rfl : RRep B (w.setCell ⟨r, 9, none⟩ (.int .i64 u2)) r t.trap.2 g))
  have HM := Lib.hid (fun (u1 u2 : Int) => (⟨(MovesR.refl B w).set (by first | exact _hB | (rw [setCell_size]; exact _hB)) (h) 9 _, grown_set (grown_refl w (some r)) 9 _⟩ : MovesR B w (w.setCell ⟨r, 9, none⟩ (.int .i64 u2)) ∧ w.grownBy (w.setCell ⟨r, 9, none⟩ (.int .i64 u2)) (some r)))
  simp only [rC] at c6 c9
  change w.cell? ⟨r, 6, none⟩ = some (.int .i64 t.cutLeft) at c6
  change w.cell? ⟨r, 9, none⟩ = some (.int .i64 t.brk) at c9
  obtain ⟨a, ha⟩ : ∃ a, t.cutLeft = a := ⟨_, rfl⟩
  obtain ⟨b, hb⟩ : ∃ b, t.brk = b := ⟨_, rfl⟩
  rw [ha] at c6 HS _bc hc
  rw [hb] at c9 HS _bb hb'
  clear h hv ha hb
  have q1 : ((a : Int) == 1) = false := by rw [beq_eq_false_iff_ne]; omega
  have q2 : ¬ (0 : Int) < (a : Int) := by omega
  have q3 : ((b : Int) == 1) = false := by rw [beq_eq_false_iff_ne]; omega
  have q4 : (0 : Int) < (b : Int) := by omega
  go_enter Tryz.func68, Tryz.ntmps68
  go_wp2
  go_ret
  exact ⟨rfl, HS.out ((a - 1 : Nat) : Int) _ (by omega) (by omega), HM.out 0 _⟩

set_option maxHeartbeats 1000000 in
theorem trap_oz {B : Nat} {w : World} {r : Nat} {t : RS} {g : RV} (h : RRep B w r t g) (_hB : B ≤ w.heap.size) (hc : t.cutLeft = 1) (hb' : t.brk = 0) (_bc : t.cutLeft ≤ 9223372036854775807) (_bb : t.brk ≤ 9223372036854775807) :
    Calls Tryz.prog 68 #[.pointer (some ⟨r, 0, none⟩)] w (fun e w' => e = .returned (.int .i64 t.trap.1) ∧ RRep B w' r t.trap.2 g ∧ MovesR B w w' ∧ w.grownBy w' (some r)) := by
  have hv : t.trap.1 = 1 := by
    show (if t.cutLeft = 1 then (1 : Int) else if t.brk = 1 then 2 else 0) = 1
    rw [if_pos (by omega)]
  rw [hv]
  have c6 := h.cells 6
  have c9 := h.cells 9
  have f6 := h.frozen 6
  have f9 := h.frozen 9
  have HS := Lib.hid (fun (u1 u2 : Int) (h1 : u1 = ((t.cutLeft - 1 : Nat) : Int)) (h2 : u2 = ((t.brk - 1 : Nat) : Int)) => (rrep_eq ((h).set 6 (.int .i64 u1)) (t' := t.trap.2) (by simp [rC, RS.trap]; omega) rfl rfl rfl rfl rfl : RRep B (w.setCell ⟨r, 6, none⟩ (.int .i64 u1)) r t.trap.2 g))
  have HM := Lib.hid (fun (u1 u2 : Int) => (⟨(MovesR.refl B w).set (by first | exact _hB | (rw [setCell_size]; exact _hB)) (h) 6 _, grown_set (grown_refl w (some r)) 6 _⟩ : MovesR B w (w.setCell ⟨r, 6, none⟩ (.int .i64 u1)) ∧ w.grownBy (w.setCell ⟨r, 6, none⟩ (.int .i64 u1)) (some r)))
  simp only [rC] at c6 c9
  change w.cell? ⟨r, 6, none⟩ = some (.int .i64 t.cutLeft) at c6
  change w.cell? ⟨r, 9, none⟩ = some (.int .i64 t.brk) at c9
  obtain ⟨a, ha⟩ : ∃ a, t.cutLeft = a := ⟨_, rfl⟩
  obtain ⟨b, hb⟩ : ∃ b, t.brk = b := ⟨_, rfl⟩
  rw [ha] at c6 HS _bc hc
  rw [hb] at c9 HS _bb hb'
  clear h hv ha hb
  have q1 : ((a : Int) == 1) = true := by rw [beq_iff_eq]; omega
  have q2 : (0 : Int) < (a : Int) := by omega
  have q3 : ((b : Int) == 1) = false := by rw [beq_eq_false_iff_ne]; omega
  have q4 : ¬ (0 : Int) < (b : Int) := by omega
  go_enter Tryz.func68, Tryz.ntmps68
  go_wp2
  go_ret
  exact ⟨rfl, HS.out _ ((b - 1 : Nat) : Int) (by omega) (by omega), HM.out _ 0⟩

set_option maxHeartbeats 1000000 in
theorem trap_oo {B : Nat} {w : World} {r : Nat} {t : RS} {g : RV} (h : RRep B w r t g) (_hB : B ≤ w.heap.size) (hc : t.cutLeft = 1) (hb' : t.brk = 1) (_bc : t.cutLeft ≤ 9223372036854775807) (_bb : t.brk ≤ 9223372036854775807) :
    Calls Tryz.prog 68 #[.pointer (some ⟨r, 0, none⟩)] w (fun e w' => e = .returned (.int .i64 t.trap.1) ∧ RRep B w' r t.trap.2 g ∧ MovesR B w w' ∧ w.grownBy w' (some r)) := by
  have hv : t.trap.1 = 1 := by
    show (if t.cutLeft = 1 then (1 : Int) else if t.brk = 1 then 2 else 0) = 1
    rw [if_pos (by omega)]
  rw [hv]
  have c6 := h.cells 6
  have c9 := h.cells 9
  have f6 := h.frozen 6
  have f9 := h.frozen 9
  have HS := Lib.hid (fun (u1 u2 : Int) (h1 : u1 = ((t.cutLeft - 1 : Nat) : Int)) (h2 : u2 = ((t.brk - 1 : Nat) : Int)) => (rrep_eq (((h).set 6 (.int .i64 u1)).set 9 (.int .i64 u2)) (t' := t.trap.2) (by simp [rC, RS.trap]; omega) rfl rfl rfl rfl rfl : RRep B ((w.setCell ⟨r, 6, none⟩ (.int .i64 u1)).setCell ⟨r, 9, none⟩ (.int .i64 u2)) r t.trap.2 g))
  have HM := Lib.hid (fun (u1 u2 : Int) => (⟨((MovesR.refl B w).set (by first | exact _hB | (rw [setCell_size]; exact _hB)) (h) 6 _).set (by first | exact _hB | (rw [setCell_size]; exact _hB)) ((h).set 6 (.int .i64 u1)) 9 _, grown_set (grown_set (grown_refl w (some r)) 6 _) 9 _⟩ : MovesR B w ((w.setCell ⟨r, 6, none⟩ (.int .i64 u1)).setCell ⟨r, 9, none⟩ (.int .i64 u2)) ∧ w.grownBy ((w.setCell ⟨r, 6, none⟩ (.int .i64 u1)).setCell ⟨r, 9, none⟩ (.int .i64 u2)) (some r)))
  simp only [rC] at c6 c9
  change w.cell? ⟨r, 6, none⟩ = some (.int .i64 t.cutLeft) at c6
  change w.cell? ⟨r, 9, none⟩ = some (.int .i64 t.brk) at c9
  obtain ⟨a, ha⟩ : ∃ a, t.cutLeft = a := ⟨_, rfl⟩
  obtain ⟨b, hb⟩ : ∃ b, t.brk = b := ⟨_, rfl⟩
  rw [ha] at c6 HS _bc hc
  rw [hb] at c9 HS _bb hb'
  clear h hv ha hb
  have q1 : ((a : Int) == 1) = true := by rw [beq_iff_eq]; omega
  have q2 : (0 : Int) < (a : Int) := by omega
  have q3 : ((b : Int) == 1) = true := by rw [beq_iff_eq]; omega
  have q4 : (0 : Int) < (b : Int) := by omega
  go_enter Tryz.func68, Tryz.ntmps68
  go_wp2
  go_ret
  exact ⟨rfl, HS.out _ _ (by omega) (by omega), HM.out _ _⟩

set_option maxHeartbeats 1000000 in
theorem trap_om {B : Nat} {w : World} {r : Nat} {t : RS} {g : RV} (h : RRep B w r t g) (_hB : B ≤ w.heap.size) (hc : t.cutLeft = 1) (hb' : 1 < t.brk) (_bc : t.cutLeft ≤ 9223372036854775807) (_bb : t.brk ≤ 9223372036854775807) :
    Calls Tryz.prog 68 #[.pointer (some ⟨r, 0, none⟩)] w (fun e w' => e = .returned (.int .i64 t.trap.1) ∧ RRep B w' r t.trap.2 g ∧ MovesR B w w' ∧ w.grownBy w' (some r)) := by
  have hv : t.trap.1 = 1 := by
    show (if t.cutLeft = 1 then (1 : Int) else if t.brk = 1 then 2 else 0) = 1
    rw [if_pos (by omega)]
  rw [hv]
  have c6 := h.cells 6
  have c9 := h.cells 9
  have f6 := h.frozen 6
  have f9 := h.frozen 9
  have HS := Lib.hid (fun (u1 u2 : Int) (h1 : u1 = ((t.cutLeft - 1 : Nat) : Int)) (h2 : u2 = ((t.brk - 1 : Nat) : Int)) => (rrep_eq (((h).set 6 (.int .i64 u1)).set 9 (.int .i64 u2)) (t' := t.trap.2) (by simp [rC, RS.trap]; omega) rfl rfl rfl rfl rfl : RRep B ((w.setCell ⟨r, 6, none⟩ (.int .i64 u1)).setCell ⟨r, 9, none⟩ (.int .i64 u2)) r t.trap.2 g))
  have HM := Lib.hid (fun (u1 u2 : Int) => (⟨((MovesR.refl B w).set (by first | exact _hB | (rw [setCell_size]; exact _hB)) (h) 6 _).set (by first | exact _hB | (rw [setCell_size]; exact _hB)) ((h).set 6 (.int .i64 u1)) 9 _, grown_set (grown_set (grown_refl w (some r)) 6 _) 9 _⟩ : MovesR B w ((w.setCell ⟨r, 6, none⟩ (.int .i64 u1)).setCell ⟨r, 9, none⟩ (.int .i64 u2)) ∧ w.grownBy ((w.setCell ⟨r, 6, none⟩ (.int .i64 u1)).setCell ⟨r, 9, none⟩ (.int .i64 u2)) (some r)))
  simp only [rC] at c6 c9
  change w.cell? ⟨r, 6, none⟩ = some (.int .i64 t.cutLeft) at c6
  change w.cell? ⟨r, 9, none⟩ = some (.int .i64 t.brk) at c9
  obtain ⟨a, ha⟩ : ∃ a, t.cutLeft = a := ⟨_, rfl⟩
  obtain ⟨b, hb⟩ : ∃ b, t.brk = b := ⟨_, rfl⟩
  rw [ha] at c6 HS _bc hc
  rw [hb] at c9 HS _bb hb'
  clear h hv ha hb
  have q1 : ((a : Int) == 1) = true := by rw [beq_iff_eq]; omega
  have q2 : (0 : Int) < (a : Int) := by omega
  have q3 : ((b : Int) == 1) = false := by rw [beq_eq_false_iff_ne]; omega
  have q4 : (0 : Int) < (b : Int) := by omega
  go_enter Tryz.func68, Tryz.ntmps68
  go_wp2
  go_ret
  exact ⟨rfl, HS.out _ _ (by omega) (by omega), HM.out _ _⟩

set_option maxHeartbeats 1000000 in
theorem trap_mz {B : Nat} {w : World} {r : Nat} {t : RS} {g : RV} (h : RRep B w r t g) (_hB : B ≤ w.heap.size) (hc : 1 < t.cutLeft) (hb' : t.brk = 0) (_bc : t.cutLeft ≤ 9223372036854775807) (_bb : t.brk ≤ 9223372036854775807) :
    Calls Tryz.prog 68 #[.pointer (some ⟨r, 0, none⟩)] w (fun e w' => e = .returned (.int .i64 t.trap.1) ∧ RRep B w' r t.trap.2 g ∧ MovesR B w w' ∧ w.grownBy w' (some r)) := by
  have hv : t.trap.1 = 0 := by
    show (if t.cutLeft = 1 then (1 : Int) else if t.brk = 1 then 2 else 0) = 0
    rw [if_neg (by omega), if_neg (by omega)]
  rw [hv]
  have c6 := h.cells 6
  have c9 := h.cells 9
  have f6 := h.frozen 6
  have f9 := h.frozen 9
  have HS := Lib.hid (fun (u1 u2 : Int) (h1 : u1 = ((t.cutLeft - 1 : Nat) : Int)) (h2 : u2 = ((t.brk - 1 : Nat) : Int)) => (rrep_eq ((h).set 6 (.int .i64 u1)) (t' := t.trap.2) (by simp [rC, RS.trap]; omega) rfl rfl rfl rfl rfl : RRep B (w.setCell ⟨r, 6, none⟩ (.int .i64 u1)) r t.trap.2 g))
  have HM := Lib.hid (fun (u1 u2 : Int) => (⟨(MovesR.refl B w).set (by first | exact _hB | (rw [setCell_size]; exact _hB)) (h) 6 _, grown_set (grown_refl w (some r)) 6 _⟩ : MovesR B w (w.setCell ⟨r, 6, none⟩ (.int .i64 u1)) ∧ w.grownBy (w.setCell ⟨r, 6, none⟩ (.int .i64 u1)) (some r)))
  simp only [rC] at c6 c9
  change w.cell? ⟨r, 6, none⟩ = some (.int .i64 t.cutLeft) at c6
  change w.cell? ⟨r, 9, none⟩ = some (.int .i64 t.brk) at c9
  obtain ⟨a, ha⟩ : ∃ a, t.cutLeft = a := ⟨_, rfl⟩
  obtain ⟨b, hb⟩ : ∃ b, t.brk = b := ⟨_, rfl⟩
  rw [ha] at c6 HS _bc hc
  rw [hb] at c9 HS _bb hb'
  clear h hv ha hb
  have q1 : ((a : Int) == 1) = false := by rw [beq_eq_false_iff_ne]; omega
  have q2 : (0 : Int) < (a : Int) := by omega
  have q3 : ((b : Int) == 1) = false := by rw [beq_eq_false_iff_ne]; omega
  have q4 : ¬ (0 : Int) < (b : Int) := by omega
  go_enter Tryz.func68, Tryz.ntmps68
  go_wp2
  go_ret
  exact ⟨rfl, HS.out _ ((b - 1 : Nat) : Int) (by omega) (by omega), HM.out _ 0⟩

set_option maxHeartbeats 1000000 in
theorem trap_mo {B : Nat} {w : World} {r : Nat} {t : RS} {g : RV} (h : RRep B w r t g) (_hB : B ≤ w.heap.size) (hc : 1 < t.cutLeft) (hb' : t.brk = 1) (_bc : t.cutLeft ≤ 9223372036854775807) (_bb : t.brk ≤ 9223372036854775807) :
    Calls Tryz.prog 68 #[.pointer (some ⟨r, 0, none⟩)] w (fun e w' => e = .returned (.int .i64 t.trap.1) ∧ RRep B w' r t.trap.2 g ∧ MovesR B w w' ∧ w.grownBy w' (some r)) := by
  have hv : t.trap.1 = 2 := by
    show (if t.cutLeft = 1 then (1 : Int) else if t.brk = 1 then 2 else 0) = 2
    rw [if_neg (by omega), if_pos (by omega)]
  rw [hv]
  have c6 := h.cells 6
  have c9 := h.cells 9
  have f6 := h.frozen 6
  have f9 := h.frozen 9
  have HS := Lib.hid (fun (u1 u2 : Int) (h1 : u1 = ((t.cutLeft - 1 : Nat) : Int)) (h2 : u2 = ((t.brk - 1 : Nat) : Int)) => (rrep_eq (((h).set 6 (.int .i64 u1)).set 9 (.int .i64 u2)) (t' := t.trap.2) (by simp [rC, RS.trap]; omega) rfl rfl rfl rfl rfl : RRep B ((w.setCell ⟨r, 6, none⟩ (.int .i64 u1)).setCell ⟨r, 9, none⟩ (.int .i64 u2)) r t.trap.2 g))
  have HM := Lib.hid (fun (u1 u2 : Int) => (⟨((MovesR.refl B w).set (by first | exact _hB | (rw [setCell_size]; exact _hB)) (h) 6 _).set (by first | exact _hB | (rw [setCell_size]; exact _hB)) ((h).set 6 (.int .i64 u1)) 9 _, grown_set (grown_set (grown_refl w (some r)) 6 _) 9 _⟩ : MovesR B w ((w.setCell ⟨r, 6, none⟩ (.int .i64 u1)).setCell ⟨r, 9, none⟩ (.int .i64 u2)) ∧ w.grownBy ((w.setCell ⟨r, 6, none⟩ (.int .i64 u1)).setCell ⟨r, 9, none⟩ (.int .i64 u2)) (some r)))
  simp only [rC] at c6 c9
  change w.cell? ⟨r, 6, none⟩ = some (.int .i64 t.cutLeft) at c6
  change w.cell? ⟨r, 9, none⟩ = some (.int .i64 t.brk) at c9
  obtain ⟨a, ha⟩ : ∃ a, t.cutLeft = a := ⟨_, rfl⟩
  obtain ⟨b, hb⟩ : ∃ b, t.brk = b := ⟨_, rfl⟩
  rw [ha] at c6 HS _bc hc
  rw [hb] at c9 HS _bb hb'
  clear h hv ha hb
  have q1 : ((a : Int) == 1) = false := by rw [beq_eq_false_iff_ne]; omega
  have q2 : (0 : Int) < (a : Int) := by omega
  have q3 : ((b : Int) == 1) = true := by rw [beq_iff_eq]; omega
  have q4 : (0 : Int) < (b : Int) := by omega
  go_enter Tryz.func68, Tryz.ntmps68
  go_wp2
  go_ret
  exact ⟨rfl, HS.out _ _ (by omega) (by omega), HM.out _ _⟩

set_option maxHeartbeats 1000000 in
theorem trap_mm {B : Nat} {w : World} {r : Nat} {t : RS} {g : RV} (h : RRep B w r t g) (_hB : B ≤ w.heap.size) (hc : 1 < t.cutLeft) (hb' : 1 < t.brk) (_bc : t.cutLeft ≤ 9223372036854775807) (_bb : t.brk ≤ 9223372036854775807) :
    Calls Tryz.prog 68 #[.pointer (some ⟨r, 0, none⟩)] w (fun e w' => e = .returned (.int .i64 t.trap.1) ∧ RRep B w' r t.trap.2 g ∧ MovesR B w w' ∧ w.grownBy w' (some r)) := by
  have hv : t.trap.1 = 0 := by
    show (if t.cutLeft = 1 then (1 : Int) else if t.brk = 1 then 2 else 0) = 0
    rw [if_neg (by omega), if_neg (by omega)]
  rw [hv]
  have c6 := h.cells 6
  have c9 := h.cells 9
  have f6 := h.frozen 6
  have f9 := h.frozen 9
  have HS := Lib.hid (fun (u1 u2 : Int) (h1 : u1 = ((t.cutLeft - 1 : Nat) : Int)) (h2 : u2 = ((t.brk - 1 : Nat) : Int)) => (rrep_eq (((h).set 6 (.int .i64 u1)).set 9 (.int .i64 u2)) (t' := t.trap.2) (by simp [rC, RS.trap]; omega) rfl rfl rfl rfl rfl : RRep B ((w.setCell ⟨r, 6, none⟩ (.int .i64 u1)).setCell ⟨r, 9, none⟩ (.int .i64 u2)) r t.trap.2 g))
  have HM := Lib.hid (fun (u1 u2 : Int) => (⟨((MovesR.refl B w).set (by first | exact _hB | (rw [setCell_size]; exact _hB)) (h) 6 _).set (by first | exact _hB | (rw [setCell_size]; exact _hB)) ((h).set 6 (.int .i64 u1)) 9 _, grown_set (grown_set (grown_refl w (some r)) 6 _) 9 _⟩ : MovesR B w ((w.setCell ⟨r, 6, none⟩ (.int .i64 u1)).setCell ⟨r, 9, none⟩ (.int .i64 u2)) ∧ w.grownBy ((w.setCell ⟨r, 6, none⟩ (.int .i64 u1)).setCell ⟨r, 9, none⟩ (.int .i64 u2)) (some r)))
  simp only [rC] at c6 c9
  change w.cell? ⟨r, 6, none⟩ = some (.int .i64 t.cutLeft) at c6
  change w.cell? ⟨r, 9, none⟩ = some (.int .i64 t.brk) at c9
  obtain ⟨a, ha⟩ : ∃ a, t.cutLeft = a := ⟨_, rfl⟩
  obtain ⟨b, hb⟩ : ∃ b, t.brk = b := ⟨_, rfl⟩
  rw [ha] at c6 HS _bc hc
  rw [hb] at c9 HS _bb hb'
  clear h hv ha hb
  have q1 : ((a : Int) == 1) = false := by rw [beq_eq_false_iff_ne]; omega
  have q2 : (0 : Int) < (a : Int) := by omega
  have q3 : ((b : Int) == 1) = false := by rw [beq_eq_false_iff_ne]; omega
  have q4 : (0 : Int) < (b : Int) := by omega
  go_enter Tryz.func68, Tryz.ntmps68
  go_wp2
  go_ret
  exact ⟨rfl, HS.out _ _ (by omega) (by omega), HM.out _ _⟩

theorem trap_any {B : Nat} {w : World} {r : Nat} {t : RS} {g : RV} (h : RRep B w r t g) (hB : B ≤ w.heap.size) (bc : t.cutLeft ≤ 9223372036854775807) (bb : t.brk ≤ 9223372036854775807) :
    Calls Tryz.prog 68 #[.pointer (some ⟨r, 0, none⟩)] w (fun e w' => e = .returned (.int .i64 t.trap.1) ∧ RRep B w' r t.trap.2 g ∧ MovesR B w w' ∧ w.grownBy w' (some r)) := by
  rcases (show t.cutLeft = 0 ∨ t.cutLeft = 1 ∨ 1 < t.cutLeft by omega) with hc | hc | hc
  · rcases (show t.brk = 0 ∨ t.brk = 1 ∨ 1 < t.brk by omega) with hb | hb | hb
    · exact trap_zz h hB hc hb bc bb
    · exact trap_zo h hB hc hb bc bb
    · exact trap_zm h hB hc hb bc bb
  · rcases (show t.brk = 0 ∨ t.brk = 1 ∨ 1 < t.brk by omega) with hb | hb | hb
    · exact trap_oz h hB hc hb bc bb
    · exact trap_oo h hB hc hb bc bb
    · exact trap_om h hB hc hb bc bb
  · rcases (show t.brk = 0 ∨ t.brk = 1 ∨ 1 < t.brk by omega) with hb | hb | hb
    · exact trap_mz h hB hc hb bc bb
    · exact trap_mo h hB hc hb bc bb
    · exact trap_mm h hB hc hb bc bb
end Go.Proofs.YtgknkldhjejjmaaGreatDoor

/- The reference's fields stored one by one; its rows opened. -/
namespace Go.Proofs.YtgknkldhjejjmaaGreatDoor
open Go.RowKit Go.Maps
open DM

theorem own_at {w : World} {B : Nat} {e : TypeId} {s : Nat} {v : Value} {n : Nat} {xs : List Value} (h : w.ownsRow B e s v n xs) : ∃ A c, v = .slice A n c ∧
    (0 < n → ∃ b, A = some ⟨b, 0, none⟩ ∧ B ≤ b ∧ b < w.heap.size ∧ (∀ j, j < n * s → w.cell? ⟨b, j, none⟩ = xs[j]?) ∧ (∀ j, w.frozen? ⟨b, j, none⟩ = false) ∧ ∃ c, w.heap[b]? = some (.cells c e (0, 0))) := by
  rcases h.2 with ⟨e, h0⟩ | ⟨b, c, cur, e, hb, hg, h1, h2, h3, h4⟩
  · exact ⟨none, 0, by rw [e, h0], fun hp => by omega⟩
  · refine ⟨_, c, e, fun _ => ⟨b, rfl, hb, (Array.getElem?_eq_some_iff.1 hg).1, fun j hj => ?_, fun j => frozen_of_row _ _ _ _ _ hg, _, hg⟩⟩
    rw [cell_of_row _ _ _ _ _ _ hg, ← h4, List.getElem?_take_of_lt hj, Array.getElem?_toList]

section
variable {B : Nat} {w w' : World} {r : Nat} {files : List F} {names lasts : RN} {queue : List RN} {cut : List Int} {g : RV} {C : Array Value}
theorem RHalf.own_set (h : RHalf B w r files names lasts queue cut g C) (j : Nat) (u : Value) {B' : Nat} {e : TypeId} {s : Nat} {v : Value} {n : Nat} {xs : List Value} (ho : w.ownsRow B' e s v n xs) (he : e ≠ 56) : (w.setCell ⟨r, j, none⟩ u).ownsRow B' e s v n xs :=
  own_keep ho (fun b c fr h1 => (Below.heap_setCell _ _ _ _ (fun e' => by
      have e' : b = r := e'
      subst e'
      rw [h.at_] at h1
      injection h1 with h1
      injection h1 with _ h1
      exact he h1.symm)).trans h1)
end

section
variable {B : Nat} {w w' : World} {r : Nat} {t : RS} {g : RV}
theorem RRep.below (h : RRep B w r t g) (hb : Below w.heap.size w w') : RRep B w' r t g := RHalf.below h hb
theorem RRep.drewN (h : RRep B w r t g) (n : Nat) : RRep B (w.drewN n) r t g := RHalf.drewN h n
theorem RRep.drew (h : RRep B w r t g) : RRep B w.drew r t g := RHalf.drew h
theorem RRep.setLasts (h : RRep B w r t g) {v : Value} {L : RN} (hv : Prs B w v L) : RRep B (w.setCell ⟨r, 3, none⟩ v) r { t with lasts := L } { g with lv := v } :=
  have hs := RHalf.set h 3 v
  ⟨⟨hs.body.frow, hs.body.nrow, RHalf.own_set h 3 v hv (by decide), hs.body.qrow, hs.body.ents, hs.body.crow⟩, hs.at_, hs.le⟩
theorem RRep.setNames (h : RRep B w r t g) {v : Value} {L : RN} (hv : Prs B w v L) : RRep B (w.setCell ⟨r, 2, none⟩ v) r { t with names := L } { g with nv := v } :=
  have hs := RHalf.set h 2 v
  ⟨⟨hs.body.frow, RHalf.own_set h 2 v hv (by decide), hs.body.lrow, hs.body.qrow, hs.body.ents, hs.body.crow⟩, hs.at_, hs.le⟩
theorem RRep.noQueue (h : RRep B w r t g) : RRep B (w.setCell ⟨r, 4, none⟩ (.slice none 0 0)) r { t with queue := [] } { g with qv := .slice none 0 0, qs := [] } :=
  have hs := RHalf.set h 4 (.slice none 0 0)
  ⟨⟨hs.body.frow, hs.body.nrow, hs.body.lrow, World.ownsRow_nil _ _ _ _, fun i hi => by simp at hi, hs.body.crow⟩, hs.at_, hs.le⟩
theorem RRep.setFiles (h : RRep B w r t g) {v : Value} {L : List F} (hv : w.ownsRow B 90 2 v L.length (fC L)) : RRep B (w.setCell ⟨r, 1, none⟩ v) r { t with files := L } { g with fv := v } :=
  have hs := RHalf.set h 1 v
  ⟨⟨RHalf.own_set h 1 v hv (by decide), hs.body.nrow, hs.body.lrow, hs.body.qrow, hs.body.ents, hs.body.crow⟩, hs.at_, hs.le⟩
theorem RRep.setOff (h : RRep B w r t g) (b : Bool) : RRep B (w.setCell ⟨r, 5, none⟩ (.bool b)) r { t with off := b } g :=
  have hs := RHalf.set h 5 (.bool b)
  ⟨hs.body, hs.at_, hs.le⟩
theorem RRep.setCut (h : RRep B w r t g) (n : Nat) (u : Int) (hu : u = n) : RRep B (w.setCell ⟨r, 6, none⟩ (.int .i64 u)) r { t with cutLeft := n } g := by
  subst hu
  have hs := RHalf.set h 6 (.int .i64 n)
  exact ⟨hs.body, hs.at_, hs.le⟩
theorem RRep.setBrk (h : RRep B w r t g) (n : Nat) (u : Int) (hu : u = n) : RRep B (w.setCell ⟨r, 9, none⟩ (.int .i64 u)) r { t with brk := n } g := by
  subst hu
  have hs := RHalf.set h 9 (.int .i64 n)
  exact ⟨hs.body, hs.at_, hs.le⟩
theorem RRep.setCutNames (h : RRep B w r t g) (n : Int) : RRep B (w.setCell ⟨r, 7, none⟩ (.int .i64 n)) r { t with cutNames := n } g := by
  have hs := RHalf.set h 7 (.int .i64 n)
  exact ⟨hs.body, hs.at_, hs.le⟩
theorem RRep.setCutBytes (h : RRep B w r t g) {v : Value} {l : List Int} (hv : w.ownsRow B 3 1 v l.length (l.map (Value.int .i64))) : RRep B (w.setCell ⟨r, 8, none⟩ v) r { t with cutBytes := l } { g with cv := v } :=
  have hs := RHalf.set h 8 v
  ⟨⟨hs.body.frow, hs.body.nrow, hs.body.lrow, hs.body.qrow, hs.body.ents, RHalf.own_set h 8 v hv (by decide)⟩, hs.at_, hs.le⟩
end

/-- what the numbers are bounded by -/
structure RFew (t : RS) : Prop where
  pre : ∀ j, j ≤ t.queue.length → (rpre t.lasts t.queue j).length ≤ 4096
  ents : ∀ x ∈ t.queue, x.length ≤ 2
  queue : t.queue.length < 1000000000
  files : t.files.length < 1000000000
  file : ∀ f ∈ t.files, f.sync ≤ f.data.length ∧ f.data.length ≤ 1048576
  names : t.names.length ≤ 4096
  nfile : ∀ p ∈ t.names, 0 ≤ p.2 ∧ p.2 < t.files.length

theorem rpre_step {l : RN} {q : List RN} {j : Nat} (h : j < q.length) : rpre l q (j + 1) = rall (rpre l q j) q[j] := by
  unfold rpre
  rw [List.take_succ_eq_append_getElem h, List.foldl_append]
  rfl
end Go.Proofs.YtgknkldhjejjmaaGreatDoor

/- The reference's files, changed in their place; its names grown in their place. -/
namespace Go.Proofs.YtgknkldhjejjmaaGreatDoor
open Go.RowKit Go.Maps
open DM

theorem own_setCell {w : World} {B : Nat} {e : TypeId} {s b n c : Nat} {xs : List Value} (h : w.ownsRow B e s (.slice (some ⟨b, 0, none⟩) n c) n xs) (j : Nat) (u : Value) : (w.setCell ⟨b, j, none⟩ u).ownsRow B e s (.slice (some ⟨b, 0, none⟩) n c) n (xs.set j u) := by
  refine ⟨by rw [List.length_set]; exact h.1, ?_⟩
  rcases h.2 with ⟨h1, _⟩ | ⟨g, cap, cur, h1, h2, h3, h4, h5, h6, h7⟩
  · cases h1
  · cases h1
    refine .inr ⟨b, c, cur.setIfInBounds j u, rfl, h2, heap_set_fr h3 j u, h4, h5, by simpa using h6, ?_⟩
    rw [← h7, Array.toList_setIfInBounds, List.take_set]

theorem fC_at : ∀ (l : List F) (i : Nat) (h : i < l.length), (fC l)[i * 2]? = some (encS l[i].data) ∧ (fC l)[i * 2 + 1]? = some (.int .i64 l[i].sync)
  | p :: r, 0, _ => ⟨rfl, rfl⟩
  | p :: r, i + 1, h => by
    have := fC_at r i (by simpa using h)
    have e1 : (i + 1) * 2 = i * 2 + 1 + 1 := by omega
    have e2 : (i + 1) * 2 + 1 = i * 2 + 1 + 1 + 1 := by omega
    rw [e1]
    show (encS p.data :: Value.int .i64 p.sync :: fC r)[i * 2 + 1 + 1]? = _ ∧ (encS p.data :: Value.int .i64 p.sync :: fC r)[i * 2 + 1 + 1 + 1]? = _
    simpa using this

theorem fC_set : ∀ (l : List F) (i : Nat) (f : F), i < l.length → fC (l.set i f) = ((fC l).set (i * 2) (encS f.data)).set (i * 2 + 1) (.int .i64 f.sync)
  | p :: r, 0, f, _ => rfl
  | p :: r, i + 1, f, h => by
    have ih := fC_set r i f (by simpa using h)
    have e1 : (i + 1) * 2 = i * 2 + 1 + 1 := by omega
    have e2 : (i + 1) * 2 + 1 = i * 2 + 1 + 1 + 1 := by omega
    rw [e1]
    show [encS p.data, Value.int .i64 p.sync] ++ fC (r.set i f) = ((encS p.data :: Value.int .i64 p.sync :: fC r).set (i * 2 + 1 + 1) (encS f.data)).set (i * 2 + 1 + 1 + 1) (.int .i64 f.sync)
    rw [ih]
    rfl

theorem lset_same {α : Type} {l : List α} {j : Nat} {u : α} (h : l[j]? = some u) : l.set j u = l := by
  obtain ⟨hj, rfl⟩ := List.getElem?_eq_some_iff.1 h
  exact List.set_getElem_self hj

theorem fC_data (l : List F) (i : Nat) (h : i < l.length) (d : Bs) : fC (l.set i ⟨d, l[i].sync⟩) = (fC l).set (i * 2) (encS d) := by
  rw [fC_set l i _ h]
  exact lset_same ((List.getElem?_set_ne (show i * 2 ≠ i * 2 + 1 by omega)).trans (fC_at l i h).2)
theorem fC_sync (l : List F) (i : Nat) (h : i < l.length) (n : Nat) : fC (l.set i ⟨l[i].data, n⟩) = (fC l).set (i * 2 + 1) (.int .i64 n) := by
  rw [fC_set l i _ h]
  rw [show (⟨l[i].data, n⟩ : F).data = l[i].data from rfl, lset_same (fC_at l i h).1]

section
variable {B : Nat} {w w' : World} {r : Nat} {t : RS} {g : RV}
/-- a cell of the files' row is stored -/
theorem RRep.fileCell (h : RRep B w r t g) {b n c : Nat} (hfv : g.fv = .slice (some ⟨b, 0, none⟩) n c) (j : Nat) (u : Value) {L : List F} (hL : fC L = (fC t.files).set j u) (hlen : L.length = t.files.length) : RRep B (w.setCell ⟨b, j, none⟩ u) r { t with files := L } g := by
  have hfr := h.body.frow
  rw [hfv] at hfr
  have hn : n = t.files.length := by
    rcases hfr.2 with ⟨h1, _⟩ | ⟨_, _, _, h1, _⟩
    · cases h1
    · injection h1
  obtain ⟨cur, hcur⟩ : ∃ cur, w.heap[b]? = some (.cells cur 90 (0, 0)) := by
    rcases hfr.2 with ⟨h1, _⟩ | ⟨_, _, cur, h1, _, h3, _⟩
    · cases h1
    · cases h1; exact ⟨cur, h3⟩
  have hk : ∀ (x : Nat) (cs : Array Value) (ty : TypeId) (fr : Nat × Nat), w.heap[x]? = some (.cells cs ty fr) → ty ≠ 90 → (w.setCell ⟨b, j, none⟩ u).heap[x]? = some (.cells cs ty fr) := fun x cs ty fr hx hne =>
    (Below.heap_setCell _ _ _ _ (fun e => by
      have e' : x = b := e
      subst e'
      rw [hcur] at hx
      injection hx with hx
      injection hx with _ hx
      exact hne hx.symm)).trans hx
  have hnew : (w.setCell ⟨b, j, none⟩ u).ownsRow B 90 2 g.fv L.length (fC L) := by
    rw [hL, hlen, hfv, ← hn]
    rw [← hn] at hfr
    exact own_setCell hfr j u
  exact ⟨⟨hnew, own_keep h.body.nrow (fun x cs fr hx => hk x cs _ fr hx (by decide)), own_keep h.body.lrow (fun x cs fr hx => hk x cs _ fr hx (by decide)), own_keep h.body.qrow (fun x cs fr hx => hk x cs _ fr hx (by decide)), fun i hi => by
      obtain ⟨v, h1, h2⟩ := h.body.ents i hi
      exact ⟨v, h1, own_keep h2 (fun x cs fr hx => hk x cs _ fr hx (by decide))⟩, own_keep h.body.crow (fun x cs fr hx => hk x cs _ fr hx (by decide))⟩, hk _ _ _ _ h.at_ (by decide), h.le⟩

theorem RRep.fileKin (h : RRep B w r t g) {b n c : Nat} (hfv : g.fv = .slice (some ⟨b, 0, none⟩) n c) : KinR w b ∧ B ≤ b := by
  have hfr := h.body.frow
  rw [hfv] at hfr
  rcases hfr.2 with ⟨h1, _⟩ | ⟨_, _, cur, h1, h2, h3, _⟩
  · cases h1
  · cases h1; exact ⟨kinR_cells h3 (by decide), h2⟩

theorem heap_kin (h : RRep B w r t g) {b n c : Nat} (hfv : g.fv = .slice (some ⟨b, 0, none⟩) n c) : ∃ cur, w.heap[b]? = some (.cells cur 90 (0, 0)) := by
  have hfr := h.body.frow
  rw [hfv] at hfr
  rcases hfr.2 with ⟨h1, _⟩ | ⟨_, _, cur, h1, h2, h3, _⟩
  · cases h1
  · cases h1; exact ⟨cur, h3⟩

/-- both cells of a file are stored -/
theorem RRep.fileBoth (h : RRep B w r t g) {b n c : Nat} (hfv : g.fv = .slice (some ⟨b, 0, none⟩) n c) (i : Nat) (hi : i < t.files.length) (f : F) : RRep B ((w.setCell ⟨b, i * 2, none⟩ (encS f.data)).setCell ⟨b, i * 2 + 1, none⟩ (.int .i64 f.sync)) r { t with files := t.files.set i f } g := by
  have h1 := h.fileCell hfv (i * 2) (encS f.data) (fC_data t.files i hi f.data) (by simp)
  have hi1 : i < (t.files.set i ⟨f.data, t.files[i].sync⟩).length := by simpa using hi
  have h2 := h1.fileCell (L := t.files.set i f) hfv (i * 2 + 1) (.int .i64 f.sync) (by
    have := fC_sync (t.files.set i ⟨f.data, t.files[i].sync⟩) i hi1 f.sync
    simp only [List.getElem_set_self, List.set_set] at this
    exact this) (by simp)
  exact h2

theorem RRep.kinGrown (h : RRep B w r t g) {row : Option Nat} (hg : w.grownBy w' row) (hne : some r ≠ row) : KinR w' r := kinR_cells ((hg.block r h.lt hne).trans h.at_) (by decide)

/-- the files of which the first j have lost -/
def mx (l : List Int) (fs : List F) (j : Nat) : List F := (fs.mapIdx (loseF l)).take j ++ fs.drop j
theorem mx_len (l : List Int) (fs : List F) (j : Nat) (h : j ≤ fs.length) : (mx l fs j).length = fs.length := by
  unfold mx; rw [List.length_append, List.length_take, List.length_drop, List.length_mapIdx]; omega
theorem mx_at (l : List Int) (fs : List F) (j : Nat) (h : j < fs.length) : (mx l fs j)[j]? = some fs[j] := by
  unfold mx
  rw [List.getElem?_append_right (by rw [List.length_take]; omega), List.length_take, List.length_mapIdx, List.getElem?_drop]
  rw [show j + (j - min j fs.length) = j by omega]
  exact List.getElem?_eq_getElem h
theorem mx_step (l : List Int) (fs : List F) (j : Nat) (h : j < fs.length) : mx l fs (j + 1) = (mx l fs j).set j (loseF l j fs[j]) := by
  have hl : j < (fs.mapIdx (loseF l)).length := by simpa using h
  unfold mx
  rw [List.take_succ_eq_append_getElem hl, List.getElem_mapIdx, List.set_append_right _ _ (by rw [List.length_take]; omega), List.length_take, List.length_mapIdx]
  rw [show j - min j fs.length = 0 by omega, List.drop_eq_getElem_cons h, List.set_cons_zero, List.append_assoc]
  rfl
theorem mx_zero (l : List Int) (fs : List F) : mx l fs 0 = fs := by simp [mx]
theorem mx_end (l : List Int) (fs : List F) : mx l fs fs.length = fs.mapIdx (loseF l) := by
  unfold mx
  rw [List.drop_eq_nil_of_le (Nat.le_refl _), List.append_nil, List.take_of_length_le (by simp)]

theorem s_head (W : World) (s : ByteArray) (b : Nat) (h : b ≤ s.size) :
    (Instr.slice 9 (.string s) none (some (.int .i64 (b : Int))) none).run Tryz.prog W = .ok (.string (s.extract 0 b)) W := by
  have i1 : (0 : Int) ≤ (b : Int) := by omega
  have i4 : (b : Int) ≤ (s.size : Int) := by omega
  simp [Instr.slice, run_underlying Tryz.underlying9, Instr.sliceBounds, run_sliceBound, i1, i4]

/-- the names' row has grown -/
theorem RRep.growNames (h : RRep B w r t g) (hq : t.queue = []) (hg : w.grownBy w' g.nv.ownBlock) (hl : g.lv.ownBlock = none ∨ g.lv.ownBlock ≠ g.nv.ownBlock) {v : Value} {L : RN} (hv : Prs B w' v L) : RRep B (w'.setCell ⟨r, 2, none⟩ v) r { t with names := L } { g with nv := v } := by
  have hk : ∀ (x : Nat) (cs : Array Value) (ty : TypeId) (fr : Nat × Nat), w.heap[x]? = some (.cells cs ty fr) → ty ≠ 88 → w'.heap[x]? = some (.cells cs ty fr) := fun x cs ty fr hx hne =>
    (hg.block x (Array.getElem?_eq_some_iff.1 hx).1 (fun e => by
      rcases h.body.nrow.2 with ⟨h1, _⟩ | ⟨_, _, cur, h1, _, h3, _⟩
      · rw [h1] at e; cases e
      · rw [h1] at e
        have e' : x = _ := Option.some.inj e
        subst e'
        rw [h3] at hx
        injection hx with hx
        injection hx with _ hx
        exact hne hx.symm)).trans hx
  have hbody : RBody B w' t.files L t.lasts t.queue t.cutBytes { g with nv := v } :=
    ⟨own_keep h.body.frow (fun x cs fr hx => hk x cs _ fr hx (by decide)), hv, h.body.lrow.kept hg hl, own_keep h.body.qrow (fun x cs fr hx => hk x cs _ fr hx (by decide)), fun i hi => by rw [hq] at hi; simp at hi, own_keep h.body.crow (fun x cs fr hx => hk x cs _ fr hx (by decide))⟩
  have hh : RHalf B w' r t.files L t.lasts t.queue t.cutBytes { g with nv := v } (rC t g) := ⟨hbody, hk _ _ _ _ h.at_ (by decide), h.le⟩
  have hs := hh.set 2 v
  exact ⟨hs.body, hs.at_, hs.le⟩
end
end Go.Proofs.YtgknkldhjejjmaaGreatDoor

/- The reference: Fail. -/
namespace Go.Proofs.YtgknkldhjejjmaaGreatDoor
open Go.RowKit Go.Maps
open DM

set_option maxRecDepth 100000 in
set_option maxHeartbeats 4000000 in
theorem rfail_any {B : Nat} {w : World} {r : Nat} {t : RS} {g : RV} (h : RRep B w r t g) (hB : B ≤ w.heap.size) (few : RFew t) (names : Int) (hn : fits names) (bv : Value) (l : List Int) (hb : w.ownsRow B 3 1 bv l.length (l.map (Value.int .i64))) (hl : l.length ≤ 140737488355328) (hfit : ∀ x ∈ l, fits x) :
    Calls Tryz.prog 45 #[.pointer (some ⟨r, 0, none⟩), .int .i64 names, bv] w (RVoid B w r (t.fail names l)) := by
  obtain ⟨QA, qc, hqv, -⟩ := own_at h.body.qrow
  obtain ⟨BA, bc, rfl, -⟩ := own_at hb
  obtain ⟨q, hq⟩ : ∃ q, t.queue.length = q := ⟨_, rfl⟩
  have hqf := few.queue
  have hk := rest_lt names (b := t.queue.length + 1) (by omega)
  obtain ⟨k, hkk⟩ : ∃ k, rest names (t.queue.length + 1) = k := ⟨_, rfl⟩
  have HREM : Hid (∀ W, Calls Tryz.prog 80 #[.int .i64 names, .int .i64 ((t.queue.length : Int) + 1)] W fun e w' => e = .returned (.int .i64 k) ∧ W = w') := Lib.hid fun W => by
    rw [← hkk]
    have := rrest_any names (t.queue.length + 1) W hn (by omega) (by omega)
    rwa [show ((t.queue.length + 1 : Nat) : Int) = (t.queue.length : Int) + 1 by omega] at this
  have c4 := RHalf.cells h 4
  simp only [rC] at c4
  change w.cell? ⟨r, 4, none⟩ = some g.qv at c4
  rw [hqv] at c4
  have H := Lib.hid h
  have FEW := Lib.hid few
  have HQ := Lib.hid hq
  have HKK := Lib.hid hkk
  have HBV := Lib.hid hb
  have HQV := Lib.hid hqv
  rw [hq] at HREM c4 hqf
  rw [hkk, hq] at hk
  clear h few hqv hb hn hq hkk
  go_enter Tryz.func45, Tryz.ntmps45
  go_wp2_with fail
  refine (HREM.out _).mono ?_
  rintro e w0 ⟨rfl, rfl⟩
  clear HREM c4
  go_wp2_with fail
  go_loopw [7] (fun i wr => ∃ (j : Nat) (v : Value), j ≤ k ∧ i = .int .i64 j ∧ RRep B wr r { t with lasts := rpre t.lasts t.queue j } { g with lv := v } ∧ MovesR B w wr) (fun i _ => k - (intOf i).toNat)
  case atStart => exact ⟨0, g.lv, by omega, rfl, H.out, MovesR.refl _ _⟩
  case round =>
    obtain ⟨j, v, hj, rfl, hr, hm⟩ := hrel
    have HR := Lib.hid hr
    have HM := Lib.hid hm
    have hBw : B ≤ wr.heap.size := Nat.le_trans hB hm.size
    clear hr hm
    by_cases hlt : j < k
    · have hjq : j < t.queue.length := by rw [HQ.out]; omega
      have c3 : wr.cell? ⟨r, 3, none⟩ = some v := RHalf.cells HR.out 3
      have f3 := RHalf.frozen HR.out 3
      have c4 : wr.cell? ⟨r, 4, none⟩ = some g.qv := RHalf.cells HR.out 4
      obtain ⟨QA', qc', hqv', hqe⟩ := own_at HR.out.body.qrow
      obtain ⟨ve, hve, hpe⟩ := HR.out.body.ents j hjq
      simp only at hqv' hqe hve hpe
      obtain ⟨b, rfl, hbB, hbw, hbc, -⟩ := hqe (by omega)
      have ce : wr.cell? ⟨b, j, none⟩ = some ve := (hbc j (by omega)).trans hve
      rw [hqv', HQ.out] at c4
      have hlen := FEW.out.pre j (by omega)
      have hx2 := FEW.out.ents _ (List.getElem_mem hjq)
      have hst := rpre_step (l := t.lasts) hjq
      obtain ⟨x, hx⟩ : ∃ x, t.queue[j] = x := ⟨_, rfl⟩
      rw [hx] at hx2 hst hpe
      obtain ⟨L, hL⟩ : ∃ L, rpre t.lasts t.queue j = L := ⟨_, rfl⟩
      rw [hL] at HR hlen hst
      have HAL : Hid (∀ W, Prs B W v L → Prs B W ve x → B ≤ W.heap.size → Calls Tryz.prog 81 #[v, .agg #[ve]] W fun e w' => ∃ A' n' c', e = .returned (.slice A' n' c') ∧ Prs B w' (.slice A' n' c') (rpre t.lasts t.queue (j + 1)) ∧ Below W.heap.size W w') := Lib.hid fun W h1 h2 h3 => by
        rw [hst]
        refine (rall_any v ve L x W h1 h2 h3 (by omega)).mono ?_
        rintro e w' ⟨v', rfl, h4, h5⟩
        obtain ⟨A', c', rfl, -⟩ := own_at h4
        exact ⟨_, _, _, rfl, h4, h5⟩
      have HP1 : Hid (Prs B wr v L) := HR.out.body.lrow
      have HP2 := Lib.hid hpe
      have hrl := RHalf.lt HR.out
      have HRL := Lib.hid hrl
      have g0 : (0 : Int) ≤ (j : Int) := by omega
      have g1 : (j : Int) < (q : Int) := by omega
      clear hqv' hqe hve hpe hbc hlen hx2 hst hx hL hrl
      go_wp2_with fail
      have HALD := Lib.hid (HAL.out wr.drew HP1.out HP2.out hBw)
      clear HAL
      go_region_with (
        go_at_call 81
        refine HALD.out.mono ?_
        rintro e w2 ⟨A', n', c', rfl, hrow, hB2⟩
        have z3 : w2.cell? ⟨r, 3, none⟩ = some v := (hB2.cell (p := ⟨r, 3, none⟩) HRL.out).trans c3
        have zf : w2.frozen? ⟨r, 3, none⟩ = false := (hB2.frozen (p := ⟨r, 3, none⟩) HRL.out).trans f3
        have HROW := Lib.hid hrow
        have HB2 := Lib.hid hB2
        clear hrow hB2)
      all_goals
        have HRR : Hid (RRep B (w2.setCell ⟨r, 3, none⟩ (.slice A' n' c')) r { t with lasts := rpre t.lasts t.queue (j + 1) } { g with lv := .slice A' n' c' }) :=
          Lib.hid (RRep.setLasts (RRep.below (RRep.drew HR.out) HB2.out) HROW.out)
        have HMM : Hid (MovesR B w (w2.setCell ⟨r, 3, none⟩ (.slice A' n' c'))) :=
          Lib.hid ((HM.out.drew.of_below HB2.out hBw).set (Nat.le_trans hBw HB2.out.size) (RRep.below (RRep.drew HR.out) HB2.out) 3 _)
        clear HR HM HROW HB2 HALD c3 f3 c4 ce z3 zf
        go_wp2
        go_roundw
        case rel => exact ⟨j + 1, _, by omega, by go_num, HRR.out, HMM.out⟩
        case measure => simp [intOf]; omega
    · have hjk : j = k := by omega
      subst hjk
      have HLL : Hid (rpre t.lasts t.queue j = (t.fail names l).lasts) := by
        unfold RS.fail
        rw [HKK.out]
        exact Lib.hid rfl
      have hL4 := FEW.out.pre j (by rw [HQ.out]; omega)
      obtain ⟨L, hL⟩ : ∃ L, rpre t.lasts t.queue j = L := ⟨_, rfl⟩
      rw [hL] at HR HLL hL4
      clear hL
      have c4 : wr.cell? ⟨r, 4, none⟩ = some g.qv := RHalf.cells HR.out 4
      have f4 := RHalf.frozen HR.out 4
      have c2 : wr.cell? ⟨r, 2, none⟩ = some g.nv := RHalf.cells HR.out 2
      have f2 := RHalf.frozen HR.out 2
      have HRR : Hid (RRep B ((wr.setCell ⟨r, 4, none⟩ (.slice none 0 0)).setCell ⟨r, 2, none⟩ (.slice none 0 0)) r { t with lasts := L, queue := [], names := [] } { g with lv := v, qv := .slice none 0 0, qs := [], nv := .slice none 0 0 }) :=
        Lib.hid (RRep.setNames (RRep.noQueue HR.out) (World.ownsRow_nil _ _ _ _))
      have HMM : Hid (MovesR B w ((wr.setCell ⟨r, 4, none⟩ (.slice none 0 0)).setCell ⟨r, 2, none⟩ (.slice none 0 0))) :=
        Lib.hid ((HM.out.set hBw HR.out 4 _).set (by rw [setCell_size]; exact hBw) (RRep.noQueue HR.out) 2 _)
      go_wp2_with fail
      generalize (wr.setCell ⟨r, 4, none⟩ (.slice none 0 0)).setCell ⟨r, 2, none⟩ (.slice none 0 0) = W2 at HRR HMM ⊢
      clear HR HM c4 f4 c2 f2 hBw
      have hBW : B ≤ W2.heap.size := Nat.le_trans hB HMM.out.size
      obtain ⟨LA, lc, hlv, hlz⟩ := Prs.slice HRR.out.body.lrow
      simp only at hlv hlz
      have hlb : v.ownBlock = none ∨ ∃ x, v.ownBlock = some x ∧ x < W2.heap.size := by
        cases hx : v.ownBlock with
        | none => exact .inl rfl
        | some x => exact .inr ⟨x, rfl, (World.ownsRow.lt HRR.out.body.lrow x hx).2⟩
      have HLB := Lib.hid hlb
      have HRW : Hid (r < W2.heap.size) := Lib.hid (RHalf.lt HRR.out)
      have HWW : Hid (w.heap.size ≤ W2.heap.size) := Lib.hid HMM.out.size
      clear hlz hlb
      subst hlv
      obtain ⟨m, hm⟩ : ∃ m, L.length = m := ⟨_, rfl⟩
      have HMm := Lib.hid hm
      have START : Hid (W2.ownsRow W2.heap.size 88 2 (.slice none 0 0) (L.take 0).length (pc (L.take 0))) := Lib.hid (World.ownsRow_nil _ _ _ _)
      obtain ⟨i0, hi, hz0, hz1, hz2⟩ := info_parts info_name
      go_loopw [8] (fun i wr => ∃ (j : Nat) (nv : Value), j ≤ m ∧ i = .int .i64 j ∧ RRep B wr r { t with lasts := L, queue := [], names := L.take j } { g with lv := .slice LA L.length lc, qv := .slice none 0 0, qs := [], nv := nv } ∧ wr.ownsRow W2.heap.size 88 2 nv (L.take j).length (pc (L.take j)) ∧ W2.heap.size ≤ wr.heap.size ∧ MovesR B w wr) (fun i _ => m - (intOf i).toNat)
      case atStart => exact ⟨0, _, by omega, rfl, HRR.out, START.out, Nat.le_refl _, HMM.out⟩
      case round =>
        obtain ⟨i, nv, hij, rfl, hr, hown, hsz, hmv⟩ := hrel
        have HR := Lib.hid hr
        have HM := Lib.hid hmv
        have HOWN := Lib.hid hown
        have hBw : B ≤ wr.heap.size := Nat.le_trans hB hmv.size
        clear hr hmv hown START HRR HMM
        have c3 : wr.cell? ⟨r, 3, none⟩ = some (.slice LA m lc) := by
          have := RHalf.cells HR.out 3
          rw [← hm]; exact this
        by_cases hlt : i < m
        · have hil : i < L.length := by rw [HMm.out]; exact hlt
          obtain ⟨A2, cc, e2, hz⟩ := Prs.slice HR.out.body.lrow
          simp only at e2 hz
          injection e2 with e2 _ _
          obtain ⟨b, hA, hbB, hbw, hc⟩ := hz (by omega)
          rw [hA] at e2
          obtain ⟨z1, z2⟩ := hc wr rfl i hil
          have htk : L.take (i + 1) = L.take i ++ [L[i]] := List.take_succ_eq_append_getElem hil
          have hXl : (L.take i).length = i := by rw [List.length_take]; omega
          obtain ⟨p, hp⟩ : ∃ p, L[i] = p := ⟨_, rfl⟩
          rw [hp] at z1 z2 htk
          obtain ⟨X, hX⟩ : ∃ X, L.take i = X := ⟨_, rfl⟩
          rw [hX] at HR HOWN htk hXl
          obtain ⟨tt, ht, htl⟩ : ∃ t : ByteArray, encS p.1 = .string t ∧ t.data.toList = p.1 := ⟨⟨p.1.toArray⟩, rfl, by simp⟩
          rw [ht] at z1
          have HT := Lib.hid ht
          have HTK := Lib.hid htk
          have HXL := Lib.hid hXl
          have hXm : X.length ≤ 4096 := by omega
          subst e2
          have g0 : (0 : Int) ≤ (i : Int) := by omega
          have g1 : (i : Int) < (m : Int) := by omega
          have c2 : wr.cell? ⟨r, 2, none⟩ = some nv := RHalf.cells HR.out 2
          have f2 := RHalf.frozen HR.out 2
          have hrl := RHalf.lt HR.out
          have HRL := Lib.hid hrl
          have hdq : some r ≠ nv.ownBlock := fun he => by
            have := (World.ownsRow.lt HOWN.out r he.symm).1
            have := HRW.out
            omega
          have HDQ := Lib.hid hdq
          have h1c : ∀ u ∈ [Value.string tt, .int .i64 p.2], u.oneCell' = true := by
            intro u hu
            simp only [List.mem_cons, List.not_mem_nil, or_false] at hu
            rcases hu with rfl | rfl <;> rfl
          have hm1 : X.length + 1 ≤ maxLen := by unfold maxLen; omega
          have hm2 : (X.length + 1) * 24 ≤ 140737488355328 := by omega
          have HFR : Hid (∀ o, (wr.alloc o).frozen? ⟨r, 2, none⟩ = false ∧ (wr.alloc o).cell? ⟨r, 2, none⟩ = some nv) := Lib.hid fun o =>
            ⟨(World.frozen?_of_block (w := wr) (Below.heap_alloc wr o r hrl)).trans f2, (World.cell?_of_block (w := wr) (Below.heap_alloc wr o r hrl)).trans c2⟩
          have k2a := (HFR.out (.cells #[.string tt, .int .i64 p.2] 88)).2
          clear hz hA hc htk hXl hp hX ht htl hrl hdq
          go_wp2_with fail
          go_region_law (
            refine step_append_lies _ (by rfl) _ _ 53 (by rfl) W2.heap.size 88 i0 _ 2 24 Tryz.underlying53 hi hz0 hz1 hz2 rfl (by omega) nv X.length (pc X) (by rfl) ?_ _ 1 1 [.string tt, .int .i64 p.2] (by rfl) (by rfl) ?_ h1c (by omega) hm1 hm2 ?_ _ (by rfl) ?_
            · first | exact own_drew (World.ownsRow.alloc HOWN.out _) | exact World.ownsRow.alloc (own_drew HOWN.out) _ | fail
            · refine World.news_of_block (cs := #[.string tt, .int .i64 p.2]) (t := 88) (fr := (0, 0)) ?_
              first | exact drew_at _ _ _ (alloc_at _ _ _ (by simp)) | exact alloc_at _ _ _ (by simp) | fail
            · simp; omega
            intro g1 c1 w8 hown8 hgrow8 hat8 hlt8
            have fr8 : w8.frozen? ⟨r, 2, none⟩ = false := by rw [hgrow8.frozen_far _ (by simp; exact Nat.lt_succ_of_lt HRL.out) HDQ.out]; exact (HFR.out _).1
            have k8 : w8.cell? ⟨r, 2, none⟩ = some nv := by rw [hgrow8.cell_far _ (by simp; exact Nat.lt_succ_of_lt HRL.out) HDQ.out]; exact (HFR.out _).2
            have HG8 : Hid (wr.grownBy w8 nv.ownBlock) := alloc_grown ⟨hgrow8.os, hgrow8.tape, hgrow8.output, hgrow8.size, hgrow8.block⟩
            have HOWN8 := Lib.hid hown8
            clear hgrow8 hown8 hat8)
          all_goals
            have hlne : (Value.slice (some ⟨b, 0, none⟩) L.length lc).ownBlock = none ∨ (Value.slice (some ⟨b, 0, none⟩) L.length lc).ownBlock ≠ nv.ownBlock := by
              rcases HLB.out with h1 | ⟨x, hx, hx2⟩
              · exact .inl h1
              · refine .inr fun he => ?_
                rw [hx] at he
                have := (World.ownsRow.lt HOWN.out x he.symm).1
                omega
            have hown8 : w8.ownsRow W2.heap.size 88 2 (.slice (some ⟨g1, 0, none⟩) (X.length + 1) c1) (L.take (i + 1)).length (pc (L.take (i + 1))) := by
              rw [HTK.out, List.length_append, pc_snoc, HT.out]
              exact HOWN8.out
            have HRR : Hid (RRep B (w8.setCell ⟨r, 2, none⟩ (.slice (some ⟨g1, 0, none⟩) (X.length + 1) c1)) r { t with lasts := L, queue := [], names := L.take (i + 1) } { g with lv := .slice (some ⟨b, 0, none⟩) L.length lc, qv := .slice none 0 0, qs := [], nv := .slice (some ⟨g1, 0, none⟩) (X.length + 1) c1 }) :=
              Lib.hid (RRep.growNames HR.out rfl HG8.out hlne (own_less hown8 hBW))
            have HO9 : Hid ((w8.setCell ⟨r, 2, none⟩ (.slice (some ⟨g1, 0, none⟩) (X.length + 1) c1)).ownsRow W2.heap.size 88 2 (.slice (some ⟨g1, 0, none⟩) (X.length + 1) c1) (L.take (i + 1)).length (pc (L.take (i + 1)))) :=
              Lib.hid (World.ownsRow.kept hown8 (grownBy_setCell w8 ⟨r, 2, none⟩ _) (.inr (by
                have h1 := (World.ownsRow.lt hown8 g1 rfl).1
                have h2 := HRW.out
                intro he
                have he' : g1 = r := Option.some.inj he
                omega)))
            have HS9 : Hid (W2.heap.size ≤ (w8.setCell ⟨r, 2, none⟩ (.slice (some ⟨g1, 0, none⟩) (X.length + 1) c1)).heap.size) := Lib.hid (by rw [setCell_size]; exact Nat.le_trans hsz HG8.out.size)
            have HMM : Hid (MovesR B w (w8.setCell ⟨r, 2, none⟩ (.slice (some ⟨g1, 0, none⟩) (X.length + 1) c1))) :=
              Lib.hid ((HM.out.grown HG8.out hBw (fun k e => ⟨by have := (World.ownsRow.lt HOWN.out k e).1; omega, Or.inr (by have := (World.ownsRow.lt HOWN.out k e).1; have := HWW.out; omega)⟩)).grown (grownBy_setCell w8 ⟨r, 2, none⟩ _) (Nat.le_trans hBw HG8.out.size) (fun k e => by cases e; exact ⟨HR.out.le, Or.inl (RRep.kinGrown HR.out HG8.out HDQ.out)⟩))
            clear hlne hown8 HR HM HOWN HG8 HOWN8 fr8 k8 c2 f2 c3 z1 z2
            go_wp2
            go_roundw
            case rel => exact ⟨i + 1, _, by omega, by go_num, HRR.out, HO9.out, HS9.out, HMM.out⟩
            case measure => simp [intOf]; omega
        · have him : i = m := by omega
          subst him
          have hLt : L.take i = L := List.take_of_length_le (by rw [HMm.out]; exact Nat.le_refl _)
          rw [hLt] at HR
          have HG3 : Hid (∃ G3 : RV, RRep B wr r { t with lasts := L, queue := [], names := L } G3) := Lib.hid ⟨_, HR.out⟩
          clear hLt HR HOWN
          obtain ⟨G3, hG3⟩ := HG3.out
          have HR3 := Lib.hid hG3
          clear hG3 HG3
          obtain ⟨fl, hfl⟩ : ∃ fl, t.files.length = fl := ⟨_, rfl⟩
          have HFL := Lib.hid hfl
          have hflf := FEW.out.files
          rw [hfl] at hflf
          have HST3 : Hid (RRep B wr r { t with lasts := L, queue := [], names := L, files := mx l t.files 0 } G3) := Lib.hid (by rw [mx_zero]; exact HR3.out)
          clear hfl
          go_wp2_with fail
          go_loopw [9] (fun i wr => ∃ (j : Nat), j ≤ fl ∧ i = .int .i64 j ∧ RRep B wr r { t with lasts := L, queue := [], names := L, files := mx l t.files j } G3 ∧ MovesR B w wr) (fun i _ => fl - (intOf i).toNat)
          case atStart => exact ⟨0, by omega, rfl, HST3.out, HM.out⟩
          case round =>
            obtain ⟨x3, hx3, rfl, hr3, hm3⟩ := hrel
            have HR := Lib.hid hr3
            have HM3 := Lib.hid hm3
            have hBw3 : B ≤ wr.heap.size := Nat.le_trans hB hm3.size
            clear hr3 hm3 HR3 HST3 HM hBw c3
            obtain ⟨FA, fc, hfv, hfz⟩ := own_at HR.out.body.frow
            simp only at hfv hfz
            rw [mx_len l t.files x3 (by rw [HFL.out]; exact hx3), HFL.out] at hfv hfz
            have c1 : wr.cell? ⟨r, 1, none⟩ = some (.slice FA fl fc) := by rw [← hfv]; exact RHalf.cells HR.out 1
            by_cases hlt : x3 < fl
            · have hxl : x3 < t.files.length := by rw [HFL.out]; exact hlt
              obtain ⟨b, rfl, hbB, hbw, hbc, hbf, -⟩ := hfz (by omega)
              have hml : x3 < (mx l t.files x3).length := by rw [mx_len l t.files x3 (by omega)]; exact hxl
              have hmat : (mx l t.files x3)[x3] = t.files[x3] := by
                have := mx_at l t.files x3 hxl
                rw [List.getElem?_eq_getElem hml] at this
                exact Option.some.inj this
              obtain ⟨z1, z2⟩ := fC_at (mx l t.files x3) x3 hml
              rw [hmat] at z1 z2
              have z1 := (hbc (x3 * 2) (by omega)).trans z1
              have z2 := (hbc (x3 * 2 + 1) (by omega)).trans z2
              have hok := FEW.out.file _ (List.getElem_mem hxl)
              have hst := mx_step l t.files x3 hxl
              obtain ⟨f, hf⟩ : ∃ f, t.files[x3] = f := ⟨_, rfl⟩
              rw [hf] at z1 z2 hok hst
              obtain ⟨tt, ht, htl⟩ : ∃ s : ByteArray, encS f.data = .string s ∧ s.data.toList = f.data := ⟨⟨f.data.toArray⟩, rfl, by simp⟩
              have hts : tt.size = f.data.length := by rw [← htl, size_list]
              rw [ht] at z1
              obtain ⟨x, hx⟩ : ∃ x, l.getD (x3 % l.length) 0 = x := ⟨_, rfl⟩
              have hxf : fits x := by
                rw [← hx, List.getD_eq_getElem?_getD]
                cases h : l[x3 % l.length]? with
                | none => simp [fits]
                | some y => exact hfit y (List.mem_of_getElem? h)
              have hrl := rest_lt x (b := f.data.length - f.sync + 1) (by omega)
              obtain ⟨R, hRr⟩ : ∃ R, rest x (f.data.length - f.sync + 1) = R := ⟨_, rfl⟩
              obtain ⟨K, hK⟩ : ∃ K, f.sync + R = K := ⟨_, rfl⟩
              have hlf : loseF l x3 f = ⟨f.data.take K, K⟩ := by unfold loseF; rw [hx, hRr, hK]
              rw [hlf] at hst
              rw [hRr] at hrl
              have HRM : Hid (∀ W, Calls Tryz.prog 80 #[.int .i64 x, .int .i64 ((f.data.length - f.sync + 1 : Nat) : Int)] W fun e w' => e = .returned (.int .i64 R) ∧ w' = W) := Lib.hid fun W => by
                rw [← hRr]; exact (rrest_any x _ W hxf (by omega) (by omega)).mono fun _ _ h => ⟨h.1, h.2.symm⟩
              have hR0 : x = 0 → R = 0 := fun e => by rw [← hRr, e]; simp [rest]
              have hKD : K ≤ f.data.length := by omega
              have hsl := fun W => s_head W tt K (by omega)
              have hex : Value.string (tt.extract 0 K) = encS (f.data.take K) := by
                unfold encS
                congr 1
                apply str_ext
                rw [Lib.extract_data, List.drop_zero, Nat.sub_zero, htl]
              obtain ⟨te, hte⟩ : ∃ te, tt.extract 0 K = te := ⟨_, rfl⟩
              rw [hte] at hsl hex
              have HFIN : Hid (∀ W, RRep B W r { t with lasts := L, queue := [], names := L, files := mx l t.files x3 } G3 → RRep B ((W.setCell ⟨b, x3 * 2, none⟩ (.string te)).setCell ⟨b, x3 * 2 + 1, none⟩ (.int .i64 K)) r { t with lasts := L, queue := [], names := L, files := mx l t.files (x3 + 1) } G3) := Lib.hid fun W hW => by
                have := RRep.fileBoth hW hfv x3 hml ⟨f.data.take K, K⟩
                rw [← hex] at this
                rw [hst]
                exact this
              have HKN : Hid (∀ W, RRep B W r { t with lasts := L, queue := [], names := L, files := mx l t.files x3 } G3 → MovesR B w W → B ≤ W.heap.size → MovesR B w ((W.setCell ⟨b, x3 * 2, none⟩ (.string te)).setCell ⟨b, x3 * 2 + 1, none⟩ (.int .i64 K))) := Lib.hid fun W hW hM hBW2 => by
                have hk1 := RRep.fileKin hW hfv
                have h1 := hM.grown (grownBy_setCell W ⟨b, x3 * 2, none⟩ (.string te)) hBW2 (fun k e => by cases e; exact ⟨hk1.2, Or.inl hk1.1⟩)
                have hcur := heap_kin hW hfv
                refine h1.grown (grownBy_setCell _ ⟨b, x3 * 2 + 1, none⟩ (.int .i64 K)) (by rw [setCell_size]; exact hBW2) (fun k e => by
                  cases e
                  obtain ⟨cur, hc⟩ := hcur
                  exact ⟨hk1.2, Or.inl (kinR_cells (heap_set_fr hc (x3 * 2) (.string te)) (by decide))⟩)
              have HWX := Lib.hid hx
              have HBF : Hid (∀ W, RRep B W r { t with lasts := L, queue := [], names := L, files := mx l t.files x3 } G3 → ∀ j, W.frozen? ⟨b, j, none⟩ = false) := Lib.hid fun W hW j => by
                obtain ⟨cur, hc⟩ := heap_kin hW hfv
                exact frozen_of_row _ _ _ _ _ hc
              have HBZ : Hid (∀ W, Below wr.heap.size wr W → W.cell? ⟨r, 1, none⟩ = some (.slice (some ⟨b, 0, none⟩) fl fc) ∧ W.cell? ⟨b, x3 * 2, none⟩ = some (.string tt) ∧ W.cell? ⟨b, x3 * 2 + 1, none⟩ = some (.int .i64 f.sync)) := Lib.hid fun W hW =>
                ⟨(hW.cell (p := ⟨r, 1, none⟩) (RHalf.lt HR.out)).trans c1, (hW.cell (p := ⟨b, x3 * 2, none⟩) hbw).trans z1, (hW.cell (p := ⟨b, x3 * 2 + 1, none⟩) hbw).trans z2⟩
              have hcb : wr.ownsRow B 3 1 (.slice BA l.length bc) l.length (l.map (Value.int .i64)) := own_keep HBV.out (fun b' c' fr' hb' => HM3.out.kept b' _ hb' (fun c'' t'' fr'' e => by injection e with _ e; rw [← e]; decide))
              obtain ⟨S, hS⟩ : ∃ S, f.sync = S := ⟨_, rfl⟩
              obtain ⟨D, hD⟩ : ∃ D, f.data.length = D := ⟨_, rfl⟩
              rw [hS] at hok hrl hK HRM z2 HBZ
              rw [hD] at hok hrl HRM hKD hts
              have HBX : Hid (Below wr.heap.size wr (wr.alloc (.cells #[.string tt, .int .i64 S] 90)) ∧ (wr.alloc (.cells #[.string tt, .int .i64 S] 90)).heap[wr.heap.size]? = some (.cells #[.string tt, .int .i64 S] 90 (0, 0))) := Lib.hid ⟨(Below.refl _ _).alloc (Nat.le_refl _) _, heap_alloc_new wr _⟩
              obtain ⟨M, hM⟩ : ∃ M, D - S + 1 = M := ⟨_, rfl⟩
              rw [hM] at HRM
              have v0 : IntKind.i64.wrap ((D : Int) - (S : Int)) = (D : Int) - (S : Int) := wrapN _ (by omega) (by omega)
              have v1 : (D : Int) - (S : Int) + 1 = (M : Int) := by omega
              have v1' : IntKind.i64.wrap (M : Int) = (M : Int) := wrapN _ (by omega) (by omega)
              have v2' : IntKind.i64.wrap (K : Int) = (K : Int) := wrapN _ (by omega) (by omega)
              have v2 : (S : Int) + (R : Int) = (K : Int) := by omega
              have i0 : (0 : Int) ≤ (x3 : Int) := by omega
              have i1 : (x3 : Int) < (fl : Int) := by omega
              have hKi : (0 : Int) ≤ (K : Int) := by omega
              clear hfv hfz hbc hbf hmat hst hf ht htl hx hxf hRr hlf hex hte hS hD hM hml
              by_cases h0 : l.length = 0
              · have hx0 : x = 0 := by
                  rw [← HWX.out, List.eq_nil_of_length_eq_zero h0]
                  rfl
                obtain rfl : R = 0 := hR0 hx0
                obtain rfl : S = K := by omega
                have n0 : ¬ (0 : Int) < (l.length : Int) := by omega
                have HBW : Hid (Below wr.heap.size wr (wr.alloc (.cells #[.string tt, .int .i64 S] 90))) := Lib.hid HBX.out.1
                have HRW3 := Lib.hid (RRep.below HR.out HBW.out)
                have HMW := Lib.hid (HM3.out.of_below HBW.out hBw3)
                have hBz : B ≤ (wr.alloc (.cells #[.string tt, .int .i64 S] 90)).heap.size := Nat.le_trans hBw3 HBW.out.size
                have x0 : (wr.alloc (.cells #[.string tt, .int .i64 S] 90)).cell? ⟨wr.heap.size, 0, none⟩ = some (.string tt) := cell_of_row _ _ _ _ _ _ HBX.out.2
                have x1 : (wr.alloc (.cells #[.string tt, .int .i64 S] 90)).cell? ⟨wr.heap.size, 1, none⟩ = some (.int .i64 S) := cell_of_row _ _ _ _ _ _ HBX.out.2
                clear HRM HWX hR0 h0
                go_wp2_with fail
                generalize wr.alloc (.cells #[.string tt, .int .i64 S] 90) = wb at HBW HRW3 HMW hBz x0 x1 ⊢
                clear HR HM3 HBX c1 z1 z2
                obtain ⟨y1', y2, y3⟩ := HBZ.out wb HBW.out
                have yf1 := HBF.out wb HRW3.out (x3 * 2)
                have yf2 := HBF.out wb HRW3.out (x3 * 2 + 1)
                have HEND := Lib.hid (And.intro (HFIN.out wb.drew (RRep.drew HRW3.out)) (HKN.out wb.drew (RRep.drew HRW3.out) HMW.out.drew hBz))
                clear HBZ HBF HFIN HKN HRW3 HMW HBW
                go_wp2_with fail
                go_region
                all_goals
                  go_wp2
                  go_roundw
                  case rel => exact ⟨x3 + 1, by omega, by go_num, HEND.out.1, HEND.out.2⟩
                  case measure => simp [intOf]; omega
              · obtain ⟨BA', bc', eb, hbz⟩ := own_at hcb
                injection eb with eb eb1 eb2
                clear eb1
                subst eb2
                obtain ⟨bb, hA, -, hbbw, hbbc, -, -⟩ := hbz (by omega)
                rw [hA] at eb
                have hmod : x3 % l.length < l.length := Nat.mod_lt _ (by omega)
                have hcx := hbbc (x3 % l.length) (by omega)
                have hgx : (l.map (Value.int .i64))[x3 % l.length]? = some (.int .i64 x) := by
                  rw [List.getElem?_map, List.getElem?_eq_getElem hmod, ← HWX.out, List.getD_eq_getElem?_getD, List.getElem?_eq_getElem hmod]
                  rfl
                rw [hgx] at hcx
                obtain ⟨ix, hix⟩ : ∃ i, x3 % l.length = i := ⟨_, rfl⟩
                rw [hix] at hcx hmod
                have hrem : (x3 : Int) % (l.length : Int) = (ix : Int) := by rw [← hix, Int.natCast_emod]
                have n1 : (1 : Int) ≤ (l.length : Int) := by omega
                have n0 : (0 : Int) < (l.length : Int) := by omega
                have j0 : (0 : Int) ≤ (ix : Int) := by omega
                have j1 : (ix : Int) < (l.length : Int) := by omega
                have hcxb := fun W (hW : Below wr.heap.size wr W) => (hW.cell (p := ⟨bb, ix, none⟩) hbbw).trans hcx
                have HCX := Lib.hid hcxb
                subst eb
                have HBW : Hid (Below wr.heap.size wr (wr.alloc (.cells #[.string tt, .int .i64 S] 90))) := Lib.hid HBX.out.1
                have HRW3 := Lib.hid (RRep.below HR.out HBW.out)
                have HMW := Lib.hid (HM3.out.of_below HBW.out hBw3)
                have hBz : B ≤ (wr.alloc (.cells #[.string tt, .int .i64 S] 90)).heap.size := Nat.le_trans hBw3 HBW.out.size
                have x0 : (wr.alloc (.cells #[.string tt, .int .i64 S] 90)).cell? ⟨wr.heap.size, 0, none⟩ = some (.string tt) := cell_of_row _ _ _ _ _ _ HBX.out.2
                have x1 : (wr.alloc (.cells #[.string tt, .int .i64 S] 90)).cell? ⟨wr.heap.size, 1, none⟩ = some (.int .i64 S) := cell_of_row _ _ _ _ _ _ HBX.out.2
                have hcy := HCX.out _ HBW.out
                clear HWX hbz hA hbbc hcx hgx hix hcb hcxb hR0 h0
                go_wp2_with fail
                generalize wr.alloc (.cells #[.string tt, .int .i64 S] 90) = wa at HBW HRW3 HMW hBz x0 x1 hcy ⊢
                clear HR HM3 HBX c1 z1 z2 HCX
                go_quiet ((go_at_call 80; exact Calls.quiet_of_same (HRM.out _)))
                have HBW2 : Hid (Below wr.heap.size wr (wa.drewN nq)) := Lib.hid (below_drewN HBW.out nq)
                have HRW4 := Lib.hid (RRep.drewN HRW3.out nq)
                have HMW4 := Lib.hid (HMW.out.drewN nq)
                have u0 : (wa.drewN nq).cell? ⟨wr.heap.size, 0, none⟩ = some (.string tt) := x0
                have u1 : (wa.drewN nq).cell? ⟨wr.heap.size, 1, none⟩ = some (.int .i64 S) := x1
                have hBWC : B ≤ (wa.drewN nq).heap.size := hBz
                clear HBW HRW3 HMW hBz x0 x1 hcy HRM
                generalize wa.drewN nq = wb at HBW2 HRW4 HMW4 hBWC u0 u1 ⊢
                have HBW := HBW2
                have HRW3 := HRW4
                have HMW := HMW4
                have hBz := hBWC
                clear HBW2 HRW4 HMW4 hBWC
                obtain ⟨y1', y2, y3⟩ := HBZ.out wb HBW.out
                have yf1 := HBF.out wb HRW3.out (x3 * 2)
                have yf2 := HBF.out wb HRW3.out (x3 * 2 + 1)
                have HEND := Lib.hid (And.intro (HFIN.out wb.drew (RRep.drew HRW3.out)) (HKN.out wb.drew (RRep.drew HRW3.out) HMW.out.drew hBz))
                clear HBZ HBF HFIN HKN HRW3 HMW HBW
                go_wp2_with fail
                go_region
                all_goals
                  go_wp2
                  go_roundw
                  case rel => exact ⟨x3 + 1, by omega, by go_num, HEND.out.1, HEND.out.2⟩
                  case measure => simp [intOf]; omega
            · have hxe : x3 = fl := by omega
              subst hxe
              have HE : Hid ({ t with lasts := L, queue := [], names := L, files := mx l t.files x3, cutLeft := 0, brk := 0 } = t.fail names l) := Lib.hid (by
                have h1 : mx l t.files x3 = t.files.mapIdx (loseF l) := by rw [← HFL.out, mx_end]
                have h2 := HLL.out
                rw [h1, h2]
                rfl)
              have c6 : wr.cell? ⟨r, 6, none⟩ = some (.int .i64 t.cutLeft) := RHalf.cells HR.out 6
              have f6 := RHalf.frozen HR.out 6
              have c9 : wr.cell? ⟨r, 9, none⟩ = some (.int .i64 t.brk) := RHalf.cells HR.out 9
              have f9 := RHalf.frozen HR.out 9
              have HEND : Hid (RRep B ((wr.setCell ⟨r, 6, none⟩ (.int .i64 0)).setCell ⟨r, 9, none⟩ (.int .i64 0)) r (t.fail names l) G3) := Lib.hid (by
                rw [← HE.out]
                exact RRep.setBrk (RRep.setCut HR.out 0 0 rfl) 0 0 rfl)
              have HME : Hid (MovesR B w ((wr.setCell ⟨r, 6, none⟩ (.int .i64 0)).setCell ⟨r, 9, none⟩ (.int .i64 0))) :=
                Lib.hid ((HM3.out.set hBw3 HR.out 6 _).set (by rw [setCell_size]; exact hBw3) (RRep.setCut HR.out 0 0 rfl) 9 _)
              clear HE hfv hfz HR HM3
              go_wp2
              go_end0
              exact ⟨rfl, ⟨_, HEND.out⟩, HME.out⟩
end Go.Proofs.YtgknkldhjejjmaaGreatDoor

