/- A loss of power: maps.Clone, and the steps of the loop. -/
import Derived.Test.YtgknkldhjejjmaaDoorDkJ
import Derived.Test.YtgknkldhjejjmaaDoorDmC
import Derived.Shelf.SlMaps.Clone
import Derived.Laws.IdiomRangeMap
namespace Go.Proofs.YtgknkldhjejjmaaDoor
open Go.RowKit Go.Maps
open DM

set_option maxRecDepth 100000 in
set_option maxHeartbeats 1000000 in
theorem clone_map (b : Nat) (es : Array MapEntry) (clock : Nat) (w : World) (hb : w.heap[b]? = some (.map es clock)) :
    Calls Tryd.prog 63 #[.map (some b)] w fun e w' => e = .returned (.map (some w.heap.size)) ∧ w.alloc (.map es clock) = w' := by
  have hq := fun W : World => run_eql_map_nil (P := Tryd.prog) W 52 9 68 (some b) Tryd.underlying52
  go_enter Tryd.func63, Tryd.ntmps63
  go_wp2
  rw [run_callFunc_extern Tryd.func86 (by kernel_rfl) (by kernel_rfl) (by kernel_rfl) (e := Extern.MapsClone.clone) (by kernel_rfl), run_maps_clone_sl w 52 hb]
  simp only [Result.andThen]
  rw [Oper.upon_value]
  go_wp2
  rw [run_typeAssert_map_sl _ 52 20 _ _ _ Tryd.underlying52]
  simp only [Result.andThen]
  rw [Oper.upon_value]
  go_wp2
  go_ret
  exact ⟨rfl, rfl⟩

set_option maxHeartbeats 1000000 in
theorem clone_nil (w : World) :
    Calls Tryd.prog 63 #[.map none] w fun e w' => e = .returned (.map none) ∧ w = w' := by
  have hq := fun W : World => run_eql_map_nil (P := Tryd.prog) W 52 9 68 none Tryd.underlying52
  go_enter Tryd.func63, Tryd.ntmps63
  go_wp2
  go_ret
  exact ⟨rfl, rfl⟩

/-- the names are those that last, in a map of their own -/
theorem Half.renamed {B : Nat} {w : World} {d : Nat} {s : St} {g : Gh} {C : Array Value} (h : Half B w d s g C) {b1 b2 bn : Nat} (e1 : g.m1 = some b1) (e2 : g.m2 = some b2) (ho : OwnM w bn s.lasts.length (D g.blk s.lasts)) (hne : bn ≠ b2) (hB : B ≤ bn) :
    Half B (w.setCell ⟨d, 3, none⟩ (.map (some bn))) d { s with names := s.lasts } { g with m1 := some bn } (C.setIfInBounds 3 (.map (some bn))) := by
  have h1 := h.set 3 (.map (some bn))
  refine ⟨⟨?_, h1.body.queue, h1.body.files, h1.body.apart, h1.body.cut, h1.body.bk⟩, h1.at_, h1.le⟩
  rcases h1.body.maps with ⟨e, _⟩ | ⟨c1, c2, e3, e4, _, _, l2, _, o2⟩
  · rw [e1] at e; cases e
  · rw [e2] at e4; cases e4
    exact .inr ⟨bn, b2, rfl, e2, hne, hB, l2, ho.kept (grownBy_setCell w ⟨d, 3, none⟩ _) (fun e => ho.ne h.at_ (Option.some.inj e)), o2⟩

/-- an iterator's block turns: all of a disk stays -/
theorem Half.iter {B : Nat} {w w' : World} {d : Nat} {s : St} {g : Gh} {C : Array Value} (h : Half B w d s g C) {r : Nat} {m : Option Nat} {a : Nat} {b : Array Nat} {c : Nat} (hr : w.heap[r]? = some (.mapIter m a b c)) (hg : w.grownBy w' (some r)) : Half B w' d s g C := by
  have hob : ∀ {x : Nat} {c' : Array Value} {t : TypeId} {fr : Nat × Nat}, w.heap[x]? = some (.cells c' t fr) → some x ≠ some r := fun hx e => by
    rw [Option.some.inj e, hr] at hx
    cases hx
  have hom : ∀ {b n : Nat} {D : DataW Unit}, OwnM w b n D → some b ≠ some r := fun ho e => by
    obtain ⟨es, clock, hb, _⟩ := ho
    rw [Option.some.inj e, hr] at hb
    cases hb
  refine ⟨⟨?_, h.body.queue.kept hg (own_ne h.body.queue hr (by simp)), fun n hn => ?_, h.body.apart, h.body.cut.kept hg (own_ne h.body.cut hr (by simp)), h.body.bk⟩, (hg.block d h.lt (hob h.at_)).trans h.at_, h.le⟩
  · rcases h.body.maps with h1 | ⟨b1, b2, e1, e2, hne, l1, l2, o1, o2⟩
    · exact .inl h1
    · exact .inr ⟨b1, b2, e1, e2, hne, l1, l2, o1.kept hg (hom o1), o2.kept hg (hom o2)⟩
  · have hf := h.body.files n hn
    exact hf.kept hg (hob hf.2.1) (hf.2.2.ne hr (by simp))

def leftS (left : Lit → Bool) : Bs → Bool := fun k => left (.string k)

theorem leftS_strike (left : Lit → Bool) (x : Bs) : leftS (fun z => left z && !z.sameKey (.string x)) = strike (leftS left) x := rfl

def usedC (s : St) (l : List Int) (left : Lit → Bool) : Value := .int .i64 (usedL (lostFs l s.files) s.names (leftS left))

/-- where the loop stands -/
def LoseRel (B : Nat) (w0 : World) (d : Nat) (s : St) (g : Gh) (C : Array Value) (l : List Int) (bn r : Nat) (left : Lit → Bool) (cnt : Nat) (wr : World) : Prop :=
  wr.ranges Tryd.prog 9 ptrElem bn r s.names.length (D g.blk s.names) left cnt ∧ Moves B w0 wr ∧ B ≤ r ∧
  ∃ row', Half B wr d { s with files := fsL l s.names (leftS left) s.files } { g with row := row' } (C.setIfInBounds 1 (usedC s l left))

/-- an entry of the map has come -/
structure LoseMid (B : Nat) (w0 : World) (d : Nat) (s : St) (g : Gh) (C : Array Value) (l : List Int) (bn r : Nat) (left : Lit → Bool) (cnt : Nat) (x : Bs) (m : Nat) (row' : Nat → Value) (wr : World) : Prop where
  ranges : wr.ranges Tryd.prog 9 ptrElem bn r s.names.length (D g.blk s.names) (fun z => left z && !z.sameKey (.string x)) cnt
  moves : Moves B w0 wr
  iter : B ≤ r
  mem : (x, m) ∈ s.names
  here : left (.string x) = true
  half : Half B wr d { s with files := fsL l s.names (leftS left) s.files } { g with row := row' } (C.setIfInBounds 1 (usedC s l left))

theorem lose_mid {B : Nat} {w0 : World} {d : Nat} {s : St} {g : Gh} {C : Array Value} {l : List Int} {bn r : Nat} {left : Lit → Bool} {cnt : Nat} {wr : World} (h : LoseRel B w0 d s g C l bn r left cnt wr) {x : Bs} {c : Option Nat} {kl : Lit} {y : DataW Unit × List MemPlace} {w' : World} {cnt' : Nat}
    (hkey : keyOf Tryd.prog 9 (encStr x) = some kl) (hlk : left kl = true) (hv : ptrElem (.pointer (c.map fun b => ⟨b, 0, none⟩)) = some y) (hat : ∀ zd, (D g.blk s.names).atKey kl zd = y.1)
    (hrg : w'.ranges Tryd.prog 9 ptrElem bn r s.names.length (D g.blk s.names) (fun z => left z && !z.sameKey kl) cnt') (hgr : wr.grownBy w' (some r)) (hB : B ≤ w0.heap.size) :
    ∃ m row', c = some (g.blk m) ∧ kl = .string x ∧ LoseMid B w0 d s g C l bn r left cnt' x m row' w' := by
  obtain ⟨x', ex, rfl, _⟩ := Maps.keyOf_str Tryd.underlying9 hkey
  obtain rfl : x = x' := encStr_inj ex
  obtain ⟨h1, h2, h3, row', h4⟩ := h
  have hit : ∃ m a b c, wr.heap[r]? = some (.mapIter m a b c) := by
    obtain ⟨_, _, _, _, _, _, _, _, _, hr, _⟩ := h1
    exact ⟨_, _, _, _, hr⟩
  obtain ⟨mm, a, b, cc, hr⟩ := hit
  cases hf : find s.names x with
  | none =>
    have e1 := hat .nil
    have e2 := hat (.lit (.bool true))
    rw [D_at, hf] at e1 e2
    rw [← e1] at e2
    cases e2
  | some m =>
    have e1 := hat .nil
    rw [D_at, hf] at e1
    simp only at e1
    refine ⟨m, row', ?_, rfl, hrg, h2.grown hgr (by have := h2.size; omega) (fun k e => by cases e; exact ⟨h3, fun c' t fr hx => by rw [hr] at hx; cases hx⟩), h3, find_some hf, hlk, h4.iter hr hgr⟩
    cases c with
    | none =>
      have hy : some (DataW.nil, []) = some y := hv
      have hy' := Option.some.inj hy
      rw [← hy'] at e1
      cases e1
    | some b =>
      have hy : some (DataW.lit (.int .i64 (b : Int)), []) = some y := hv
      have hy1 : y.1 = .lit (.int .i64 (b : Int)) := (congrArg Prod.fst (Option.some.inj hy)).symm
      have e2 : (DataW.lit (.int .i64 (g.blk m : Int)) : DataW Unit) = .lit (.int .i64 (b : Int)) := e1.trans hy1
      have e3 : (g.blk m : Int) = (b : Int) := congrArg (fun q : DataW Unit => match q with | .lit (.int _ z) => z | _ => 0) e2
      have : g.blk m = b := by omega
      rw [this]

theorem mid_file {B : Nat} {w0 : World} {d : Nat} {s : St} {g : Gh} {C : Array Value} {l : List Int} {bn r : Nat} {left : Lit → Bool} {cnt : Nat} {x : Bs} {m : Nat} {row' : Nat → Value} {wr : World} (h : LoseMid B w0 d s g C l bn r left cnt x m row' wr) (ok : Ok s) :
    FileAt B wr { g with row := row' } m (fileAt s m) ∧ m < s.files.length := by
  have hlt : m < s.files.length := ok.gnames.file _ h.mem
  have hl := ok.names_live h.mem
  have hf := h.half.body.files m hl
  have he : fileAt { s with files := fsL l s.names (leftS left) s.files } m = fileAt s m := (fsL_step l ok.gnames h.mem h.here s.files hlt).2
  rw [he] at hf
  exact ⟨hf, hlt⟩

/-- the file has lost what it loses -/
theorem lose_file {B : Nat} {w0 : World} {d : Nat} {s : St} {g : Gh} {C : Array Value} {l : List Int} {bn r : Nat} {left : Lit → Bool} {cnt : Nat} {x : Bs} {m : Nat} {row' : Nat → Value} {wr w' : World} {e : Ending} (h : LoseMid B w0 d s g C l bn r left cnt x m row' wr) (ok : Ok s) (hB : B ≤ w0.heap.size)
    (ho : FLoseOut B wr { g with row := row' } m (loseF l m (fileAt s m)) e w') :
    ∃ row2 A c, w'.cell? ⟨g.blk m, 1, none⟩ = some (.slice A (lens (lostFs l s.files) m) c) ∧ Moves B w0 w' ∧ w'.ranges Tryd.prog 9 ptrElem bn r s.names.length (D g.blk s.names) (fun z => left z && !z.sameKey (.string x)) cnt ∧
      Half B w' d { s with files := fsL l s.names (leftS (fun z => left z && !z.sameKey (.string x))) s.files } { g with row := row2 } (C.setIfInBounds 1 (usedC s l left)) := by
  obtain ⟨_, hg, v, hvo, hfa⟩ := ho
  obtain ⟨hf0, hlt⟩ := mid_file h ok
  have hl := ok.names_live h.mem
  have hlen : lens (lostFs l s.files) m = (loseF l m (fileAt s m)).data.length := by
    unfold lens lostFs
    rw [getD_mapIdx _ _ _ hlt]
    rfl
  obtain ⟨A, c, hrow⟩ := row_slice hfa
  simp only [if_true] at hrow
  have hcell : w'.cell? ⟨g.blk m, 1, none⟩ = some (.slice A (lens (lostFs l s.files) m) c) := by
    have := cell_of_row _ _ 1 _ _ _ hfa.2.1
    simp only [if_true] at this
    rw [hlen, ← hrow]
    exact this
  have hhalf := h.half.file (n := m) (f := loseF l m (fileAt s m)) (v := v) (fun n hn => by have := ok.live_lt hn; rw [fsL_length]; exact this) hl
    (fun y o hy h1 _ => (hg.block y (Array.getElem?_eq_some_iff.1 hy).1 (fun e => h1 (Option.some.inj e))).trans hy)
    (by have := hfa.2.1; simp only [if_true] at this; exact this) (by have := hfa.2.2; simp only [if_true] at this; exact this) (.inr (.inl hvo))
  refine ⟨fun k => if k = m then v else row' k, A, c, hcell, ?_, ?_, ?_⟩
  · exact h.moves.grown hg (by have := h.moves.size; omega) (fun k e => by cases e; exact ⟨hf0.1, kin_cells hf0.2.1 (by decide)⟩)
  · refine h.ranges.kept hg (fun e => ?_) (fun e => ?_)
    · obtain ⟨es, clock, hb, _⟩ := h.ranges.owns
      have h2 := hf0.2.1
      have e' : bn = g.blk m := Option.some.inj e
      rw [e'] at hb
      rw [hb] at h2
      cases h2
    · obtain ⟨_, _, _, _, _, _, _, _, _, hr, _⟩ := h.ranges
      have h2 := hf0.2.1
      have e' : r = g.blk m := Option.some.inj e
      rw [e'] at hr
      rw [hr] at h2
      cases h2
  · rw [leftS_strike, (fsL_step l ok.gnames h.mem h.here s.files hlt).1]
    exact hhalf

theorem lose_next {B : Nat} {w0 : World} {d : Nat} {s : St} {g : Gh} {C : Array Value} {l : List Int} {bn r : Nat} {left : Lit → Bool} {cnt : Nat} {x : Bs} {m : Nat} {row2 : Nat → Value} {wr : World} (ok : Ok s) (hB : B ≤ w0.heap.size) (hm : Moves B w0 wr) (hr : B ≤ r) (hmem : (x, m) ∈ s.names) (hl : left (.string x) = true)
    (hrg : wr.ranges Tryd.prog 9 ptrElem bn r s.names.length (D g.blk s.names) (fun z => left z && !z.sameKey (.string x)) cnt)
    (hh : Half B wr d { s with files := fsL l s.names (leftS (fun z => left z && !z.sameKey (.string x))) s.files } { g with row := row2 } (C.setIfInBounds 1 (usedC s l left))) :
    LoseRel B w0 d s g C l bn r (fun z => left z && !z.sameKey (.string x)) cnt (wr.setCell ⟨d, 1, none⟩ (.int .i64 ((usedL (lostFs l s.files) s.names (leftS left) + lens (lostFs l s.files) m : Nat) : Int))) := by
  have hg := grownBy_setCell wr ⟨d, 1, none⟩ (.int .i64 ((usedL (lostFs l s.files) s.names (leftS left) + lens (lostFs l s.files) m : Nat) : Int))
  refine ⟨hrg.kept hg (fun e => ?_) (fun e => ?_), hm.setCell (p := ⟨d, 1, none⟩) (by have := hm.size; omega) hh.le hh.kin _, hr, row2, ?_⟩
  · exact OwnM.ne hrg.owns hh.at_ (Option.some.inj e)
  · obtain ⟨_, _, _, _, _, _, _, _, _, hr, _⟩ := hrg
    have h2 := hh.at_
    have e' : r = d := Option.some.inj e
    rw [e', h2] at hr
    cases hr
  · have h1 := hh.set 1 (usedC s l (fun z => left z && !z.sameKey (.string x)))
    have hu : usedC s l (fun z => left z && !z.sameKey (.string x)) = .int .i64 ((usedL (lostFs l s.files) s.names (leftS left) + lens (lostFs l s.files) m : Nat) : Int) := by
      unfold usedC
      rw [leftS_strike, usedL_step (lostFs l s.files) hl ok.gnames hmem]
    have hcc : (C.setIfInBounds 1 (usedC s l left)).setIfInBounds 1 (usedC s l (fun z => left z && !z.sameKey (.string x))) = C.setIfInBounds 1 (usedC s l (fun z => left z && !z.sameKey (.string x))) := by simp
    rw [hcc, hu] at h1
    rw [hu]
    exact h1

theorem lose_end {B : Nat} {w0 : World} {d : Nat} {s : St} {g : Gh} {C : Array Value} {l : List Int} {bn r : Nat} {left : Lit → Bool} {cnt : Nat} {wr : World} (h : LoseRel B w0 d s g C l bn r left cnt wr) (ok : Ok s) (hq : s.queue = []) (hn : s.lasts = s.names) (hl : ∀ kl, left kl = false) :
    Moves B w0 wr ∧ ∃ row', Half B wr d { s with files := lostFs l s.files } { g with row := row' } (C.setIfInBounds 1 (.int .i64 (used (lostFs l s.files) s.names))) := by
  obtain ⟨_, h2, _, row', h4⟩ := h
  refine ⟨h2, row', ?_⟩
  have hu : usedC s l left = .int .i64 (used (lostFs l s.files) s.names) := by
    have := usedL_end (lostFs l s.files) (names := s.names) (left := leftS left) (fun k => hl _)
    unfold usedC
    rw [this]
  rw [hu] at h4
  refine ⟨⟨h4.body.maps, h4.body.queue, fun n hnl => ?_, h4.body.apart, h4.body.cut, h4.body.bk⟩, h4.at_, h4.le⟩
  have hf := h4.body.files n hnl
  have hlv : ∃ p ∈ s.names, p.2 = n := by
    rcases hnl with ⟨p, hp, e⟩ | ⟨e, he, _⟩
    · simp only at hp
      rw [hn] at hp
      exact ⟨p, hp, e⟩
    · simp only [hq] at he
      cases he
  obtain ⟨p, hp, rfl⟩ := hlv
  have he := fsL_end l (left := leftS left) (fun k => hl _) s.files hp (ok.gnames.file p hp)
  have : fileAt { s with files := fsL l s.names (leftS left) s.files } p.2 = fileAt { s with files := lostFs l s.files } p.2 := he
  rw [this] at hf
  exact hf
end Go.Proofs.YtgknkldhjejjmaaDoor
