/- Texts joined by bundle.py: YDDkK, YDDkL, YDDkM. -/
import Derived.Test.YtjkofciohehgfaaGreatDoorZan
import Derived.Test.YtjkofciohehgfaaGreatDoorZag
import Derived.Shelf.SlMaps.Clone
import Derived.Laws.IdiomRangeMap
import Derived.Deep.RegionWith

/- A loss of power: maps.Clone, and the steps of the loop. -/
namespace Go.Proofs.YtjkofciohehgfaaGreatDoor.L8
open Go.RowKit Go.Maps
open DM

set_option maxRecDepth 100000 in
set_option maxHeartbeats 1000000 in
theorem clone_map (b : Nat) (es : Array MapEntry) (clock : Nat) (w : World) (hb : w.heap[b]? = some (.map es clock)) :
    Calls Tryz.prog 80 #[.map (some b)] w fun e w' => e = .returned (.map (some w.heap.size)) ∧ w.alloc (.map es clock) = w' := by
  have hq := fun W : World => run_eql_map_nil (P := Tryz.prog) W 47 9 113 (some b) Tryz.underlying47
  go_enter Tryz.func80, Tryz.ntmps80
  go_wp2
  rw [run_callFunc_extern Tryz.func111 (by kernel_rfl) (by kernel_rfl) (by kernel_rfl) (e := Extern.MapsClone.clone) (by kernel_rfl), run_maps_clone_sl w 47 hb]
  simp only [Result.andThen]
  rw [Oper.upon_value]
  go_wp2
  rw [run_typeAssert_map_sl _ 47 20 _ _ _ Tryz.underlying47]
  simp only [Result.andThen]
  rw [Oper.upon_value]
  go_wp2
  go_ret
  exact ⟨rfl, rfl⟩

set_option maxHeartbeats 1000000 in
theorem clone_nil (w : World) :
    Calls Tryz.prog 80 #[.map none] w fun e w' => e = .returned (.map none) ∧ w = w' := by
  have hq := fun W : World => run_eql_map_nil (P := Tryz.prog) W 47 9 113 none Tryz.underlying47
  go_enter Tryz.func80, Tryz.ntmps80
  go_wp2
  go_ret
  exact ⟨rfl, rfl⟩

/-- the names are those that last, in a map of their own -/
theorem Half.renamed {B : Nat} {w : World} {d : Nat} {s : St} {g : Gh} {C : Array Value} (h : Half B w d s g C) {b1 b2 bn : Nat} (e1 : g.m1 = some b1) (e2 : g.m2 = some b2) (ho : OwnM w bn s.lasts.length (D g.blk s.lasts)) (hne : bn ≠ b2) (hB : B ≤ bn) :
    Half B (w.setCell ⟨d, 3, none⟩ (.map (some bn))) d { s with names := s.lasts } { g with m1 := some bn } (C.setIfInBounds 3 (.map (some bn))) := by
  have h1 := h.set 3 (.map (some bn))
  refine ⟨⟨?_, h1.body.queue, h1.body.files, h1.body.apart, h1.body.cut, h1.body.bk⟩, h1.at_, h1.le⟩
  rcases h1.body.maps with ⟨e, _⟩ | ⟨c1, c2, e3, e4, _, _, l2, _, o2⟩
  · rw [e1] at e; cases e
  · rw [e2] at e4; cases e4
    exact .inr ⟨bn, b2, rfl, e2, hne, hB, l2, ho.kept (grownBy_setCell w ⟨d, 3, none⟩ _) (fun e => ho.ne h.at_ (Option.some.inj e)), o2⟩

/-- an iterator's block turns: all of a disk stays -/
theorem Half.iter {B : Nat} {w w' : World} {d : Nat} {s : St} {g : Gh} {C : Array Value} (h : Half B w d s g C) {r : Nat} {m : Option Nat} {a : Nat} {b : Array Nat} {c : Nat} (hr : w.heap[r]? = some (.mapIter m a b c)) (hg : w.grownBy w' (some r)) : Half B w' d s g C := by
  have hob : ∀ {x : Nat} {c' : Array Value} {t : TypeId} {fr : Nat × Nat}, w.heap[x]? = some (.cells c' t fr) → some x ≠ some r := fun hx e => by
    rw [Option.some.inj e, hr] at hx
    cases hx
  have hom : ∀ {b n : Nat} {D : DataW Unit}, OwnM w b n D → some b ≠ some r := fun ho e => by
    obtain ⟨es, clock, hb, _⟩ := ho
    rw [Option.some.inj e, hr] at hb
    cases hb
  refine ⟨⟨?_, h.body.queue.kept hg (own_ne h.body.queue hr (by simp)), fun n hn => ?_, h.body.apart, h.body.cut.kept hg (own_ne h.body.cut hr (by simp)), h.body.bk⟩, (hg.block d h.lt (hob h.at_)).trans h.at_, h.le⟩
  · rcases h.body.maps with h1 | ⟨b1, b2, e1, e2, hne, l1, l2, o1, o2⟩
    · exact .inl h1
    · exact .inr ⟨b1, b2, e1, e2, hne, l1, l2, o1.kept hg (hom o1), o2.kept hg (hom o2)⟩
  · have hf := h.body.files n hn
    exact hf.kept hg (hob hf.2.1) (hf.2.2.ne hr (by simp))

def leftS (left : Lit → Bool) : Bs → Bool := fun k => left (.string k)

theorem leftS_strike (left : Lit → Bool) (x : Bs) : leftS (fun z => left z && !z.sameKey (.string x)) = strike (leftS left) x := rfl

def usedC (s : St) (l : List Int) (left : Lit → Bool) : Value := .int .i64 (usedL (lostFs l s.files) s.names (leftS left))

/-- where the loop stands -/
def LoseRel (B : Nat) (w0 : World) (d : Nat) (s : St) (g : Gh) (C : Array Value) (l : List Int) (bn r : Nat) (left : Lit → Bool) (cnt : Nat) (wr : World) : Prop :=
  wr.ranges Tryz.prog 9 ptrElem bn r s.names.length (D g.blk s.names) left cnt ∧ Moves B w0 wr ∧ B ≤ r ∧
  ∃ row', Half B wr d { s with files := fsL l s.names (leftS left) s.files } { g with row := row' } (C.setIfInBounds 1 (usedC s l left))

/-- an entry of the map has come -/
structure LoseMid (B : Nat) (w0 : World) (d : Nat) (s : St) (g : Gh) (C : Array Value) (l : List Int) (bn r : Nat) (left : Lit → Bool) (cnt : Nat) (x : Bs) (m : Nat) (row' : Nat → Value) (wr : World) : Prop where
  ranges : wr.ranges Tryz.prog 9 ptrElem bn r s.names.length (D g.blk s.names) (fun z => left z && !z.sameKey (.string x)) cnt
  moves : Moves B w0 wr
  iter : B ≤ r
  mem : (x, m) ∈ s.names
  here : left (.string x) = true
  half : Half B wr d { s with files := fsL l s.names (leftS left) s.files } { g with row := row' } (C.setIfInBounds 1 (usedC s l left))

theorem lose_mid {B : Nat} {w0 : World} {d : Nat} {s : St} {g : Gh} {C : Array Value} {l : List Int} {bn r : Nat} {left : Lit → Bool} {cnt : Nat} {wr : World} (h : LoseRel B w0 d s g C l bn r left cnt wr) {x : Bs} {c : Option Nat} {kl : Lit} {y : DataW Unit × List MemPlace} {w' : World} {cnt' : Nat}
    (hkey : keyOf Tryz.prog 9 (encStr x) = some kl) (hlk : left kl = true) (hv : ptrElem (.pointer (c.map fun b => ⟨b, 0, none⟩)) = some y) (hat : ∀ zd, (D g.blk s.names).atKey kl zd = y.1)
    (hrg : w'.ranges Tryz.prog 9 ptrElem bn r s.names.length (D g.blk s.names) (fun z => left z && !z.sameKey kl) cnt') (hgr : wr.grownBy w' (some r)) (hB : B ≤ w0.heap.size) :
    ∃ m row', c = some (g.blk m) ∧ kl = .string x ∧ LoseMid B w0 d s g C l bn r left cnt' x m row' w' := by
  obtain ⟨x', ex, rfl, _⟩ := Maps.keyOf_str Tryz.underlying9 hkey
  obtain rfl : x = x' := encStr_inj ex
  obtain ⟨h1, h2, h3, row', h4⟩ := h
  have hit : ∃ m a b c, wr.heap[r]? = some (.mapIter m a b c) := by
    obtain ⟨_, _, _, _, _, _, _, _, _, hr, _⟩ := h1
    exact ⟨_, _, _, _, hr⟩
  obtain ⟨mm, a, b, cc, hr⟩ := hit
  cases hf : find s.names x with
  | none =>
    have e1 := hat .nil
    have e2 := hat (.lit (.bool true))
    rw [D_at, hf] at e1 e2
    rw [← e1] at e2
    cases e2
  | some m =>
    have e1 := hat .nil
    rw [D_at, hf] at e1
    simp only at e1
    refine ⟨m, row', ?_, rfl, hrg, h2.grown hgr (by have := h2.size; omega) (fun k e => by cases e; exact ⟨h3, fun c' t fr hx => by rw [hr] at hx; cases hx⟩), h3, find_some hf, hlk, h4.iter hr hgr⟩
    cases c with
    | none =>
      have hy : some (DataW.nil, []) = some y := hv
      have hy' := Option.some.inj hy
      rw [← hy'] at e1
      cases e1
    | some b =>
      have hy : some (DataW.lit (.int .i64 (b : Int)), []) = some y := hv
      have hy1 : y.1 = .lit (.int .i64 (b : Int)) := (congrArg Prod.fst (Option.some.inj hy)).symm
      have e2 : (DataW.lit (.int .i64 (g.blk m : Int)) : DataW Unit) = .lit (.int .i64 (b : Int)) := e1.trans hy1
      have e3 : (g.blk m : Int) = (b : Int) := congrArg (fun q : DataW Unit => match q with | .lit (.int _ z) => z | _ => 0) e2
      have : g.blk m = b := by omega
      rw [this]

theorem mid_file {B : Nat} {w0 : World} {d : Nat} {s : St} {g : Gh} {C : Array Value} {l : List Int} {bn r : Nat} {left : Lit → Bool} {cnt : Nat} {x : Bs} {m : Nat} {row' : Nat → Value} {wr : World} (h : LoseMid B w0 d s g C l bn r left cnt x m row' wr) (ok : Ok s) :
    FileAt B wr { g with row := row' } m (fileAt s m) ∧ m < s.files.length := by
  have hlt : m < s.files.length := ok.gnames.file _ h.mem
  have hl := ok.names_live h.mem
  have hf := h.half.body.files m hl
  have he : fileAt { s with files := fsL l s.names (leftS left) s.files } m = fileAt s m := (fsL_step l ok.gnames h.mem h.here s.files hlt).2
  rw [he] at hf
  exact ⟨hf, hlt⟩

/-- the file has lost what it loses -/
theorem lose_file {B : Nat} {w0 : World} {d : Nat} {s : St} {g : Gh} {C : Array Value} {l : List Int} {bn r : Nat} {left : Lit → Bool} {cnt : Nat} {x : Bs} {m : Nat} {row' : Nat → Value} {wr w' : World} {e : Ending} (h : LoseMid B w0 d s g C l bn r left cnt x m row' wr) (ok : Ok s) (hB : B ≤ w0.heap.size)
    (ho : FLoseOut B wr { g with row := row' } m (loseF l m (fileAt s m)) e w') :
    ∃ row2 A c, w'.cell? ⟨g.blk m, 1, none⟩ = some (.slice A (lens (lostFs l s.files) m) c) ∧ Moves B w0 w' ∧ w'.ranges Tryz.prog 9 ptrElem bn r s.names.length (D g.blk s.names) (fun z => left z && !z.sameKey (.string x)) cnt ∧
      Half B w' d { s with files := fsL l s.names (leftS (fun z => left z && !z.sameKey (.string x))) s.files } { g with row := row2 } (C.setIfInBounds 1 (usedC s l left)) := by
  obtain ⟨_, hg, v, hvo, hfa⟩ := ho
  obtain ⟨hf0, hlt⟩ := mid_file h ok
  have hl := ok.names_live h.mem
  have hlen : lens (lostFs l s.files) m = (loseF l m (fileAt s m)).data.length := by
    unfold lens lostFs
    rw [getD_mapIdx _ _ _ hlt]
    rfl
  obtain ⟨A, c, hrow⟩ := row_slice hfa
  simp only [if_true] at hrow
  have hcell : w'.cell? ⟨g.blk m, 1, none⟩ = some (.slice A (lens (lostFs l s.files) m) c) := by
    have := cell_of_row _ _ 1 _ _ _ hfa.2.1
    simp only [if_true] at this
    rw [hlen, ← hrow]
    exact this
  have hhalf := h.half.file (n := m) (f := loseF l m (fileAt s m)) (v := v) (fun n hn => by have := ok.live_lt hn; rw [fsL_length]; exact this) hl
    (fun y o hy h1 _ => (hg.block y (Array.getElem?_eq_some_iff.1 hy).1 (fun e => h1 (Option.some.inj e))).trans hy)
    (by have := hfa.2.1; simp only [if_true] at this; exact this) (by have := hfa.2.2; simp only [if_true] at this; exact this) (.inr (.inl hvo))
  refine ⟨fun k => if k = m then v else row' k, A, c, hcell, ?_, ?_, ?_⟩
  · exact h.moves.grown hg (by have := h.moves.size; omega) (fun k e => by cases e; exact ⟨hf0.1, kin_cells hf0.2.1 (by decide)⟩)
  · refine h.ranges.kept hg (fun e => ?_) (fun e => ?_)
    · obtain ⟨es, clock, hb, _⟩ := h.ranges.owns
      have h2 := hf0.2.1
      have e' : bn = g.blk m := Option.some.inj e
      rw [e'] at hb
      rw [hb] at h2
      cases h2
    · obtain ⟨_, _, _, _, _, _, _, _, _, hr, _⟩ := h.ranges
      have h2 := hf0.2.1
      have e' : r = g.blk m := Option.some.inj e
      rw [e'] at hr
      rw [hr] at h2
      cases h2
  · rw [leftS_strike, (fsL_step l ok.gnames h.mem h.here s.files hlt).1]
    exact hhalf

theorem lose_next {B : Nat} {w0 : World} {d : Nat} {s : St} {g : Gh} {C : Array Value} {l : List Int} {bn r : Nat} {left : Lit → Bool} {cnt : Nat} {x : Bs} {m : Nat} {row2 : Nat → Value} {wr : World} (ok : Ok s) (hB : B ≤ w0.heap.size) (hm : Moves B w0 wr) (hr : B ≤ r) (hmem : (x, m) ∈ s.names) (hl : left (.string x) = true)
    (hrg : wr.ranges Tryz.prog 9 ptrElem bn r s.names.length (D g.blk s.names) (fun z => left z && !z.sameKey (.string x)) cnt)
    (hh : Half B wr d { s with files := fsL l s.names (leftS (fun z => left z && !z.sameKey (.string x))) s.files } { g with row := row2 } (C.setIfInBounds 1 (usedC s l left))) :
    LoseRel B w0 d s g C l bn r (fun z => left z && !z.sameKey (.string x)) cnt (wr.setCell ⟨d, 1, none⟩ (.int .i64 ((usedL (lostFs l s.files) s.names (leftS left) + lens (lostFs l s.files) m : Nat) : Int))) := by
  have hg := grownBy_setCell wr ⟨d, 1, none⟩ (.int .i64 ((usedL (lostFs l s.files) s.names (leftS left) + lens (lostFs l s.files) m : Nat) : Int))
  refine ⟨hrg.kept hg (fun e => ?_) (fun e => ?_), hm.setCell (p := ⟨d, 1, none⟩) (by have := hm.size; omega) hh.le hh.kin _, hr, row2, ?_⟩
  · exact OwnM.ne hrg.owns hh.at_ (Option.some.inj e)
  · obtain ⟨_, _, _, _, _, _, _, _, _, hr, _⟩ := hrg
    have h2 := hh.at_
    have e' : r = d := Option.some.inj e
    rw [e', h2] at hr
    cases hr
  · have h1 := hh.set 1 (usedC s l (fun z => left z && !z.sameKey (.string x)))
    have hu : usedC s l (fun z => left z && !z.sameKey (.string x)) = .int .i64 ((usedL (lostFs l s.files) s.names (leftS left) + lens (lostFs l s.files) m : Nat) : Int) := by
      unfold usedC
      rw [leftS_strike, usedL_step (lostFs l s.files) hl ok.gnames hmem]
    have hcc : (C.setIfInBounds 1 (usedC s l left)).setIfInBounds 1 (usedC s l (fun z => left z && !z.sameKey (.string x))) = C.setIfInBounds 1 (usedC s l (fun z => left z && !z.sameKey (.string x))) := by simp
    rw [hcc, hu] at h1
    rw [hu]
    exact h1

theorem lose_end {B : Nat} {w0 : World} {d : Nat} {s : St} {g : Gh} {C : Array Value} {l : List Int} {bn r : Nat} {left : Lit → Bool} {cnt : Nat} {wr : World} (h : LoseRel B w0 d s g C l bn r left cnt wr) (ok : Ok s) (hq : s.queue = []) (hn : s.lasts = s.names) (hl : ∀ kl, left kl = false) :
    Moves B w0 wr ∧ ∃ row', Half B wr d { s with files := lostFs l s.files } { g with row := row' } (C.setIfInBounds 1 (.int .i64 (used (lostFs l s.files) s.names))) := by
  obtain ⟨_, h2, _, row', h4⟩ := h
  refine ⟨h2, row', ?_⟩
  have hu : usedC s l left = .int .i64 (used (lostFs l s.files) s.names) := by
    have := usedL_end (lostFs l s.files) (names := s.names) (left := leftS left) (fun k => hl _)
    unfold usedC
    rw [this]
  rw [hu] at h4
  refine ⟨⟨h4.body.maps, h4.body.queue, fun n hnl => ?_, h4.body.apart, h4.body.cut, h4.body.bk⟩, h4.at_, h4.le⟩
  have hf := h4.body.files n hnl
  have hlv : ∃ p ∈ s.names, p.2 = n := by
    rcases hnl with ⟨p, hp, e⟩ | ⟨e, he, _⟩
    · simp only at hp
      rw [hn] at hp
      exact ⟨p, hp, e⟩
    · simp only [hq] at he
      cases he
  obtain ⟨p, hp, rfl⟩ := hlv
  have he := fsL_end l (left := leftS left) (fun k => hl _) s.files hp (ok.gnames.file p hp)
  have : fileAt { s with files := fsL l s.names (leftS left) s.files } p.2 = fileAt { s with files := lostFs l s.files } p.2 := he
  rw [this] at hf
  exact hf
end Go.Proofs.YtjkofciohehgfaaGreatDoor.L8


/- A loss of power: the walk of lose. -/
namespace Go.Proofs.YtjkofciohehgfaaGreatDoor.L8
open Go.RowKit Go.Maps
open DM

/-- what lose leaves -/
def LoseOut (B : Nat) (w : World) (d : Nat) (s : St) (e : Ending) (w' : World) : Prop :=
  e = .returned (.tuple #[]) ∧ Moves B w w' ∧ ∃ g, Rep B w' d s g

theorem lose_fin {B : Nat} {w0 wr : World} {d : Nat} {s : St} {g : Gh} (names : Int) (l : List Int) {bn : Nat} {k : Nat} (hk : rest names (s.queue.length + 1) = k) (hm : Moves B w0 wr)
    (h : ∃ row', Half B wr d { s with lasts := pre s.lasts s.queue k, names := pre s.lasts s.queue k, queue := [], files := lostFs l s.files } { g with q := .slice none 0 0, m1 := some bn, row := row' }
      (((((dC s g (used s.files s.names)).setIfInBounds 5 (.slice none 0 0)).setIfInBounds 3 (.map (some bn))).setIfInBounds 1 (.int .i64 0)).setIfInBounds 1 (.int .i64 (used (lostFs l s.files) (pre s.lasts s.queue k))))) :
    LoseOut B w0 d (loseS s names l) (.returned (.tuple #[])) wr := by
  obtain ⟨row', hh⟩ := h
  refine ⟨rfl, hm, { g with q := .slice none 0 0, m1 := some bn, row := row' }, ?_, ?_, hh.le⟩
  · unfold loseS
    rw [hk]
    exact hh.body
  · rw [hh.at_]
    unfold loseS
    rw [hk]
    simp [dC, lostFs]

theorem lose_start {B : Nat} {w w2 w5 : World} {d : Nat} {s : St} {g : Gh} {C : Array Value} (l : List Int) {X b1 b2 : Nat} {P : Nm} (e1 : g.m1 = some b1) (e2 : g.m2 = some b2) (hP : s.lasts = P) (hBw : B ≤ w.heap.size) (hm : Moves B w w2) (hh : Half B w2 d s g C) (ho : OwnM w2 X P.length (D g.blk P)) (hne : X ≠ b2) (hB : B ≤ X)
    (hrg : w5.ranges Tryz.prog 9 ptrElem X w2.heap.size P.length (D g.blk P) (Maps.has (D g.blk P)) (Maps.size (D g.blk P))) (hg : ((w2.setCell ⟨d, 3, none⟩ (.map (some X))).setCell ⟨d, 1, none⟩ (.int .i64 0)).grownBy w5 none) :
    LoseRel B w d { s with names := P, lasts := P } { g with m1 := some X } (C.setIfInBounds 3 (.map (some X))) l X w2.heap.size (Maps.has (D g.blk P)) (Maps.size (D g.blk P)) w5 := by
  subst hP
  have h1 := hh.renamed e1 e2 ho hne hB
  have h2 := (h1.set 1 (.int .i64 0)).still hg
  have hlf : ∀ p ∈ s.lasts, leftS (Maps.has (D g.blk s.lasts)) p.1 = true := fun p hp => by
    unfold leftS
    rw [D_has]
    cases hf : find s.lasts p.1 with
    | none => exact absurd rfl (find_none hf p hp)
    | some _ => rfl
  have hs2 := hm.size
  have m1 := hm.setCell (p := ⟨d, 3, none⟩) (by omega) hh.le hh.kin (.map (some X))
  have m2 := m1.setCell (p := ⟨d, 1, none⟩) (by rw [setCell_size]; omega) h1.le h1.kin (.int .i64 0)
  refine ⟨hrg, m2.grown hg (by rw [setCell_size, setCell_size]; omega) (fun k e => by cases e), by omega, g.row, ?_⟩
  have hu : usedC { s with names := s.lasts, lasts := s.lasts } l (Maps.has (D g.blk s.lasts)) = .int .i64 0 := by
    unfold usedC
    rw [usedL_start _ hlf]
    rfl
  rw [hu]
  simp only
  rw [fsL_start l s.files hlf]
  exact h2

theorem invK : ∀ key kl, keyOf Tryz.prog 9 key = some kl → ∃ x, key = encStr x := fun key kl hk => by
  obtain ⟨x, hx, _⟩ := Maps.keyOf_str Tryz.underlying9 hk
  exact ⟨x, hx⟩

def mkP (c : Option Nat) : Value := .pointer (c.map fun b => ⟨b, 0, none⟩)
theorem invV : ∀ v y, ptrElem v = some y → ∃ c, v = mkP c := fun v y hv => by
  rcases ptrElem_inv hv with ⟨b, rfl, _⟩ | ⟨rfl, _⟩
  · exact ⟨some b, rfl⟩
  · exact ⟨none, rfl⟩

set_option maxRecDepth 100000 in
set_option maxHeartbeats 2000000 in
theorem lose_some {B : Nat} {w : World} {d : Nat} {s : St} {g : Gh} (h : Rep B w d s g) (ok : Ok s) {b1 b2 : Nat} (e1 : g.m1 = some b1) (e2 : g.m2 = some b2) (hB : B ≤ w.heap.size) (names : Int) (hn : fits names) (A : Option Addr) (cap : Nat) (l : List Int) (hl : l.length ≤ 4611686018427387904) (hst : Stays B w A l) (hfit : ∀ x ∈ l, fits x)
    (hq : s.queue.length < 1099511627776) (hfl : s.files.length < 1099511627776) :
    Calls Tryz.prog 37 #[.pointer (some ⟨d, 0, none⟩), .int .i64 names, .slice A l.length cap] w (LoseOut B w d (loseS s names l)) := by
  obtain ⟨QA, qc, hqs⟩ := q_slice h.half
  have hk := rest_lt names (b := s.queue.length + 1) (by omega)
  obtain ⟨k, hkk⟩ : ∃ k, rest names (s.queue.length + 1) = k := ⟨_, rfl⟩
  have HFIN := Lib.hid (fun (wr : World) (bn : Nat) => @lose_fin B w wr d s g names l bn k hkk)
  have okn := ok_loseS ok names l
  rw [hkk] at hk
  have HREM : Hid (∀ W, Calls Tryz.prog 79 #[.int .i64 names, .int .i64 ((s.queue.length + 1 : Nat) : Int)] W fun e w' => e = .returned (.int .i64 k) ∧ W = w') := fun W => by
    rw [← hkk]; exact rem_any names _ W hn (by omega) (by omega)
  have HSET := Lib.hid (settle_any h.half ok hB rfl rfl k (by omega) hq)
  obtain ⟨P, hP⟩ : ∃ P, pre s.lasts s.queue k = P := ⟨_, rfl⟩
  have ok1 : Ok { s with lasts := P, names := P, queue := [] } := by
    have hg := ok.good k (by omega)
    rw [hP] at hg
    exact { ok with good := fun j _ => by simpa [pre] using hg, names := by simp [pre], ents := by simp }
  have HOK1 := Lib.hid ok1
  have c5 := h.cells.2.2.2.2.2.1
  rw [hqs] at c5
  obtain ⟨qn, hqn⟩ : ∃ qn, s.queue.length = qn := ⟨_, rfl⟩
  rw [hqn] at HREM c5 hq hk
  obtain ⟨M, hM⟩ : ∃ M, qn + 1 = M := ⟨_, rfl⟩
  rw [hM] at HREM
  have v1 : (qn : Int) + 1 = (M : Int) := by omega
  unfold SettleOut at HSET
  rw [hP] at HSET HFIN
  have HST := Lib.hid hst
  have HFI := Lib.hid hfit
  have HE1 := Lib.hid e1
  have HE2 := Lib.hid e2
  obtain ⟨C, hC⟩ : ∃ C, dC s g (used s.files s.names) = C := ⟨_, rfl⟩
  rw [hC] at HSET HFIN
  have hC4 : Hid (C[4]? = some (.map (some b2))) := by rw [← hC, ← e2]; rfl
  have hC3 : Hid (3 < C.size) := by rw [← hC]; show 3 < 11; omega
  clear h ok hn hst hfit hkk hqs okn ok1 hqn hM hP hC e1 e2
  go_enter Tryz.func37, Tryz.ntmps37
  go_wp2_with fail
  refine (HREM.out _).mono ?_
  rintro e w0 ⟨rfl, rfl⟩
  go_wp2_with fail
  refine HSET.out.mono ?_
  rintro e w1 ⟨rfl, hm1, hh1⟩
  have k4 := (hh1.cells 4)
  rw [Array.getElem?_setIfInBounds_ne (by decide)] at k4
  have k4' := k4.trans hC4.out
  have hs1 := hm1.size
  obtain ⟨es, clock, hes, hown⟩ : ∃ es clock, w1.heap[b2]? = some (.map es clock) ∧ (∀ W : World, W.heap = (w1.alloc (.map es clock)).heap → OwnM W w1.heap.size P.length (D g.blk P)) := by
    rcases hh1.body.maps with ⟨e, _⟩ | ⟨_, b, _, e, _, _, _, _, o2⟩
    · rw [HE1.out] at e; cases e
    · rw [HE2.out] at e; cases e
      obtain ⟨es, clock, hb, hr⟩ := o2
      exact ⟨es, clock, hb, fun W hW => ⟨es, clock, by rw [hW]; exact heap_alloc_new w1 _, hr⟩⟩
  have HM2 : Hid (Moves B w (w1.alloc (.map es clock))) := hm1.alloc (by omega) _
  have HH2 := Lib.hid (hh1.alloc (.map es clock))
  have HO2 : Hid (OwnM (w1.alloc (.map es clock)) w1.heap.size P.length (D g.blk P)) := hown _ rfl
  have HCL := Lib.hid (clone_map b2 es clock w1 hes)
  have hbl : Hid (b2 < w1.heap.size) := (Array.getElem?_eq_some_iff.1 hes).1
  have hX : ∃ X, w1.heap.size = X := ⟨_, rfl⟩
  have HBX : Hid (B ≤ w1.heap.size) := by show B ≤ w1.heap.size; omega
  clear k4 hm1 hh1 hes hown
  go_wp2_with fail
  refine HCL.out.mono ?_
  rintro e w2 ⟨rfl, rfl⟩
  clear HCL
  generalize w1.alloc (.map es clock) = w2 at HM2 HH2 HO2 ⊢
  obtain ⟨X, hX⟩ := hX
  rw [hX] at HO2 hbl HBX ⊢
  clear hX k4'
  have f3 := HH2.out.frozen 3
  have f1 := HH2.out.frozen 1
  have x3 : w2.cell? ⟨d, 3, none⟩ = some (C[3]'hC3.out) := by
    rw [HH2.out.cells 3, Array.getElem?_setIfInBounds_ne (by decide), Array.getElem?_eq_getElem hC3.out]
  have x1 : w2.cell? ⟨d, 1, none⟩ = some (C[1]'(by have := hC3.out; omega)) := by
    rw [HH2.out.cells 1, Array.getElem?_setIfInBounds_ne (by decide), Array.getElem?_eq_getElem (by have := hC3.out; omega)]
  have HO3 : Hid (OwnM ((w2.setCell ⟨d, 3, none⟩ (.map (some X))).setCell ⟨d, 1, none⟩ (.int .i64 0)) X P.length (D g.blk P)) :=
    (HO2.out.kept (grownBy_setCell w2 ⟨d, 3, none⟩ _) (fun e => HO2.out.ne HH2.out.at_ (Option.some.inj e))).kept (grownBy_setCell _ ⟨d, 1, none⟩ _) (fun e => HO2.out.ne HH2.out.at_ (Option.some.inj e))
  have HSTART := Lib.hid (fun w5 => @lose_start B w w2 w5 d { s with lasts := P, queue := [] } { g with q := .slice none 0 0 } (C.setIfInBounds 5 (.slice none 0 0)) l X b1 b2 P HE1.out HE2.out rfl hB HM2.out HH2.out HO2.out (by have := hbl.out; omega) HBX.out)
  go_wp2_with (at_range; refine wpList_range_own _ rfl _ 47 rfl 9 113 keyLaw Tryz.underlying47 _ X P.length (D g.blk P) rfl HO3.out ?_; intro w5 hrg5 hg5 hs5; have HREL := Lib.hid (HSTART.out w5 (by simpa using hrg5) hg5); clear hrg5 hg5 hs5)
  go_frame
  obtain ⟨S1, hS1⟩ : ∃ S1 : St, ({ s with lasts := P, names := P, queue := [] } : St) = S1 := ⟨_, rfl⟩
  obtain ⟨G1, hG1⟩ : ∃ G1 : Gh, ({ g with m1 := some X, q := .slice none 0 0 } : Gh) = G1 := ⟨_, rfl⟩
  obtain ⟨C1, hC1⟩ : ∃ C1 : Array Value, (C.setIfInBounds 5 (.slice none 0 0)).setIfInBounds 3 (.map (some X)) = C1 := ⟨_, rfl⟩
  have HREL2 : Hid (LoseRel B w d S1 G1 C1 l X w2.heap.size (Maps.has (D G1.blk S1.names)) (Maps.size (D G1.blk S1.names)) w5) := by
    rw [← hS1, ← hG1, ← hC1]; exact HREL.out
  have HOKS : Hid (Ok S1) := by rw [← hS1]; exact HOK1.out
  have hC1s : Hid (1 < C1.size) := by
    rw [← hC1]
    have h3 : 3 < C.size := hC3.out
    show 1 < _
    rw [Array.size_setIfInBounds, Array.size_setIfInBounds]
    omega
  have HFIN2 : Hid (∀ wr, (Moves B w wr ∧ ∃ row', Half B wr d { S1 with files := lostFs l S1.files } { G1 with row := row' } (C1.setIfInBounds 1 (.int .i64 (used (lostFs l S1.files) S1.names)))) → LoseOut B w d (loseS s names l) (.returned (.tuple #[])) wr) := fun wr ⟨hm, row', hh⟩ => by
    rw [← hS1, ← hG1, ← hC1] at hh
    refine HFIN.out wr X hm ⟨row', ?_⟩
    have he : (((C.setIfInBounds 5 (.slice none 0 0)).setIfInBounds 3 (.map (some X))).setIfInBounds 1 (.int .i64 0)).setIfInBounds 1 (.int .i64 (used (lostFs l s.files) P)) = ((C.setIfInBounds 5 (.slice none 0 0)).setIfInBounds 3 (.map (some X))).setIfInBounds 1 (.int .i64 (used (lostFs l s.files) P)) := by simp
    rw [he]
    exact hh
  have hS1q : Hid (S1.queue = [] ∧ S1.lasts = S1.names ∧ S1.files.length < 1099511627776) := by rw [← hS1]; exact ⟨rfl, rfl, hfl⟩
  obtain ⟨r, hr⟩ : ∃ r, w2.heap.size = r := ⟨_, rfl⟩
  rw [hr] at HREL2
  rw [setCell_size, setCell_size, hr]
  clear HREL HSTART HFIN HM2 HH2 HO2 HO3 x1 x3 f1 f3 hS1 hG1 hC1 hr HOK1 hC3 hC4 hbl HBX
  go_loopw [7] (fun _ wr => ∃ (left : Lit → Bool) (cnt : Nat), LoseRel B w d S1 G1 C1 l X r left cnt wr) (fun _ wr => wr.rangeLeft X r)
  case atStart => exact ⟨_, _, HREL2.out⟩
  case round =>
    clear HREL2
    obtain ⟨left, cnt, hrel⟩ := hrel
    have HR := Lib.hid hrel
    have HRG := Lib.hid hrel.1
    clear hrel
    go_wp2_with (at_next; refine wpList_next_ranges _ rfl _ rfl 9 keyLaw ptrElem encStr mkP invK invV X r _ _ left cnt rfl HRG.out ?_ ?_)
    · intro _ hl0
      have HE := Lib.hid (HFIN2.out wr (lose_end HR.out HOKS.out hS1q.out.1 hS1q.out.2.1 hl0))
      clear hl0
      go_wp2
      go_end0
      exact HE.out
    · intro x c kl yd yp w6 cnt2 hkey hlk hv hat hrg2 hlt2 hg2 hs2 hen
      obtain ⟨m, row', rfl, rfl, hmid⟩ := lose_mid HR.out hkey hlk hv hat hrg2 hg2 hB
      have HMID := Lib.hid hmid
      have HCNT := Lib.hid hlt2
      obtain ⟨hfm, hml⟩ := mid_file hmid HOKS.out
      have hbk : Hid (G1.blk m = G1.blk m) := rfl
      have HFL := Lib.hid (flose_any hfm (HOKS.out.files _ (fileAt_mem hml)) A cap l hl (HST.out.moved hmid.moves) HFI.out (by have := hS1q.out.2.2; omega))
      have hen' : (Instr.entry (.pointer (some ⟨r, 0, none⟩))).run Tryz.prog w6 = .ok (.tuple #[encStr x, .pointer (some ⟨G1.blk m, 0, none⟩)]) w6 := hen
      obtain ⟨bk, hbk⟩ : ∃ bk, G1.blk m = bk := ⟨_, rfl⟩
      have HBK := Lib.hid hbk
      have HFL' : Hid (Calls Tryz.prog 81 #[.pointer (some ⟨bk, 0, none⟩), .slice A l.length cap] w6 (FLoseOut B w6 { G1 with row := row' } m (loseF l m (fileAt S1 m)))) := by rw [← hbk]; exact HFL.out
      rw [hbk] at hen'
      clear hkey hlk hv hat hrg2 hlt2 hg2 hs2 hen hmid hfm hml hbk HFL
      unfold mkP
      simp only [Option.map_some]
      rw [HBK.out]
      go_wp2_with fail
      refine HFL'.out.mono ?_
      rintro e w7 hfo
      obtain ⟨row2, A2, c2, hcell, hm7, hrg7, hh7⟩ := lose_file HMID.out HOKS.out hB hfo
      obtain rfl : e = .returned (.tuple #[]) := hfo.1
      have hll : lens (lostFs l S1.files) m ≤ 1048576 := (ok_loseS HOKS.out 0 l).lens_le m
      have hul : usedL (lostFs l S1.files) S1.names (leftS left) ≤ 4294967296 := by
        have h1 := usedL_le (fs := lostFs l S1.files) (names := S1.names) (left := leftS left) (M := 1048576) (fun n => (ok_loseS HOKS.out 0 l).lens_le n)
        have h2 := HOKS.out.gnames.few
        have h3 : S1.names.length * 1048576 ≤ 4096 * 1048576 := Nat.mul_le_mul_right _ h2
        omega
      rw [HBK.out] at hcell
      have k1 : w7.cell? ⟨d, 1, none⟩ = some (usedC S1 l left) := by
        rw [hh7.cells 1, Array.getElem?_setIfInBounds_self_of_lt hC1s.out]
      unfold usedC at k1
      have fr1 := hh7.frozen 1
      have HNX := Lib.hid (fun (wr : World) (hm : Moves B w wr) (hrg) (hh) => @lose_next B w d S1 G1 C1 l X r left cnt2 x m row2 wr HOKS.out hB hm HMID.out.iter HMID.out.mem HMID.out.here hrg hh)
      have HNX2 := Lib.hid (HNX.out { w7 with drawn := w7.drawn + 1 } hm7.drew hrg7 hh7.drew)
      have HCN : Hid (∀ W, LoseRel B w d S1 G1 C1 l X r (fun z => left z && !z.sameKey (.string x)) cnt2 W → W.rangeLeft X r < wr.rangeLeft X r) := fun W hW => by
        rw [hW.1.left_eq, HRG.out.left_eq]; exact HCNT.out
      obtain ⟨UL, hUL⟩ : ∃ UL, usedL (lostFs l S1.files) S1.names (leftS left) = UL := ⟨_, rfl⟩
      obtain ⟨LL, hLL⟩ : ∃ LL, lens (lostFs l S1.files) m = LL := ⟨_, rfl⟩
      rw [hUL] at k1 hul HNX2
      rw [hLL] at hcell hll HNX2
      have y1 : ({ w7 with drawn := w7.drawn + 1 } : World).cell? ⟨d, 1, none⟩ = some (.int .i64 UL) := k1
      have y2 : ({ w7 with drawn := w7.drawn + 1 } : World).cell? ⟨bk, 1, none⟩ = some (.slice A2 LL c2) := hcell
      have y3 : ({ w7 with drawn := w7.drawn + 1 } : World).frozen? ⟨d, 1, none⟩ = false := fr1
      clear hfo hm7 hrg7 hh7 hUL hLL k1 hcell fr1 HNX HFL' HMID HCNT hen'
      go_wp2_with fail
      refine wp_region_still_tail 12 (by kernel_rfl) (by kernel_rfl) ?_
      simp only [List.take_succ_cons, List.take_zero, List.drop_succ_cons, List.drop_zero]
      generalize ({ w7 with drawn := w7.drawn + 1 } : World) = w8 at HNX2 y1 y2 y3 ⊢
      repeat still_step
      refine wpStill_nil ?_
      go_wp2
      have HN3 : Hid (LoseRel B w d S1 G1 C1 l X r (fun z => left z && !z.sameKey (.string x)) cnt2 (w8.setCell ⟨d, 1, none⟩ (.int .i64 ((UL : Int) + (LL : Int))))) := by
        have := HNX2.out
        rw [show ((UL + LL : Nat) : Int) = (UL : Int) + (LL : Int) from by omega] at this
        exact this
      go_roundw
      case rel => exact ⟨_, cnt2, HN3.out⟩
      case measure => exact HCN.out _ HN3.out

set_option maxRecDepth 100000 in
set_option maxHeartbeats 2000000 in
theorem lose_none {B : Nat} {w : World} {d : Nat} {s : St} {g : Gh} (h : Rep B w d s g) (ok : Ok s) (e1 : g.m1 = none) (hB : B ≤ w.heap.size) (names : Int) (hn : fits names) (A : Option Addr) (cap : Nat) (l : List Int) :
    Calls Tryz.prog 37 #[.pointer (some ⟨d, 0, none⟩), .int .i64 names, .slice A l.length cap] w (LoseOut B w d (loseS s names l)) := by
  obtain ⟨hnm, hls, hqe, e2⟩ : s.names = [] ∧ s.lasts = [] ∧ s.queue = [] ∧ g.m2 = none := by
    rcases h.body.maps with ⟨_, h4, h1, h2, h3⟩ | ⟨b1, b2, e, _⟩
    · exact ⟨h1, h2, h3, h4⟩
    · rw [e1] at e; cases e
  have hk : rest names (s.queue.length + 1) = 0 := by
    have := rest_lt names (b := s.queue.length + 1) (by omega)
    rw [hqe] at this ⊢
    simp at this ⊢
    omega
  have HREM : Hid (∀ W, Calls Tryz.prog 79 #[.int .i64 names, .int .i64 1] W fun e w' => e = .returned (.int .i64 0) ∧ W = w') := fun W => by
    have := rem_any names 1 W hn (by omega) (by omega)
    have h0 : rest names 1 = 0 := by have := rest_lt names (b := 1) (by omega); omega
    rw [h0] at this
    exact this
  have HSET := Lib.hid (settle_any h.half ok hB rfl rfl 0 (by omega) (by rw [hqe]; decide))
  have hpre : pre s.lasts s.queue 0 = [] := by rw [hls]; rfl
  unfold SettleOut at HSET
  rw [hpre] at HSET
  obtain ⟨QA, qc, hqs⟩ := q_slice h.half
  have c5 := h.cells.2.2.2.2.2.1
  rw [hqs, hqe] at c5
  have c5' : w.cell? ⟨d, 5, none⟩ = some (.slice QA 0 qc) := c5
  have hfin : Hid (∀ W W2 : World, Moves B w W → Half B W d { s with lasts := [], queue := [] } { g with q := .slice none 0 0 } ((dC s g (used s.files s.names)).setIfInBounds 5 (.slice none 0 0)) → W2 = (((W.setCell ⟨d, 3, none⟩ (.map none)).setCell ⟨d, 1, none⟩ (.int .i64 0)).alloc (.mapIter none 0 #[] 0)) → LoseOut B w d (loseS s names l) (.returned (.tuple #[])) W2) := fun W W2 hm hh hW2 => by
    subst hW2
    have hs := hm.size
    have h3 := ((hh.set 3 (.map none)).set 1 (.int .i64 0)).alloc (.mapIter none 0 #[] 0)
    have m1 := hm.setCell (p := ⟨d, 3, none⟩) (by omega) hh.le hh.kin (.map none)
    have m2 := m1.setCell (p := ⟨d, 1, none⟩) (by rw [setCell_size]; omega) hh.le (hh.set 3 _).kin (.int .i64 0)
    have hl : loseS s names l = { s with files := lostFs l s.files, names := [], lasts := [], queue := [] } := by
      unfold loseS
      rw [hk, hpre]
    refine ⟨rfl, m2.alloc (by rw [setCell_size, setCell_size]; omega) _, { g with q := .slice none 0 0, m1 := none, m2 := none }, ?_⟩
    rw [hl]
    refine ⟨⟨.inl ⟨rfl, rfl, rfl, rfl, rfl⟩, World.ownsRow_nil _ _ _ _, fun n hn => ?_, fun n m hn => ?_, h3.body.cut, h3.body.bk⟩, ?_, h3.le⟩
    · rcases hn with ⟨p, hp, _⟩ | ⟨e, he, _⟩
      · cases hp
      · cases he
    · rcases hn with ⟨p, hp, _⟩ | ⟨e, he, _⟩
      · cases hp
      · cases he
    · rw [h3.at_]
      simp [dC, lostFs, e2, used]
  have hC4 : Hid ((dC s g (used s.files s.names))[4]? = some (.map none)) := by rw [← e2]; rfl
  have hC3 : Hid ((dC s g (used s.files s.names))[3]? = some (.map none)) := by rw [← e1]; rfl
  have hC1 : Hid ((dC s g (used s.files s.names))[1]? = some (.int .i64 (used s.files s.names))) := rfl
  obtain ⟨C, hC⟩ : ∃ C, dC s g (used s.files s.names) = C := ⟨_, rfl⟩
  rw [hC] at HSET hfin hC4 hC3 hC1
  have hrg := fun W : World => run_range_nilMap (P := Tryz.prog) W 47 9 113 Tryz.underlying47
  clear h ok e1 hn hnm hls hqe e2 hk hpre hqs hC c5
  go_enter Tryz.func37, Tryz.ntmps37
  go_wp2_with fail
  refine (HREM.out _).mono ?_
  rintro e w0 ⟨rfl, rfl⟩
  go_wp2_with fail
  refine HSET.out.mono ?_
  rintro e w1 ⟨rfl, hm1, hh1⟩
  have k4 : w1.cell? ⟨d, 4, none⟩ = some (.map none) := by rw [hh1.cells 4, Array.getElem?_setIfInBounds_ne (by decide)]; exact hC4.out
  have k3 : w1.cell? ⟨d, 3, none⟩ = some (.map none) := by rw [hh1.cells 3, Array.getElem?_setIfInBounds_ne (by decide)]; exact hC3.out
  have k1 : w1.cell? ⟨d, 1, none⟩ = some (.int .i64 (used s.files s.names)) := by rw [hh1.cells 1, Array.getElem?_setIfInBounds_ne (by decide)]; exact hC1.out
  have f3 := hh1.frozen 3
  have f1 := hh1.frozen 1
  have hdl := hh1.lt
  have HEND := Lib.hid (fun W2 => hfin.out w1 W2 hm1 hh1)
  have hnx : ∀ ty, (Instr.next (.pointer (some ⟨((w1.setCell ⟨d, 3, none⟩ (.map none)).setCell ⟨d, 1, none⟩ (.int .i64 0)).heap.size, 0, none⟩)) false ty).run Tryz.prog (((w1.setCell ⟨d, 3, none⟩ (.map none)).setCell ⟨d, 1, none⟩ (.int .i64 0)).alloc (.mapIter none 0 #[] 0)) = _ := fun ty => run_next_nilMap ((w1.setCell ⟨d, 3, none⟩ (.map none)).setCell ⟨d, 1, none⟩ (.int .i64 0)) ty 0 0 #[]
  simp only [setCell_size] at hnx
  clear hm1 hh1 hfin
  go_wp2_with fail
  refine (clone_nil _).mono ?_
  rintro e w2 ⟨rfl, rfl⟩
  go_wp2_with fail
  refine wp_loop_rounds 1 ?_
  rw [rounds_succ]
  go_wp2
  go_end0
  exact HEND.out _ rfl

/-- a loss of power -/
theorem lose_any {B : Nat} {w : World} {d : Nat} {s : St} {g : Gh} (h : Rep B w d s g) (ok : Ok s) (hB : B ≤ w.heap.size) (names : Int) (hn : fits names) (A : Option Addr) (cap : Nat) (l : List Int) (hl : l.length ≤ 4611686018427387904) (hst : Stays B w A l) (hfit : ∀ x ∈ l, fits x)
    (hq : s.queue.length < 1099511627776) (hfl : s.files.length < 1099511627776) :
    Calls Tryz.prog 37 #[.pointer (some ⟨d, 0, none⟩), .int .i64 names, .slice A l.length cap] w (LoseOut B w d (loseS s names l)) := by
  rcases h.body.maps with ⟨e, _⟩ | ⟨b1, b2, e1, e2, _⟩
  · exact lose_none h ok e hB names hn A cap l
  · exact lose_some h ok e1 e2 hB names hn A cap l hl hst hfit hq hfl

theorem on_rep {B : Nat} {w W : World} {d : Nat} {s : St} {g : Gh} (h : Rep B w d s g) (hB : B ≤ w.heap.size)
    (hW : W = (((((w.setCell ⟨d, 6, none⟩ (.bool false)).setCell ⟨d, 7, none⟩ (.int .i64 0)).setCell ⟨d, 8, none⟩ (.int .i64 0)).setCell ⟨d, 9, none⟩ (.slice none 0 0)).setCell ⟨d, 10, none⟩ (.int .i64 0))) :
    Moves B w W ∧ ∃ g, Rep B W d (on s) g := by
  subst hW
  have h6 := h.half.set 6 (.bool false)
  have h7 := h6.set 7 (.int .i64 0)
  have h8 := h7.set 8 (.int .i64 0)
  have h9 := h8.set 9 (.slice none 0 0)
  have h10 := h9.set 10 (.int .i64 0)
  refine ⟨(((((Moves.refl B w).setCell (p := ⟨d, 6, none⟩) hB h.le h.half.kin _).setCell (p := ⟨d, 7, none⟩) (by simpa [setCell_size] using hB) h.le h6.kin _).setCell (p := ⟨d, 8, none⟩) (by simpa [setCell_size] using hB) h.le h7.kin _).setCell (p := ⟨d, 9, none⟩) (by simpa [setCell_size] using hB) h.le h8.kin _).setCell (p := ⟨d, 10, none⟩) (by simpa [setCell_size] using hB) h.le h9.kin _, { g with cv := .slice none 0 0, bk := 0 }, ?_, ?_, h10.le⟩
  · exact ⟨h10.body.maps, h10.body.queue, h10.body.files, h10.body.apart, World.ownsRow_nil _ _ _ _, fun _ => rfl, Int.le_refl 0, (by decide : (0 : Int) ≤ 9223372036854775807)⟩
  · rw [h10.at_]
    simp [dC, on]

set_option maxRecDepth 100000 in
set_option maxHeartbeats 1000000 in
theorem on_any {B : Nat} {w : World} {d : Nat} {s : St} {g : Gh} (h : Rep B w d s g) (hB : B ≤ w.heap.size) :
    Calls Tryz.prog 38 #[.pointer (some ⟨d, 0, none⟩)] w (LoseOut B w d (on s)) := by
  have HE := Lib.hid (fun W hW => @on_rep B w W d s g h hB hW)
  have c6 := h.half.cells 6
  have c7 := h.half.cells 7
  have c8 := h.half.cells 8
  have c9 := h.half.cells 9
  have c10 := h.half.cells 10
  simp only [dC] at c6 c7 c8 c9 c10
  have f6 := h.half.frozen 6
  have f7 := h.half.frozen 7
  have f8 := h.half.frozen 8
  have f9 := h.half.frozen 9
  have f10 := h.half.frozen 10
  clear h
  go_enter Tryz.func38, Tryz.ntmps38
  go_wp2
  go_end0
  obtain ⟨h1, h2⟩ := HE.out _ rfl
  exact ⟨rfl, h1, h2⟩
end Go.Proofs.YtjkofciohehgfaaGreatDoor.L8


/- change: a call that changes. -/
namespace Go.Proofs.YtjkofciohehgfaaGreatDoor.L8
open Go.RowKit Go.Maps
open DM

theorem set_same {C : Array Value} {j : Nat} {v : Value} (h : C[j]? = some v) : C.setIfInBounds j v = C := by
  apply Array.ext_getElem?
  intro i
  by_cases hij : j = i
  · subst hij
    rw [Array.getElem?_setIfInBounds_self_of_lt (Array.getElem?_eq_some_iff.1 h).1, h]
  · rw [Array.getElem?_setIfInBounds_ne hij]

/-- what countDown leaves -/
def CountOut (B : Nat) (w : World) (d : Nat) (s : St) (g : Gh) (C : Array Value) (j n : Nat) (e : Ending) (w' : World) : Prop :=
  e = .returned (.bool (decide (n = 1))) ∧ Moves B w w' ∧ Half B w' d s g (C.setIfInBounds j (.int .i64 ((n - 1 : Nat) : Int)))

theorem count_half {B : Nat} {w : World} {d : Nat} {s : St} {g : Gh} {C : Array Value} (h : Half B w d s g C) (hB : B ≤ w.heap.size) {j n : Nat} (hj : C[j]? = some (.int .i64 n)) (hn : n ≤ 9223372036854775807) :
    Calls Tryz.prog 105 #[.pointer (some ⟨d, j, none⟩)] w (CountOut B w d s g C j n) := by
  have hc := (h.cells j).trans hj
  cases n with
  | zero =>
    refine (count_zero d j w hc).mono fun e w' ⟨he, hw⟩ => ?_
    subst hw
    refine ⟨he, Moves.refl _ _, ?_⟩
    have : C.setIfInBounds j (.int .i64 ((0 - 1 : Nat) : Int)) = C := set_same hj
    rw [this]
    exact h
  | succ m =>
    refine (count_pos d j m w hc (h.frozen j) (by omega)).mono fun e w' ⟨he, hw⟩ => ?_
    subst hw
    refine ⟨?_, (Moves.refl B w).setCell (p := ⟨d, j, none⟩) hB h.le h.kin _, ?_⟩
    · rw [he]
      congr 2
      simp
    · have : m + 1 - 1 = m := by omega
      rw [this]
      exact h.set j _

theorem counted_rep {B : Nat} {w : World} {d : Nat} {s : St} {g : Gh} (h : Half B w d s g (((dC s g (used s.files s.names)).setIfInBounds 7 (.int .i64 ((s.cutN - 1 : Nat) : Int))).setIfInBounds 10 (.int .i64 ((s.brk - 1 : Nat) : Int)))) (hb : s.brk ≤ 9223372036854775807) :
    Rep B w d (counted s) { g with bk := ((s.brk - 1 : Nat) : Int) } := by
  refine ⟨⟨h.body.maps, h.body.queue, h.body.files, h.body.apart, h.body.cut, fun _ => rfl, by show (0 : Int) ≤ ((s.brk - 1 : Nat) : Int); omega, by show ((s.brk - 1 : Nat) : Int) ≤ _; omega⟩, ?_, h.le⟩
  rw [h.at_]
  simp [dC, counted]

/-- what a call that changes leaves -/
def ChangeOut (B : Nat) (w : World) (d : Nat) (r : Int × St) (e : Ending) (w' : World) : Prop :=
  e = .returned (.int .i64 r.1) ∧ Moves B w w' ∧ ∃ g, Rep B w' d r.2 g

theorem off_rep {B : Nat} {w0 w W : World} {d : Nat} {s : St} {g : Gh} (h : Rep B w d s g) (hB : B ≤ w.heap.size) (hm : Moves B w0 w)
    (hW : W = ((((w.setCell ⟨d, 6, none⟩ (.bool true)).setCell ⟨d, 7, none⟩ (.int .i64 0)).setCell ⟨d, 8, none⟩ (.int .i64 0)).setCell ⟨d, 9, none⟩ (.slice none 0 0))) :
    Moves B w0 W ∧ ∃ g, Rep B W d { s with off := true, cutN := 0, cutNames := 0, cutBytes := [], brk := 0 } g := by
  subst hW
  have h6 := h.half.set 6 (.bool true)
  have h7 := h6.set 7 (.int .i64 0)
  have h8 := h7.set 8 (.int .i64 0)
  have h9 := h8.set 9 (.slice none 0 0)
  refine ⟨(((hm.setCell (p := ⟨d, 6, none⟩) hB h.le h.half.kin _).setCell (p := ⟨d, 7, none⟩) (by simpa [setCell_size] using hB) h.le h6.kin _).setCell (p := ⟨d, 8, none⟩) (by simpa [setCell_size] using hB) h.le h7.kin _).setCell (p := ⟨d, 9, none⟩) (by simpa [setCell_size] using hB) h.le h8.kin _, { g with cv := .slice none 0 0 }, ?_, ?_, h9.le⟩
  · exact ⟨h9.body.maps, h9.body.queue, h9.body.files, h9.body.apart, World.ownsRow_nil _ _ _ _, fun e => (by cases e), h9.body.bk.2.1, h9.body.bk.2.2⟩
  · rw [h9.at_]
    simp [dC]

theorem cut_stays {B : Nat} {w : World} {s : St} {g : Gh} (h : Body B w s g) : ∃ A c, g.cv = .slice A s.cutBytes.length c ∧ Stays B w A s.cutBytes := by
  rcases h.cut.2 with ⟨e, h0⟩ | ⟨r, c, cur, e, _, hr, _, _, _, htk⟩
  · exact ⟨none, 0, by rw [e, h0], fun h1 => by omega⟩
  · refine ⟨_, c, e, fun _ => ⟨r, 0, rfl, fun w' hm j hj => ?_⟩⟩
    rw [cell_of_row _ _ _ _ _ _ (hm.kept _ _ _ _ hr (by decide)), Nat.zero_add, ← Array.getElem?_toList]
    have h2 : (cur.toList.take (s.cutBytes.length * 1))[j]? = (s.cutBytes.map (Value.int .i64))[j]? := by rw [htk]
    rw [List.getElem?_take_of_lt (by omega)] at h2
    rw [h2]
    simp [hj]

set_option maxRecDepth 100000 in
set_option maxHeartbeats 2000000 in
theorem change_any {B : Nat} {w : World} {d : Nat} {s : St} {g : Gh} (h : Rep B w d s g) (ok : Ok s) (hB : B ≤ w.heap.size) (hoff : s.off = false) (ahead : Bool) (fn : FuncId) (caps : Array Value) (go : St → St)
    (okg : Ok (go (counted s))) (hgc : (go (counted s)).cutNames = s.cutNames ∧ (go (counted s)).cutBytes = s.cutBytes) (hq : (go (counted s)).queue.length < 1099511627776) (hfl : (go (counted s)).files.length < 1099511627776) (hq0 : s.queue.length < 1099511627776) (hfl0 : s.files.length < 1099511627776) (hcb : s.cutBytes.length ≤ 4611686018427387904)
    (hcf : ∀ W, (callFunc fn caps).run Tryz.prog W = .ok (.enter fn caps) W)
    (hdo : ∀ W k, Rep B W d (counted s) { g with bk := k } → Moves B w W → B ≤ W.heap.size → Calls Tryz.prog fn caps W (DoOut B W d (go (counted s)))) :
    Calls Tryz.prog 67 #[.pointer (some ⟨d, 0, none⟩), .bool ahead, .func (.func fn) #[] caps] w (ChangeOut B w d (change ahead go s)) := by
  have hbk : g.bk = s.brk := h.body.bk.1 hoff
  have HC1 := Lib.hid (fun W (hh : Half B W d s g (dC s g (used s.files s.names))) (hBW : B ≤ W.heap.size) => count_half hh hBW (j := 7) (n := s.cutN) rfl ok.cutN)
  have HC2 := Lib.hid (fun W (hh : Half B W d s g ((dC s g (used s.files s.names)).setIfInBounds 7 (.int .i64 ((s.cutN - 1 : Nat) : Int)))) (hBW : B ≤ W.heap.size) => count_half hh hBW (j := 10) (n := s.brk) (by rw [Array.getElem?_setIfInBounds_ne (by decide)]; show some (Value.int .i64 g.bk) = _; rw [hbk]) ok.brk)
  have HH := Lib.hid h.half
  have HDO := Lib.hid hdo
  go_enter Tryz.func67, Tryz.ntmps67
  go_wp2_with fail
  go_region_held3 (fun _ => True) (trivial)
    (first
      | (go_at_call 105
         (with_reducible refine (HC1.out _ ?_ ?_).mono ?_)
         · exact HH.out.drew
         · exact hB
         rintro e w1 hco1
         have HCO1 := Lib.hid hco1
         obtain ⟨rfl, hm1, hh1⟩ := HCO1.out
         clear hco1 hm1 hh1)
      | (go_at_call 105
         (with_reducible refine (HC2.out _ ?_ ?_).mono ?_)
         · exact HCO1.out.2.2
         · exact Nat.le_trans hB HCO1.out.2.1.size
         rintro e w2 hco2
         have HCO2 := Lib.hid hco2
         obtain ⟨rfl, hm2, hh2⟩ := HCO2.out
         clear hco2 hm2 hh2)
      | fail)
  have HR2 : Hid (Rep B w2 d (counted s) { g with bk := ((s.brk - 1 : Nat) : Int) }) := counted_rep HCO2.out.2.2 ok.brk
  have HM2 : Hid (Moves B w w2) := by
    have h1 : Moves B w w1 := (Moves.refl B w).drew.trans HCO1.out.2.1
    exact h1.trans HCO2.out.2.1
  have HB2 : Hid (B ≤ w2.heap.size) := Nat.le_trans hB HM2.out.size
  have okc := ok_counted ok
  have HCB := Lib.hid hcb
  have HGC := Lib.hid hgc
  have HOKG := Lib.hid okg
  have HOKC := Lib.hid okc
  clear HCO1 HCO2 HC1 HC2 HH hdo h ok hoff hbk hcb hgc okg okc
  by_cases h1 : s.cutN = 1
  · have d1 : decide (s.cutN = 1) = true := decide_eq_true h1
    rw [d1]
    have hch : Hid (change ahead go s = (13, { fail (if ahead then go (counted s) else counted s) s.cutNames s.cutBytes with off := true })) := by
      unfold change
      rw [if_pos h1]
      exact rfl
    clear d1 h1
    have key : ∀ (s2 : St) (g3 : Gh) (w3 : World), Rep B w3 d s2 g3 → Moves B w w3 → Ok s2 → s2.cutNames = s.cutNames ∧ s2.cutBytes = s.cutBytes → s2.queue.length < 1099511627776 → s2.files.length < 1099511627776 →
        ∃ A c, g3.cv = .slice A s.cutBytes.length c ∧ Calls Tryz.prog 37 #[.pointer (some ⟨d, 0, none⟩), .int .i64 s.cutNames, .slice A s.cutBytes.length c] { w3 with drawn := w3.drawn + 1 } (LoseOut B { w3 with drawn := w3.drawn + 1 } d (loseS s2 s.cutNames s.cutBytes)) := fun s2 g3 w3 hr hm hok hcc hq2 hf2 => by
      obtain ⟨A, c, h1, h2⟩ := cut_stays hr.body
      rw [hcc.2] at h1 h2
      have hr' : Rep B { w3 with drawn := w3.drawn + 1 } d s2 g3 := hr.still ⟨rfl, rfl, rfl, Nat.le_refl _, fun _ _ _ => rfl⟩
      have hfi := hok.cutBytes
      have hnm := hok.cutNames
      rw [hcc.1] at hnm
      rw [hcc.2] at hfi
      exact ⟨A, c, h1, lose_any hr' hok (Nat.le_trans hB hm.size) s.cutNames hnm A c s.cutBytes HCB.out (h2.moved (Moves.refl _ _).drew) hfi hq2 hf2⟩
    have KEY := Lib.hid key
    clear key
    obtain ⟨s2, hs2⟩ : ∃ s2, (if ahead then go (counted s) else counted s) = s2 := ⟨_, rfl⟩
    have HS2 := Lib.hid hs2
    have HE : Hid (∀ W, (Moves B w W ∧ ∃ g, Rep B W d { loseS s2 s.cutNames s.cutBytes with off := true, cutN := 0, cutNames := 0, cutBytes := [], brk := 0 } g) → ChangeOut B w d (change ahead go s) (.returned (.int .i64 13)) W) := fun W hW => by
      rw [hch.out, hs2]
      exact ⟨rfl, hW.1, hW.2⟩
    clear hs2 hch
    cases ahead
    · have hs2 : counted s = s2 := HS2.out
      have HR3 : Hid (∃ g3, Rep B w2 d s2 g3) := by rw [← hs2]; exact ⟨_, HR2.out⟩
      have HOK2 : Hid (Ok s2) := by rw [← hs2]; exact HOKC.out
      have HCC : Hid (s2.cutNames = s.cutNames ∧ s2.cutBytes = s.cutBytes) := by rw [← hs2]; exact ⟨rfl, rfl⟩
      have HQ2 : Hid (s2.queue.length < 1099511627776 ∧ s2.files.length < 1099511627776) := by rw [← hs2]; exact ⟨hq0, hfl0⟩
      have HM3 := HM2
      clear hs2
      obtain ⟨w3, hw3⟩ : ∃ w3, w2 = w3 := ⟨_, rfl⟩
      rw [hw3] at HR3 HM3
      go_wp2_with fail
      clear HR2 HM2 HB2 HDO hw3 hcf
      obtain ⟨g3, hr3⟩ := HR3.out
      obtain ⟨A, c, hcv, hcl⟩ := KEY.out s2 g3 w3 hr3 HM3.out HOK2.out HCC.out HQ2.out.1 HQ2.out.2
      have HCL := Lib.hid hcl
      have k8 : ({ w3 with drawn := w3.drawn + 1 } : World).cell? ⟨d, 8, none⟩ = some (.int .i64 s.cutNames) := by rw [← HCC.out.1]; exact hr3.cells.2.2.2.2.2.2.2.2.1
      have k9 : ({ w3 with drawn := w3.drawn + 1 } : World).cell? ⟨d, 9, none⟩ = some (.slice A s.cutBytes.length c) := by rw [← hcv]; exact hr3.cells.2.2.2.2.2.2.2.2.2.1
      have hm4 : Hid (Moves B w { w3 with drawn := w3.drawn + 1 }) := HM3.out.drew
      refine wp_region_still_tail 11 (by kernel_rfl) (by kernel_rfl) ?_
      simp only [List.take_succ_cons, List.take_zero, List.drop_succ_cons, List.drop_zero]
      generalize ({ w3 with drawn := w3.drawn + 1 } : World) = w4 at HCL k8 k9 hm4 ⊢
      clear hcl hcv hr3 HR3 HM3 KEY
      repeat still_step
      refine wpStill_nil ?_
      go_wp2_with fail
      refine HCL.out.mono ?_
      rintro e w5 ⟨rfl, hm5, g5, hr5⟩
      have HOFF := Lib.hid (fun W hW => @off_rep B w w5 W d _ g5 hr5 (Nat.le_trans hB (Nat.le_trans hm4.out.size hm5.size)) (hm4.out.trans hm5) hW)
      have j6 := hr5.half.frozen 6
      have j7 := hr5.half.frozen 7
      have j8 := hr5.half.frozen 8
      have j9 := hr5.half.frozen 9
      obtain ⟨-, -, -, -, -, -, i6, i7, i8, i9, -⟩ := hr5.cells
      clear hm5 hr5 HCL k8 k9
      go_wp2
      go_ret
      exact HE.out _ (HOFF.out _ rfl)
    · have hs2 : go (counted s) = s2 := HS2.out
      have HGD : Hid (∀ e W, DoOut B w2 d (go (counted s)) e W → (∃ g3, Rep B W d s2 g3) ∧ Moves B w W) := fun e W hd => by
        rw [← hs2]
        obtain ⟨_, hm, g3, _, _, _, _, hr⟩ := hd
        exact ⟨⟨g3, hr⟩, HM2.out.trans hm⟩
      have HOK2 : Hid (Ok s2) := by rw [← hs2]; exact HOKG.out
      have HCC : Hid (s2.cutNames = s.cutNames ∧ s2.cutBytes = s.cutBytes) := by rw [← hs2]; exact HGC.out
      have HQ2 : Hid (s2.queue.length < 1099511627776 ∧ s2.files.length < 1099511627776) := by rw [← hs2]; exact ⟨hq, hfl⟩
      clear hs2
      go_wp2_with fail
      refine (HDO.out w2 _ HR2.out HM2.out HB2.out).mono ?_
      rintro e w3 hd3
      obtain ⟨h3a, h3b⟩ := HGD.out _ _ hd3
      have HR3 := Lib.hid h3a
      have HM3 := Lib.hid h3b
      obtain ⟨rfl, hm3, hr3⟩ := hd3
      clear hm3 hr3 h3a h3b HGD HR2 HM2 HB2 HDO hcf
      go_wp2_with fail
      obtain ⟨g3, hr3⟩ := HR3.out
      obtain ⟨A, c, hcv, hcl⟩ := KEY.out s2 g3 w3 hr3 HM3.out HOK2.out HCC.out HQ2.out.1 HQ2.out.2
      have HCL := Lib.hid hcl
      have k8 : ({ w3 with drawn := w3.drawn + 1 } : World).cell? ⟨d, 8, none⟩ = some (.int .i64 s.cutNames) := by rw [← HCC.out.1]; exact hr3.cells.2.2.2.2.2.2.2.2.1
      have k9 : ({ w3 with drawn := w3.drawn + 1 } : World).cell? ⟨d, 9, none⟩ = some (.slice A s.cutBytes.length c) := by rw [← hcv]; exact hr3.cells.2.2.2.2.2.2.2.2.2.1
      have hm4 : Hid (Moves B w { w3 with drawn := w3.drawn + 1 }) := HM3.out.drew
      refine wp_region_still_tail 11 (by kernel_rfl) (by kernel_rfl) ?_
      simp only [List.take_succ_cons, List.take_zero, List.drop_succ_cons, List.drop_zero]
      generalize ({ w3 with drawn := w3.drawn + 1 } : World) = w4 at HCL k8 k9 hm4 ⊢
      clear hcl hcv hr3 HR3 HM3 KEY
      repeat still_step
      refine wpStill_nil ?_
      go_wp2_with fail
      refine HCL.out.mono ?_
      rintro e w5 ⟨rfl, hm5, g5, hr5⟩
      have HOFF := Lib.hid (fun W hW => @off_rep B w w5 W d _ g5 hr5 (Nat.le_trans hB (Nat.le_trans hm4.out.size hm5.size)) (hm4.out.trans hm5) hW)
      have j6 := hr5.half.frozen 6
      have j7 := hr5.half.frozen 7
      have j8 := hr5.half.frozen 8
      have j9 := hr5.half.frozen 9
      obtain ⟨-, -, -, -, -, -, i6, i7, i8, i9, -⟩ := hr5.cells
      clear hm5 hr5 HCL k8 k9
      go_wp2
      go_ret
      exact HE.out _ (HOFF.out _ rfl)
  · have d1 : decide (s.cutN = 1) = false := decide_eq_false h1
    rw [d1]
    by_cases h2 : s.brk = 1
    · have d2 : decide (s.brk = 1) = true := decide_eq_true h2
      rw [d2]
      have HE : Hid (ChangeOut B w d (change ahead go s) (.returned (.int .i64 12)) w2) := by
        unfold change
        rw [if_neg h1, if_pos h2]
        exact ⟨rfl, HM2.out, _, HR2.out⟩
      clear h1 h2 d1 d2 hq hfl hq0 hfl0
      go_wp2
      go_ret
      exact HE.out
    · have d2 : decide (s.brk = 1) = false := decide_eq_false h2
      rw [d2]
      have HE : Hid (∀ e W, DoOut B w2 d (go (counted s)) e W → ChangeOut B w d (change ahead go s) (.returned (.int .i64 0)) W) := fun e W hd => by
        unfold change
        rw [if_neg h1, if_neg h2]
        obtain ⟨_, hm, g3, _, _, _, _, hr⟩ := hd
        exact ⟨rfl, HM2.out.trans hm, g3, hr⟩
      clear h1 h2 d1 d2 hq hfl hq0 hfl0
      go_wp2_with fail
      refine (HDO.out w2 _ HR2.out HM2.out HB2.out).mono ?_
      rintro e w3 hd3
      have HE3 := Lib.hid (HE.out _ _ hd3)
      obtain ⟨rfl, hm3, hr3⟩ := hd3
      clear hm3 hr3 HE
      go_wp2
      go_ret
      exact HE3.out
end Go.Proofs.YtjkofciohehgfaaGreatDoor.L8


