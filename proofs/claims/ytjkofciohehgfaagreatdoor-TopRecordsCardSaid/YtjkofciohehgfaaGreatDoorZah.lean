/- Texts joined by bundle.py: YDDkRep. -/
import Derived.Test.YtjkofciohehgfaaGreatDoorZag
import Derived.Test.YtjkofciohehgfaaGreatDoorZae
import Derived.Maps.RangeWalk
import Derived.StringKeys
import Derived.Maps.OwnOps
import Derived.Maps.OwnSet

/- How a disk lies in memory. -/
namespace Go.Proofs.YtjkofciohehgfaaGreatDoor.L8
open Go.RowKit Go.Maps
open DM

/-! ### a map's elements: pointers to blocks -/
def ptrElem : Value → Option (DataW Unit × List MemPlace)
  | .pointer (some ⟨b, 0, none⟩) => some (.lit (.int .i64 b), [])
  | .pointer none => some (.nil, [])
  | _ => none

theorem ptrElem_inv {v : Value} {y : DataW Unit × List MemPlace} (h : ptrElem v = some y) : (∃ b : Nat, v = .pointer (some ⟨b, 0, none⟩) ∧ y = (.lit (.int .i64 b), [])) ∨ (v = .pointer none ∧ y = (.nil, [])) := by
  unfold ptrElem at h
  split at h
  · exact .inl ⟨_, rfl, (Option.some.inj h).symm⟩
  · exact .inr ⟨rfl, (Option.some.inj h).symm⟩
  · cases h

theorem keyLaw : Keyed Tryz.prog 9 := string_keyed Tryz.underlying9
theorem zeroPtr (w : World) : (zeroValue 113).run Tryz.prog w = .ok (.pointer none) w := by kernel_rfl

/-- a file's pointer, of a name that a file has -/
def pv (blk : Nat → Nat) : Option Nat → Value
  | some n => .pointer (some ⟨blk n, 0, none⟩)
  | none => .pointer none

abbrev OwnM (w : World) (b n : Nat) (D : DataW Unit) : Prop := w.ownsMap Tryz.prog 9 ptrElem b n D

theorem own_exact {w : World} {b n : Nat} {D : DataW Unit} (h : OwnM w b n D) : OwnM w b (Maps.size D) D := by
  obtain ⟨es, clock, hb, F, _, rfl⟩ := h
  exact ⟨es, clock, hb, F, by simp [Maps.size, length_sorted], rfl⟩

theorem look {w : World} {b n : Nat} {blk : Nat → Nat} {l : Nm} (h : OwnM w b n (D blk l)) (s : ByteArray) (hs : s.size ≤ maxLen) :
    (Instr.lookup 47 (.map (some b)) (.string s) false).run Tryz.prog w = .ok (pv blk (find l s.data.toList)) w := by
  obtain ⟨v, ps, hrun, hv⟩ := h.lookup keyLaw Tryz.underlying47 (zeroPtr w) (zd := .nil) (zp := []) rfl (WideMaps.keyOf_string_mk Tryz.underlying9 hs)
  rw [hrun]
  rw [D_at] at hv
  suffices he : v = pv blk (find l s.data.toList) by rw [he]
  rcases ptrElem_inv hv with ⟨c, rfl, hc⟩ | ⟨rfl, hc⟩
  · cases hf : find l s.data.toList with
    | none => rw [hf] at hc; simp at hc
    | some m =>
      rw [hf] at hc
      simp at hc
      have : c = blk m := by omega
      rw [this]; rfl
  · cases hf : find l s.data.toList with
    | none => rfl
    | some m => rw [hf] at hc; simp at hc

/-! ### what may turn -/
/-- the kinds of blocks that a disk writes to -/
def kin (t : TypeId) : Bool := t == 52 || t == 117 || t == 119 || t == 5
def Kin (w : World) (r : Nat) : Prop := ∀ (c : Array Value) (t : TypeId) (fr : Nat × Nat), w.heap[r]? = some (.cells c t fr) → kin t = true

structure Moves (B : Nat) (w w' : World) : Prop where
  below : Below B w w'
  kept : ∀ (b : Nat) (c : Array Value) (t : TypeId) (fr : Nat × Nat), w.heap[b]? = some (.cells c t fr) → kin t = false → w'.heap[b]? = some (.cells c t fr)

theorem Moves.refl (B : Nat) (w : World) : Moves B w w := ⟨Below.refl _ _, fun _ _ _ _ h _ => h⟩
theorem Moves.trans {B : Nat} {a b c : World} (h : Moves B a b) (k : Moves B b c) : Moves B a c := ⟨h.below.trans k.below, fun x cs t fr h1 h2 => k.kept x cs t fr (h.kept x cs t fr h1 h2) h2⟩
theorem Moves.size {B : Nat} {a b : World} (h : Moves B a b) : a.heap.size ≤ b.heap.size := h.below.size
theorem Moves.drew {B : Nat} {a w : World} (h : Moves B a w) : Moves B a w.drew := ⟨h.below.drew, h.kept⟩
theorem Moves.drewN {B : Nat} {a w : World} (h : Moves B a w) (n : Nat) : Moves B a (w.drewN n) := ⟨below_drewN h.below n, h.kept⟩
theorem Moves.alloc {B : Nat} {a w : World} (h : Moves B a w) (hB : B ≤ w.heap.size) (o : Obj) : Moves B a (w.alloc o) :=
  ⟨h.below.alloc hB o, fun b c t fr h1 h2 => alloc_old _ _ _ _ (h.kept b c t fr h1 h2)⟩
theorem Moves.grown {B : Nat} {a w w' : World} {row : Option Nat} (h : Moves B a w) (hg : w.grownBy w' row) (hB : B ≤ w.heap.size) (hr : ∀ k, row = some k → B ≤ k ∧ Kin w k) : Moves B a w' :=
  ⟨h.below.grown hg hB (fun k hk => (hr k hk).1), fun b c t fr h1 h2 => by
    have h3 := h.kept b c t fr h1 h2
    rw [hg.block b (Array.getElem?_eq_some_iff.1 h3).1 (fun e => by have := (hr b e.symm).2 c t fr h3; rw [h2] at this; cases this)]
    exact h3⟩
theorem Moves.of_below {B : Nat} {a w w' : World} (h : Moves B a w) (hb : Below w.heap.size w w') (hB : B ≤ w.heap.size) : Moves B a w' :=
  h.grown (row := none) ⟨hb.os, hb.tape, hb.output, hb.size, fun k hk _ => hb.block k hk⟩ hB (fun k hk => by cases hk)
theorem grownBy_setCell (w : World) (p : Addr) (u : Value) : w.grownBy (w.setCell p u) (some p.block) :=
  ⟨rfl, rfl, rfl, by simp [World.setCell], fun k _ hk => Below.heap_setCell _ _ _ _ (fun e => hk (by rw [e]))⟩
theorem Moves.setCell {B : Nat} {a w : World} (h : Moves B a w) {p : Addr} (hB : B ≤ w.heap.size) (hp : B ≤ p.block) (hk : Kin w p.block) (u : Value) : Moves B a (w.setCell p u) :=
  h.grown (grownBy_setCell w p u) hB (fun k e => by cases e; exact ⟨hp, hk⟩)
theorem kin_cells {w : World} {r : Nat} {c : Array Value} {t : TypeId} {fr : Nat × Nat} (h : w.heap[r]? = some (.cells c t fr)) (ht : kin t = true) : Kin w r := fun c' t' fr' h' => by
  rw [h] at h'
  injection h' with h'
  injection h' with _ h2
  rw [← h2]; exact ht
theorem kin_map {w : World} {r : Nat} {es : Array MapEntry} {k : Nat} (h : w.heap[r]? = some (.map es k)) : Kin w r := fun c' t' fr' h' => by
  rw [h] at h'
  cases h'
theorem OwnM.kin {w : World} {b n : Nat} {D : DataW Unit} (h : OwnM w b n D) : Kin w b := by
  obtain ⟨es, clock, hb, _⟩ := h
  exact kin_map hb
theorem own_kin {w : World} {base : Nat} {e : TypeId} {s : Nat} {v : Value} {n : Nat} {xs : List Value} (h : w.ownsRow base e s v n xs) (he : kin e = true) : ∀ k, v.ownBlock = some k → Kin w k := by
  intro k hk
  rcases h.2 with ⟨rfl, _⟩ | ⟨g, cap, cur, rfl, _, hg, _⟩
  · simp [Value.ownBlock] at hk
  · simp [Value.ownBlock] at hk
    subst hk
    exact kin_cells hg he

/-- a row's block is not one whose cells are of another kind -/
theorem own_ne {w : World} {base : Nat} {e : TypeId} {s : Nat} {v : Value} {n : Nat} {xs : List Value} (h : w.ownsRow base e s v n xs) {r : Nat} {o : Obj} (hr : w.heap[r]? = some o) (ho : ∀ c, o ≠ .cells c e (0, 0)) : v.ownBlock = none ∨ v.ownBlock ≠ some r := by
  rcases h.2 with ⟨rfl, _⟩ | ⟨g, cap, cur, rfl, _, hg, _⟩
  · left; rfl
  · right
    intro he
    simp [Value.ownBlock] at he
    subst he
    rw [hg] at hr
    exact ho cur (Option.some.inj hr).symm

/-! ### a disk -/
structure Gh where
  m1 : Option Nat
  m2 : Option Nat
  q : Value
  cv : Value
  blk : Nat → Nat
  row : Nat → Value
  bk : Int

def encS (l : Bs) : Value := .string ⟨l.toArray⟩
def entC (blk : Nat → Nat) (e : E) : List Value := [encS e.gone, encS e.name, pv blk (if e.name = [] then none else some e.file)]
def qC (blk : Nat → Nat) (q : List E) : List Value := q.flatMap (entC blk)
theorem qC_snoc (blk : Nat → Nat) (q : List E) (e : E) : qC blk (q ++ [e]) = qC blk q ++ entC blk e := by simp [qC]

def live (lasts : Nm) (queue : List E) (n : Nat) : Prop := (∃ p ∈ lasts, p.2 = n) ∨ ∃ e ∈ queue, e.name ≠ [] ∧ e.file = n

theorem live_app {l : Nm} {e : E} {p : Bs × Nat} (h : p ∈ app l e) : (p ∈ l) ∨ (e.name ≠ [] ∧ e.file = p.2) := by
  unfold app at h
  split at h
  · exact .inl (mem_del.1 h).1
  · rename_i hn
    rcases mem_put.1 h with rfl | ⟨h, _⟩
    · exact .inr ⟨hn, rfl⟩
    · exact .inl (mem_del.1 h).1

theorem live_fold : ∀ (q : List E) {l : Nm} {p : Bs × Nat}, p ∈ q.foldl app l → live l q p.2
  | [], _, p, h => .inl ⟨p, h, rfl⟩
  | e :: r, l, p, h => by
    rcases live_fold r (l := app l e) h with ⟨p', hp', he⟩ | ⟨e', he', h1, h2⟩
    · rcases live_app hp' with h3 | h3
      · exact .inl ⟨p', h3, he⟩
      · exact .inr ⟨e, List.mem_cons_self .., h3.1, h3.2.trans he⟩
    · exact .inr ⟨e', List.mem_cons_of_mem _ he', h1, h2⟩

theorem live_pre {l : Nm} {q : List E} {k : Nat} {p : Bs × Nat} (h : p ∈ pre l q k) : live l q p.2 := by
  rcases live_fold _ h with h1 | ⟨e, he, h2⟩
  · exact .inl h1
  · exact .inr ⟨e, List.mem_of_mem_take he, h2⟩

/-- a value that reads as bytes, in a row of the disk's own (its room may be less than the row's) -/
def Row (B : Nat) (w : World) (v : Value) (l : Bs) : Prop :=
  (v = .slice none 0 0 ∧ l = []) ∨
  ∃ r cap cur, v = .slice (some ⟨r, 0, none⟩) l.length cap ∧ B ≤ r ∧ w.heap[r]? = some (.cells cur 5 (0, 0)) ∧ l.length ≤ cap ∧ cap ≤ maxLen ∧ cap ≤ cur.size ∧ cur.toList.take l.length = Lib.byteCells l

theorem Row.of_own {B : Nat} {w : World} {v : Value} {l : Bs} {n : Nat} (h : w.ownsRow B 5 1 v n (Lib.byteCells l)) (hn : n = l.length) : Row B w v l := by
  subst hn
  rcases h.2 with ⟨h1, h2⟩ | ⟨r, cap, cur, h1, h2, h3, h4, h5, h6, h7⟩
  · exact .inl ⟨h1, List.length_eq_zero_iff.1 h2⟩
  · exact .inr ⟨r, cap, cur, h1, h2, h3, h4, h5, by omega, by simpa using h7⟩
theorem Row.kept {B : Nat} {w w' : World} {v : Value} {l : Bs} {row : Option Nat} (h : Row B w v l) (hg : w.grownBy w' row) (hne : v.ownBlock = none ∨ v.ownBlock ≠ row) : Row B w' v l := by
  rcases h with h | ⟨r, cap, cur, h1, h2, h3, h4⟩
  · exact .inl h
  · refine .inr ⟨r, cap, cur, h1, h2, (hg.block r (Array.getElem?_eq_some_iff.1 h3).1 (fun e => ?_)).trans h3, h4⟩
    rcases hne with h5 | h5
    · rw [h1] at h5; cases h5
    · rw [h1] at h5; exact h5 e
theorem Row.lt {B : Nat} {w : World} {v : Value} {l : Bs} (h : Row B w v l) : ∀ k, v.ownBlock = some k → B ≤ k ∧ k < w.heap.size := fun k hk => by
  rcases h with ⟨h1, _⟩ | ⟨r, cap, cur, h1, h2, h3, _⟩
  · rw [h1] at hk; cases hk
  · rw [h1] at hk
    cases hk
    exact ⟨h2, (Array.getElem?_eq_some_iff.1 h3).1⟩
theorem Row.kin {B : Nat} {w : World} {v : Value} {l : Bs} (h : Row B w v l) : ∀ k, v.ownBlock = some k → Kin w k := fun k hk => by
  rcases h with ⟨h1, _⟩ | ⟨r, cap, cur, h1, _, h3, _⟩
  · rw [h1] at hk; cases hk
  · rw [h1] at hk
    cases hk
    exact kin_cells h3 (by decide)
theorem Row.ne {B : Nat} {w : World} {v : Value} {l : Bs} (h : Row B w v l) {r : Nat} {o : Obj} (hr : w.heap[r]? = some o) (ho : ∀ c, o ≠ .cells c 5 (0, 0)) : v.ownBlock = none ∨ v.ownBlock ≠ some r := by
  rcases h with ⟨rfl, _⟩ | ⟨g, cap, cur, rfl, _, hg, _⟩
  · left; rfl
  · right
    intro he
    simp [Value.ownBlock] at he
    subst he
    rw [hg] at hr
    exact ho cur (Option.some.inj hr).symm
theorem Row.apart {B : Nat} {w : World} {v : Value} {l : Bs} (h : Row B w v l) {b2 : Nat} {e2 : TypeId} {s2 : Nat} {v2 : Value} {n2 : Nat} {xs2 : List Value} (h2 : w.ownsRow b2 e2 s2 v2 n2 xs2) (hne : 5 ≠ e2) : v.ownBlock = none ∨ v.ownBlock ≠ v2.ownBlock := by
  rcases h2.2 with ⟨rfl, _⟩ | ⟨g', cap', cur', rfl, _, hg', _⟩
  · cases v.ownBlock with
    | none => exact .inl rfl
    | some x => exact .inr (by simp [Value.ownBlock])
  · exact h.ne hg' (fun c e => by injection e with _ e; exact hne e.symm)

def FileAt (B : Nat) (w : World) (g : Gh) (n : Nat) (f : F) : Prop :=
  B ≤ g.blk n ∧ w.heap[g.blk n]? = some (.cells #[.int .i64 n, g.row n, .int .i64 f.sync] 117 (0, 0)) ∧ Row B w (g.row n) f.data

def Apart (L : Nat → Prop) (g : Gh) : Prop := ∀ n m, L n → L m → n ≠ m → g.blk n ≠ g.blk m ∧ ((g.row n).ownBlock = none ∨ (g.row n).ownBlock ≠ (g.row m).ownBlock)

def MapsAt (B : Nat) (w : World) (g : Gh) (names lasts : Nm) (queue : List E) : Prop :=
  (g.m1 = none ∧ g.m2 = none ∧ names = [] ∧ lasts = [] ∧ queue = []) ∨
  ∃ b1 b2, g.m1 = some b1 ∧ g.m2 = some b2 ∧ b1 ≠ b2 ∧ B ≤ b1 ∧ B ≤ b2 ∧ OwnM w b1 names.length (D g.blk names) ∧ OwnM w b2 lasts.length (D g.blk lasts)

/-- all but the disk's own block -/
structure Body (B : Nat) (w : World) (s : St) (g : Gh) : Prop where
  maps : MapsAt B w g s.names s.lasts s.queue
  queue : w.ownsRow B 119 3 g.q s.queue.length (qC g.blk s.queue)
  files : ∀ n, live s.lasts s.queue n → FileAt B w g n (fileAt s n)
  apart : Apart (live s.lasts s.queue) g
  cut : w.ownsRow B 3 1 g.cv s.cutBytes.length (s.cutBytes.map (Value.int .i64))
  bk : (s.off = false → g.bk = s.brk) ∧ 0 ≤ g.bk ∧ g.bk ≤ 9223372036854775807

def dC (s : St) (g : Gh) (used : Nat) : Array Value :=
  #[.int .i64 s.room, .int .i64 used, .int .i64 s.files.length, .map g.m1, .map g.m2, g.q, .bool s.off, .int .i64 s.cutN, .int .i64 s.cutNames, g.cv, .int .i64 g.bk]

structure Rep (B : Nat) (w : World) (d : Nat) (s : St) (g : Gh) : Prop where
  body : Body B w s g
  at_ : w.heap[d]? = some (.cells (dC s g (used s.files s.names)) 52 (0, 0))
  le : B ≤ d

theorem Rep.lt {B : Nat} {w : World} {d : Nat} {s : St} {g : Gh} (h : Rep B w d s g) : d < w.heap.size := (Array.getElem?_eq_some_iff.1 h.at_).1

section
variable {B : Nat} {w w' : World} {g : Gh} {s : St} {row : Option Nat}

theorem OwnM.kept {b n : Nat} {D : DataW Unit} (h : OwnM w b n D) (hg : w.grownBy w' row) (hne : some b ≠ row) : OwnM w' b n D := World.ownsMap.kept h hg hne

theorem OwnM.ne {b n : Nat} {D : DataW Unit} (h : OwnM w b n D) {r : Nat} {c : Array Value} {t : TypeId} {fr : Nat × Nat} (hr : w.heap[r]? = some (.cells c t fr)) : b ≠ r := by
  obtain ⟨es, clock, hb, _⟩ := h
  rintro rfl
  rw [hb] at hr
  cases hr

theorem FileAt.kept {n : Nat} {f : F} (h : FileAt B w g n f) (hg : w.grownBy w' row) (h1 : some (g.blk n) ≠ row) (h2 : (g.row n).ownBlock = none ∨ (g.row n).ownBlock ≠ row) : FileAt B w' g n f :=
  ⟨h.1, (hg.block _ (Array.getElem?_eq_some_iff.1 h.2.1).1 h1).trans h.2.1, h.2.2.kept hg h2⟩

theorem MapsAt.kept {names lasts : Nm} {queue : List E} (h : MapsAt B w g names lasts queue) (hg : w.grownBy w' row) (h1 : ∀ b, g.m1 = some b → some b ≠ row) (h2 : ∀ b, g.m2 = some b → some b ≠ row) : MapsAt B w' g names lasts queue := by
  rcases h with h | ⟨b1, b2, e1, e2, hne, l1, l2, o1, o2⟩
  · exact .inl h
  · exact .inr ⟨b1, b2, e1, e2, hne, l1, l2, o1.kept hg (h1 b1 e1), o2.kept hg (h2 b2 e2)⟩

/-- a block of cells of another kind turns, or none: all of the body stays -/
theorem Body.other {r : Nat} {c : Array Value} {t : TypeId} {fr : Nat × Nat} (h : Body B w s g) (hg : w.grownBy w' (some r)) (hr : w.heap[r]? = some (.cells c t fr)) (ht : t ≠ 117 ∧ t ≠ 119 ∧ t ≠ 5 ∧ t ≠ 3) : Body B w' s g := by
  refine ⟨?_, h.queue.kept hg (own_ne h.queue hr ?_), fun n hn => ?_, h.apart, h.cut.kept hg (own_ne h.cut hr ?_), h.bk⟩
  · rcases h.maps with h1 | ⟨b1, b2, e1, e2, hne, l1, l2, o1, o2⟩
    · exact .inl h1
    · exact .inr ⟨b1, b2, e1, e2, hne, l1, l2, o1.kept hg (fun e => o1.ne hr (Option.some.inj e)), o2.kept hg (fun e => o2.ne hr (Option.some.inj e))⟩
  · intro c' e; injection e with _ e; exact ht.2.1 e
  · have h1 := h.files n hn
    refine h1.kept hg (fun e => ?_) (h1.2.2.ne hr ?_)
    · have h2 := h1.2.1
      rw [Option.some.inj e, hr] at h2
      injection h2 with h2
      injection h2 with _ h2
      exact ht.1 h2
    · intro c' e; injection e with _ e; exact ht.2.2.1 e
  · intro c' e; injection e with _ e; exact ht.2.2.2 e

/-- nothing that was there turns: all of the body stays -/
theorem Body.still (h : Body B w s g) (hg : w.grownBy w' none) : Body B w' s g := by
  have hn : ∀ v : Value, v.ownBlock = none ∨ v.ownBlock ≠ none := fun v => by cases v.ownBlock <;> simp
  refine ⟨h.maps.kept hg (by simp) (by simp), h.queue.kept hg (hn _), fun n hl => (h.files n hl).kept hg (by simp) (hn _), h.apart, h.cut.kept hg (hn _), h.bk⟩

theorem Rep.still {d : Nat} (h : Rep B w d s g) (hg : w.grownBy w' none) : Rep B w' d s g :=
  ⟨h.body.still hg, (hg.block d h.lt (by simp)).trans h.at_, h.le⟩

/-- what turns is of other kinds than a disk's -/
theorem Rep.apart {d : Nat} (h : Rep B w d s g) {r : Nat} {c : Array Value} {t : TypeId} {fr : Nat × Nat} (hg : w.grownBy w' (some r)) (hr : w.heap[r]? = some (.cells c t fr)) (ht : kin t = false ∧ t ≠ 3) : Rep B w' d s g := by
  have hk := ht.1
  simp only [kin, Bool.or_eq_false_iff, beq_eq_false_iff_ne, ne_eq] at hk
  refine ⟨h.body.other hg hr ⟨hk.1.1.2, hk.1.2, hk.2, ht.2⟩, (hg.block d h.lt (fun e => ?_)).trans h.at_, h.le⟩
  have h2 := h.at_
  rw [Option.some.inj e, hr] at h2
  injection h2 with h2
  injection h2 with _ h2
  exact hk.1.1.1 h2
end

/-- the disk's cells -/
theorem Rep.cells {B : Nat} {w : World} {d : Nat} {s : St} {g : Gh} (h : Rep B w d s g) :
    w.cell? ⟨d, 0, none⟩ = some (.int .i64 s.room) ∧ w.cell? ⟨d, 1, none⟩ = some (.int .i64 (used s.files s.names)) ∧ w.cell? ⟨d, 2, none⟩ = some (.int .i64 s.files.length) ∧ w.cell? ⟨d, 3, none⟩ = some (.map g.m1) ∧ w.cell? ⟨d, 4, none⟩ = some (.map g.m2) ∧
    w.cell? ⟨d, 5, none⟩ = some g.q ∧ w.cell? ⟨d, 6, none⟩ = some (.bool s.off) ∧ w.cell? ⟨d, 7, none⟩ = some (.int .i64 s.cutN) ∧ w.cell? ⟨d, 8, none⟩ = some (.int .i64 s.cutNames) ∧ w.cell? ⟨d, 9, none⟩ = some g.cv ∧ w.cell? ⟨d, 10, none⟩ = some (.int .i64 g.bk) := by
  refine ⟨?_, ?_, ?_, ?_, ?_, ?_, ?_, ?_, ?_, ?_, ?_⟩ <;> exact cell_of_row _ _ _ _ _ _ h.at_

theorem Rep.frozen {B : Nat} {w : World} {d : Nat} {s : St} {g : Gh} (h : Rep B w d s g) (j : Nat) : w.frozen? ⟨d, j, none⟩ = false := frozen_of_row _ _ _ _ _ h.at_
end Go.Proofs.YtjkofciohehgfaaGreatDoor.L8


