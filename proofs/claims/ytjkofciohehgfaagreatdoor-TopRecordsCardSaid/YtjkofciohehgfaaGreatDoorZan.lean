/- Texts joined by bundle.py: YDDkD, YDDkE, YDDkF, YDDkG, YDDkH, YDDkI, YDDkJ. -/
import Derived.Test.YtjkofciohehgfaaGreatDoorZal
import Derived.Test.YtjkofciohehgfaaGreatDoorZam
import Derived.Deep.RegionHeld3
import Derived.Lib.AppendStr

/- What the closures do that turn names: Create$1, Rename$1, Remove$1. -/
namespace Go.Proofs.YtjkofciohehgfaaGreatDoor.L8
open Go.RowKit Go.Maps
open DM

theorem DM.Ok.live_lt {s : St} (h : Ok s) {n : Nat} (hl : live s.lasts s.queue n) : n < s.files.length := by
  rcases hl with ⟨p, hp, rfl⟩ | ⟨e, he, h1, rfl⟩
  · exact h.glasts.file p hp
  · exact (h.ents e he).2.2 h1

theorem DM.Ok.names_live {s : St} (h : Ok s) {p : Bs × Nat} (hp : p ∈ s.names) : live s.lasts s.queue p.2 := by
  rw [h.names] at hp
  exact live_pre hp

theorem used_more {fs : List F} (f : F) : ∀ {l : Nm}, (∀ p ∈ l, p.2 < fs.length) → used (fs ++ [f]) l = used fs l
  | [], _ => rfl
  | p :: r, h => by
    rw [used_cons, used_cons, used_more f (fun q hq => h q (List.mem_cons_of_mem _ hq))]
    have := h p (List.mem_cons_self ..)
    unfold lens
    rw [List.getD_eq_getElem?_getD, List.getD_eq_getElem?_getD, List.getElem?_append_left this]

theorem fileAt_more {s : St} {n : Nat} (f : F) (h : n < s.files.length) : fileAt { s with files := s.files ++ [f] } n = fileAt s n := by
  unfold fileAt
  simp only
  rw [List.getD_eq_getElem?_getD, List.getD_eq_getElem?_getD, List.getElem?_append_left h]

theorem qC_congr {blk blk' : Nat → Nat} : ∀ {q : List E}, (∀ e ∈ q, e.name ≠ [] → blk e.file = blk' e.file) → qC blk q = qC blk' q
  | [], _ => rfl
  | e :: r, h => by
    show entC blk e ++ qC blk r = entC blk' e ++ qC blk' r
    rw [qC_congr (fun x hx => h x (List.mem_cons_of_mem _ hx))]
    congr 1
    unfold entC
    by_cases hn : e.name = []
    · rw [if_pos hn]; rfl
    · rw [if_neg hn]
      simp only [pv]
      rw [h e (List.mem_cons_self ..) hn]

/-- other words for the blocks of files that nobody reaches -/
theorem Body.congr {B : Nat} {w : World} {s : St} {g : Gh} (h : Body B w s g) {blk' : Nat → Nat} {row' : Nat → Value} (hb : ∀ n, live s.lasts s.queue n → blk' n = g.blk n ∧ row' n = g.row n) (hn : ∀ p ∈ s.names, live s.lasts s.queue p.2) : Body B w s { g with blk := blk', row := row' } := by
  refine ⟨?_, ?_, fun n hl => ?_, fun n m h1 h2 hne => ?_, h.cut, h.bk⟩
  · rcases h.maps with h1 | ⟨b1, b2, e1, e2, hne, l1, l2, o1, o2⟩
    · exact .inl h1
    · refine .inr ⟨b1, b2, e1, e2, hne, l1, l2, ?_, ?_⟩
      · rw [D_congr (blk' := g.blk) (fun p hp => (hb _ (hn p hp)).1)]; exact o1
      · rw [D_congr (blk' := g.blk) (fun p hp => (hb _ (.inl ⟨p, hp, rfl⟩)).1)]; exact o2
  · rw [qC_congr (blk' := g.blk) (fun e he h1 => (hb _ (.inr ⟨e, he, h1, rfl⟩)).1)]; exact h.queue
  · obtain ⟨h1, h2, h3⟩ := h.files n hl
    obtain ⟨e1, e2⟩ := hb n hl
    refine ⟨?_, ?_, ?_⟩
    · show B ≤ blk' n
      rw [e1]; exact h1
    · show w.heap[blk' n]? = some (.cells #[.int .i64 n, row' n, _] _ _)
      rw [e1, e2]; exact h2
    · show Row B w (row' n) _
      rw [e2]; exact h3
  · show blk' n ≠ blk' m ∧ ((row' n).ownBlock = none ∨ (row' n).ownBlock ≠ (row' m).ownBlock)
    rw [(hb n h1).1, (hb n h1).2, (hb m h2).1, (hb m h2).2]
    exact h.apart n m h1 h2 hne

/-- what a closure leaves -/
def DoOut (B : Nat) (w : World) (d : Nat) (s : St) (e : Ending) (w' : World) : Prop :=
  e = .returned (.tuple #[]) ∧ Moves B w w' ∧ ∃ g b1 b2, g.m1 = some b1 ∧ g.m2 = some b2 ∧ Rep B w' d s g

/-- what point leaves of a new file, ahead of the count -/
structure CreateMid (B : Nat) (W : World) (d : Nat) (s : St) (k : Bs) (b1 b2 : Nat) (w' : World) : Prop where
  moves : Moves B W w'
  kin : Kin w' d
  cell : w'.cell? ⟨d, 2, none⟩ = some (.int .i64 s.files.length)
  frozen : w'.frozen? ⟨d, 2, none⟩ = false
  le : B ≤ d
  rep : ∃ g', g'.m1 = some b1 ∧ g'.m2 = some b2 ∧ Rep B (w'.setCell ⟨d, 2, none⟩ (.int .i64 (s.files.length + 1))) d (doCreate k s) g'

/-- a new file -/
theorem create_point {B : Nat} {w : World} {d : Nat} {s : St} {g : Gh} (h : Rep B w d s g) (ok : Ok s) {b1 b2 : Nat} (e1 : g.m1 = some b1) (e2 : g.m2 = some b2) (hB : B ≤ w.heap.size) (N : ByteArray) (hk : goodName N.data.toList = true) (hfn : find s.names N.data.toList = none) (hl : s.names.length < 4096)
    (hql : s.queue.length < 1099511627776) (W : World) (b : Nat) (hg : w.grownBy W none) (hb : w.heap.size ≤ b) (hW : W.heap[b]? = some (.cells #[.int .i64 s.files.length, .slice none 0 0, .int .i64 0] 117 (0, 0))) :
    Calls Tryz.prog 69 #[.pointer (some ⟨d, 0, none⟩), .agg #[.string ⟨#[]⟩, .string N, .pointer (some ⟨b, 0, none⟩)]] W fun e w' =>
      e = .returned (.tuple #[]) ∧ CreateMid B W d s N.data.toList b1 b2 w' := by
  obtain ⟨hk1, hk2⟩ := (goodName_iff _).1 hk
  have okc := ok_create ok hk hfn hl
  have hlt : ∀ n, live s.lasts s.queue n → n < s.files.length := fun n hn => ok.live_lt hn
  have hbW := (h.body.still hg)
  have hbody : Body B W { s with files := s.files ++ [⟨[], 0⟩] } { g with blk := fun n => if n = s.files.length then b else g.blk n, row := fun n => if n = s.files.length then .slice none 0 0 else g.row n } := by
    have h1 := hbW.congr (blk' := fun n => if n = s.files.length then b else g.blk n) (row' := fun n => if n = s.files.length then .slice none 0 0 else g.row n)
      (fun n hn => by have := hlt n hn; exact ⟨if_neg (by omega), if_neg (by omega)⟩) (fun p hp => ok.names_live hp)
    exact ⟨h1.maps, h1.queue, fun n hn => by rw [fileAt_more _ (hlt n hn)]; exact h1.files n hn, h1.apart, h1.cut, h1.bk⟩
  have hhalf : Half B W d { s with files := s.files ++ [⟨[], 0⟩] } { g with blk := fun n => if n = s.files.length then b else g.blk n, row := fun n => if n = s.files.length then .slice none 0 0 else g.row n } (dC s g (used s.files s.names)) :=
    ⟨hbody, (hg.block d h.lt (by simp)).trans h.at_, h.le⟩
  have hum := used_more (fs := s.files) ⟨[], 0⟩ (fun p hp => ok.gnames.file p hp)
  have hfew := ok.gnames.few
  have hgF : FileAt B W { g with blk := fun n => if n = s.files.length then b else g.blk n, row := fun n => if n = s.files.length then .slice none 0 0 else g.row n } s.files.length (fileAt { s with files := s.files ++ [⟨[], 0⟩] } s.files.length) := by
    have e0 : fileAt { s with files := s.files ++ [⟨[], 0⟩] } s.files.length = ⟨[], 0⟩ := by simp [fileAt, List.getD_eq_getElem?_getD]
    rw [e0]
    refine ⟨?_, ?_, ?_⟩
    · simp only [if_true]; omega
    · simp only [if_true]; exact hW
    · simp only [if_true]; exact .inl ⟨rfl, rfl⟩
  have hp := point_any hhalf e1 e2 (by have := hg.size; omega) ⟨#[]⟩ N s.files.length (by decide) (by rw [← size_list]; exact hk2) (by rw [hum]; rfl) (by rw [← e1]; rfl) rfl
    (fun k n hn => by
      have hm : n < s.files.length := ok.gnames.file _ (find_some hn)
      have hln := ok.names_live (find_some hn)
      exact hbody.files n hln)
    ⟨ok.gnames.sorted, fun p hp => (ok.gnames.key p hp).1⟩ (.inl (fun e => hk1 e.symm)) (by rw [hum]; exact ok.used_le) okc.used_le hql (by show s.names.length < _; omega)
    (fun _ => ⟨hgF, fun n hn hne => by
      have h1 := hlt n hn
      have hf1 := h.body.files n hn
      have hbn : g.blk n < w.heap.size := (Array.getElem?_eq_some_iff.1 hf1.2.1).1
      simp only [if_true, if_neg hne]
      exact ⟨⟨by omega, by cases (g.row n).ownBlock with | none => exact .inl rfl | some x => exact .inr (by simp [Value.ownBlock])⟩, .inl rfl⟩⟩)
  rw [if_neg hk1] at hp
  simp only [pv, if_true] at hp
  refine hp.mono fun e w' ⟨he, hm, q, hh⟩ => ⟨he, hm, hh.kin, ?_, hh.frozen 2, hh.le, { g with q := q, blk := fun n => if n = s.files.length then b else g.blk n, row := fun n => if n = s.files.length then .slice none 0 0 else g.row n }, e1, e2, ?_⟩
  · rw [hh.cells 2]
    simp [dC]
  · have h3 := hh.set 2 (.int .i64 (s.files.length + 1))
    refine ⟨h3.body, ?_, h3.le⟩
    rw [h3.at_]
    simp [dC, doCreate, point]
end Go.Proofs.YtjkofciohehgfaaGreatDoor.L8


/- The walks of the closures that turn names. -/
namespace Go.Proofs.YtjkofciohehgfaaGreatDoor.L8
open Go.RowKit Go.Maps
open DM

/-- a captured variable's block -/
def Cap (w : World) (b : Nat) (v : Value) (t : TypeId) : Prop := w.heap[b]? = some (.cells #[v] t (0, 0))
theorem Cap.cell {w : World} {b : Nat} {v : Value} {t : TypeId} (h : Cap w b v t) : w.cell? ⟨b, 0, none⟩ = some v := cell_of_row _ _ _ _ _ _ h
theorem Cap.lt {w : World} {b : Nat} {v : Value} {t : TypeId} (h : Cap w b v t) : b < w.heap.size := (Array.getElem?_eq_some_iff.1 h).1
theorem Cap.moved {B : Nat} {w w' : World} {b : Nat} {v : Value} {t : TypeId} (h : Cap w b v t) (hm : Moves B w w') (ht : kin t = false) : Cap w' b v t := hm.kept _ _ _ _ h ht
theorem Cap.below {w w' : World} {b : Nat} {v : Value} {t : TypeId} (h : Cap w b v t) (hb : Below w.heap.size w w') : Cap w' b v t := (hb.block b h.lt).trans h

theorem grown_of_below {w w' : World} (h : Below w.heap.size w w') : w.grownBy w' none := ⟨h.os, h.tape, h.output, h.size, fun k hk _ => h.block k hk⟩

theorem below_two {w W0 w1 : World} (h0 : Below w.heap.size w W0) (h1 : Below W0.heap.size W0 w1) : Below w.heap.size w w1 := h0.trans (h1.mono h0.size)

set_option maxRecDepth 100000 in
set_option maxHeartbeats 1000000 in
theorem create_do {B : Nat} {w : World} {d : Nat} {s : St} {g : Gh} (h : Rep B w d s g) (ok : Ok s) {b1 b2 : Nat} (e1 : g.m1 = some b1) (e2 : g.m2 = some b2) (hB : B ≤ w.heap.size) (N : ByteArray) (hk : goodName N.data.toList = true) (hfn : find s.names N.data.toList = none) (hl : s.names.length < 4096)
    (hql : s.queue.length < 1099511627776) (hfl : s.files.length < 1099511627776) (bd bn : Nat) (hd : Cap w bd (.pointer (some ⟨d, 0, none⟩)) 25) (hn : Cap w bn (.string N) 9) :
    Calls Tryz.prog 68 #[.pointer (some ⟨bd, 0, none⟩), .pointer (some ⟨bn, 0, none⟩)] w (DoOut B w d (doCreate N.data.toList s)) := by
  have HP := Lib.hid (create_point h ok e1 e2 hB N hk hfn hl hql)
  have hNs : N.size ≤ 64 := by rw [← size_list]; exact ((goodName_iff _).1 hk).2
  have cd := hd.cell
  have cn := hn.cell
  have c2 : w.cell? ⟨d, 2, none⟩ = some (.int .i64 s.files.length) := h.cells.2.2.1
  have hdl := h.lt
  have hbd := hd.lt
  have hbn := hn.lt
  have HD := Lib.hid hd
  have HN := Lib.hid hn
  obtain ⟨L, hL⟩ : ∃ L, s.files.length = L := ⟨_, rfl⟩
  have HL := Lib.hid hL
  rw [hL] at HP c2 hfl
  clear h ok e1 e2 hk hfn hd hn hL
  go_enter Tryz.func68, Tryz.ntmps68
  go_wp2_with fail
  go_region_held3 (fun w' => w'.cell? ⟨bd, 0, none⟩ = some (.pointer (some ⟨d, 0, none⟩)) ∧ w'.cell? ⟨bn, 0, none⟩ = some (.string N) ∧ w'.cell? ⟨d, 2, none⟩ = some (.int .i64 L))
    (first | go_keep | exact ⟨z1, z2, z3⟩ | exact ⟨y1, y0, y2⟩ | fail)
    (first
      | (go_at_call 49; refine (clone_any _ _ (by omega)).mono ?_
         rintro e w1 ⟨rfl, hB1⟩
         have HB1 : Hid (Below w.heap.size w w1) := by
           first | exact below_two ((Below.refl _ _).drew) hB1 | exact below_two (((Below.refl _ _).alloc (Nat.le_refl _) _).drew) hB1 | fail
         have z1 := (HB1.out.cell (p := ⟨bd, 0, none⟩) hbd).trans cd
         have z2 := (HB1.out.cell (p := ⟨bn, 0, none⟩) hbn).trans cn
         have z3 := (HB1.out.cell (p := ⟨d, 2, none⟩) hdl).trans c2
         have HB0 := Lib.hid hB1
         clear hB1)
      | (go_at_call 69
         first
           | ((with_reducible refine (HP.out _ w1.heap.size ?_ ?_ ?_).mono ?_)
              · exact grown_of_below (HB1.out.alloc HB1.out.size _)
              · exact HB1.out.size
              · exact heap_alloc_new w1 _
              rintro e w2 ⟨rfl, hcm⟩
              have HM2 : Hid (Moves B w w2) := ((Moves.refl B w).of_below (HB1.out.alloc HB1.out.size _) hB).trans hcm.moves)
           | ((with_reducible refine (HP.out _ w.heap.size ?_ ?_ ?_).mono ?_)
              · exact grown_of_below HB1.out
              · exact Nat.le_refl _
              · exact (HB0.out.block w.heap.size (by simp)).trans (drew_at _ _ _ (heap_alloc_new w _))
              rintro e w2 ⟨rfl, hcm⟩
              have HM2 : Hid (Moves B w w2) := ((Moves.refl B w).of_below HB1.out hB).trans hcm.moves)
           | fail
         have y1 := (HD.out.moved HM2.out (by decide)).cell
         have y0 := (HN.out.moved HM2.out (by decide)).cell
         have y2 := hcm.cell
         have y3 := hcm.frozen
         rw [HL.out] at y2
         have HC := Lib.hid hcm
         clear hcm)
      | fail)
  all_goals
    go_wp2
    go_end0
    obtain ⟨g3, m1, m2, hr⟩ := HC.out.rep
    rw [HL.out] at hr
    exact ⟨rfl, HM2.out.setCell (p := ⟨d, 2, none⟩) (by have := HM2.out.size; omega) HC.out.le HC.out.kin _, g3, b1, b2, m1, m2, hr⟩

theorem DoOut.from {B : Nat} {w W : World} {d : Nat} {s : St} {e : Ending} {w' : World} (h : DoOut B W d s e w') (hm : Moves B w W) : DoOut B w d s e w' := ⟨h.1, hm.trans h.2.1, h.2.2⟩

end Go.Proofs.YtjkofciohehgfaaGreatDoor.L8


/- settle. -/
namespace Go.Proofs.YtjkofciohehgfaaGreatDoor.L8
open Go.RowKit Go.Maps
open DM

theorem add_zero' (a : Addr) : a.add 0 = a := by
  unfold Addr.add
  split
  · rename_i h
    cases a
    simp_all
  · cases a
    simp_all

theorem pv_ptr (blk : Nat → Nat) (o : Option Nat) : ∃ p, pv blk o = .pointer p := by cases o <;> exact ⟨_, rfl⟩

theorem slice_head (W : World) (A : Option Addr) (n cap m : Nat) (h : m ≤ cap) : (Instr.slice 48 (.slice A n cap) none (some (.int .i64 (m : Int))) none).run Tryz.prog W = .ok (.slice A m cap) W := by
  have hs : ∀ w, (sizeOf (Tryz.prog.elem 48)).run Tryz.prog w = .ok 3 w := fun w => by kernel_rfl
  rw [run_slice_h W 48 A n cap (by kernel_rfl) .i64 (m : Int) (by omega) (by omega), hs]
  simp only [Result.andThen, sliced, Int.toNat_natCast, Nat.sub_zero, Nat.zero_mul, add_zero', Option.map_id']
  split <;> rfl

theorem qC_at (blk : Nat → Nat) : ∀ (q : List E) (j i : Nat), (h : j < q.length) → i < 3 → (qC blk q)[j * 3 + i]? = (entC blk q[j])[i]?
  | e :: r, 0, i, _, hi => by
    show (entC blk e ++ qC blk r)[0 * 3 + i]? = _
    rw [List.getElem?_append_left (by show 0 * 3 + i < 3; omega)]
    simp
  | e :: r, j + 1, i, h, hi => by
    show (entC blk e ++ qC blk r)[(j + 1) * 3 + i]? = _
    rw [List.getElem?_append_right (by show 3 ≤ _; omega)]
    have : (j + 1) * 3 + i - (entC blk e).length = j * 3 + i := by show (j + 1) * 3 + i - 3 = _; omega
    rw [this, qC_at blk r j i (by simpa using h) hi]
    rfl

/-- the names that last turn in their map, nothing else does -/
theorem Half.lasts {B : Nat} {w w' : World} {d : Nat} {s : St} {g : Gh} {C : Array Value} (h : Half B w d s g C) {b1 b2 : Nat} (e1 : g.m1 = some b1) (e2 : g.m2 = some b2) {l : Nm} (ho : OwnM w' b2 l.length (D g.blk l)) (hg : w.grownBy w' (some b2)) (hl : ∀ n, live l s.queue n → live s.lasts s.queue n) : Half B w' d { s with lasts := l } g C := by
  rcases h.body.maps with ⟨e, _⟩ | ⟨c1, c2, e3, e4, hne, l1, l2, o1, o2⟩
  · rw [e1] at e; cases e
  · rw [e1] at e3; cases e3
    rw [e2] at e4; cases e4
    obtain ⟨es, clock, hb2, _⟩ := o2
    have hob : ∀ {x : Nat} {c : Array Value} {t : TypeId} {fr : Nat × Nat}, w.heap[x]? = some (.cells c t fr) → some x ≠ some b2 := fun hx e => by
      rw [Option.some.inj e, hb2] at hx
      cases hx
    refine ⟨⟨.inr ⟨b1, b2, e1, e2, hne, l1, l2, o1.kept hg (fun e => hne (Option.some.inj e)), ho⟩, h.body.queue.kept hg (own_ne h.body.queue hb2 (by simp)), fun n hn => ?_, fun n m h1 h2 => h.body.apart n m (hl n h1) (hl m h2), h.body.cut.kept hg (own_ne h.body.cut hb2 (by simp)), h.body.bk⟩, (hg.block d h.lt (hob h.at_)).trans h.at_, h.le⟩
    have hf := h.body.files n (hl n hn)
    exact hf.kept hg (hob hf.2.1) (hf.2.2.ne hb2 (by simp))

/-- nothing stands in the queue any more -/
theorem Half.noqueue {B : Nat} {w : World} {d : Nat} {s : St} {g : Gh} {C : Array Value} (h : Half B w d s g C) : Half B (w.setCell ⟨d, 5, none⟩ (.slice none 0 0)) d { s with queue := [] } { g with q := .slice none 0 0 } (C.setIfInBounds 5 (.slice none 0 0)) := by
  have h1 := h.set 5 (.slice none 0 0)
  have hl : ∀ n, live s.lasts [] n → live s.lasts s.queue n := fun n hn => by
    rcases hn with hn | ⟨e, he, _⟩
    · exact .inl hn
    · cases he
  refine ⟨⟨?_, World.ownsRow_nil _ _ _ _, fun n hn => h1.body.files n (hl n hn), fun n m hn hm => h1.body.apart n m (hl n hn) (hl m hm), h1.body.cut, h1.body.bk⟩, h1.at_, h1.le⟩
  rcases h1.body.maps with ⟨e1, e2, e3, e4, _⟩ | h2
  · exact .inl ⟨e1, e2, e3, e4, rfl⟩
  · exact .inr h2

def SettleRel (B : Nat) (w : World) (d : Nat) (s : St) (g : Gh) (C : Array Value) (j : Nat) (wr : World) : Prop :=
  Half B wr d { s with lasts := pre s.lasts s.queue j } g C ∧ Moves B w wr

/-- what settle leaves -/
def SettleOut (B : Nat) (w : World) (d : Nat) (s : St) (g : Gh) (C : Array Value) (k : Nat) (e : Ending) (w' : World) : Prop :=
  e = .returned (.tuple #[]) ∧ Moves B w w' ∧ Half B w' d { s with lasts := pre s.lasts s.queue k, queue := [] } { g with q := .slice none 0 0 } (C.setIfInBounds 5 (.slice none 0 0))

theorem settle_end {B : Nat} {w : World} {d : Nat} {s : St} {g : Gh} {C : Array Value} {j : Nat} {wr : World} (h : SettleRel B w d s g C j wr) (hB : B ≤ w.heap.size) : SettleOut B w d s g C j (.returned (.tuple #[])) (wr.setCell ⟨d, 5, none⟩ (.slice none 0 0)) :=
  ⟨rfl, h.2.setCell (p := ⟨d, 5, none⟩) (by have := h.2.size; omega) h.1.le h.1.kin _, h.1.noqueue⟩

set_option maxRecDepth 100000 in
set_option maxHeartbeats 1000000 in
theorem settle_any {B : Nat} {w : World} {d : Nat} {s : St} {g : Gh} {C : Array Value} (h : Half B w d s g C) (ok : Ok s) (hB : B ≤ w.heap.size) (c4 : C[4]? = some (.map g.m2)) (c5 : C[5]? = some g.q) (k : Nat) (hk : k ≤ s.queue.length) (hq : s.queue.length < 1099511627776) :
    Calls Tryz.prog 71 #[.pointer (some ⟨d, 0, none⟩), .int .i64 k] w (SettleOut B w d s g C k) := by
  have k5 := (h.cells 5).trans c5
  have hml : maxLen = 9223372036854775807 := rfl
  obtain ⟨A, cap, hqv, hkc⟩ : ∃ A cap, g.q = .slice A s.queue.length cap ∧ k ≤ cap := by
    rcases h.body.queue.2 with ⟨e, h0⟩ | ⟨r, c, _, e, _, _, h1, _⟩
    · exact ⟨none, 0, by rw [e, h0], by omega⟩
    · exact ⟨_, c, e, by omega⟩
  have hsl := fun W => slice_head W A s.queue.length cap k hkc
  have fr5 := h.frozen 5
  have hstart : Hid (SettleRel B w d s g C 0 w) := ⟨h, Moves.refl _ _⟩
  have hmaps : Hid (0 < s.queue.length → ∃ b1 b2, g.m1 = some b1 ∧ g.m2 = some b2 ∧ B ≤ b2) := fun h0 => by
    rcases h.body.maps with ⟨_, _, _, _, e⟩ | ⟨b1, b2, e1, e2, _, _, l2, _⟩
    · rw [e] at h0; cases h0
    · exact ⟨b1, b2, e1, e2, l2⟩
  have HQV := Lib.hid hqv
  rw [hqv] at k5
  have HC4 := Lib.hid c4
  have HC5 := Lib.hid c5
  have HOK := Lib.hid ok
  obtain ⟨qn, hqn⟩ : ∃ qn, s.queue.length = qn := ⟨_, rfl⟩
  have HQN := Lib.hid hqn
  rw [hqn] at k5 hsl hk hq hmaps
  clear h ok c4 c5 hqv hqn
  go_enter Tryz.func71, Tryz.ntmps71
  go_wp2_with fail
  go_loopw [13] (fun i wr => ∃ j : Nat, j ≤ k ∧ i = .int .i64 j ∧ SettleRel B w d s g C j wr) (fun i _ => k - (intOf i).toNat)
  case atStart => exact ⟨0, by omega, rfl, hstart.out⟩
  case round =>
    obtain ⟨j, hj, rfl, hrel⟩ := hrel
    by_cases hlt : j < k
    · have hjq : j < s.queue.length := by rw [HQN.out]; omega
      obtain ⟨b1, b2, e1, e2, hBb⟩ := hmaps.out (by omega)
      have HREL := Lib.hid hrel
      have hown := hrel.1.body.queue
      have hown' : wr.ownsRow B 119 3 (.slice A qn cap) s.queue.length (qC g.blk s.queue) := by rw [← HQN.out, ← HQV.out]; exact hown
      obtain ⟨r, c, hv, hbr, hrl⟩ := hown'.form (by omega)
      injection hv with hA h1 h2
      clear h1 h2
      subst hA
      have x0 := (World.ownsRow.cellAt (by rw [← HQN.out] at hown'; exact hown') (j * 3 + 0) (by omega)).trans (qC_at g.blk s.queue j 0 hjq (by omega))
      have x1 := (World.ownsRow.cellAt (by rw [← HQN.out] at hown'; exact hown') (j * 3 + 1) (by omega)).trans (qC_at g.blk s.queue j 1 hjq (by omega))
      have x2 := (World.ownsRow.cellAt (by rw [← HQN.out] at hown'; exact hown') (j * 3 + 2) (by omega)).trans (qC_at g.blk s.queue j 2 hjq (by omega))
      have hent := HOK.out.ents _ (List.getElem_mem hjq)
      have hps := pre_succ s.lasts s.queue j hjq
      obtain ⟨en, hen⟩ : ∃ en, s.queue[j] = en := ⟨_, rfl⟩
      have HEN := Lib.hid hen
      rw [hen] at x0 x1 x2 hent hps
      obtain ⟨G, hG⟩ : ∃ G : ByteArray, (⟨en.gone.toArray⟩ : ByteArray) = G := ⟨_, rfl⟩
      obtain ⟨N, hN⟩ : ∃ N : ByteArray, (⟨en.name.toArray⟩ : ByteArray) = N := ⟨_, rfl⟩
      have hGd : G.data.toList = en.gone := by rw [← hG]
      have hNd : N.data.toList = en.name := by rw [← hN]
      obtain ⟨p, hfv⟩ := pv_ptr g.blk (if en.name = [] then none else some en.file)
      have y0 : wr.cell? ⟨r, j * 3, none⟩ = some (.string G) := by rw [← hG]; exact x0
      have y1 : wr.cell? ⟨r, j * 3 + 1, none⟩ = some (.string N) := by rw [← hN]; exact x1
      have y2 : wr.cell? ⟨r, j * 3 + 2, none⟩ = some (.pointer p) := by rw [← hfv]; exact x2
      have HFV := Lib.hid hfv
      have hGs : G.size ≤ 64 := by rw [← size_list, hGd]; exact hent.1
      have hNs : N.size ≤ 64 := by rw [← size_list, hNd]; exact hent.2.1
      have HGD := Lib.hid hGd
      have HND := Lib.hid hNd
      have HPS := Lib.hid hps
      have i0 : (0 : Int) ≤ (j : Int) := by omega
      have i1 : (j : Int) < (k : Int) := by omega
      clear hrel hown hown' x0 x1 x2 hent hps hen hG hN hfv hGd hNd k5 hsl
      go_wp2_with fail
      have HA := Lib.hid ((HREL.out.1.alloc (.cells #[.string G, .string N, .pointer p] 119)))
      have HM : Hid (Moves B w (wr.alloc (.cells #[.string G, .string N, .pointer p] 119))) := HREL.out.2.alloc (by have := HREL.out.2.size; omega) _
      have HX : Hid ((wr.alloc (.cells #[.string G, .string N, .pointer p] 119)).heap[wr.heap.size]? = some (.cells #[.string G, .string N, .pointer p] 119 (0, 0))) := heap_alloc_new wr _
      have hX : ∃ X, wr.heap.size = X := ⟨_, rfl⟩
      have HAP : Hid (∀ W, OwnM W b2 (pre s.lasts s.queue j).length (D g.blk (pre s.lasts s.queue j)) → Calls Tryz.prog 107 #[.agg #[.string G, .string N, .pointer p], .map (some b2)] W (AppOut W b2 g.blk (pre s.lasts s.queue (j + 1)))) := fun W ho => by
        have hfew := (HOK.out.good j (by omega)).few
        have := apply_any ho G N en.file (by omega) (by omega) (by omega)
        rw [HND.out, HFV.out, HGD.out] at this
        rw [HPS.out]
        exact this
      have HC4' : Hid (C[4]? = some (.map (some b2))) := by rw [← e2]; exact HC4.out
      clear y0 y1 y2
      generalize wr.alloc (.cells #[.string G, .string N, .pointer p] 119) = w3 at HA HM HX ⊢
      obtain ⟨X, hX⟩ := hX
      rw [hX] at HX ⊢
      refine wp_region_still_tail 5 (by kernel_rfl) (by kernel_rfl) ?_
      simp only [List.take_succ_cons, List.take_zero, List.drop_succ_cons, List.drop_zero]
      have HA4 : Hid (Half B { w3 with drawn := w3.drawn + 1 } d { s with lasts := pre s.lasts s.queue j } g C) := HA.out.drew
      have HX4 : Hid (({ w3 with drawn := w3.drawn + 1 } : World).heap[X]? = some (.cells #[.string G, .string N, .pointer p] 119 (0, 0))) := HX.out
      have HM4 : Hid (Moves B w { w3 with drawn := w3.drawn + 1 }) := HM.out.drew
      generalize ({ w3 with drawn := w3.drawn + 1 } : World) = w4 at HA4 HX4 HM4 ⊢
      clear HA HX HM hX
      have k4 : w4.cell? ⟨d, 4, none⟩ = some (.map (some b2)) := (HA4.out.cells 4).trans HC4'.out
      have x0 : w4.cell? ⟨X, 0, none⟩ = some (.string G) := cell_of_row _ _ _ _ _ _ HX4.out
      have x1 : w4.cell? ⟨X, 1, none⟩ = some (.string N) := cell_of_row _ _ _ _ _ _ HX4.out
      have x2 : w4.cell? ⟨X, 2, none⟩ = some (.pointer p) := cell_of_row _ _ _ _ _ _ HX4.out
      have HO4 : Hid (OwnM w4 b2 (pre s.lasts s.queue j).length (D g.blk (pre s.lasts s.queue j))) := by
        rcases HA4.out.body.maps with ⟨e, _⟩ | ⟨_, b, _, e, _, _, _, _, o2⟩
        · rw [e1] at e; cases e
        · rw [e2] at e; cases e; exact o2
      repeat still_step
      refine wpStill_nil ?_
      go_wp2_with fail
      refine (HAP.out w4 HO4.out).mono ?_
      rintro e w5 ⟨rfl, ho5, hg5⟩
      have HNEW : Hid (SettleRel B w d s g C (j + 1) w5) := by
        refine ⟨HA4.out.lasts e1 e2 ho5 hg5 (fun n hn => ?_), HM4.out.grown hg5 (by have := HM4.out.size; omega) (fun q e => by cases e; exact ⟨hBb, HO4.out.kin⟩)⟩
        rcases hn with ⟨q, hq, rfl⟩ | hn
        · rw [HPS.out] at hq
          rcases live_app hq with h3 | ⟨h3, h4⟩
          · exact .inl ⟨q, h3, rfl⟩
          · exact .inr ⟨en, by rw [← HEN.out]; exact List.getElem_mem hjq, h3, h4⟩
        · exact .inr hn
      clear k4 x0 x1 x2 HA4 HX4 HM4 HO4 ho5 hg5
      go_wp2
      go_roundw
      case rel => exact ⟨j + 1, by omega, by go_num, HNEW.out⟩
      case measure => simp [intOf]; omega
    · obtain rfl : j = k := by omega
      have HE := Lib.hid (settle_end hrel hB)
      have fr5' := hrel.1.frozen 5
      have hcell := (hrel.1.cells 5).trans HC5.out
      clear hrel k5 fr5
      go_wp2
      go_end0
      exact HE.out
end Go.Proofs.YtjkofciohehgfaaGreatDoor.L8


/- What the closures do that turn files: Append$1, Sync$1, and SyncDir$1. -/
namespace Go.Proofs.YtjkofciohehgfaaGreatDoor.L8
open Go.RowKit Go.Maps
open DM

/-- one file turns: its own block, its own row, and new blocks -/
theorem Half.file {B : Nat} {w w' : World} {d : Nat} {s : St} {g : Gh} {C : Array Value} (h : Half B w d s g C) (hlt : ∀ n, live s.lasts s.queue n → n < s.files.length) {n : Nat} (hn : live s.lasts s.queue n) {f : F} {v : Value}
    (hkeep : ∀ (x : Nat) (o : Obj), w.heap[x]? = some o → x ≠ g.blk n → (∀ c fr, o ≠ .cells c 5 fr ∨ some x ≠ (g.row n).ownBlock) → w'.heap[x]? = some o)
    (hb : w'.heap[g.blk n]? = some (.cells #[.int .i64 n, v, .int .i64 f.sync] 117 (0, 0))) (ho : Row B w' v f.data) (hl : v.ownBlock = none ∨ v.ownBlock = (g.row n).ownBlock ∨ ∃ x, v.ownBlock = some x ∧ w.heap.size ≤ x) :
    Half B w' d { s with files := s.files.set n f } { g with row := fun m => if m = n then v else g.row m } C := by
  have hfn := h.body.files n hn
  have hkc : ∀ {x : Nat} {c : Array Value} {t : TypeId} {fr : Nat × Nat}, w.heap[x]? = some (.cells c t fr) → t ≠ 117 → t ≠ 5 → w'.heap[x]? = some (.cells c t fr) := fun {x c t fr} hx h1 h2 => by
    refine hkeep x _ hx (fun e => ?_) (fun c' fr' => .inl (fun e => ?_))
    · have h3 := hfn.2.1
      rw [← e, hx] at h3
      injection h3 with h3
      injection h3 with _ h3
      exact h1 h3
    · injection e with _ e
      exact h2 e
  have hkm : ∀ {b k : Nat} {D : DataW Unit}, OwnM w b k D → OwnM w' b k D := fun {b k D} hm => by
    obtain ⟨es, clock, hb1, hr⟩ := hm
    refine ⟨es, clock, hkeep b _ hb1 (fun e => ?_) (fun c' fr' => .inl (fun e => by cases e)), hr⟩
    have h3 := hfn.2.1
    rw [← e, hb1] at h3
    cases h3
  have hkr : ∀ {v' : Value} {t : TypeId} {z k : Nat} {xs : List Value}, w.ownsRow B t z v' k xs → t ≠ 117 → t ≠ 5 → w'.ownsRow B t z v' k xs := fun {v' t z k xs} hr h1 h2 => by
    refine ⟨hr.1, ?_⟩
    rcases hr.2 with h3 | ⟨r, cap, cur, h3, h4, h5, h6⟩
    · exact .inl h3
    · exact .inr ⟨r, cap, cur, h3, h4, hkc h5 h1 h2, h6⟩
  have hap : ∀ m, live s.lasts s.queue m → m ≠ n → v.ownBlock = none ∨ v.ownBlock ≠ (g.row m).ownBlock := fun m hm hne => by
    have hfm := h.body.files m hm
    rcases hl with h1 | h1 | ⟨x, h1, h2⟩
    · exact .inl h1
    · rw [h1]
      exact (h.body.apart n m hn hm (Ne.symm hne)).2
    · right
      rw [h1]
      intro e
      have := (hfm.2.2.lt x e.symm).2
      omega
  refine ⟨⟨?_, hkr h.body.queue (by decide) (by decide), fun m hm => ?_, fun m k hm hk hne => ?_, hkr h.body.cut (by decide) (by decide), h.body.bk⟩, hkc h.at_ (by decide) (by decide), h.le⟩
  · rcases h.body.maps with h1 | ⟨b1, b2, e1, e2, hne, l1, l2, o1, o2⟩
    · exact .inl h1
    · exact .inr ⟨b1, b2, e1, e2, hne, l1, l2, hkm o1, hkm o2⟩
  · by_cases hmn : m = n
    · subst hmn
      have hf : fileAt { s with files := s.files.set m f } m = f := by
        unfold fileAt
        simp only
        rw [List.getD_eq_getElem?_getD, List.getElem?_set_self (hlt m hm)]
        rfl
      rw [hf]
      refine ⟨hfn.1, ?_, ?_⟩
      · simp only [if_true]; exact hb
      · simp only [if_true]; exact ho
    · have hfm := h.body.files m hm
      have hf : fileAt { s with files := s.files.set n f } m = fileAt s m := by
        unfold fileAt
        simp only
        rw [List.getD_eq_getElem?_getD, List.getElem?_set_ne (Ne.symm hmn), List.getD_eq_getElem?_getD]
      have hap2 := h.body.apart m n hm hn hmn
      rw [hf]
      refine ⟨hfm.1, ?_, ?_⟩
      · simp only [if_neg hmn]
        exact hkeep _ _ hfm.2.1 hap2.1 (fun c' fr' => .inl (fun e => by injection e with _ e; exact absurd e (by decide)))
      · simp only [if_neg hmn]
        rcases hfm.2.2 with h3 | ⟨r, cap, cur, h3, h4, h5, h6⟩
        · exact .inl h3
        · refine .inr ⟨r, cap, cur, h3, h4, hkeep _ _ h5 (fun e => ?_) (fun c' fr' => .inr (fun e => ?_)), h6⟩
          · have h7 := hfn.2.1
            rw [← e, h5] at h7
            injection h7 with h7
            injection h7 with _ h7
            exact absurd h7 (by decide)
          · have h7 := hap2.2
            rw [h3] at h7
            rcases h7 with h7 | h7
            · cases h7
            · exact h7 e
  · simp only
    have hmk := h.body.apart m k hm hk hne
    refine ⟨hmk.1, ?_⟩
    by_cases hmn : m = n
    · subst hmn
      rw [if_pos rfl, if_neg (Ne.symm hne)]
      exact hap k hk (Ne.symm hne)
    · by_cases hkn : k = n
      · subst hkn
        rw [if_neg hmn, if_pos rfl]
        have h1 := hap m hm hmn
        cases hv : v.ownBlock with
        | none =>
          cases hr : (g.row m).ownBlock with
          | none => exact .inl rfl
          | some x => exact .inr (by simp)
        | some x =>
          right
          rw [hv] at h1
          rcases h1 with h1 | h1
          · cases h1
          · exact fun e => h1 e.symm
      · rw [if_neg hmn, if_neg hkn]
        exact hmk.2

section
variable {P : Program}
theorem strCells_eq (s : ByteArray) : Lib.strCells s = Lib.byteCells s.data.toList := rfl

/-- append of a text, and where the new row lies -/
theorem app_row (w : World) (base : Nat) (t u ty : TypeId) (i : TypeInfo) (ht : P.underlying t = some (.slice 5)) (hu : P.underlying u = some .string) (hi : P.info? 5 = some i) (hz : i.zero = some (.int .u8 0))
    (hsize : i.size = 1) (hby : i.bytes = 1) (v : Value) (l : Bs) (hown : Row base w v l) (s : ByteArray) (hbytes : l.length + s.size ≤ 140737488355328) (hbase : base ≤ w.heap.size) :
    ∃ A c w', (Builtin.append_ #[t, u] ty #[v, .string s]).run P w = .ok (.slice A (l.length + s.size) c) w' ∧ Row base w' (.slice A (l.length + s.size) c) (l ++ s.data.toList) ∧ w.grownBy w' v.ownBlock ∧ ((Value.slice A (l.length + s.size) c).ownBlock = v.ownBlock ∨ (Value.slice A (l.length + s.size) c).ownBlock = some w.heap.size) := by
  have hsl := size_list s
  have hll : (l ++ s.data.toList).length = l.length + s.size := by rw [List.length_append, hsl]
  have hbc : Lib.byteCells (l ++ s.data.toList) = Lib.byteCells l ++ Lib.strCells s := by rw [strCells_eq]; simp [Lib.byteCells]
  have hbl : (Lib.byteCells l).length = l.length := Lib.byteCells_length l
  rcases hown with ⟨rfl, rfl⟩ | ⟨g, cap, cur, rfl, hbg, hg, hnc, hcm, hcs, htake⟩
  · obtain ⟨v', w', hr, h1, h2, h3⟩ := Lib.run_append_own_string (P := P) w base t u ty 5 i ht hu hi hz hsize hby (.slice none 0 0) 0 [] (World.ownsRow_nil _ _ _ _) s (by unfold maxLen; simp at hbytes; omega) (by simpa using hbytes) hbase
    rw [List.nil_append, strCells_eq] at h1
    have hrow : Row base w' v' s.data.toList := Row.of_own h1 (by rw [hsl, Nat.zero_add])
    have hloc : v'.ownBlock = (Value.slice none 0 0).ownBlock ∨ v'.ownBlock = some w.heap.size := by
      by_cases hm : s.size = 0
      · left
        rw [h3.2 ⟨rfl, hm⟩]
      · have hr2 := run_append_nil_string (P := P) w t u ty 5 i (.int .u8 0) ht hu hi hz s (by omega) (by simp at hbytes; omega) (by rw [hby]; simp at hbytes; omega)
        rw [hr] at hr2
        injection hr2 with hr2 _
        right
        rw [hr2]
        rfl
    obtain ⟨A, c, hv⟩ : ∃ A c, v' = .slice A (0 + s.size) c := by
      rcases h1.2 with ⟨e1, h0⟩ | ⟨r, c, _, e1, _⟩
      · exact ⟨none, 0, by rw [e1, h0]⟩
      · exact ⟨_, c, e1⟩
    subst hv
    exact ⟨A, c, w', hr, hrow, h2, hloc⟩
  · by_cases hroom : l.length + s.size ≤ cap
    · have hr := Lib.run_append_room_string (P := P) w t u ty 5 i ht hu hi hsize g l.length cap cur hg s hroom (by omega)
      refine ⟨_, _, _, hr, .inr ⟨g, cap, _, by rw [hll], hbg, setRow_heap w g cur _ _ _ hg, by omega, hcm, ?_, ?_⟩, ⟨rfl, rfl, rfl, by simp, fun k _ hk => setRow_other w g k _ (fun e => hk (by simp [Value.ownBlock, e]))⟩, .inl rfl⟩
      · simp only [List.size_toArray, List.length_append, List.length_take, List.length_drop, Array.length_toList, Lib.strCells_length]
        omega
      · rw [htake, hll, hbc]
        have : (Lib.byteCells l ++ Lib.strCells s).length = l.length + s.size := by rw [List.length_append, hbl, Lib.strCells_length]
        rw [← this]
        exact List.take_left
    · have holds : ∀ j u, (Lib.byteCells l)[j]? = some u → w.cell? ((⟨g, 0, none⟩ : Addr).add j) = some u := fun j u hj => by
        rw [addr_add0, cell_of_row _ _ _ _ _ _ hg, ← hj, ← htake, List.getElem?_take_of_lt (by rw [← hbl]; exact (List.getElem?_eq_some_iff.1 hj).1)]
        simp
      have hr := Lib.run_append_grow_string (P := P) w t u ty 5 i (.int .u8 0) ht hu hi hz ⟨g, 0, none⟩ l.length cap (Lib.byteCells l) (by rw [hsize, hbl, Nat.mul_one]) holds s (by omega) (by omega) (by rw [hby]; exact growslice_fits (by omega) (by omega))
      have hge := grownCap_ge w (l.length + s.size) cap 5
      have hcm' : grownCap w (l.length + s.size) cap 5 ≤ maxLen := grownCap_le_maxLen w (l.length + s.size) cap 5 (by unfold maxLen; omega)
      refine ⟨_, _, _, hr, .inr ⟨w.heap.size, _, _, by rw [hll], hbase, heap_alloc_new w.drew _, by omega, hcm', ?_, ?_⟩, ⟨rfl, rfl, rfl, by simp, fun k hk _ => Below.heap_alloc w.drew _ k hk⟩, .inr rfl⟩
      · have hz1 : (Value.int IntKind.u8 0).cells.size = 1 := rfl
        simp only [Array.size_append, List.size_toArray, size_zeroCells, hz1, hbl, Lib.strCells_length]
        omega
      · simp only [Array.toList_append, List.append_assoc]
        rw [hll, hbc, ← List.append_assoc]
        have : (Lib.byteCells l ++ Lib.strCells s).length = l.length + s.size := by rw [List.length_append, hbl, Lib.strCells_length]
        rw [← this]
        exact List.take_left

theorem step_str {w : World} {ops : Array Oper} {o : Oper} {a : Act} {K : Act → World → Prop} {Q : Exit → Act → World → Prop} {E : Prop} (hgd : o.guard = none) (sl x : Operand) (t u : TypeId)
    (ho : o.op = .call { callee := .builtin .append, args := #[sl, x], argTypes := #[t, u] })
    (base : Nat) (i : TypeInfo) (ht : P.underlying t = some (.slice 5)) (hu : P.underlying u = some .string) (hi : P.info? 5 = some i) (hz : i.zero = some (.int .u8 0))
    (hsize : i.size = 1) (hby : i.bytes = 1) (v : Value) (l : Bs) (hs : a.eval sl = v) (hown : Row base w v l) (s : ByteArray) (hx : a.eval x = .string s) (hbytes : l.length + s.size ≤ 140737488355328) (hbase : base ≤ w.heap.size)
    (h : ∀ A c w', Row base w' (.slice A (l.length + s.size) c) (l ++ s.data.toList) → w.grownBy w' v.ownBlock → ((Value.slice A (l.length + s.size) c).ownBlock = v.ownBlock ∨ (Value.slice A (l.length + s.size) c).ownBlock = some w.heap.size) → K (a.put o.dst (.slice A (l.length + s.size) c)) w') :
    if Region.wanted o (yielded ops a.tmps) = true then Oper.wp P o a w K Q else E := by
  have hw : Region.wanted o (yielded ops a.tmps) = true := by simp [Region.wanted, hgd]
  rw [if_pos hw]
  obtain ⟨A, c, w', hr, h2, h3, h4⟩ := app_row (P := P) w base t u o.type i ht hu hi hz hsize hby v l hown s hbytes hbase
  unfold Oper.wp execOp
  simp only [ho, resolve, invoke, builtin, Sem.run_bind, Sem.run_pure, Result.andThen_ok, List.map_toArray, List.map_cons, List.map_nil, hs, hx, hr]
  exact h _ _ _ h2 h3 h4
end
end Go.Proofs.YtjkofciohehgfaaGreatDoor.L8


/- The walks of Append$1, Sync$1, SyncDir$1. -/
namespace Go.Proofs.YtjkofciohehgfaaGreatDoor.L8
open Go.RowKit Go.Maps
open DM

/-- a file's slice is stored anew: its row may have grown -/
theorem Half.appended {B : Nat} {w w1 : World} {d : Nat} {s : St} {g : Gh} {C : Array Value} (h : Half B w d s g C) (hlt : ∀ n, live s.lasts s.queue n → n < s.files.length) {n : Nat} (hn : live s.lasts s.queue n) {v : Value} {data : Bs}
    (ho : Row B w1 v data) (hg : w.grownBy w1 (g.row n).ownBlock) (hl : v.ownBlock = (g.row n).ownBlock ∨ v.ownBlock = some w.heap.size) :
    Half B (w1.setCell ⟨g.blk n, 1, none⟩ v) d { s with files := s.files.set n ⟨data, (fileAt s n).sync⟩ } { g with row := fun m => if m = n then v else g.row m } C := by
  have hfn := h.body.files n hn
  have hbr : ∀ c : Array Value, Obj.cells #[.int .i64 n, g.row n, .int .i64 (fileAt s n).sync] 117 (0, 0) ≠ .cells c 5 (0, 0) := fun c e => by injection e with _ e; exact absurd e (by decide)
  have hb1 : w1.heap[g.blk n]? = some (.cells #[.int .i64 n, g.row n, .int .i64 (fileAt s n).sync] 117 (0, 0)) :=
    (hg.block _ (Array.getElem?_eq_some_iff.1 hfn.2.1).1 (fun e => by
      rcases hfn.2.2.ne hfn.2.1 hbr with h1 | h1
      · rw [h1] at e; cases e
      · exact h1 e.symm)).trans hfn.2.1
  have hne : ∀ x, v.ownBlock = some x → x ≠ g.blk n := fun x hx e => by
    rcases ho.ne hb1 hbr with h1 | h1
    · rw [h1] at hx; cases hx
    · rw [← e] at h1; exact h1 hx
  refine h.file hlt hn (f := ⟨data, (fileAt s n).sync⟩) (v := v) (fun x o hx h1 h2 => ?_) ?_ ?_ ?_
  · rw [Below.heap_setCell _ _ _ _ h1]
    refine (hg.block x (Array.getElem?_eq_some_iff.1 hx).1 (fun e => ?_)).trans hx
    rcases hfn.2.2 with ⟨h3, _⟩ | ⟨r, cap, cur, h3, _, h5, _⟩
    · rw [h3] at e; cases e
    · rw [h3] at e h2
      have hxr : x = r := Option.some.inj e
      subst hxr
      rw [h5] at hx
      rcases h2 cur (0, 0) with h6 | h6
      · exact h6 (Option.some.inj hx).symm
      · exact h6 e
  · rw [heap_set_fr hb1 1 v]
    rfl
  · exact ho.kept (grownBy_setCell w1 ⟨g.blk n, 1, none⟩ v) (by
      cases hv : v.ownBlock with
      | none => exact .inl rfl
      | some x => exact .inr (fun e => hne x hv (Option.some.inj e)))
  · rcases hl with h1 | h1
    · exact .inr (.inl h1)
    · exact .inr (.inr ⟨_, h1, Nat.le_refl _⟩)

set_option maxRecDepth 100000 in
set_option maxHeartbeats 1000000 in
theorem append_do {B : Nat} {w : World} {d : Nat} {s : St} {g : Gh} (h : Rep B w d s g) (ok : Ok s) {b1 b2 : Nat} (e1 : g.m1 = some b1) (e2 : g.m2 = some b2) (hB : B ≤ w.heap.size) (K N : ByteArray) {n : Nat} (hfn : find s.names K.data.toList = some n)
    (hl : lens s.files n + N.size ≤ 1048576) (bf bs bd : Nat) (hf : Cap w bf (.pointer (some ⟨g.blk n, 0, none⟩)) 113) (hs : Cap w bs (.string N) 9) (hd : Cap w bd (.pointer (some ⟨d, 0, none⟩)) 25) :
    Calls Tryz.prog 77 #[.pointer (some ⟨bf, 0, none⟩), .pointer (some ⟨bs, 0, none⟩), .pointer (some ⟨bd, 0, none⟩)] w (DoOut B w d (doAppend n N.data.toList s)) := by
  have hnl := ok.names_live (find_some hfn)
  have hfile := h.body.files n hnl
  have hlen : lens s.files n = (fileAt s n).data.length := rfl
  obtain ⟨i0, hi, hz0, hz1, hz2⟩ := info_parts info_u8
  have cf := hf.cell
  have cs := hs.cell
  have cd := hd.cell
  have cb : w.cell? ⟨g.blk n, 1, none⟩ = some (g.row n) := cell_of_row _ _ _ _ _ _ hfile.2.1
  have frb : w.frozen? ⟨g.blk n, 1, none⟩ = false := frozen_of_row _ _ _ _ _ hfile.2.1
  have hbl := (Array.getElem?_eq_some_iff.1 hfile.2.1).1
  have HOWN := Lib.hid hfile.2.2
  have hbne : Hid (some (g.blk n) ≠ (g.row n).ownBlock) := fun e => by
    rcases hfile.2.2.ne hfile.2.1 (by intro c e; injection e with _ e; exact absurd e (by decide)) with h1 | h1
    · rw [h1] at e; cases e
    · exact h1 e.symm
  have hul : used s.files s.names ≤ 4294967296 := ok.used_le
  have hus : Hid (used (s.files.set n ⟨(fileAt s n).data ++ N.data.toList, (fileAt s n).sync⟩) s.names = used s.files s.names + N.size) := by
    have h1 := used_set (n := n) (fs := s.files) (f := ⟨(fileAt s n).data ++ N.data.toList, (fileAt s n).sync⟩) (ok.live_lt hnl) ok.gnames.sorted ok.gnames.one K.data.toList (find_some hfn)
    have h2 := size_list N
    have h3 : ((fileAt s n).data ++ N.data.toList).length = lens s.files n + N.size := by rw [List.length_append, h2, hlen]
    rw [h3] at h1
    unfold Hid
    omega
  have HH := Lib.hid h.half
  have HLT : Hid (∀ n, live s.lasts s.queue n → n < s.files.length) := fun n hn => ok.live_lt hn
  have HNL := Lib.hid hnl
  have HF := Lib.hid hf
  have HS := Lib.hid hs
  have HD := Lib.hid hd
  have hbb2 : B ≤ g.blk n := hfile.1
  have hbk1 : w.heap[g.blk n]? = some (.cells #[.int .i64 n, g.row n, .int .i64 (fileAt s n).sync] 117 (0, 0)) := hfile.2.1
  have HBLK := Lib.hid hbk1
  clear hbk1
  obtain ⟨L, hL⟩ : ∃ L, (fileAt s n).data.length = L := ⟨_, rfl⟩
  have HL := Lib.hid hL
  rw [hlen, hL] at hl
  obtain ⟨U, hU⟩ : ∃ U, used s.files s.names = U := ⟨_, rfl⟩
  have HU := Lib.hid hU
  rw [hU] at hul
  obtain ⟨bk, hbk⟩ : ∃ bk, g.blk n = bk := ⟨_, rfl⟩
  obtain ⟨rv, hrv⟩ : ∃ rv, g.row n = rv := ⟨_, rfl⟩
  have HBK := Lib.hid hbk
  have HRV := Lib.hid hrv
  rw [hbk] at cf cb frb hbl hbne hbb2 HBLK
  rw [hrv] at cb HOWN hbne
  have hml : N.size ≤ 1048576 := by omega
  have hfne : Hid (some bf ≠ rv.ownBlock) := fun e => by
    rcases HOWN.out.ne hf (by intro c e; injection e with _ e; exact absurd e (by decide)) with h1 | h1
    · rw [h1] at e; cases e
    · exact h1 e.symm
  have HE1 := Lib.hid e1
  have HE2 := Lib.hid e2
  have hbf := hf.lt
  have hbs := hs.lt
  clear h ok hfn hnl hfile hlen hf hs hd hL hU hbk hrv e1 e2
  go_enter Tryz.func77, Tryz.ntmps77
  go_wp2_with fail
  go_region_law (
    refine step_str rfl (.tmp 7) (.tmp 8) 68 9 rfl B i0 Tryz.underlying68 Tryz.underlying9 hi hz0 hz1 hz2 rv (fileAt s n).data rfl ?_ N rfl ?_ ?_ ?_
    · exact HOWN.out
    · rw [HL.out]; omega
    · exact hB
    rw [HL.out]
    intro A1 c1 w1 hown1 hgrow1 hloc1
    have fr1 : w1.frozen? ⟨bk, 1, none⟩ = false := by rw [hgrow1.frozen_far _ hbl hbne.out]; exact frb
    have k1 : w1.cell? ⟨bk, 1, none⟩ = some rv := by rw [hgrow1.cell_far _ hbl hbne.out]; exact cb
    have HG1 : Hid (w.grownBy w1 rv.ownBlock) := ⟨hgrow1.os, hgrow1.tape, hgrow1.output, hgrow1.size, hgrow1.block⟩
    have HO1 := Lib.hid hown1
    have HL1 : Hid ((Value.slice A1 (L + N.size) c1).ownBlock = rv.ownBlock ∨ (Value.slice A1 (L + N.size) c1).ownBlock = some w.heap.size) := hloc1
    have y1 : w1.cell? ⟨bf, 0, none⟩ = some (.pointer (some ⟨bk, 0, none⟩)) := by rw [hgrow1.cell_far _ hbf hfne.out]; exact cf
    clear hown1 hgrow1 hloc1)
  all_goals
    have hgb : w.grownBy w1 (g.row n).ownBlock := by rw [HRV.out]; exact HG1.out
    have H2 : Hid (Half B (w1.setCell ⟨bk, 1, none⟩ (.slice A1 (L + N.size) c1)) d (doAppend n N.data.toList s) { g with row := fun m => if m = n then .slice A1 (L + N.size) c1 else g.row m } (dC s g (used s.files s.names))) := by
      rw [← HBK.out]
      refine HH.out.appended HLT.out HNL.out (data := (fileAt s n).data ++ N.data.toList) ?_ hgb ?_
      · exact HO1.out
      · rw [HRV.out]; exact HL1.out
    have HM2 : Hid (Moves B w (w1.setCell ⟨bk, 1, none⟩ (.slice A1 (L + N.size) c1))) := by
      refine ((Moves.refl B w).grown HG1.out hB (fun q e => ⟨(HOWN.out.lt q e).1, HOWN.out.kin q e⟩)).setCell (p := ⟨bk, 1, none⟩) (by have := HG1.out.size; omega) hbb2 ?_ _
      exact kin_cells ((HG1.out.block bk hbl hbne.out).trans HBLK.out) (by decide)
    clear fr1 k1 y1 hgb
    generalize w1.setCell ⟨bk, 1, none⟩ (.slice A1 (L + N.size) c1) = w2 at H2 HM2 ⊢
    go_wp2_with fail
    refine wp_region_still_tail 9 (by kernel_rfl) (by kernel_rfl) ?_
    simp only [List.take_succ_cons, List.take_zero, List.drop_succ_cons, List.drop_zero]
    have H3 : Hid (Half B { w2 with drawn := w2.drawn + 1 } d (doAppend n N.data.toList s) { g with row := fun m => if m = n then .slice A1 (L + N.size) c1 else g.row m } (dC s g (used s.files s.names))) := H2.out.drew
    have HM3 : Hid (Moves B w { w2 with drawn := w2.drawn + 1 }) := HM2.out.drew
    generalize ({ w2 with drawn := w2.drawn + 1 } : World) = w3 at H3 HM3 ⊢
    clear H2 HM2 HG1 HO1 HL1
    have k1 : w3.cell? ⟨d, 1, none⟩ = some (.int .i64 U) := by rw [H3.out.cells 1, ← HU.out]; rfl
    have fr1 := H3.out.frozen 1
    have x1 := (HD.out.moved HM3.out (by decide)).cell
    have x2 := (HS.out.moved HM3.out (by decide)).cell
    repeat still_step
    refine wpStill_nil ?_
    go_wp2
    go_end0
    refine ⟨rfl, HM3.out.setCell (p := ⟨d, 1, none⟩) (by have := HM3.out.size; omega) H3.out.le H3.out.kin _, { g with row := fun m => if m = n then .slice A1 (L + N.size) c1 else g.row m }, b1, b2, HE1.out, HE2.out, ?_⟩
    have h4 := H3.out.set 1 (.int .i64 (U + N.size))
    refine ⟨h4.body, ?_, h4.le⟩
    rw [h4.at_]
    have hu4 : used (doAppend n N.data.toList s).files (doAppend n N.data.toList s).names = U + N.size := by rw [← HU.out]; exact hus.out
    have hl4 : (doAppend n N.data.toList s).files.length = s.files.length := by simp [doAppend]
    unfold dC
    rw [hu4, hl4]
    rfl

end Go.Proofs.YtjkofciohehgfaaGreatDoor.L8


/- The walks of Sync$1, SyncDir$1. -/
namespace Go.Proofs.YtjkofciohehgfaaGreatDoor.L8
open Go.RowKit Go.Maps
open DM

set_option maxRecDepth 100000 in
set_option maxHeartbeats 1000000 in
theorem sync_do {B : Nat} {w : World} {d : Nat} {s : St} {g : Gh} (h : Rep B w d s g) (ok : Ok s) {b1 b2 : Nat} (e1 : g.m1 = some b1) (e2 : g.m2 = some b2) (hB : B ≤ w.heap.size) (K : ByteArray) {n : Nat} (hfn : find s.names K.data.toList = some n)
    (bf : Nat) (hf : Cap w bf (.pointer (some ⟨g.blk n, 0, none⟩)) 113) :
    Calls Tryz.prog 78 #[.pointer (some ⟨bf, 0, none⟩)] w (DoOut B w d (doSync n s)) := by
  have hnl := ok.names_live (find_some hfn)
  have hfile := h.body.files n hnl
  obtain ⟨A, c, hrs⟩ := row_slice hfile
  have cf := hf.cell
  have cb : w.cell? ⟨g.blk n, 1, none⟩ = some (g.row n) := cell_of_row _ _ _ _ _ _ hfile.2.1
  have frb : w.frozen? ⟨g.blk n, 2, none⟩ = false := frozen_of_row _ _ _ _ _ hfile.2.1
  have hcb2 : w.cell? ⟨g.blk n, 2, none⟩ = some (.int .i64 (fileAt s n).sync) := cell_of_row _ _ _ _ _ _ hfile.2.1
  rw [hrs] at cb
  have hkin : Kin w (g.blk n) := kin_cells hfile.2.1 (by decide)
  have HEND : Hid (∀ W : World, W.grownBy W none → W.heap = w.heap → W.os = w.os → W.tape = w.tape → W.output = w.output → DoOut B w d (doSync n s) (.returned (.tuple #[])) (W.setCell ⟨g.blk n, 2, none⟩ (.int .i64 (fileAt s n).data.length))) := fun W _ e3 e4 e5 e6 => by
    have hgr : w.grownBy W none := ⟨e4, e5, e6, by rw [e3]; exact Nat.le_refl _, fun k _ _ => by rw [e3]⟩
    have hh := h.half.still hgr
    have hf2 := hh.body.files n hnl
    have hm : Moves B w W := (Moves.refl B w).of_below ⟨e4, e5, e6, by rw [e3]; exact Nat.le_refl _, fun k _ => by rw [e3]⟩ hB
    refine ⟨rfl, hm.setCell (p := ⟨g.blk n, 2, none⟩) (by rw [e3]; exact hB) hf2.1 (kin_cells hf2.2.1 (by decide)) _, g, b1, b2, e1, e2, ?_⟩
    have hfl := hh.file (w' := W.setCell ⟨g.blk n, 2, none⟩ (.int .i64 (fileAt s n).data.length)) (fun n hn => ok.live_lt hn) hnl (f := ⟨(fileAt s n).data, (fileAt s n).data.length⟩) (v := g.row n)
      (fun x o hx h1 _ => (Below.heap_setCell _ _ _ _ h1).trans hx) (by rw [heap_set_fr hf2.2.1 2]; rfl)
      (hf2.2.2.kept (grownBy_setCell W ⟨g.blk n, 2, none⟩ _) (hf2.2.2.ne hf2.2.1 (by intro c e; injection e with _ e; exact absurd e (by decide)))) (.inr (.inl rfl))
    have hrow : (fun m => if m = n then g.row n else g.row m) = g.row := by
      funext m
      by_cases hm : m = n
      · subst hm; rw [if_pos rfl]
      · rw [if_neg hm]
    rw [hrow] at hfl
    refine ⟨hfl.body, ?_, hfl.le⟩
    rw [hfl.at_]
    have hus := used_set (n := n) (fs := s.files) (f := ⟨(fileAt s n).data, (fileAt s n).data.length⟩) (ok.live_lt hnl) ok.gnames.sorted ok.gnames.one K.data.toList (find_some hfn)
    have hu4 : used (doSync n s).files (doSync n s).names = used s.files s.names := by
      show used (s.files.set n ⟨(fileAt s n).data, (fileAt s n).data.length⟩) s.names = _
      have : lens s.files n = (fileAt s n).data.length := rfl
      rw [this] at hus
      simp only at hus
      omega
    have hl4 : (doSync n s).files.length = s.files.length := by simp [doSync]
    unfold dC
    rw [hu4, hl4]
    rfl
  obtain ⟨bk, hbk⟩ : ∃ bk, g.blk n = bk := ⟨_, rfl⟩
  obtain ⟨L, hL⟩ : ∃ L, (fileAt s n).data.length = L := ⟨_, rfl⟩
  rw [hbk] at cf cb frb hcb2 HEND
  rw [hL] at cb HEND
  clear h ok e1 e2 hfn hf hnl hfile hrs hkin hbk hL
  go_enter Tryz.func78, Tryz.ntmps78
  go_wp2_with fail
  refine wp_region_still_tail 8 (by kernel_rfl) (by kernel_rfl) ?_
  simp only [List.take_succ_cons, List.take_zero, List.drop_succ_cons, List.drop_zero]
  have HE2 := Lib.hid (HEND.out { w with drawn := w.drawn + 1 } ⟨rfl, rfl, rfl, Nat.le_refl _, fun _ _ _ => rfl⟩ rfl rfl rfl rfl)
  have z1 : ({ w with drawn := w.drawn + 1 } : World).cell? ⟨bf, 0, none⟩ = some (.pointer (some ⟨bk, 0, none⟩)) := cf
  have z2 : ({ w with drawn := w.drawn + 1 } : World).cell? ⟨bk, 1, none⟩ = some (.slice A L c) := cb
  have z3 : ({ w with drawn := w.drawn + 1 } : World).cell? ⟨bk, 2, none⟩ = some (.int .i64 (fileAt s n).sync) := hcb2
  have z4 : ({ w with drawn := w.drawn + 1 } : World).frozen? ⟨bk, 2, none⟩ = false := frb
  generalize ({ w with drawn := w.drawn + 1 } : World) = w3 at HE2 z1 z2 z3 z4 ⊢
  clear HEND cf cb frb hcb2
  repeat still_step
  refine wpStill_nil ?_
  go_wp2
  go_end0
  exact HE2.out

theorem q_slice {B : Nat} {w : World} {d : Nat} {s : St} {g : Gh} {C : Array Value} (h : Half B w d s g C) : ∃ A c, g.q = .slice A s.queue.length c := by
  rcases h.body.queue.2 with ⟨e, h0⟩ | ⟨r, c, _, e, _⟩
  · exact ⟨none, 0, by rw [e, h0]⟩
  · exact ⟨_, c, e⟩

set_option maxRecDepth 100000 in
set_option maxHeartbeats 1000000 in
theorem syncDir_do {B : Nat} {w : World} {d : Nat} {s : St} {g : Gh} (h : Rep B w d s g) (ok : Ok s) {b1 b2 : Nat} (e1 : g.m1 = some b1) (e2 : g.m2 = some b2) (hB : B ≤ w.heap.size) (hq : s.queue.length < 1099511627776)
    (bd : Nat) (hd : Cap w bd (.pointer (some ⟨d, 0, none⟩)) 25) :
    Calls Tryz.prog 70 #[.pointer (some ⟨bd, 0, none⟩)] w (DoOut B w d (doSyncDir s)) := by
  obtain ⟨A, c, hqs⟩ := q_slice h.half
  have HH : Hid (Half B { w with drawn := w.drawn + 1 } d s g (dC s g (used s.files s.names))) := h.half.drew
  have HM : Hid (Moves B w { w with drawn := w.drawn + 1 }) := (Moves.refl B w).drew
  have HST : Hid (∀ W, B ≤ W.heap.size → Half B W d s g (dC s g (used s.files s.names)) → Moves B w W → Calls Tryz.prog 71 #[.pointer (some ⟨d, 0, none⟩), .int .i64 s.queue.length] W (DoOut B w d (doSyncDir s))) := fun W hBW hh hm => by
    refine (settle_any hh ok hBW rfl rfl s.queue.length (Nat.le_refl _) hq).mono fun e w' ⟨he, hm2, hf⟩ => ⟨he, hm.trans hm2, { g with q := .slice none 0 0 }, b1, b2, e1, e2, ⟨hf.body, ?_, hf.le⟩⟩
    rw [hf.at_]
    simp [dC, doSyncDir]
  have z1 := hd.cell
  have z2 : w.cell? ⟨d, 5, none⟩ = some g.q := h.cells.2.2.2.2.2.1
  rw [hqs] at z2
  obtain ⟨q, hqn⟩ : ∃ q, s.queue.length = q := ⟨_, rfl⟩
  rw [hqn] at z2 HST
  clear h ok e1 e2 hd hqs hqn
  go_enter Tryz.func70, Tryz.ntmps70
  go_wp2_with fail
  refine wp_region_still_tail 6 (by kernel_rfl) (by kernel_rfl) ?_
  simp only [List.take_succ_cons, List.take_zero, List.drop_succ_cons, List.drop_zero]
  have y1 : ({ w with drawn := w.drawn + 1 } : World).cell? ⟨bd, 0, none⟩ = some (.pointer (some ⟨d, 0, none⟩)) := z1
  have y2 : ({ w with drawn := w.drawn + 1 } : World).cell? ⟨d, 5, none⟩ = some (.slice A q c) := z2
  have hB3 : B ≤ ({ w with drawn := w.drawn + 1 } : World).heap.size := hB
  generalize ({ w with drawn := w.drawn + 1 } : World) = w3 at HH HM y1 y2 hB3 ⊢
  clear z1 z2
  repeat still_step
  refine wpStill_nil ?_
  go_wp2_with fail
  refine (HST.out w3 hB3 HH.out HM.out).mono ?_
  rintro e w4 hdo
  have HDO := Lib.hid hdo
  obtain ⟨rfl, hm2, hr2⟩ := HDO.out
  clear hdo hm2 hr2
  go_wp2
  go_end0
  exact HDO.out
end Go.Proofs.YtjkofciohehgfaaGreatDoor.L8


/- What a loss of power does to a file. -/
namespace Go.Proofs.YtjkofciohehgfaaGreatDoor.L8
open Go.RowKit Go.Maps
open DM

/-- numbers that stay readable whatever a disk does -/
def Stays (B : Nat) (w : World) (A : Option Addr) (l : List Int) : Prop :=
  0 < l.length → ∃ b off, A = some ⟨b, off, none⟩ ∧ ∀ w', Moves B w w' → ∀ j, (h : j < l.length) → w'.cell? ⟨b, off + j, none⟩ = some (.int .i64 l[j])
theorem Stays.moved {B : Nat} {w w' : World} {A : Option Addr} {l : List Int} (h : Stays B w A l) (hm : Moves B w w') : Stays B w' A l := fun h0 => by
  obtain ⟨b, off, hA, hc⟩ := h h0
  exact ⟨b, off, hA, fun w'' hm' j hj => hc w'' (hm.trans hm') j hj⟩

theorem rem_st (n : Int) (b : Nat) (w : World) (hn : fits n) (hb : 0 < b) (hb2 : b ≤ 4611686018427387904) :
    Calls Tryz.prog 79 #[.int .i64 n, .int .i64 b] w fun e w' => e = .returned (.int .i64 (rest n b)) ∧ w' = w :=
  (rem_any n b w hn hb hb2).mono fun _ _ ⟨h1, h2⟩ => ⟨h1, h2.symm⟩

theorem slice_full (W : World) (A : Option Addr) (n cap m : Nat) (h : m ≤ cap) : (Instr.slice 68 (.slice A n cap) none (some (.int .i64 (m : Int))) (some (.int .i64 (m : Int)))).run Tryz.prog W = .ok (.slice A m m) W := by
  have hs : ∀ w, (sizeOf (Tryz.prog.elem 68)).run Tryz.prog w = .ok 1 w := fun w => by kernel_rfl
  rw [run_slice_hm W 68 A n cap (by kernel_rfl) .i64 .i64 (m : Int) (m : Int) (by omega) (by omega) (by omega), hs]
  simp only [Result.andThen, sliced, Int.toNat_natCast, Nat.sub_zero, Nat.zero_mul, add_zero', Option.map_id']
  split <;> rfl

/-- what a loss of power leaves of a file -/
def FLoseOut (B : Nat) (w : World) (g : Gh) (n : Nat) (f : F) (e : Ending) (w' : World) : Prop :=
  e = .returned (.tuple #[]) ∧ w.grownBy w' (some (g.blk n)) ∧ ∃ v, v.ownBlock = (g.row n).ownBlock ∧ FileAt B w' { g with row := fun m => if m = n then v else g.row m } n f

theorem flose_end {B : Nat} {w : World} {g : Gh} {n : Nat} {f : F} (hf : FileAt B w g n f) {A : Option Addr} {c K : Nat} (hr : g.row n = .slice A f.data.length c) (hK : K ≤ f.data.length) (W : World)
    (h1 : W.heap = (w.setCell ⟨g.blk n, 2, none⟩ (.int .i64 K)).heap) (h2 : W.os = w.os) (h3 : W.tape = w.tape) (h4 : W.output = w.output) :
    FLoseOut B w g n ⟨f.data.take K, K⟩ (.returned (.tuple #[])) (W.setCell ⟨g.blk n, 1, none⟩ (.slice A K K)) := by
  have hbr : ∀ c : Array Value, Obj.cells #[.int .i64 n, g.row n, .int .i64 f.sync] 117 (0, 0) ≠ .cells c 5 (0, 0) := fun c e => by injection e with _ e; exact absurd e (by decide)
  have hg1 : w.grownBy W (some (g.blk n)) := ⟨h2, h3, h4, by rw [h1]; simp [World.setCell], fun k _ hk => by rw [h1]; exact Below.heap_setCell _ _ _ _ (fun e => hk (by rw [e]))⟩
  have hg2 : w.grownBy (W.setCell ⟨g.blk n, 1, none⟩ (.slice A K K)) (some (g.blk n)) := hg1.trans (grownBy_setCell W ⟨g.blk n, 1, none⟩ _)
  have hb1 : W.heap[g.blk n]? = some (.cells (#[.int .i64 n, g.row n, .int .i64 f.sync].setIfInBounds 2 (.int .i64 K)) 117 (0, 0)) := by rw [h1]; exact heap_set_fr hf.2.1 2 _
  have hrow := hf.2.2.kept hg2 (hf.2.2.ne hf.2.1 hbr)
  have hob : (Value.slice A K K).ownBlock = (g.row n).ownBlock := by rw [hr]; cases A <;> rfl
  refine ⟨rfl, hg2, .slice A K K, hob, hf.1, ?_, ?_⟩
  · simp only [if_true]
    rw [heap_set_fr hb1 1]
    rfl
  · simp only [if_true]
    rcases hrow with ⟨e1, e2⟩ | ⟨r, cap, cur, e1, hr2, hr3, hr4, hr5, hr6, hr7⟩
    · have hl0 : f.data.length = 0 := by rw [e2]; rfl
      rw [hr] at e1
      injection e1 with eA _ _
      have hK0 : K = 0 := by omega
      subst hK0 eA
      exact .inl ⟨rfl, by rw [e2]; rfl⟩
    · rw [hr] at e1
      injection e1 with eA _ _
      subst eA
      have htl : (f.data.take K).length = K := by rw [List.length_take]; omega
      refine .inr ⟨r, K, cur, by rw [htl], hr2, hr3, by omega, by omega, by omega, ?_⟩
      rw [htl]
      have : Lib.byteCells (f.data.take K) = (Lib.byteCells f.data).take K := by simp [Lib.byteCells]
      rw [this, ← hr7, List.take_take, Nat.min_eq_left hK]

set_option maxRecDepth 100000 in
set_option maxHeartbeats 1000000 in
theorem flose_any {B : Nat} {w : World} {g : Gh} {n : Nat} {f : F} (hf : FileAt B w g n f) (hok : f.sync ≤ f.data.length ∧ f.data.length ≤ 1048576) (A : Option Addr) (cap : Nat) (l : List Int) (hl : l.length ≤ 4611686018427387904) (hst : Stays B w A l) (hfit : ∀ x ∈ l, fits x) (hn : n ≤ 4611686018427387904) :
    Calls Tryz.prog 81 #[.pointer (some ⟨g.blk n, 0, none⟩), .slice A l.length cap] w (FLoseOut B w g n (loseF l n f)) := by
  obtain ⟨A', c, hrow⟩ := row_slice hf
  have hlc : f.data.length ≤ c := by
    rcases hf.2.2 with ⟨e, h0⟩ | ⟨r, c', _, e, _, _, h4, _⟩
    · rw [h0]; exact Nat.zero_le _
    · rw [hrow] at e
      injection e with _ _ e
      omega
  obtain ⟨x, hx⟩ : ∃ x, l.getD (n % l.length) 0 = x := ⟨_, rfl⟩
  have hxf : fits x := by
    rw [← hx, List.getD_eq_getElem?_getD]
    cases h : l[n % l.length]? with
    | none => simp [fits]
    | some y => exact hfit y (List.mem_of_getElem? h)
  have hrl := rest_lt x (b := f.data.length - f.sync + 1) (by omega)
  obtain ⟨R, hR⟩ : ∃ R, rest x (f.data.length - f.sync + 1) = R := ⟨_, rfl⟩
  obtain ⟨K, hK⟩ : ∃ K, f.sync + R = K := ⟨_, rfl⟩
  have hlf : loseF l n f = ⟨f.data.take K, K⟩ := by unfold loseF; rw [hx, hR, hK]
  rw [hlf]
  rw [hR] at hrl
  have HEND := Lib.hid (flose_end hf hrow (K := K) (by omega))
  have HRM : Hid (∀ W, Calls Tryz.prog 79 #[.int .i64 x, .int .i64 ((f.data.length - f.sync + 1 : Nat) : Int)] W fun e w' => e = .returned (.int .i64 R) ∧ w' = W) := fun W => by
    rw [← hR]; exact rem_st x _ W hxf (by omega) (by omega)
  have hsl := fun W => slice_full W A' f.data.length c K (by omega)
  have c0 : w.cell? ⟨g.blk n, 0, none⟩ = some (.int .i64 n) := cell_of_row _ _ _ _ _ _ hf.2.1
  have c1 : w.cell? ⟨g.blk n, 1, none⟩ = some (.slice A' f.data.length c) := by rw [← hrow]; exact cell_of_row _ _ _ _ _ _ hf.2.1
  have c2 : w.cell? ⟨g.blk n, 2, none⟩ = some (.int .i64 f.sync) := cell_of_row _ _ _ _ _ _ hf.2.1
  have f1 : w.frozen? ⟨g.blk n, 1, none⟩ = false := frozen_of_row _ _ _ _ _ hf.2.1
  have f2 : w.frozen? ⟨g.blk n, 2, none⟩ = false := frozen_of_row _ _ _ _ _ hf.2.1
  have HX := Lib.hid hx
  obtain ⟨bk, hbk⟩ : ∃ bk, g.blk n = bk := ⟨_, rfl⟩
  obtain ⟨L, hL⟩ : ∃ L, f.data.length = L := ⟨_, rfl⟩
  obtain ⟨S, hS⟩ : ∃ S, f.sync = S := ⟨_, rfl⟩
  rw [hbk] at HEND c0 c1 c2 f1 f2
  rw [hL] at hok hlc hrl HRM hsl c1
  rw [hS] at hok hrl hK HRM c2
  rw [hbk]
  have hRK := Lib.hid hK
  obtain ⟨M, hM⟩ : ∃ M, L - S + 1 = M := ⟨_, rfl⟩
  rw [hM] at HRM
  have v0 : IntKind.i64.wrap ((L : Int) - (S : Int)) = (L : Int) - (S : Int) := wrapN _ (by omega) (by omega)
  have v1 : (L : Int) - (S : Int) + 1 = (M : Int) := by omega
  have v1' : IntKind.i64.wrap (M : Int) = (M : Int) := wrapN _ (by omega) (by omega)
  have v2' : IntKind.i64.wrap (K : Int) = (K : Int) := wrapN _ (by omega) (by omega)
  have v2 : (S : Int) + (R : Int) = (K : Int) := by omega
  have hK1 : K ≤ 1048576 := by omega
  clear hf hx hR hK hlf hbk hL hS hfit hrow hM
  have hll : (l.length : Int) ≤ 4611686018427387904 := by omega
  by_cases h0 : l.length = 0
  · have hx0 : x = 0 := by
      rw [← HX.out, List.eq_nil_of_length_eq_zero h0]
      rfl
    subst hx0
    have g0 : decide ((0 : Int) < (l.length : Int)) = false := decide_eq_false (by omega)
    clear HX hst
    go_enter Tryz.func81, Tryz.ntmps81
    go_wp2_with fail
    refine wp_region_still_tail 20 (by kernel_rfl) (by kernel_rfl) ?_
    simp only [List.take_succ_cons, List.take_zero, List.drop_succ_cons, List.drop_zero]
    have HEND2 : Hid (∀ W : World, W.heap = ({ w with drawn := w.drawn + 1 } : World).heap → W.os = w.os → W.tape = w.tape → W.output = w.output → ∀ V : World, V = { W.setCell ⟨bk, 2, none⟩ (.int .i64 K) with drawn := (W.setCell ⟨bk, 2, none⟩ (.int .i64 K)).drawn + 1 } → FLoseOut B w g n ⟨f.data.take K, K⟩ (.returned (.tuple #[])) (V.setCell ⟨bk, 1, none⟩ (.slice A' K K))) := fun W e1 e2 e3 e4 V hV => by
      subst hV
      exact HEND.out _ (by simp only [World.setCell]; rw [e1]) e2 e3 e4
    have z1 : ({ w with drawn := w.drawn + 1 } : World).cell? ⟨bk, 1, none⟩ = some (.slice A' L c) := c1
    have z2 : ({ w with drawn := w.drawn + 1 } : World).cell? ⟨bk, 2, none⟩ = some (.int .i64 S) := c2
    have y1 : ({ w with drawn := w.drawn + 1 } : World).frozen? ⟨bk, 1, none⟩ = false := f1
    have y2 : ({ w with drawn := w.drawn + 1 } : World).frozen? ⟨bk, 2, none⟩ = false := f2
    have HEND3 := Lib.hid (HEND2.out { w with drawn := w.drawn + 1 } rfl rfl rfl rfl)
    generalize ({ w with drawn := w.drawn + 1 } : World) = w1 at HEND3 z1 z2 y1 y2 ⊢
    clear HEND HEND2 c0 c1 c2 f1 f2
    repeat still_step
    still_call (HRM.out _)
    repeat still_step
    refine wpStill_nil ?_
    go_wp2_with fail
    refine wp_region_still_tail 16 (by kernel_rfl) (by kernel_rfl) ?_
    simp only [List.take_succ_cons, List.take_zero, List.drop_succ_cons, List.drop_zero]
    have HE := Lib.hid (HEND3.out _ rfl)
    have q1 : ({ w1.setCell ⟨bk, 2, none⟩ (.int .i64 K) with drawn := (w1.setCell ⟨bk, 2, none⟩ (.int .i64 K)).drawn + 1 } : World).cell? ⟨bk, 1, none⟩ = some (.slice A' L c) := by
      show (w1.setCell ⟨bk, 2, none⟩ (.int .i64 K)).cell? ⟨bk, 1, none⟩ = _
      rw [← z1]; go_simp
    have q2 : ({ w1.setCell ⟨bk, 2, none⟩ (.int .i64 K) with drawn := (w1.setCell ⟨bk, 2, none⟩ (.int .i64 K)).drawn + 1 } : World).cell? ⟨bk, 2, none⟩ = some (.int .i64 K) := by
      show (w1.setCell ⟨bk, 2, none⟩ (.int .i64 K)).cell? ⟨bk, 2, none⟩ = _
      go_simp
    have q3 : ({ w1.setCell ⟨bk, 2, none⟩ (.int .i64 K) with drawn := (w1.setCell ⟨bk, 2, none⟩ (.int .i64 K)).drawn + 1 } : World).frozen? ⟨bk, 1, none⟩ = false := by
      show (w1.setCell ⟨bk, 2, none⟩ (.int .i64 K)).frozen? ⟨bk, 1, none⟩ = _
      rw [World.frozen?_setCell]; exact y1
    generalize ({ w1.setCell ⟨bk, 2, none⟩ (.int .i64 K) with drawn := (w1.setCell ⟨bk, 2, none⟩ (.int .i64 K)).drawn + 1 } : World) = w2 at HE q1 q2 q3 ⊢
    clear HEND3 z1 z2 y1 y2
    repeat still_step
    refine wpStill_nil ?_
    go_wp2
    go_end0
    exact HE.out
  · obtain ⟨b, off, hA, hc⟩ := hst (by omega)
    have hmod : n % l.length < l.length := Nat.mod_lt _ (by omega)
    have hcx := hc w (Moves.refl B w) (n % l.length) hmod
    have hgx : l[n % l.length] = x := by
      rw [← HX.out, List.getD_eq_getElem?_getD, List.getElem?_eq_getElem hmod]
      rfl
    rw [hgx] at hcx
    obtain ⟨i, hi⟩ : ∃ i, n % l.length = i := ⟨_, rfl⟩
    rw [hi] at hcx hmod
    have hrem : (n : Int) % (l.length : Int) = (i : Int) := by rw [← hi, Int.natCast_emod]
    have g0 : (1 : Int) ≤ (l.length : Int) := by omega
    have i0 : (0 : Int) ≤ (i : Int) := by omega
    have i1 : (i : Int) < (l.length : Int) := by omega
    subst hA
    clear HX hst hc hgx hi
    go_enter Tryz.func81, Tryz.ntmps81
    go_wp2_with fail
    refine wp_region_still_tail 20 (by kernel_rfl) (by kernel_rfl) ?_
    simp only [List.take_succ_cons, List.take_zero, List.drop_succ_cons, List.drop_zero]
    have HEND2 : Hid (∀ W : World, W.heap = ({ w with drawn := w.drawn + 1 } : World).heap → W.os = w.os → W.tape = w.tape → W.output = w.output → ∀ V : World, V = { W.setCell ⟨bk, 2, none⟩ (.int .i64 K) with drawn := (W.setCell ⟨bk, 2, none⟩ (.int .i64 K)).drawn + 1 } → FLoseOut B w g n ⟨f.data.take K, K⟩ (.returned (.tuple #[])) (V.setCell ⟨bk, 1, none⟩ (.slice A' K K))) := fun W e1 e2 e3 e4 V hV => by
      subst hV
      exact HEND.out _ (by simp only [World.setCell]; rw [e1]) e2 e3 e4
    have z1 : ({ w with drawn := w.drawn + 1 } : World).cell? ⟨bk, 1, none⟩ = some (.slice A' L c) := c1
    have z2 : ({ w with drawn := w.drawn + 1 } : World).cell? ⟨bk, 2, none⟩ = some (.int .i64 S) := c2
    have y1 : ({ w with drawn := w.drawn + 1 } : World).frozen? ⟨bk, 1, none⟩ = false := f1
    have y2 : ({ w with drawn := w.drawn + 1 } : World).frozen? ⟨bk, 2, none⟩ = false := f2
    have HEND3 := Lib.hid (HEND2.out { w with drawn := w.drawn + 1 } rfl rfl rfl rfl)
    generalize ({ w with drawn := w.drawn + 1 } : World) = w1 at HEND3 z1 z2 y1 y2 ⊢
    clear HEND HEND2 c0 c1 c2 f1 f2
    repeat still_step
    still_call (HRM.out _)
    repeat still_step
    refine wpStill_nil ?_
    go_wp2_with fail
    refine wp_region_still_tail 16 (by kernel_rfl) (by kernel_rfl) ?_
    simp only [List.take_succ_cons, List.take_zero, List.drop_succ_cons, List.drop_zero]
    have HE := Lib.hid (HEND3.out _ rfl)
    have q1 : ({ w1.setCell ⟨bk, 2, none⟩ (.int .i64 K) with drawn := (w1.setCell ⟨bk, 2, none⟩ (.int .i64 K)).drawn + 1 } : World).cell? ⟨bk, 1, none⟩ = some (.slice A' L c) := by
      show (w1.setCell ⟨bk, 2, none⟩ (.int .i64 K)).cell? ⟨bk, 1, none⟩ = _
      rw [← z1]; go_simp
    have q2 : ({ w1.setCell ⟨bk, 2, none⟩ (.int .i64 K) with drawn := (w1.setCell ⟨bk, 2, none⟩ (.int .i64 K)).drawn + 1 } : World).cell? ⟨bk, 2, none⟩ = some (.int .i64 K) := by
      show (w1.setCell ⟨bk, 2, none⟩ (.int .i64 K)).cell? ⟨bk, 2, none⟩ = _
      go_simp
    have q3 : ({ w1.setCell ⟨bk, 2, none⟩ (.int .i64 K) with drawn := (w1.setCell ⟨bk, 2, none⟩ (.int .i64 K)).drawn + 1 } : World).frozen? ⟨bk, 1, none⟩ = false := by
      show (w1.setCell ⟨bk, 2, none⟩ (.int .i64 K)).frozen? ⟨bk, 1, none⟩ = _
      rw [World.frozen?_setCell]; exact y1
    generalize ({ w1.setCell ⟨bk, 2, none⟩ (.int .i64 K) with drawn := (w1.setCell ⟨bk, 2, none⟩ (.int .i64 K)).drawn + 1 } : World) = w2 at HE q1 q2 q3 ⊢
    clear HEND3 z1 z2 y1 y2
    repeat still_step
    refine wpStill_nil ?_
    go_wp2
    go_end0
    exact HE.out
end Go.Proofs.YtjkofciohehgfaaGreatDoor.L8


