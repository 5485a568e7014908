/- What the closures do that turn names: Create$1, Rename$1, Remove$1. -/
import Derived.Test.YtgknkldhjejjmaaDoorDkC
import Derived.Test.YtgknkldhjejjmaaDoorClone
import Derived.Deep.RegionHeld3
namespace Go.Proofs.YtgknkldhjejjmaaDoor
open Go.RowKit Go.Maps
open DM

theorem DM.Ok.live_lt {s : St} (h : Ok s) {n : Nat} (hl : live s.lasts s.queue n) : n < s.files.length := by
  rcases hl with ⟨p, hp, rfl⟩ | ⟨e, he, h1, rfl⟩
  · exact h.glasts.file p hp
  · exact (h.ents e he).2.2 h1

theorem DM.Ok.names_live {s : St} (h : Ok s) {p : Bs × Nat} (hp : p ∈ s.names) : live s.lasts s.queue p.2 := by
  rw [h.names] at hp
  exact live_pre hp

theorem used_more {fs : List F} (f : F) : ∀ {l : Nm}, (∀ p ∈ l, p.2 < fs.length) → used (fs ++ [f]) l = used fs l
  | [], _ => rfl
  | p :: r, h => by
    rw [used_cons, used_cons, used_more f (fun q hq => h q (List.mem_cons_of_mem _ hq))]
    have := h p (List.mem_cons_self ..)
    unfold lens
    rw [List.getD_eq_getElem?_getD, List.getD_eq_getElem?_getD, List.getElem?_append_left this]

theorem fileAt_more {s : St} {n : Nat} (f : F) (h : n < s.files.length) : fileAt { s with files := s.files ++ [f] } n = fileAt s n := by
  unfold fileAt
  simp only
  rw [List.getD_eq_getElem?_getD, List.getD_eq_getElem?_getD, List.getElem?_append_left h]

theorem qC_congr {blk blk' : Nat → Nat} : ∀ {q : List E}, (∀ e ∈ q, e.name ≠ [] → blk e.file = blk' e.file) → qC blk q = qC blk' q
  | [], _ => rfl
  | e :: r, h => by
    show entC blk e ++ qC blk r = entC blk' e ++ qC blk' r
    rw [qC_congr (fun x hx => h x (List.mem_cons_of_mem _ hx))]
    congr 1
    unfold entC
    by_cases hn : e.name = []
    · rw [if_pos hn]; rfl
    · rw [if_neg hn]
      simp only [pv]
      rw [h e (List.mem_cons_self ..) hn]

/-- other words for the blocks of files that nobody reaches -/
theorem Body.congr {B : Nat} {w : World} {s : St} {g : Gh} (h : Body B w s g) {blk' : Nat → Nat} {row' : Nat → Value} (hb : ∀ n, live s.lasts s.queue n → blk' n = g.blk n ∧ row' n = g.row n) (hn : ∀ p ∈ s.names, live s.lasts s.queue p.2) : Body B w s { g with blk := blk', row := row' } := by
  refine ⟨?_, ?_, fun n hl => ?_, fun n m h1 h2 hne => ?_, h.cut, h.bk⟩
  · rcases h.maps with h1 | ⟨b1, b2, e1, e2, hne, l1, l2, o1, o2⟩
    · exact .inl h1
    · refine .inr ⟨b1, b2, e1, e2, hne, l1, l2, ?_, ?_⟩
      · rw [D_congr (blk' := g.blk) (fun p hp => (hb _ (hn p hp)).1)]; exact o1
      · rw [D_congr (blk' := g.blk) (fun p hp => (hb _ (.inl ⟨p, hp, rfl⟩)).1)]; exact o2
  · rw [qC_congr (blk' := g.blk) (fun e he h1 => (hb _ (.inr ⟨e, he, h1, rfl⟩)).1)]; exact h.queue
  · obtain ⟨h1, h2, h3⟩ := h.files n hl
    obtain ⟨e1, e2⟩ := hb n hl
    refine ⟨?_, ?_, ?_⟩
    · show B ≤ blk' n
      rw [e1]; exact h1
    · show w.heap[blk' n]? = some (.cells #[.int .i64 n, row' n, _] _ _)
      rw [e1, e2]; exact h2
    · show Row B w (row' n) _
      rw [e2]; exact h3
  · show blk' n ≠ blk' m ∧ ((row' n).ownBlock = none ∨ (row' n).ownBlock ≠ (row' m).ownBlock)
    rw [(hb n h1).1, (hb n h1).2, (hb m h2).1, (hb m h2).2]
    exact h.apart n m h1 h2 hne

/-- what a closure leaves -/
def DoOut (B : Nat) (w : World) (d : Nat) (s : St) (e : Ending) (w' : World) : Prop :=
  e = .returned (.tuple #[]) ∧ Moves B w w' ∧ ∃ g b1 b2, g.m1 = some b1 ∧ g.m2 = some b2 ∧ Rep B w' d s g

/-- what point leaves, of a disk -/
theorem point_rep {B : Nat} {w : World} {d : Nat} {s : St} {g : Gh} (h : Rep B w d s g) (ok : Ok s) {b1 b2 : Nat} (e1 : g.m1 = some b1) (e2 : g.m2 = some b2) (hB : B ≤ w.heap.size) (G N : ByteArray) (F : Nat) (ok' : Ok (point s ⟨G.data.toList, N.data.toList, F⟩))
    (hG : G.size ≤ 64) (hN : N.size ≤ 64) (hgn : G.data.toList ≠ N.data.toList ∨ N.data.toList = []) (hql : s.queue.length < 1099511627776) (hF : N.data.toList ≠ [] → live s.lasts s.queue F) :
    Calls Tryd.prog 55 #[.pointer (some ⟨d, 0, none⟩), .agg #[.string G, .string N, pv g.blk (if N.data.toList = [] then none else some F)]] w (DoOut B w d (point s ⟨G.data.toList, N.data.toList, F⟩)) := by
  have hf := ok.gnames.few
  refine (point_any h.half e1 e2 hB G N F hG hN rfl (by rw [← e1]; rfl) rfl (fun k n hk => find_live h.body ok.names hk) ⟨ok.gnames.sorted, fun p hp => (ok.gnames.key p hp).1⟩ hgn ok.used_le ok'.used_le hql (by omega) (fun hn => ⟨h.body.files F (hF hn), fun n hl hne => ⟨h.body.apart n F hl (hF hn) hne, (h.body.apart F n (hF hn) hl (Ne.symm hne)).2⟩⟩)).mono fun e w' ⟨he, hm, q, hh⟩ => ?_
  exact ⟨he, hm, { g with q := q }, b1, b2, e1, e2, hh.body, hh.at_, hh.le⟩

/-- what point leaves of a new file, ahead of the count -/
structure CreateMid (B : Nat) (W : World) (d : Nat) (s : St) (k : Bs) (b1 b2 : Nat) (w' : World) : Prop where
  moves : Moves B W w'
  kin : Kin w' d
  cell : w'.cell? ⟨d, 2, none⟩ = some (.int .i64 s.files.length)
  frozen : w'.frozen? ⟨d, 2, none⟩ = false
  le : B ≤ d
  rep : ∃ g', g'.m1 = some b1 ∧ g'.m2 = some b2 ∧ Rep B (w'.setCell ⟨d, 2, none⟩ (.int .i64 (s.files.length + 1))) d (doCreate k s) g'

/-- a new file -/
theorem create_point {B : Nat} {w : World} {d : Nat} {s : St} {g : Gh} (h : Rep B w d s g) (ok : Ok s) {b1 b2 : Nat} (e1 : g.m1 = some b1) (e2 : g.m2 = some b2) (hB : B ≤ w.heap.size) (N : ByteArray) (hk : goodName N.data.toList = true) (hfn : find s.names N.data.toList = none) (hl : s.names.length < 4096)
    (hql : s.queue.length < 1099511627776) (W : World) (b : Nat) (hg : w.grownBy W none) (hb : w.heap.size ≤ b) (hW : W.heap[b]? = some (.cells #[.int .i64 s.files.length, .slice none 0 0, .int .i64 0] 70 (0, 0))) :
    Calls Tryd.prog 55 #[.pointer (some ⟨d, 0, none⟩), .agg #[.string ⟨#[]⟩, .string N, .pointer (some ⟨b, 0, none⟩)]] W fun e w' =>
      e = .returned (.tuple #[]) ∧ CreateMid B W d s N.data.toList b1 b2 w' := by
  obtain ⟨hk1, hk2⟩ := (goodName_iff _).1 hk
  have okc := ok_create ok hk hfn hl
  have hlt : ∀ n, live s.lasts s.queue n → n < s.files.length := fun n hn => ok.live_lt hn
  have hbW := (h.body.still hg)
  have hbody : Body B W { s with files := s.files ++ [⟨[], 0⟩] } { g with blk := fun n => if n = s.files.length then b else g.blk n, row := fun n => if n = s.files.length then .slice none 0 0 else g.row n } := by
    have h1 := hbW.congr (blk' := fun n => if n = s.files.length then b else g.blk n) (row' := fun n => if n = s.files.length then .slice none 0 0 else g.row n)
      (fun n hn => by have := hlt n hn; exact ⟨if_neg (by omega), if_neg (by omega)⟩) (fun p hp => ok.names_live hp)
    exact ⟨h1.maps, h1.queue, fun n hn => by rw [fileAt_more _ (hlt n hn)]; exact h1.files n hn, h1.apart, h1.cut, h1.bk⟩
  have hhalf : Half B W d { s with files := s.files ++ [⟨[], 0⟩] } { g with blk := fun n => if n = s.files.length then b else g.blk n, row := fun n => if n = s.files.length then .slice none 0 0 else g.row n } (dC s g (used s.files s.names)) :=
    ⟨hbody, (hg.block d h.lt (by simp)).trans h.at_, h.le⟩
  have hum := used_more (fs := s.files) ⟨[], 0⟩ (fun p hp => ok.gnames.file p hp)
  have hfew := ok.gnames.few
  have hgF : FileAt B W { g with blk := fun n => if n = s.files.length then b else g.blk n, row := fun n => if n = s.files.length then .slice none 0 0 else g.row n } s.files.length (fileAt { s with files := s.files ++ [⟨[], 0⟩] } s.files.length) := by
    have e0 : fileAt { s with files := s.files ++ [⟨[], 0⟩] } s.files.length = ⟨[], 0⟩ := by simp [fileAt, List.getD_eq_getElem?_getD]
    rw [e0]
    refine ⟨?_, ?_, ?_⟩
    · simp only [if_true]; omega
    · simp only [if_true]; exact hW
    · simp only [if_true]; exact .inl ⟨rfl, rfl⟩
  have hp := point_any hhalf e1 e2 (by have := hg.size; omega) ⟨#[]⟩ N s.files.length (by decide) (by rw [← size_list]; exact hk2) (by rw [hum]; rfl) (by rw [← e1]; rfl) rfl
    (fun k n hn => by
      have hm : n < s.files.length := ok.gnames.file _ (find_some hn)
      have hln := ok.names_live (find_some hn)
      exact hbody.files n hln)
    ⟨ok.gnames.sorted, fun p hp => (ok.gnames.key p hp).1⟩ (.inl (fun e => hk1 e.symm)) (by rw [hum]; exact ok.used_le) okc.used_le hql (by show s.names.length < _; omega)
    (fun _ => ⟨hgF, fun n hn hne => by
      have h1 := hlt n hn
      have hf1 := h.body.files n hn
      have hbn : g.blk n < w.heap.size := (Array.getElem?_eq_some_iff.1 hf1.2.1).1
      simp only [if_true, if_neg hne]
      exact ⟨⟨by omega, by cases (g.row n).ownBlock with | none => exact .inl rfl | some x => exact .inr (by simp [Value.ownBlock])⟩, .inl rfl⟩⟩)
  rw [if_neg hk1] at hp
  simp only [pv, if_true] at hp
  refine hp.mono fun e w' ⟨he, hm, q, hh⟩ => ⟨he, hm, hh.kin, ?_, hh.frozen 2, hh.le, { g with q := q, blk := fun n => if n = s.files.length then b else g.blk n, row := fun n => if n = s.files.length then .slice none 0 0 else g.row n }, e1, e2, ?_⟩
  · rw [hh.cells 2]
    simp [dC]
  · have h3 := hh.set 2 (.int .i64 (s.files.length + 1))
    refine ⟨h3.body, ?_, h3.le⟩
    rw [h3.at_]
    simp [dC, doCreate, point]
end Go.Proofs.YtgknkldhjejjmaaDoor
