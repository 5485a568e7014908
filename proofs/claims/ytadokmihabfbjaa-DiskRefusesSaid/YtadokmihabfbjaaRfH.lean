/- The reference's files, changed in their place; its names grown in their place. -/
import Derived.Test.YtadokmihabfbjaaRfF
namespace Go.Proofs.Ytadokmihabfbjaa
open Go.RowKit Go.Maps
open DM

theorem own_setCell {w : World} {B : Nat} {e : TypeId} {s b n c : Nat} {xs : List Value} (h : w.ownsRow B e s (.slice (some ⟨b, 0, none⟩) n c) n xs) (j : Nat) (u : Value) : (w.setCell ⟨b, j, none⟩ u).ownsRow B e s (.slice (some ⟨b, 0, none⟩) n c) n (xs.set j u) := by
  refine ⟨by rw [List.length_set]; exact h.1, ?_⟩
  rcases h.2 with ⟨h1, _⟩ | ⟨g, cap, cur, h1, h2, h3, h4, h5, h6, h7⟩
  · cases h1
  · cases h1
    refine .inr ⟨b, c, cur.setIfInBounds j u, rfl, h2, heap_set_fr h3 j u, h4, h5, by simpa using h6, ?_⟩
    rw [← h7, Array.toList_setIfInBounds, List.take_set]

theorem fC_at : ∀ (l : List F) (i : Nat) (h : i < l.length), (fC l)[i * 2]? = some (encS l[i].data) ∧ (fC l)[i * 2 + 1]? = some (.int .i64 l[i].sync)
  | p :: r, 0, _ => ⟨rfl, rfl⟩
  | p :: r, i + 1, h => by
    have := fC_at r i (by simpa using h)
    have e1 : (i + 1) * 2 = i * 2 + 1 + 1 := by omega
    have e2 : (i + 1) * 2 + 1 = i * 2 + 1 + 1 + 1 := by omega
    rw [e1]
    show (encS p.data :: Value.int .i64 p.sync :: fC r)[i * 2 + 1 + 1]? = _ ∧ (encS p.data :: Value.int .i64 p.sync :: fC r)[i * 2 + 1 + 1 + 1]? = _
    simpa using this

theorem fC_set : ∀ (l : List F) (i : Nat) (f : F), i < l.length → fC (l.set i f) = ((fC l).set (i * 2) (encS f.data)).set (i * 2 + 1) (.int .i64 f.sync)
  | p :: r, 0, f, _ => rfl
  | p :: r, i + 1, f, h => by
    have ih := fC_set r i f (by simpa using h)
    have e1 : (i + 1) * 2 = i * 2 + 1 + 1 := by omega
    have e2 : (i + 1) * 2 + 1 = i * 2 + 1 + 1 + 1 := by omega
    rw [e1]
    show [encS p.data, Value.int .i64 p.sync] ++ fC (r.set i f) = ((encS p.data :: Value.int .i64 p.sync :: fC r).set (i * 2 + 1 + 1) (encS f.data)).set (i * 2 + 1 + 1 + 1) (.int .i64 f.sync)
    rw [ih]
    rfl

theorem lset_same {α : Type} {l : List α} {j : Nat} {u : α} (h : l[j]? = some u) : l.set j u = l := by
  obtain ⟨hj, rfl⟩ := List.getElem?_eq_some_iff.1 h
  exact List.set_getElem_self hj

theorem fC_data (l : List F) (i : Nat) (h : i < l.length) (d : Bs) : fC (l.set i ⟨d, l[i].sync⟩) = (fC l).set (i * 2) (encS d) := by
  rw [fC_set l i _ h]
  exact lset_same ((List.getElem?_set_ne (show i * 2 ≠ i * 2 + 1 by omega)).trans (fC_at l i h).2)
theorem fC_sync (l : List F) (i : Nat) (h : i < l.length) (n : Nat) : fC (l.set i ⟨l[i].data, n⟩) = (fC l).set (i * 2 + 1) (.int .i64 n) := by
  rw [fC_set l i _ h]
  rw [show (⟨l[i].data, n⟩ : F).data = l[i].data from rfl, lset_same (fC_at l i h).1]

section
variable {B : Nat} {w w' : World} {r : Nat} {t : RS} {g : RV}
/-- a cell of the files' row is stored -/
theorem RRep.fileCell (h : RRep B w r t g) {b n c : Nat} (hfv : g.fv = .slice (some ⟨b, 0, none⟩) n c) (j : Nat) (u : Value) {L : List F} (hL : fC L = (fC t.files).set j u) (hlen : L.length = t.files.length) : RRep B (w.setCell ⟨b, j, none⟩ u) r { t with files := L } g := by
  have hfr := h.body.frow
  rw [hfv] at hfr
  have hn : n = t.files.length := by
    rcases hfr.2 with ⟨h1, _⟩ | ⟨_, _, _, h1, _⟩
    · cases h1
    · injection h1
  obtain ⟨cur, hcur⟩ : ∃ cur, w.heap[b]? = some (.cells cur 60 (0, 0)) := by
    rcases hfr.2 with ⟨h1, _⟩ | ⟨_, _, cur, h1, _, h3, _⟩
    · cases h1
    · cases h1; exact ⟨cur, h3⟩
  have hk : ∀ (x : Nat) (cs : Array Value) (ty : TypeId) (fr : Nat × Nat), w.heap[x]? = some (.cells cs ty fr) → ty ≠ 60 → (w.setCell ⟨b, j, none⟩ u).heap[x]? = some (.cells cs ty fr) := fun x cs ty fr hx hne =>
    (Below.heap_setCell _ _ _ _ (fun e => by
      have e' : x = b := e
      subst e'
      rw [hcur] at hx
      injection hx with hx
      injection hx with _ hx
      exact hne hx.symm)).trans hx
  have hnew : (w.setCell ⟨b, j, none⟩ u).ownsRow B 60 2 g.fv L.length (fC L) := by
    rw [hL, hlen, hfv, ← hn]
    rw [← hn] at hfr
    exact own_setCell hfr j u
  exact ⟨⟨hnew, own_keep h.body.nrow (fun x cs fr hx => hk x cs _ fr hx (by decide)), own_keep h.body.lrow (fun x cs fr hx => hk x cs _ fr hx (by decide)), own_keep h.body.qrow (fun x cs fr hx => hk x cs _ fr hx (by decide)), fun i hi => by
      obtain ⟨v, h1, h2⟩ := h.body.ents i hi
      exact ⟨v, h1, own_keep h2 (fun x cs fr hx => hk x cs _ fr hx (by decide))⟩, own_keep h.body.crow (fun x cs fr hx => hk x cs _ fr hx (by decide))⟩, hk _ _ _ _ h.at_ (by decide), h.le⟩

theorem RRep.fileKin (h : RRep B w r t g) {b n c : Nat} (hfv : g.fv = .slice (some ⟨b, 0, none⟩) n c) : KinR w b ∧ B ≤ b := by
  have hfr := h.body.frow
  rw [hfv] at hfr
  rcases hfr.2 with ⟨h1, _⟩ | ⟨_, _, cur, h1, h2, h3, _⟩
  · cases h1
  · cases h1; exact ⟨kinR_cells h3 (by decide), h2⟩

theorem heap_kin (h : RRep B w r t g) {b n c : Nat} (hfv : g.fv = .slice (some ⟨b, 0, none⟩) n c) : ∃ cur, w.heap[b]? = some (.cells cur 60 (0, 0)) := by
  have hfr := h.body.frow
  rw [hfv] at hfr
  rcases hfr.2 with ⟨h1, _⟩ | ⟨_, _, cur, h1, h2, h3, _⟩
  · cases h1
  · cases h1; exact ⟨cur, h3⟩

/-- both cells of a file are stored -/
theorem RRep.fileBoth (h : RRep B w r t g) {b n c : Nat} (hfv : g.fv = .slice (some ⟨b, 0, none⟩) n c) (i : Nat) (hi : i < t.files.length) (f : F) : RRep B ((w.setCell ⟨b, i * 2, none⟩ (encS f.data)).setCell ⟨b, i * 2 + 1, none⟩ (.int .i64 f.sync)) r { t with files := t.files.set i f } g := by
  have h1 := h.fileCell hfv (i * 2) (encS f.data) (fC_data t.files i hi f.data) (by simp)
  have hi1 : i < (t.files.set i ⟨f.data, t.files[i].sync⟩).length := by simpa using hi
  have h2 := h1.fileCell (L := t.files.set i f) hfv (i * 2 + 1) (.int .i64 f.sync) (by
    have := fC_sync (t.files.set i ⟨f.data, t.files[i].sync⟩) i hi1 f.sync
    simp only [List.getElem_set_self, List.set_set] at this
    exact this) (by simp)
  exact h2

theorem RRep.kinGrown (h : RRep B w r t g) {row : Option Nat} (hg : w.grownBy w' row) (hne : some r ≠ row) : KinR w' r := kinR_cells ((hg.block r h.lt hne).trans h.at_) (by decide)

/-- the files of which the first j have lost -/
def mx (l : List Int) (fs : List F) (j : Nat) : List F := (fs.mapIdx (loseF l)).take j ++ fs.drop j
theorem mx_len (l : List Int) (fs : List F) (j : Nat) (h : j ≤ fs.length) : (mx l fs j).length = fs.length := by
  unfold mx; rw [List.length_append, List.length_take, List.length_drop, List.length_mapIdx]; omega
theorem mx_at (l : List Int) (fs : List F) (j : Nat) (h : j < fs.length) : (mx l fs j)[j]? = some fs[j] := by
  unfold mx
  rw [List.getElem?_append_right (by rw [List.length_take]; omega), List.length_take, List.length_mapIdx, List.getElem?_drop]
  rw [show j + (j - min j fs.length) = j by omega]
  exact List.getElem?_eq_getElem h
theorem mx_step (l : List Int) (fs : List F) (j : Nat) (h : j < fs.length) : mx l fs (j + 1) = (mx l fs j).set j (loseF l j fs[j]) := by
  have hl : j < (fs.mapIdx (loseF l)).length := by simpa using h
  unfold mx
  rw [List.take_succ_eq_append_getElem hl, List.getElem_mapIdx, List.set_append_right _ _ (by rw [List.length_take]; omega), List.length_take, List.length_mapIdx]
  rw [show j - min j fs.length = 0 by omega, List.drop_eq_getElem_cons h, List.set_cons_zero, List.append_assoc]
  rfl
theorem mx_zero (l : List Int) (fs : List F) : mx l fs 0 = fs := by simp [mx]
theorem mx_end (l : List Int) (fs : List F) : mx l fs fs.length = fs.mapIdx (loseF l) := by
  unfold mx
  rw [List.drop_eq_nil_of_le (Nat.le_refl _), List.append_nil, List.take_of_length_le (by simp)]

theorem s_head (W : World) (s : ByteArray) (b : Nat) (h : b ≤ s.size) :
    (Instr.slice 9 (.string s) none (some (.int .i64 (b : Int))) none).run Try.prog W = .ok (.string (s.extract 0 b)) W := by
  have i1 : (0 : Int) ≤ (b : Int) := by omega
  have i4 : (b : Int) ≤ (s.size : Int) := by omega
  simp [Instr.slice, run_underlying Try.underlying9, Instr.sliceBounds, run_sliceBound, i1, i4]

/-- the names' row has grown -/
theorem RRep.growNames (h : RRep B w r t g) (hq : t.queue = []) (hg : w.grownBy w' g.nv.ownBlock) (hl : g.lv.ownBlock = none ∨ g.lv.ownBlock ≠ g.nv.ownBlock) {v : Value} {L : RN} (hv : Prs B w' v L) : RRep B (w'.setCell ⟨r, 2, none⟩ v) r { t with names := L } { g with nv := v } := by
  have hk : ∀ (x : Nat) (cs : Array Value) (ty : TypeId) (fr : Nat × Nat), w.heap[x]? = some (.cells cs ty fr) → ty ≠ 58 → w'.heap[x]? = some (.cells cs ty fr) := fun x cs ty fr hx hne =>
    (hg.block x (Array.getElem?_eq_some_iff.1 hx).1 (fun e => by
      rcases h.body.nrow.2 with ⟨h1, _⟩ | ⟨_, _, cur, h1, _, h3, _⟩
      · rw [h1] at e; cases e
      · rw [h1] at e
        have e' : x = _ := Option.some.inj e
        subst e'
        rw [h3] at hx
        injection hx with hx
        injection hx with _ hx
        exact hne hx.symm)).trans hx
  have hbody : RBody B w' t.files L t.lasts t.queue t.cutBytes { g with nv := v } :=
    ⟨own_keep h.body.frow (fun x cs fr hx => hk x cs _ fr hx (by decide)), hv, h.body.lrow.kept hg hl, own_keep h.body.qrow (fun x cs fr hx => hk x cs _ fr hx (by decide)), fun i hi => by rw [hq] at hi; simp at hi, own_keep h.body.crow (fun x cs fr hx => hk x cs _ fr hx (by decide))⟩
  have hh : RHalf B w' r t.files L t.lasts t.queue t.cutBytes { g with nv := v } (rC t g) := ⟨hbody, hk _ _ _ _ h.at_ (by decide), h.le⟩
  have hs := hh.set 2 v
  exact ⟨hs.body, hs.at_, hs.le⟩
end
end Go.Proofs.Ytadokmihabfbjaa
