/- A ring of blocks: its nodes' links, cell by cell; a node is taken out, a node comes in at the end. No function of the program. -/
import Derived.Test.YtlfhjbilnfkabaaKit2
namespace Go.Proofs.Ytlfhjbilnfkabaa
open Go.RowKit

theorem cell_some {w : World} {g o : Nat} {v : Value} (h : w.cell? ⟨g, o, none⟩ = some v) : ∃ cs t fr, w.heap[g]? = some (.cells cs t fr) ∧ cs[o]? = some v := by
  unfold World.cell? at h
  split at h
  · rename_i cs t fr hb
    exact ⟨cs, t, fr, hb, by simpa using h⟩
  · cases h

theorem cell_of_cells {w : World} {g o : Nat} {cs : Array Value} {t : TypeId} {fr : Nat × Nat} (h : w.heap[g]? = some (.cells cs t fr)) : w.cell? ⟨g, o, none⟩ = cs[o]? := by
  unfold World.cell?
  simp [h]

theorem cell_set {w : World} {g o : Nat} {v0 : Value} (h : w.cell? ⟨g, o, none⟩ = some v0) (u : Value) (b j : Nat) :
    (w.setCell ⟨g, o, none⟩ u).cell? ⟨b, j, none⟩ = if b = g ∧ j = o then some u else w.cell? ⟨b, j, none⟩ := by
  obtain ⟨cs, t, fr, hb, hc⟩ := cell_some h
  have ho := (Array.getElem?_eq_some_iff.1 hc).1
  by_cases hbg : b = g
  · subst hbg
    rw [cell_of_cells (heap_set_fr hb o u), cell_of_cells hb]
    by_cases hj : j = o
    · subst hj
      simp [ho]
    · rw [if_neg (fun h => hj h.2), Array.getElem?_setIfInBounds_ne (Ne.symm hj)]
  · rw [if_neg (fun h => hbg h.1)]
    have : (w.setCell ⟨g, o, none⟩ u).heap[b]? = w.heap[b]? := Below.heap_setCell _ _ _ _ (by exact hbg)
    simp only [World.cell?, this]

/-! ### nodes -/
abbrev Nd := Nat × Nat
def Nd.ptr (x : Nd) : Value := .pointer (some ⟨x.1, x.2, none⟩)
def Nd.nx (x : Nd) : Addr := ⟨x.1, x.2 + 5, none⟩
def Nd.pv (x : Nd) : Addr := ⟨x.1, x.2 + 4, none⟩

theorem cell_nx (W : World) (x : Nd) : W.cell? x.nx = W.cell? ⟨x.1, x.2 + 5, none⟩ := rfl
theorem cell_pv (W : World) (x : Nd) : W.cell? x.pv = W.cell? ⟨x.1, x.2 + 4, none⟩ := rfl
theorem set_nx {w : World} {x : Nd} {v0 : Value} (h : w.cell? x.nx = some v0) (u : Value) (b j : Nat) : (w.setCell x.nx u).cell? ⟨b, j, none⟩ = if b = x.1 ∧ j = x.2 + 5 then some u else w.cell? ⟨b, j, none⟩ := cell_set h u b j
theorem set_pv {w : World} {x : Nd} {v0 : Value} (h : w.cell? x.pv = some v0) (u : Value) (b j : Nat) : (w.setCell x.pv u).cell? ⟨b, j, none⟩ = if b = x.1 ∧ j = x.2 + 4 then some u else w.cell? ⟨b, j, none⟩ := cell_set h u b j

/-- the ring's nodes, the end at 0 and behind the last one -/
def nd (c : Nat) (ps : List Nat) : Nat → Nd
  | 0 => (c, 2)
  | i + 1 => match ps[i]? with | some p => (p, 0) | none => (c, 2)

theorem nd_succ (c : Nat) (ps : List Nat) (i : Nat) : nd c ps (i + 1) = match ps[i]? with | some p => (p, 0) | none => (c, 2) := rfl
theorem nd_in {c : Nat} {ps : List Nat} {i : Nat} (h : i < ps.length) : nd c ps (i + 1) = (ps[i], 0) := by
  rw [nd_succ, List.getElem?_eq_getElem h]
theorem nd_out {c : Nat} {ps : List Nat} {i : Nat} (h : ps.length < i) : nd c ps i = (c, 2) := by
  cases i with
  | zero => omega
  | succ i => rw [nd_succ, List.getElem?_eq_none (by omega)]

structure Apart (c : Nat) (ps : List Nat) : Prop where
  nodup : ps.Nodup
  notc : c ∉ ps

theorem nd_inj {c : Nat} {ps : List Nat} (h : Apart c ps) {i j : Nat} (hi : i ≤ ps.length) (hj : j ≤ ps.length) (e : nd c ps i = nd c ps j) : i = j := by
  cases i with
  | zero =>
    cases j with
    | zero => rfl
    | succ j =>
      rw [nd_in (by omega : j < ps.length)] at e
      simp [nd] at e
  | succ i =>
    rw [nd_in (by omega : i < ps.length)] at e
    cases j with
    | zero => simp [nd] at e
    | succ j =>
      rw [nd_in (by omega : j < ps.length)] at e
      simp only [Prod.mk.injEq, and_true] at e
      have := (List.getElem_inj h.nodup).1 e
      omega
theorem nd_inj1 {c : Nat} {ps : List Nat} (h : Apart c ps) {i j : Nat} (hi : 1 ≤ i) (hj : 1 ≤ j) (hi2 : i ≤ ps.length + 1) (hj2 : j ≤ ps.length + 1) (e : nd c ps i = nd c ps j) : i = j := by
  by_cases h1 : i ≤ ps.length
  · by_cases h2 : j ≤ ps.length
    · exact nd_inj h h1 h2 e
    · rw [nd_out (by omega : ps.length < j)] at e
      have := nd_inj h h1 (Nat.zero_le _) (e.trans (by rfl))
      omega
  · by_cases h2 : j ≤ ps.length
    · rw [nd_out (by omega : ps.length < i)] at e
      have := nd_inj h h2 (Nat.zero_le _) (e.symm.trans (by rfl))
      omega
    · omega

/-- a node's two cells are never another node's other cell -/
theorem nx_pv {c : Nat} {ps : List Nat} (_ : Apart c ps) (i j : Nat) : ¬ ((nd c ps i).1 = (nd c ps j).1 ∧ (nd c ps i).2 + 5 = (nd c ps j).2 + 4) := by
  rintro ⟨h1, h2⟩
  have key : ∀ k, nd c ps k = (c, 2) ∨ ∃ p ∈ ps, nd c ps k = (p, 0) := by
    intro k
    cases k with
    | zero => exact .inl rfl
    | succ k =>
      by_cases hk : k < ps.length
      · exact .inr ⟨ps[k], List.getElem_mem hk, nd_in hk⟩
      · exact .inl (nd_out (by omega))
  rcases key i with hi | ⟨p, hp, hi⟩ <;> rcases key j with hj | ⟨q, hq, hj⟩ <;> rw [hi, hj] at h1 h2 <;> simp only at h1 h2
  all_goals omega

theorem nd_ext {x y : Nd} (h1 : x.1 = y.1) (h2 : x.2 = y.2) : x = y := Prod.ext h1 h2

def Ring (w : World) (c : Nat) (ps : List Nat) : Prop := ∀ i, i ≤ ps.length → w.cell? (nd c ps i).nx = some (nd c ps (i + 1)).ptr ∧ w.cell? (nd c ps (i + 1)).pv = some (nd c ps i).ptr

theorem nd_erase {c : Nat} {ps : List Nat} {i : Nat} (_ : i < ps.length) (k : Nat) : nd c (ps.eraseIdx i) k = if k ≤ i then nd c ps k else nd c ps (k + 1) := by
  cases k with
  | zero => simp [nd]
  | succ k =>
    rw [nd_succ, nd_succ, nd_succ, List.getElem?_eraseIdx]
    by_cases h : k < i
    · rw [if_pos h, if_pos (by omega)]
    · rw [if_neg h, if_neg (by omega)]

theorem Ring.erase {w : World} {c : Nat} {ps : List Nat} (h : Ring w c ps) (ha : Apart c ps) {i : Nat} (hi : i < ps.length) :
    Ring ((w.setCell (nd c ps i).nx (nd c ps (i + 2)).ptr).setCell (nd c ps (i + 2)).pv (nd c ps i).ptr) c (ps.eraseIdx i) := by
  have hl : (ps.eraseIdx i).length = ps.length - 1 := List.length_eraseIdx_of_lt hi
  have c1 := (h i (by omega)).1
  have c2 := (h (i + 1) (by omega)).2
  have s1 := fun b j => set_nx c1 (nd c ps (i + 2)).ptr b j
  have c2' : (w.setCell (nd c ps i).nx (nd c ps (i + 2)).ptr).cell? (nd c ps (i + 2)).pv = some (nd c ps (i + 1)).ptr := by
    rw [cell_pv]
    rw [s1, if_neg (fun e => nx_pv ha i (i + 2) ⟨e.1.symm, e.2.symm⟩)]
    exact c2
  have s2 := fun b j => set_pv c2' (nd c ps i).ptr b j
  intro k hk
  rw [hl] at hk
  rw [nd_erase hi k, nd_erase hi (k + 1)]
  by_cases h1 : k < i
  · rw [if_pos (by omega), if_pos (by omega)]
    obtain ⟨r1, r2⟩ := h k (by omega)
    refine ⟨?_, ?_⟩
    · rw [cell_nx]
      rw [s2, if_neg (fun e => nx_pv ha k (i + 2) e), s1, if_neg (fun e => by have := nd_inj ha (by omega) (by omega) (nd_ext e.1 (by have := e.2; omega)); omega)]
      exact r1
    · rw [cell_pv]
      rw [s2, if_neg (fun e => by have := nd_inj1 ha (by omega) (by omega) (by omega) (by omega) (nd_ext e.1 (by have := e.2; omega) : nd c ps (k + 1) = nd c ps (i + 2)); omega), s1, if_neg (fun e => nx_pv ha i (k + 1) ⟨e.1.symm, e.2.symm⟩)]
      exact r2
  · by_cases h2 : k = i
    · subst h2
      rw [if_pos (Nat.le_refl _), if_neg (by omega)]
      refine ⟨?_, ?_⟩
      · rw [cell_nx]
        rw [s2, if_neg (fun e => nx_pv ha k (k + 2) e), s1, if_pos ⟨rfl, rfl⟩]
      · rw [cell_pv]
        rw [s2, if_pos ⟨rfl, rfl⟩]
    · rw [if_neg (by omega), if_neg (by omega)]
      obtain ⟨r1, r2⟩ := h (k + 1) (by omega)
      refine ⟨?_, ?_⟩
      · rw [cell_nx]
        rw [s2, if_neg (fun e => nx_pv ha (k + 1) (i + 2) e), s1, if_neg (fun e => by have := nd_inj ha (by omega) (by omega) (nd_ext e.1 (by have := e.2; omega) : nd c ps (k + 1) = nd c ps i); omega)]
        exact r1
      · rw [cell_pv]
        rw [s2, if_neg (fun e => by have := nd_inj1 ha (by omega) (by omega) (by omega) (by omega) (nd_ext e.1 (by have := e.2; omega) : nd c ps (k + 1 + 1) = nd c ps (i + 2)); omega), s1, if_neg (fun e => nx_pv ha i (k + 2) ⟨e.1.symm, e.2.symm⟩)]
        exact r2

theorem nd_snoc {c : Nat} {ps : List Nat} {p : Nat} (k : Nat) : nd c (ps ++ [p]) k = if k = ps.length + 1 then (p, 0) else nd c ps k := by
  cases k with
  | zero => simp [nd]
  | succ k =>
    rw [nd_succ, nd_succ]
    by_cases h : k < ps.length
    · rw [List.getElem?_append_left h, if_neg (by omega)]
    · by_cases h2 : k = ps.length
      · subst h2; simp
      · rw [if_neg (by omega), List.getElem?_eq_none (by simp; omega), List.getElem?_eq_none (by omega)]

/-- a node comes in behind the last one -/
theorem Ring.snoc {w : World} {c p : Nat} {ps : List Nat} (h : Ring w c ps) (ha : Apart c (ps ++ [p])) {o n : Value} (ho : w.cell? ⟨p, 4, none⟩ = some o) (hn : w.cell? ⟨p, 5, none⟩ = some n) :
    Ring ((((w.setCell ⟨p, 4, none⟩ (nd c ps ps.length).ptr).setCell ⟨p, 5, none⟩ (nd c ps 0).ptr).setCell (nd c ps ps.length).nx (Nd.ptr (p, 0))).setCell (nd c ps 0).pv (Nd.ptr (p, 0))) c (ps ++ [p]) := by
  have hap : Apart c ps := ⟨(List.nodup_append.1 ha.nodup).1, fun h => ha.notc (List.mem_append_left _ h)⟩
  have hpc : p ≠ c := fun e => ha.notc (by simp [e])
  have hpm : p ∉ ps := fun hm => (List.nodup_append.1 ha.nodup).2.2 p hm p (by simp) rfl
  have hne : ∀ k, (nd c ps k).1 ≠ p := by
    intro k
    cases k with
    | zero => exact fun e => hpc e.symm
    | succ k =>
      by_cases hk : k < ps.length
      · rw [nd_in hk]; exact fun e => hpm (by simp only at e; rw [← e]; exact List.getElem_mem hk)
      · rw [nd_out (by omega)]; exact fun e => hpc e.symm
  have hend : nd c ps (ps.length + 1) = nd c ps 0 := by rw [nd_out (by omega)]; rfl
  have c1 := (h ps.length (Nat.le_refl _)).1
  have c2 := (h ps.length (Nat.le_refl _)).2
  rw [hend] at c2
  have s1 := fun b j => cell_set ho (nd c ps ps.length).ptr b j
  have hn1 : (w.setCell ⟨p, 4, none⟩ (nd c ps ps.length).ptr).cell? ⟨p, 5, none⟩ = some n := by rw [s1, if_neg (by omega)]; exact hn
  have s2 := fun b j => cell_set hn1 (nd c ps 0).ptr b j
  have c12 : ((w.setCell ⟨p, 4, none⟩ (nd c ps ps.length).ptr).setCell ⟨p, 5, none⟩ (nd c ps 0).ptr).cell? (nd c ps ps.length).nx = some (nd c ps (ps.length + 1)).ptr := by
    rw [cell_nx]
    rw [s2, if_neg (fun e => hne _ e.1), s1, if_neg (fun e => hne _ e.1)]
    exact c1
  have s3 := fun b j => set_nx c12 (Nd.ptr (p, 0)) b j
  have c23 : (((w.setCell ⟨p, 4, none⟩ (nd c ps ps.length).ptr).setCell ⟨p, 5, none⟩ (nd c ps 0).ptr).setCell (nd c ps ps.length).nx (Nd.ptr (p, 0))).cell? (nd c ps 0).pv = some (nd c ps ps.length).ptr := by
    rw [cell_pv]
    rw [s3, if_neg (fun e => nx_pv hap ps.length 0 ⟨e.1.symm, e.2.symm⟩), s2, if_neg (fun e => hne _ e.1), s1, if_neg (fun e => hne _ e.1)]
    exact c2
  have s4 := fun b j => set_pv c23 (Nd.ptr (p, 0)) b j
  intro k hk
  rw [List.length_append, List.length_singleton] at hk
  rw [nd_snoc k, nd_snoc (k + 1)]
  by_cases h1 : k < ps.length
  · rw [if_neg (by omega), if_neg (by omega)]
    obtain ⟨r1, r2⟩ := h k (by omega)
    refine ⟨?_, ?_⟩
    · rw [cell_nx]
      rw [s4, if_neg (fun e => nx_pv hap k 0 e), s3, if_neg (fun e => by have := nd_inj hap (by omega) (by omega) (nd_ext e.1 (by have := e.2; omega) : nd c ps k = nd c ps ps.length); omega), s2, if_neg (fun e => hne _ e.1), s1, if_neg (fun e => hne _ e.1)]
      exact r1
    · rw [cell_pv]
      rw [s4, if_neg (fun e => by have := nd_inj hap (by omega) (by omega) (nd_ext e.1 (by have := e.2; omega) : nd c ps (k + 1) = nd c ps 0); omega), s3, if_neg (fun e => nx_pv hap ps.length (k + 1) ⟨e.1.symm, e.2.symm⟩), s2, if_neg (fun e => hne _ e.1), s1, if_neg (fun e => hne _ e.1)]
      exact r2
  · by_cases h2 : k = ps.length
    · subst h2
      rw [if_neg (by omega), if_pos rfl]
      refine ⟨?_, ?_⟩
      · rw [cell_nx]
        rw [s4, if_neg (fun e => nx_pv hap ps.length 0 e), s3, if_pos ⟨rfl, rfl⟩]
      · show _ = some (nd c ps ps.length).ptr
        rw [cell_pv]
        rw [s4, if_neg (fun e => hne _ e.1.symm), s3, if_neg (fun e => hne _ e.1.symm), s2, if_neg (by simp), s1, if_pos ⟨rfl, rfl⟩]
    · obtain rfl : k = ps.length + 1 := by omega
      rw [if_pos rfl, if_neg (by omega), nd_out (by omega : ps.length < ps.length + 1 + 1)]
      refine ⟨?_, ?_⟩
      · rw [cell_nx]
        rw [s4, if_neg (fun e => hne _ e.1.symm), s3, if_neg (fun e => hne _ e.1.symm), s2, if_pos ⟨rfl, rfl⟩]
        rfl
      · rw [cell_pv]
        rw [s4, if_pos ⟨rfl, rfl⟩]
end Go.Proofs.Ytlfhjbilnfkabaa
