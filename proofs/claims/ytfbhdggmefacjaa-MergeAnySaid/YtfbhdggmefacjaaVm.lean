/- Plain mathematics: what is there for whom. -/
import Derived.Test.YtfbhdggmefacjaaSm
namespace Go.Proofs.Ytfbhdggmefacjaa
open SK
namespace VB

def alive (e : E) (now : Int) : Bool := !e.gone && (decide (e.til = 0) || decide (now ≤ e.til))

/-- entries by their keys: each run of one key -/
def runs : List E → List (List E)
  | [] => []
  | e :: t => match runs t with
    | (x :: r) :: rs => if x.key = e.key then (e :: x :: r) :: rs else [e] :: (x :: r) :: rs
    | [] :: rs => [e] :: rs
    | [] => [[e]]

theorem runs_ne {l r : List E} (h : r ∈ runs l) : r ≠ [] := by
  induction l generalizing r with
  | nil => cases h
  | cons e t ih =>
    rw [runs] at h
    split at h
    · rename_i x r' rs heq
      split at h
      · rcases List.mem_cons.1 h with rfl | h
        · simp
        · exact ih (by rw [heq]; simp [h])
      · rcases List.mem_cons.1 h with rfl | h
        · simp
        · exact ih (by rw [heq]; exact h)
    · rename_i rs heq
      exact absurd rfl (ih (r := []) (by rw [heq]; simp))
    · rcases List.mem_singleton.1 h with rfl
      simp

theorem runs_cons (e : E) (t : List E) : runs (e :: t) = (e :: t.takeWhile (fun x => decide (x.key = e.key))) :: runs (t.dropWhile (fun x => decide (x.key = e.key))) := by
  induction t generalizing e with
  | nil => rfl
  | cons x t ih =>
    have hx := ih x
    rw [runs, hx]
    by_cases h : x.key = e.key
    · simp only [h, if_true, List.takeWhile_cons, List.dropWhile_cons, decide_true]
    · simp only [h, if_false, List.takeWhile_cons, List.dropWhile_cons, decide_false, Bool.false_eq_true]
      rw [hx]

/-- a run where it lies -/
structure G where
  at_ : Nat
  l : List E

def placed : Nat → List (List E) → List G
  | _, [] => []
  | i, r :: rs => ⟨i, r⟩ :: placed (i + r.length) rs

def gs (l : List E) : List G := placed 0 (runs l)

theorem placed_len (i : Nat) (rs : List (List E)) : (placed i rs).length = rs.length := by
  induction rs generalizing i with
  | nil => rfl
  | cons r rs ih => simp [placed, ih]

theorem placed_map (i : Nat) (rs : List (List E)) : (placed i rs).map (·.l) = rs := by
  induction rs generalizing i with
  | nil => rfl
  | cons r rs ih => simp [placed, ih]

/-- the run that begins at place i -/
def runAt (l : List E) (i : Nat) : List E := match l.drop i with | [] => [] | e :: t => e :: t.takeWhile (fun x => decide (x.key = e.key))

theorem runs_at {l : List E} {i : Nat} (h : i < l.length) : runs (l.drop i) = runAt l i :: runs (l.drop (i + (runAt l i).length)) := by
  have hd : l.drop i = l[i] :: l.drop (i + 1) := List.drop_eq_getElem_cons h
  have hr : runAt l i = l[i] :: (l.drop (i + 1)).takeWhile (fun x => decide (x.key = l[i].key)) := by unfold runAt; rw [hd]
  rw [hr, hd, runs_cons]
  congr 2
  rw [List.length_cons]
  have : ∀ (p : E → Bool) (m : List E), m.dropWhile p = m.drop (m.takeWhile p).length := by
    intro p m
    induction m with
    | nil => rfl
    | cons x m ih =>
      rw [List.dropWhile_cons, List.takeWhile_cons]
      split
      · simpa using ih
      · rfl
  rw [this, List.drop_drop]
  congr 1
  omega

theorem runAt_pos {l : List E} {i : Nat} (h : i < l.length) : 0 < (runAt l i).length := by
  have hd : l.drop i = l[i] :: l.drop (i + 1) := List.drop_eq_getElem_cons h
  unfold runAt
  rw [hd]
  simp

theorem runAt_take {l : List E} {i : Nat} : runAt l i = (l.drop i).take (runAt l i).length := by
  unfold runAt
  cases l.drop i with
  | nil => rfl
  | cons e t =>
    simp only [List.length_cons, List.take_succ_cons]
    congr 1
    induction t with
    | nil => rfl
    | cons x t ih =>
      rw [List.takeWhile_cons]
      split
      · simp only [List.length_cons, List.take_succ_cons]
        congr 1
      · rfl

theorem runAt_le {l : List E} {i : Nat} (h : i ≤ l.length) : i + (runAt l i).length ≤ l.length := by
  have := congrArg List.length (runAt_take (l := l) (i := i))
  rw [List.length_take, List.length_drop] at this
  omega

/-- how far a run goes, looked at from within -/
theorem runAt_more {l : List E} {i t : Nat} (hi : i < l.length) (ht : 0 < t) (hl : i + t < l.length) (hle : t ≤ (runAt l i).length) (hk : l[i + t].key = l[i].key) : t + 1 ≤ (runAt l i).length := by
  have hd : l.drop i = l[i] :: l.drop (i + 1) := List.drop_eq_getElem_cons hi
  have hr : runAt l i = l[i] :: (l.drop (i + 1)).takeWhile (fun x => decide (x.key = l[i].key)) := by unfold runAt; rw [hd]
  rw [hr, List.length_cons] at hle ⊢
  have key : ∀ (m : List E) (p : E → Bool) (s : Nat) (hs : s < m.length), s ≤ (m.takeWhile p).length → p m[s] = true → s + 1 ≤ (m.takeWhile p).length := by
    intro m p
    induction m with
    | nil => intro s hs; simp at hs
    | cons x m ih =>
      intro s hs h1 h2
      rw [List.takeWhile_cons] at h1 ⊢
      cases s with
      | zero =>
        simp only [List.getElem_cons_zero] at h2
        rw [h2]; simp
      | succ s =>
        split at h1
        · rename_i hx
          rw [if_pos hx]
          simp only [List.length_cons, List.getElem_cons_succ] at *
          have := ih s (by simpa using hs) (by omega) h2
          omega
        · simp at h1
  have := key (l.drop (i + 1)) (fun x => decide (x.key = l[i].key)) (t - 1) (by simp; omega) (by omega) (by
    simp only [List.getElem_drop, decide_eq_true_eq]
    have e1 : i + 1 + (t - 1) = i + t := by omega
    simp only [e1]
    exact hk)
  omega
theorem runAt_end {l : List E} {i t : Nat} (hi : i < l.length) (ht : 0 < t) (hl : i + t < l.length) (hle : t ≤ (runAt l i).length) (hk : l[i + t].key ≠ l[i].key) : t = (runAt l i).length := by
  have hd : l.drop i = l[i] :: l.drop (i + 1) := List.drop_eq_getElem_cons hi
  have hr : runAt l i = l[i] :: (l.drop (i + 1)).takeWhile (fun x => decide (x.key = l[i].key)) := by unfold runAt; rw [hd]
  rw [hr, List.length_cons] at hle ⊢
  have key : ∀ (m : List E) (p : E → Bool) (s : Nat) (hs : s < m.length), s ≤ (m.takeWhile p).length → p m[s] = false → s = (m.takeWhile p).length := by
    intro m p
    induction m with
    | nil => intro s hs; simp at hs
    | cons x m ih =>
      intro s hs h1 h2
      rw [List.takeWhile_cons] at h1 ⊢
      cases s with
      | zero =>
        simp only [List.getElem_cons_zero] at h2
        rw [h2]; simp
      | succ s =>
        split at h1
        · rename_i hx
          rw [if_pos hx]
          simp only [List.length_cons, List.getElem_cons_succ] at *
          have := ih s (by simpa using hs) (by omega) h2
          omega
        · simp at h1
  have := key (l.drop (i + 1)) (fun x => decide (x.key = l[i].key)) (t - 1) (by simp; omega) (by omega) (by
    simp only [List.getElem_drop, decide_eq_false_iff_not]
    have e1 : i + 1 + (t - 1) = i + t := by omega
    simp only [e1]
    exact hk)
  omega
theorem runs_len (l : List E) : (runs l).length ≤ l.length := by
  induction l with
  | nil => simp [runs]
  | cons e t ih =>
    rw [runs]
    split
    · rename_i x r rs heq
      rw [heq] at ih
      split <;> simp only [List.length_cons] at * <;> omega
    · rename_i rs heq
      rw [heq] at ih
      simp only [List.length_cons] at *
      omega
    · simp
theorem gs_len (l : List E) : (gs l).length ≤ l.length := by
  unfold gs
  rw [placed_len]
  exact runs_len l

theorem placed_at (l : List E) : ∀ (m i : Nat), l.length - i ≤ m → ∀ g ∈ placed i (runs (l.drop i)), g.at_ < l.length ∧ g.l = runAt l g.at_
  | 0, i, hm, g, hg => by
    rw [List.drop_of_length_le (by omega)] at hg
    simp [runs, placed] at hg
  | m + 1, i, hm, g, hg => by
    by_cases hi : i < l.length
    · rw [runs_at hi] at hg
      rcases List.mem_cons.1 hg with rfl | hg
      · exact ⟨hi, rfl⟩
      · have := runAt_pos hi
        exact placed_at l m _ (by omega) g hg
    · rw [List.drop_of_length_le (by omega)] at hg
      simp [runs, placed] at hg

theorem gs_at {l : List E} {g : G} (h : g ∈ gs l) : g.at_ < l.length ∧ g.l = runAt l g.at_ := placed_at l l.length 0 (by omega) g (by simpa [gs] using h)
end VB
end Go.Proofs.Ytfbhdggmefacjaa
