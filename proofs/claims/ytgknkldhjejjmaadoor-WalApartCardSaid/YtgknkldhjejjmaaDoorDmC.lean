/- A loss of power, file by file. No function of the program. -/
import Derived.Test.YtgknkldhjejjmaaDoorDmB
namespace Go.Proofs.YtgknkldhjejjmaaDoor
namespace DM

def isDone (names : Nm) (left : Bs → Bool) (i : Nat) : Bool := names.any (fun p => p.2 == i && !left p.1)
def fsL (bytes : List Int) (names : Nm) (left : Bs → Bool) (fs : List F) : List F := fs.mapIdx (fun i f => if isDone names left i then loseF bytes i f else f)
def lostFs (bytes : List Int) (fs : List F) : List F := fs.mapIdx (loseF bytes)
def usedL (fs : List F) (names : Nm) (left : Bs → Bool) : Nat := (names.map (fun p => if left p.1 then 0 else lens fs p.2)).sum

/-- a loss of power, but for what is set -/
def loseS (s : St) (names : Int) (bytes : List Int) : St :=
  { s with files := lostFs bytes s.files, names := pre s.lasts s.queue (rest names (s.queue.length + 1)), lasts := pre s.lasts s.queue (rest names (s.queue.length + 1)), queue := [] }

theorem fsL_length (bytes : List Int) (names : Nm) (left : Bs → Bool) (fs : List F) : (fsL bytes names left fs).length = fs.length := by simp [fsL]
theorem lostFs_length (bytes : List Int) (fs : List F) : (lostFs bytes fs).length = fs.length := by simp [lostFs]

theorem isDone_iff {names : Nm} {left : Bs → Bool} {i : Nat} : isDone names left i = true ↔ ∃ p ∈ names, p.2 = i ∧ left p.1 = false := by
  unfold isDone
  rw [List.any_eq_true]
  constructor
  · rintro ⟨p, hp, h⟩
    simp at h
    exact ⟨p, hp, h.1, h.2⟩
  · rintro ⟨p, hp, h1, h2⟩
    exact ⟨p, hp, by simp [h1, h2]⟩

theorem fsL_start (bytes : List Int) {names : Nm} {left : Bs → Bool} (fs : List F) (h : ∀ p ∈ names, left p.1 = true) : fsL bytes names left fs = fs := by
  have hd : ∀ i, isDone names left i = false := fun i => by
    cases hh : isDone names left i with
    | false => rfl
    | true =>
      obtain ⟨p, hp, _, h2⟩ := isDone_iff.1 hh
      rw [h p hp] at h2
      cases h2
  unfold fsL
  apply List.ext_getElem
  · simp
  · intro i h1 h2
    simp [hd]

theorem usedL_start {left : Bs → Bool} (fs : List F) : ∀ {names : Nm}, (∀ p ∈ names, left p.1 = true) → usedL fs names left = 0
  | [], _ => rfl
  | p :: r, h => by
    have h1 := usedL_start fs (fun q hq => h q (List.mem_cons_of_mem _ hq))
    unfold usedL at h1 ⊢
    rw [List.map_cons, List.sum_cons, h1, h p (List.mem_cons_self ..)]
    rfl

theorem getD_mapIdx (g : Nat → F → F) (fs : List F) (i : Nat) (h : i < fs.length) : (fs.mapIdx g).getD i ⟨[], 0⟩ = g i (fs.getD i ⟨[], 0⟩) := by
  rw [List.getD_eq_getElem?_getD, List.getD_eq_getElem?_getD, List.getElem?_mapIdx, List.getElem?_eq_getElem h]
  rfl

def strike (left : Bs → Bool) (x : Bs) : Bs → Bool := fun k => left k && !(k == x)

theorem done_strike {n : Nat} {names : Nm} (hg : Good n names) {left : Bs → Bool} {x : Bs} {m : Nat} (hm : (x, m) ∈ names) (i : Nat) : isDone names (strike left x) i = (isDone names left i || i == m) := by
  rw [Bool.eq_iff_iff]
  simp only [Bool.or_eq_true, beq_iff_eq, isDone_iff]
  constructor
  · rintro ⟨p, hp, h1, h2⟩
    unfold strike at h2
    simp at h2
    by_cases hl : left p.1 = true
    · right
      have : p = (x, m) := by
        have hx : p.1 = x := h2 hl
        have h3 := find_of_mem hg.sorted (k := p.1) (n := p.2) hp
        have h4 := find_of_mem hg.sorted hm
        rw [hx, h4] at h3
        have h5 : m = p.2 := Option.some.inj h3
        exact Prod.ext hx h5.symm
      rw [← h1, this]
    · left
      exact ⟨p, hp, h1, by simpa using hl⟩
  · rintro (⟨p, hp, h1, h2⟩ | h)
    · exact ⟨p, hp, h1, by unfold strike; simp [h2]⟩
    · exact ⟨(x, m), hm, h.symm, by unfold strike; simp⟩

theorem fsL_step (bytes : List Int) {n : Nat} {names : Nm} (hg : Good n names) {left : Bs → Bool} {x : Bs} {m : Nat} (hm : (x, m) ∈ names) (hl : left x = true) (fs : List F) (hlt : m < fs.length) :
    fsL bytes names (strike left x) fs = (fsL bytes names left fs).set m (loseF bytes m (fs.getD m ⟨[], 0⟩)) ∧ (fsL bytes names left fs).getD m ⟨[], 0⟩ = fs.getD m ⟨[], 0⟩ := by
  have hnd : isDone names left m = false := by
    cases hh : isDone names left m with
    | false => rfl
    | true =>
      obtain ⟨p, hp, h1, h2⟩ := isDone_iff.1 hh
      have := hg.one p hp _ hm h1
      rw [this] at h2
      simp only at h2
      rw [hl] at h2
      cases h2
  constructor
  · apply List.ext_getElem
    · simp [fsL]
    · intro i h1 h2
      have hi : i < fs.length := by simpa [fsL] using h1
      simp only [fsL, List.getElem_mapIdx, List.getElem_set, done_strike hg hm]
      by_cases him : i = m
      · subst him
        simp [List.getD_eq_getElem?_getD, List.getElem?_eq_getElem hi]
      · have : (i == m) = false := by simpa using him
        rw [this, Bool.or_false, if_neg (Ne.symm him)]
  · unfold fsL
    rw [getD_mapIdx _ _ _ hlt, hnd]
    rfl

theorem usedL_step {n : Nat} (fs : List F) {left : Bs → Bool} {x : Bs} {m : Nat} (hl : left x = true) : ∀ {names : Nm}, Good n names → (x, m) ∈ names → usedL fs names (strike left x) = usedL fs names left + lens fs m
  | [], _, h => by cases h
  | p :: r, hg, h => by
    obtain ⟨h1, h2⟩ := List.pairwise_cons.1 hg.sorted
    have hgr : Good n r := ⟨h2, fun q hq => hg.key q (List.mem_cons_of_mem _ hq), fun q hq => hg.file q (List.mem_cons_of_mem _ hq), fun a ha b hb => hg.one a (List.mem_cons_of_mem _ ha) b (List.mem_cons_of_mem _ hb), by have := hg.few; simp at this; omega⟩
    have e1 : ∀ l : Bs → Bool, usedL fs (p :: r) l = (if l p.1 then 0 else lens fs p.2) + usedL fs r l := fun l => by unfold usedL; rw [List.map_cons, List.sum_cons]
    rw [e1, e1]
    rcases List.mem_cons.1 h with e | e
    · subst e
      have hs : strike left x x = false := by unfold strike; simp
      have hr : usedL fs r (strike left x) = usedL fs r left := by
        unfold usedL
        congr 1
        refine List.map_congr_left fun q hq => ?_
        have hne : q.1 ≠ x := fun e => before_ne (h1 q hq) e.symm
        have : strike left x q.1 = left q.1 := by unfold strike; simp [hne]
        rw [this]
      simp only [hs, hl, hr]
      simp
      omega
    · have hne : p.1 ≠ x := fun e2 => before_ne (h1 _ e) e2
      have hp : strike left x p.1 = left p.1 := by unfold strike; simp [hne]
      rw [hp, usedL_step fs hl hgr e]
      omega

theorem usedL_end (fs : List F) {names : Nm} {left : Bs → Bool} (h : ∀ k, left k = false) : usedL fs names left = used fs names := by
  unfold usedL used
  congr 1
  refine List.map_congr_left fun p _ => ?_
  rw [h]
  rfl

theorem fsL_end (bytes : List Int) {names : Nm} {left : Bs → Bool} (h : ∀ k, left k = false) (fs : List F) {p : Bs × Nat} (hp : p ∈ names) (hlt : p.2 < fs.length) : (fsL bytes names left fs).getD p.2 ⟨[], 0⟩ = (lostFs bytes fs).getD p.2 ⟨[], 0⟩ := by
  have hd : isDone names left p.2 = true := isDone_iff.2 ⟨p, hp, rfl, h _⟩
  unfold fsL lostFs
  rw [getD_mapIdx _ _ _ hlt, getD_mapIdx _ _ _ hlt, hd]
  rfl

theorem usedL_le {fs : List F} {names : Nm} {left : Bs → Bool} {M : Nat} (h : ∀ n, lens fs n ≤ M) : usedL fs names left ≤ names.length * M := by
  induction names with
  | nil => simp [usedL]
  | cons p r ih =>
    have e1 : usedL fs (p :: r) left = (if left p.1 then 0 else lens fs p.2) + usedL fs r left := by unfold usedL; rw [List.map_cons, List.sum_cons]
    rw [e1, List.length_cons, Nat.succ_mul]
    have := h p.2
    split <;> omega

theorem fail_eq (s : St) (names : Int) (bytes : List Int) : fail s names bytes = { loseS s names bytes with cutN := 0, cutNames := 0, cutBytes := [], brk := 0 } := rfl

theorem ok_loseS {s : St} (h : Ok s) (names : Int) (bytes : List Int) : Ok (loseS s names bytes) :=
  { ok_fail h names bytes with cutN := h.cutN, brk := h.brk, cutNames := h.cutNames, cutBytes := h.cutBytes }
end DM
end Go.Proofs.YtgknkldhjejjmaaDoor
