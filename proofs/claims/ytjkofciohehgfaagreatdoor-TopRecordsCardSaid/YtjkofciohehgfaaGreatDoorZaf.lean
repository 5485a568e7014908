/- Texts joined by bundle.py: YDDmA. -/
import Derived.WideShapes
import Derived.Maps.Views
import Derived.MapViews

/- A disk, as plain mathematics: names, files, what is done to them, losses of power. No function of the program. -/
namespace Go.Proofs.YtjkofciohehgfaaGreatDoor.L8
namespace DM

abbrev Bs := List UInt8
abbrev Nm := List (Bs × Nat)

structure F where
  data : Bs
  sync : Nat

/-- one becomes none's, one becomes a file's; the empty name: none -/
structure E where
  gone : Bs
  name : Bs
  file : Nat

def find (l : Nm) (k : Bs) : Option Nat := (l.find? (fun p => p.1 == k)).map (·.2)
def del (l : Nm) (k : Bs) : Nm := l.filter (fun p => !(p.1 == k))
def ins (x : Bs × Nat) : Nm → Nm
  | [] => [x]
  | y :: r => if bytesBefore x.1 y.1 then x :: y :: r else y :: ins x r
def put (l : Nm) (k : Bs) (n : Nat) : Nm := ins (k, n) (del l k)
def app (l : Nm) (e : E) : Nm := if e.name = [] then del l e.gone else put (del l e.gone) e.name e.file

def lens (fs : List F) (n : Nat) : Nat := (fs.getD n ⟨[], 0⟩).data.length
def used (fs : List F) (l : Nm) : Nat := (l.map (fun p => lens fs p.2)).sum
def size (fs : List F) (l : Nm) (k : Bs) : Nat := match find l k with | some n => lens fs n | none => 0

/-! ### lists of names -/
theorem mem_ins (x y : Bs × Nat) : ∀ l : Nm, y ∈ ins x l ↔ y = x ∨ y ∈ l
  | [] => by simp [ins]
  | z :: r => by
    unfold ins
    split
    · simp
    · simp only [List.mem_cons, mem_ins x y r]
      constructor
      · rintro (h | h | h)
        · exact .inr (.inl h)
        · exact .inl h
        · exact .inr (.inr h)
      · rintro (h | h | h)
        · exact .inr (.inl h)
        · exact .inl h
        · exact .inr (.inr h)

theorem perm_ins (x : Bs × Nat) : ∀ l : Nm, (ins x l).Perm (x :: l)
  | [] => List.Perm.refl _
  | z :: r => by
    unfold ins
    split
    · exact List.Perm.refl _
    · exact ((perm_ins x r).cons z).trans (List.Perm.swap x z r)

theorem length_ins (x : Bs × Nat) (l : Nm) : (ins x l).length = l.length + 1 := by
  have := (perm_ins x l).length_eq
  simpa using this

theorem mem_del {l : Nm} {k : Bs} {p : Bs × Nat} : p ∈ del l k ↔ p ∈ l ∧ p.1 ≠ k := by
  simp [del]

theorem mem_put {l : Nm} {k : Bs} {n : Nat} {p : Bs × Nat} : p ∈ put l k n ↔ p = (k, n) ∨ (p ∈ l ∧ p.1 ≠ k) := by
  unfold put
  rw [mem_ins, mem_del]

theorem find_some {l : Nm} {k : Bs} {n : Nat} (h : find l k = some n) : (k, n) ∈ l := by
  unfold find at h
  cases hf : l.find? (fun p => p.1 == k) with
  | none => rw [hf] at h; cases h
  | some p =>
    rw [hf] at h
    have h1 := List.mem_of_find?_eq_some hf
    have h2 := List.find?_some hf
    simp at h h2
    subst h2 h
    exact h1

theorem find_none {l : Nm} {k : Bs} (h : find l k = none) : ∀ p ∈ l, p.1 ≠ k := by
  unfold find at h
  rw [Option.map_eq_none_iff, List.find?_eq_none] at h
  intro p hp he
  exact h p hp (by simp [he])

theorem find_none_of {l : Nm} {k : Bs} (h : ∀ p ∈ l, p.1 ≠ k) : find l k = none := by
  unfold find
  rw [Option.map_eq_none_iff, List.find?_eq_none]
  intro p hp
  simpa using h p hp

def Sorted (l : Nm) : Prop := l.Pairwise (fun p q => bytesBefore p.1 q.1 = true)

theorem before_ne {a b : Bs} (h : bytesBefore a b = true) : a ≠ b := fun e => by
  subst e
  rw [WideAt.bytes_irrefl] at h
  cases h

theorem find_of_mem {l : Nm} (hs : Sorted l) {k : Bs} {n : Nat} (h : (k, n) ∈ l) : find l k = some n := by
  cases hf : find l k with
  | none => exact absurd rfl (find_none hf _ h)
  | some m =>
    have hm := find_some hf
    induction l with
    | nil => cases h
    | cons a r ih =>
      obtain ⟨h1, h2⟩ := List.pairwise_cons.1 hs
      rcases List.mem_cons.1 h with e1 | e1
      · rcases List.mem_cons.1 hm with e2 | e2
        · rw [← e1] at e2
          injection e2 with _ e2
          rw [e2]
        · exact absurd (by rw [← e1]) (before_ne (h1 _ e2))
      · rcases List.mem_cons.1 hm with e2 | e2
        · exact absurd (by rw [← e2]) (before_ne (h1 _ e1))
        · have := ih h2 e1
          have hr : find r k = some m := by
            unfold find at hf ⊢
            rw [List.find?_cons] at hf
            have : (a.1 == k) = false := by
              rw [beq_eq_false_iff_ne]
              exact before_ne (h1 _ e1)
            rw [this] at hf
            exact hf
          exact this hr e2

theorem sorted_del {l : Nm} (h : Sorted l) (k : Bs) : Sorted (del l k) := List.Pairwise.filter _ h

theorem sorted_ins {x : Bs × Nat} : ∀ {l : Nm}, Sorted l → (∀ p ∈ l, p.1 ≠ x.1) → Sorted (ins x l)
  | [], _, _ => by simp [ins, Sorted]
  | y :: r, h, hne => by
    obtain ⟨h1, h2⟩ := List.pairwise_cons.1 h
    unfold ins
    split
    · rename_i hb
      refine List.pairwise_cons.2 ⟨fun p hp => ?_, h⟩
      rcases List.mem_cons.1 hp with rfl | hp
      · exact hb
      · exact WideShapes.bytes_trans _ _ _ hb (h1 p hp)
    · rename_i hb
      refine List.pairwise_cons.2 ⟨fun p hp => ?_, sorted_ins h2 (fun p hp => hne p (List.mem_cons_of_mem _ hp))⟩
      rcases (mem_ins _ _ _).1 hp with rfl | hp
      · rcases WideAt.bytes_total p.1 y.1 (fun e => hne y (List.mem_cons_self ..) e.symm) with h3 | h3
        · exact absurd h3 hb
        · exact h3
      · exact h1 p hp

theorem sorted_put {l : Nm} (h : Sorted l) (k : Bs) (n : Nat) : Sorted (put l k n) :=
  sorted_ins (sorted_del h k) (fun _ hp => (mem_del.1 hp).2)

theorem del_of_none {l : Nm} {k : Bs} (h : ∀ p ∈ l, p.1 ≠ k) : del l k = l := by
  unfold del
  rw [List.filter_eq_self]
  intro p hp
  simpa using h p hp

theorem length_del {l : Nm} (k : Bs) : (del l k).length ≤ l.length := List.length_filter_le _ _

/-! ### what is good -/
structure Good (n : Nat) (l : Nm) : Prop where
  sorted : Sorted l
  key : ∀ p ∈ l, p.1 ≠ [] ∧ p.1.length ≤ 64
  file : ∀ p ∈ l, p.2 < n
  one : ∀ p ∈ l, ∀ q ∈ l, p.2 = q.2 → p = q
  few : l.length ≤ 4096

theorem good_nil (n : Nat) : Good n [] := ⟨List.Pairwise.nil, by simp, by simp, by simp, by simp⟩

theorem Good.mono {n m : Nat} {l : Nm} (h : Good n l) (hn : n ≤ m) : Good m l := ⟨h.sorted, h.key, fun p hp => Nat.lt_of_lt_of_le (h.file p hp) hn, h.one, h.few⟩

theorem Good.put {n : Nat} {l : Nm} (h : Good n l) {k : Bs} {m : Nat} (hk : k ≠ [] ∧ k.length ≤ 64) (hm : m < n) (hone : ∀ p ∈ l, p.1 ≠ k → p.2 ≠ m) (hl : (DM.del l k).length < 4096) : Good n (put l k m) := by
  refine ⟨sorted_put h.sorted k m, fun p hp => ?_, fun p hp => ?_, fun p hp q hq he => ?_, ?_⟩
  · rcases mem_put.1 hp with rfl | ⟨hp, _⟩
    · exact hk
    · exact h.key p hp
  · rcases mem_put.1 hp with rfl | ⟨hp, _⟩
    · exact hm
    · exact h.file p hp
  · rcases mem_put.1 hp with rfl | ⟨hp, h1⟩
    · rcases mem_put.1 hq with rfl | ⟨hq, h2⟩
      · rfl
      · exact absurd he.symm (hone q hq h2)
    · rcases mem_put.1 hq with rfl | ⟨hq, h2⟩
      · exact absurd he (hone p hp h1)
      · exact h.one p hp q hq he
  · unfold DM.put
    rw [length_ins]
    omega

/-! ### sums -/
theorem used_cons (fs : List F) (p : Bs × Nat) (l : Nm) : used fs (p :: l) = lens fs p.2 + used fs l := by simp [used]
theorem used_perm {fs : List F} {l l' : Nm} (h : l.Perm l') : used fs l = used fs l' := (h.map _).sum_nat
theorem used_ins (fs : List F) (x : Bs × Nat) (l : Nm) : used fs (ins x l) = lens fs x.2 + used fs l := by
  rw [used_perm (perm_ins x l), used_cons]

theorem used_del {fs : List F} : ∀ {l : Nm}, Sorted l → ∀ k, used fs (del l k) + size fs l k = used fs l
  | [], _, k => rfl
  | p :: r, h, k => by
    obtain ⟨h1, h2⟩ := List.pairwise_cons.1 h
    by_cases hk : p.1 = k
    · have hr : ∀ q ∈ r, q.1 ≠ k := fun q hq e => before_ne (h1 q hq) (by rw [hk, e])
      have e1 : del (p :: r) k = r := by
        have := del_of_none hr
        unfold del at this ⊢
        rw [List.filter_cons, this]
        simp [hk]
      have e2 : find (p :: r) k = some p.2 := by simp [find, hk]
      rw [e1, used_cons]
      unfold size
      rw [e2]
      simp only
      omega
    · have e1 : del (p :: r) k = p :: del r k := by
        unfold del
        rw [List.filter_cons]
        simp [hk]
      have e2 : size fs (p :: r) k = size fs r k := by
        unfold size find
        rw [List.find?_cons]
        have : (p.1 == k) = false := by simpa using hk
        rw [this]
      rw [e1, e2, used_cons, used_cons]
      have := used_del (fs := fs) h2 k
      omega

theorem size_del_other {fs : List F} {l : Nm} {k k' : Bs} (h : k' ≠ k) : size fs (del l k) k' = size fs l k' := by
  have : find (del l k) k' = find l k' := by
    unfold find del
    rw [List.find?_filter]
    congr 1
    congr 1
    funext p
    by_cases hp : p.1 = k'
    · subst hp; simp [h]
    · simp [hp]
  unfold size
  rw [this]

theorem used_put {fs : List F} {l : Nm} (h : Sorted l) (k : Bs) (n : Nat) : used fs (put l k n) + size fs l k = used fs l + lens fs n := by
  unfold put
  rw [used_ins]
  have := used_del (fs := fs) h k
  simp only
  omega

/-- what a change of names does to the bytes of all named files -/
theorem used_app {fs : List F} {l : Nm} (h : Sorted l) (he : ∀ p ∈ l, p.1 ≠ []) (e : E) (hne : e.gone ≠ e.name ∨ e.name = []) :
    used fs (app l e) + (size fs l e.gone + size fs l e.name) = used fs l + (if e.name = [] then 0 else lens fs e.file) ∧ size fs (app l e) e.name = (if e.name = [] then 0 else lens fs e.file) := by
  have h0 : ∀ l' : Nm, (∀ p ∈ l', p.1 ≠ []) → size fs l' [] = 0 := fun l' h' => by
    unfold size
    rw [find_none_of h']
  unfold app
  by_cases hn : e.name = []
  · rw [if_pos hn, if_pos hn, hn, h0 l he]
    have := used_del (fs := fs) h e.gone
    refine ⟨by omega, h0 _ (fun p hp => he p (mem_del.1 hp).1)⟩
  · rw [if_neg hn, if_neg hn]
    have hg : e.gone ≠ e.name := hne.resolve_right hn
    have h1 := used_del (fs := fs) h e.gone
    have h2 := used_put (fs := fs) (sorted_del h e.gone) e.name e.file
    rw [size_del_other (Ne.symm hg)] at h2
    refine ⟨by omega, ?_⟩
    have : find (put (del l e.gone) e.name e.file) e.name = some e.file := find_of_mem (sorted_put (sorted_del h _) _ _) (mem_put.2 (.inl rfl))
    unfold size
    rw [this]

theorem used_le {fs : List F} {l : Nm} {M : Nat} (h : ∀ n, lens fs n ≤ M) : used fs l ≤ l.length * M := by
  induction l with
  | nil => simp [used]
  | cons p r ih =>
    rw [used_cons, List.length_cons, Nat.succ_mul]
    have := h p.2
    omega

theorem lens_set (fs : List F) (n m : Nat) (f : F) (hn : n < fs.length) : lens (fs.set n f) m = if m = n then f.data.length else lens fs m := by
  unfold lens
  rw [List.getD_eq_getElem?_getD, List.getElem?_set]
  by_cases h : n = m
  · subst h
    simp [hn]
  · rw [if_neg h, if_neg (Ne.symm h), List.getD_eq_getElem?_getD]

theorem used_set_not {fs : List F} {n : Nat} {f : F} (hn : n < fs.length) : ∀ {l : Nm}, (∀ p ∈ l, p.2 ≠ n) → used (fs.set n f) l = used fs l
  | [], _ => rfl
  | p :: r, h => by
    rw [used_cons, used_cons, lens_set _ _ _ _ hn, if_neg (h p (List.mem_cons_self ..)), used_set_not hn (fun q hq => h q (List.mem_cons_of_mem _ hq))]

theorem used_set {fs : List F} {n : Nat} {f : F} (hn : n < fs.length) : ∀ {l : Nm}, Sorted l → (∀ p ∈ l, ∀ q ∈ l, p.2 = q.2 → p = q) → ∀ k, (k, n) ∈ l → used (fs.set n f) l + lens fs n = used fs l + f.data.length
  | [], _, _, k, h => by cases h
  | p :: r, hs, ho, k, h => by
    obtain ⟨h1, h2⟩ := List.pairwise_cons.1 hs
    rw [used_cons, used_cons, lens_set _ _ _ _ hn]
    rcases List.mem_cons.1 h with e | e
    · subst e
      have : ∀ q ∈ r, q.2 ≠ n := fun q hq he => by
        have := ho (k, n) (List.mem_cons_self ..) q (List.mem_cons_of_mem _ hq) he.symm
        exact before_ne (h1 q hq) (by rw [← this])
      rw [if_pos rfl, used_set_not hn this]
      simp only
      omega
    · have hp : p.2 ≠ n := fun he => by
        have := ho p (List.mem_cons_self ..) (k, n) (List.mem_cons_of_mem _ e) he
        exact before_ne (h1 _ e) (by rw [this])
      rw [if_neg hp]
      have := used_set (fs := fs) (f := f) hn h2 (fun a ha b hb => ho a (List.mem_cons_of_mem _ ha) b (List.mem_cons_of_mem _ hb)) k e
      omega

end DM
end Go.Proofs.YtjkofciohehgfaaGreatDoor.L8


