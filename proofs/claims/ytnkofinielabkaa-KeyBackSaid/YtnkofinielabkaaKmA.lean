/- Plain mathematics of layer 2: the order of texts, and the least text above a beginning. No program here. -/
import Derived.Lib.Bytealg
import Derived.Sort.Walk0
namespace Go.Proofs.Ytnkofinielabkaa.KM
open Go

abbrev less (a b : List UInt8) : Bool := Op.bytesLess a b

theorem less_cons (x y : UInt8) (a b : List UInt8) : less (x :: a) (y :: b) = (decide (x < y) || (x == y && less a b)) := rfl
theorem less_nil (a : List UInt8) : less a [] = false := by cases a <;> rfl
theorem less_nil_cons (y : UInt8) (b : List UInt8) : less [] (y :: b) = true := rfl

theorem less_irrefl (a : List UInt8) : less a a = false := by
  induction a with
  | nil => rfl
  | cons x a ih => simp [less_cons, ih]

theorem less_app (p a b : List UInt8) : less (p ++ a) (p ++ b) = less a b := by
  induction p with
  | nil => rfl
  | cons x p ih => simp [less_cons, ih]

theorem less_total {a b : List UInt8} (h1 : less a b = false) (h2 : less b a = false) : a = b := by
  induction a generalizing b with
  | nil => cases b with
    | nil => rfl
    | cons y b => simp [less_nil_cons] at h1
  | cons x a ih => cases b with
    | nil => simp [less_nil_cons] at h2
    | cons y b =>
      simp only [less_cons, Bool.or_eq_false_iff, decide_eq_false_iff_not, Bool.and_eq_false_iff] at h1 h2
      have e : x = y := UInt8.le_antisymm (UInt8.not_lt.1 h2.1) (UInt8.not_lt.1 h1.1)
      subst e
      rw [ih (by simpa using h1.2) (by simpa using h2.2)]

theorem less_asymm {a b : List UInt8} (h : less a b = true) : less b a = false := by
  induction a generalizing b with
  | nil => exact less_nil b
  | cons x a ih => cases b with
    | nil => simp [less_nil] at h
    | cons y b =>
      simp only [less_cons, Bool.or_eq_true, decide_eq_true_eq, Bool.and_eq_true, beq_iff_eq] at h
      simp only [less_cons, Bool.or_eq_false_iff, decide_eq_false_iff_not, Bool.and_eq_false_iff, beq_eq_false_iff_ne]
      rcases h with h | ⟨rfl, h⟩
      · refine ⟨UInt8.not_lt.2 (UInt8.le_of_lt h), Or.inl ?_⟩
        rintro rfl
        exact absurd h (UInt8.lt_irrefl _)
      · exact ⟨UInt8.lt_irrefl _, Or.inr (ih h)⟩

/-- the least text above all that begin with q ++ [c] ++ (bytes FF) -/
theorem above_less (q f m : List UInt8) (c d : UInt8) (h : c < d) : less (q ++ c :: f ++ m) (q ++ [d]) = true := by
  rw [List.append_assoc, less_app]
  simp [less_cons, h]

/-- a text from q ++ c :: f on (f of bytes FF) and below q ++ [c + 1] begins so -/
theorem above_least (q f o : List UInt8) (c d : UInt8) (hd : d.toNat = c.toNat + 1) (hf : ∀ x ∈ f, x = 255) (h1 : less o (q ++ c :: f) = false) (h2 : less o (q ++ [d]) = true) :
    ∃ r, o = q ++ c :: f ++ r := by
  induction q generalizing o with
  | nil =>
    cases o with
    | nil => simp [less_nil_cons] at h1
    | cons x o =>
      simp only [List.nil_append, less_cons, less_nil, Bool.and_false, Bool.or_false, decide_eq_true_eq] at h2
      simp only [List.nil_append, less_cons, Bool.or_eq_false_iff, decide_eq_false_iff_not] at h1
      have e : x = c := by
        apply UInt8.toNat_inj.1
        have a1 := UInt8.lt_iff_toNat_lt.1 h2
        have a2 : ¬ x.toNat < c.toNat := fun h => h1.1 (UInt8.lt_iff_toNat_lt.2 h)
        omega
      subst e
      have h3 : less o f = false := by simpa using h1.2
      clear h1 h2
      have : ∃ r, o = f ++ r := by
        clear hd
        induction f generalizing o with
        | nil => exact ⟨o, rfl⟩
        | cons y f ih =>
          cases o with
          | nil => simp [less_nil_cons] at h3
          | cons z o =>
            obtain rfl : y = 255 := hf y (by simp)
            simp only [less_cons, Bool.or_eq_false_iff, decide_eq_false_iff_not] at h3
            have e : z = 255 := by
              apply UInt8.toNat_inj.1
              have a1 := z.toNat_lt
              have a2 : ¬ z.toNat < (255 : UInt8).toNat := fun h => h3.1 (UInt8.lt_iff_toNat_lt.2 h)
              have a3 : (255 : UInt8).toNat = 255 := rfl
              omega
            subst e
            obtain ⟨r, rfl⟩ := ih (fun x hx => hf x (by simp [hx])) o (by simpa using h3.2)
            exact ⟨r, rfl⟩
      obtain ⟨r, rfl⟩ := this
      exact ⟨r, by simp⟩
  | cons y q ih =>
    cases o with
    | nil => simp [less_nil_cons] at h1
    | cons x o =>
      simp only [List.cons_append, less_cons, Bool.or_eq_false_iff, decide_eq_false_iff_not, Bool.or_eq_true, decide_eq_true_eq, Bool.and_eq_true, beq_iff_eq] at h1 h2
      rcases h2 with h2 | ⟨rfl, h2⟩
      · exact absurd h2 h1.1
      · obtain ⟨r, rfl⟩ := ih o (by simpa using h1.2) h2
        exact ⟨r, by simp⟩

/-- the first k bytes are what is left where the bytes FF at the end are taken off -/
structure Trim (l : List UInt8) (k : Nat) : Prop where
  le : k ≤ l.length
  ff : ∀ j, k ≤ j → (h : j < l.length) → l[j] = 255
  nz : 0 < k → l.getD (k - 1) 0 ≠ 255

/-- what Above comes to -/
def above (l : List UInt8) (k : Nat) : List UInt8 := l.take (k - 1) ++ [l.getD (k - 1) 0 + 1]

theorem trim_split {l : List UInt8} {k : Nat} (h : Trim l k) (hk : 0 < k) : l = l.take (k - 1) ++ l.getD (k - 1) 0 :: l.drop k ∧ ∀ x ∈ l.drop k, x = 255 := by
  have hle := h.le
  have hlt : k - 1 < l.length := by omega
  constructor
  · have e : l.getD (k - 1) 0 = l[k - 1] := by simp [List.getD, hlt]
    rw [e]
    have h2 := List.drop_eq_getElem_cons hlt
    rw [show k - 1 + 1 = k by omega] at h2
    rw [← h2, List.take_append_drop]
  · intro x hx
    obtain ⟨i, hi, rfl⟩ := List.mem_iff_getElem.1 hx
    rw [List.getElem_drop]
    exact h.ff _ (by omega) (by rw [List.length_drop] at hi; omega)

theorem succ_toNat {c : UInt8} (h : c ≠ 255) : (c + 1).toNat = c.toNat + 1 := by
  have h1 := c.toNat_lt
  have h2 : c.toNat ≠ 255 := fun e => h (UInt8.toNat_inj.1 e)
  rw [UInt8.toNat_add]
  have : (1 : UInt8).toNat = 1 := rfl
  omega

theorem above_less_all {l : List UInt8} {k : Nat} (h : Trim l k) (hk : 0 < k) (m : List UInt8) : less (l ++ m) (above l k) = true := by
  obtain ⟨e, -⟩ := trim_split h hk
  conv => lhs; lhs; rw [e]
  exact above_less _ _ _ _ _ (UInt8.lt_iff_toNat_lt.2 (by rw [succ_toNat (h.nz hk)]; omega))

theorem above_begins {l : List UInt8} {k : Nat} (h : Trim l k) (hk : 0 < k) (o : List UInt8) (h1 : less o l = false) (h2 : less o (above l k) = true) : ∃ r, o = l ++ r := by
  obtain ⟨e, hf⟩ := trim_split h hk
  have h3 := above_least (l.take (k - 1)) (l.drop k) o _ _ (succ_toNat (h.nz hk)) hf (by rw [← e]; exact h1) h2
  obtain ⟨r, hr⟩ := h3
  exact ⟨r, by rw [hr, ← e]⟩

theorem above_len {l : List UInt8} {k : Nat} (h : Trim l k) (hk : 0 < k) : (above l k).length = k := by
  have := h.le
  simp [above]
  omega

theorem trim_only {l : List UInt8} {k : Nat} (h : Trim l k) : (∀ x ∈ l, x = 255) ↔ k = 0 := by
  constructor
  · intro hx
    rcases Nat.eq_zero_or_pos k with h0 | h0
    · exact h0
    · have hle := h.le
      have hlt : k - 1 < l.length := by omega
      have h1 := h.nz h0
      have e : l.getD (k - 1) 0 = l[k - 1] := by simp [List.getD, hlt]
      rw [e] at h1
      exact absurd (hx _ (List.getElem_mem hlt)) h1
  · rintro rfl x hx
    obtain ⟨i, hi, rfl⟩ := List.mem_iff_getElem.1 hx
    exact h.ff i (by omega) hi
end Go.Proofs.Ytnkofinielabkaa.KM
