/- Plain mathematics of layer 2: keys stand in the order of their parts. No program here. -/
import Derived.Test.YtnkofinielabkaaKmB
namespace Go.Proofs.Ytnkofinielabkaa.KM
open Go
open Go.Lib (compareBytes)

def cmpPart (p q : KP) : Int :=
  if p.t = true then (if q.t = true then compareBytes p.s.data.toList q.s.data.toList else 1)
  else if q.t = true then -1 else if p.n < q.n then -1 else if q.n < p.n then 1 else 0

def cmpList : List KP → List KP → Int
  | [], [] => 0
  | [], _ :: _ => -1
  | _ :: _, [] => 1
  | p :: l, q :: m => if cmpPart p q = 0 then cmpList l m else cmpPart p q

theorem cmpBytes_range (a b : List UInt8) : compareBytes a b = -1 ∨ compareBytes a b = 0 ∨ compareBytes a b = 1 := by
  induction a generalizing b with
  | nil => cases b <;> simp [compareBytes]
  | cons x a ih =>
    cases b with
    | nil => simp [compareBytes]
    | cons y b =>
      simp only [compareBytes]
      split
      · simp
      · split
        · simp
        · exact ih b

theorem cmpBytes_eq {a b : List UInt8} (h : compareBytes a b = 0) : a = b := by
  induction a generalizing b with
  | nil => cases b with
    | nil => rfl
    | cons y b => simp [compareBytes] at h
  | cons x a ih =>
    cases b with
    | nil => simp [compareBytes] at h
    | cons y b =>
      simp only [compareBytes] at h
      split at h
      · simp at h
      · split at h
        · simp at h
        · rename_i h1 h2
          rw [UInt8.le_antisymm (UInt8.not_lt.1 h2) (UInt8.not_lt.1 h1), ih h]

theorem cmpBytes_self (a : List UInt8) : compareBytes a a = 0 := by
  induction a with
  | nil => rfl
  | cons x a ih => simp [compareBytes, ih, UInt8.lt_irrefl]

theorem cmpBytes_swap (a b : List UInt8) : compareBytes b a = - compareBytes a b := by
  induction a generalizing b with
  | nil => cases b <;> simp [compareBytes]
  | cons x a ih =>
    cases b with
    | nil => simp [compareBytes]
    | cons y b =>
      simp only [compareBytes]
      by_cases h1 : x < y
      · have h2 : ¬ y < x := fun h => absurd (UInt8.lt_trans h1 h) (UInt8.lt_irrefl _)
        rw [if_pos h1, if_neg h2, if_pos h1]; rfl
      · by_cases h2 : y < x
        · rw [if_pos h2, if_neg h1, if_pos h2]
        · rw [if_neg h2, if_neg h1, if_neg h1, if_neg h2, ih]

theorem cmpPart_range (p q : KP) : cmpPart p q = -1 ∨ cmpPart p q = 0 ∨ cmpPart p q = 1 := by
  unfold cmpPart
  split
  · split
    · exact cmpBytes_range _ _
    · simp
  · split
    · simp
    · split
      · simp
      · split <;> simp

theorem cmpPart_swap (p q : KP) : cmpPart q p = - cmpPart p q := by
  unfold cmpPart
  by_cases hp : p.t = true <;> by_cases hq : q.t = true
  · rw [if_pos hp, if_pos hq, if_pos hp, if_pos hq, cmpBytes_swap]
  · rw [if_neg hq, if_pos hp, if_pos hp, if_neg hq]
  · rw [if_pos hq, if_neg hp, if_neg hp, if_pos hq]; rfl
  · rw [if_neg hq, if_neg hp, if_neg hp, if_neg hq]
    by_cases h1 : p.n < q.n
    · rw [if_neg (by omega), if_pos h1, if_pos h1]; rfl
    · by_cases h2 : q.n < p.n
      · rw [if_pos h2, if_neg h1, if_pos h2]
      · rw [if_neg h2, if_neg h1, if_neg h1, if_neg h2]; rfl

theorem cmpList_range (l m : List KP) : cmpList l m = -1 ∨ cmpList l m = 0 ∨ cmpList l m = 1 := by
  induction l generalizing m with
  | nil => cases m <;> simp [cmpList]
  | cons p l ih =>
    cases m with
    | nil => simp [cmpList]
    | cons q m =>
      simp only [cmpList]
      split
      · exact ih m
      · exact cmpPart_range p q

theorem cmpList_swap (l m : List KP) : cmpList m l = - cmpList l m := by
  induction l generalizing m with
  | nil => cases m <;> simp [cmpList]
  | cons p l ih =>
    cases m with
    | nil => simp [cmpList]
    | cons q m =>
      simp only [cmpList]
      rw [cmpPart_swap p q, ih m]
      by_cases h : cmpPart p q = 0
      · rw [if_pos (by omega), if_pos h]
      · rw [if_neg (by omega), if_neg h]

/-! ### the bytes' order -/

theorem esc_less {a b : List UInt8} (h : compareBytes a b = -1) (r1 r2 : List UInt8) : less (esc a ++ 0 :: 1 :: r1) (esc b ++ 0 :: 1 :: r2) = true := by
  induction a generalizing b with
  | nil =>
    cases b with
    | nil => simp [compareBytes] at h
    | cons y b =>
      by_cases hy : y = 0
      · subst hy; simp [esc, less_cons]
      · have : (0 : UInt8) < y := by
          apply UInt8.lt_iff_toNat_lt.2
          have : y.toNat ≠ 0 := fun e => hy (UInt8.toNat_inj.1 e)
          have e0 : (0 : UInt8).toNat = 0 := rfl
          omega
        simp [esc, hy, less_cons, this]
  | cons x a ih =>
    cases b with
    | nil => simp [compareBytes] at h
    | cons y b =>
      simp only [compareBytes] at h
      by_cases h1 : x < y
      · have hy : y ≠ 0 := by
          rintro rfl
          have := UInt8.lt_iff_toNat_lt.1 h1
          have e0 : (0 : UInt8).toNat = 0 := rfl
          omega
        by_cases hx : x = 0
        · subst hx; simp [esc, hy, less_cons, h1]
        · simp [esc, hx, hy, less_cons, h1]
      · rw [if_neg h1] at h
        by_cases h2 : y < x
        · rw [if_pos h2] at h; simp at h
        · rw [if_neg h2] at h
          obtain rfl := UInt8.le_antisymm (UInt8.not_lt.1 h2) (UInt8.not_lt.1 h1)
          have h3 := ih h
          by_cases hx : x = 0
          · subst hx; simpa [esc, less_cons] using h3
          · simpa [esc, hx, less_cons] using h3

/-- k bytes, the highest first -/
def beN (v : Nat) : Nat → List UInt8
  | 0 => []
  | k + 1 => (v / 256 ^ k).toUInt8 :: beN v k

theorem beN_eight (v : Nat) : beTo v 8 = beN v 8 := by
  simp [beTo, beN, byteAt, List.range_succ]

theorem u8_less {a b : Nat} (h : a % 256 < b % 256) : a.toUInt8 < b.toUInt8 := by
  apply UInt8.lt_iff_toNat_lt.2
  simp only [Nat.toUInt8, UInt8.toNat_ofNat']
  omega

theorem beN_less (u v : Nat) : ∀ k, u % 256 ^ k < v % 256 ^ k → ∀ r1 r2, less (beN u k ++ r1) (beN v k ++ r2) = true := by
  intro k
  induction k with
  | zero => intro h; simp [Nat.mod_one] at h
  | succ k ih =>
    intro h r1 r2
    simp only [beN, List.cons_append, less_cons]
    have hu : u % 256 ^ (k + 1) = (u / 256 ^ k % 256) * 256 ^ k + u % 256 ^ k := by
      rw [Nat.pow_succ, Nat.mod_mul, Nat.mul_comm]; omega
    have hv : v % 256 ^ (k + 1) = (v / 256 ^ k % 256) * 256 ^ k + v % 256 ^ k := by
      rw [Nat.pow_succ, Nat.mod_mul, Nat.mul_comm]; omega
    have hp : 0 < 256 ^ k := Nat.pow_pos (by decide)
    have mu := Nat.mod_lt u hp
    have mv := Nat.mod_lt v hp
    rw [hu, hv] at h
    generalize hA : u / 256 ^ k = A at *
    generalize hB : v / 256 ^ k = B at *
    rcases Nat.lt_trichotomy (A % 256) (B % 256) with hlt | heq | hgt
    · simp [u8_less hlt]
    · have he : A.toUInt8 = B.toUInt8 := by
        apply UInt8.toNat_inj.1
        simp only [Nat.toUInt8, UInt8.toNat_ofNat']
        omega
      rw [heq] at h
      have := ih (by omega) r1 r2
      simp [he, this]
    · exfalso
      have h1 : (B % 256 + 1) * 256 ^ k ≤ (A % 256) * 256 ^ k := Nat.mul_le_mul_right _ hgt
      rw [Nat.add_mul, Nat.one_mul] at h1
      omega

theorem penc_less {p q : KP} (hp : -9223372036854775808 ≤ p.n ∧ p.n ≤ 9223372036854775807) (hq : -9223372036854775808 ≤ q.n ∧ q.n ≤ 9223372036854775807) (h : cmpPart p q = -1) (r1 r2 : List UInt8) :
    less (penc p ++ r1) (penc q ++ r2) = true := by
  unfold cmpPart at h
  unfold penc
  by_cases htp : p.t = true <;> by_cases htq : q.t = true
  · rw [if_pos htp, if_pos htq] at h ⊢
    have := esc_less h r1 r2
    simpa [less_cons] using this
  · rw [if_pos htp, if_neg htq] at h; simp at h
  · rw [if_neg htp, if_pos htq] at ⊢
    simp [less_cons]
  · rw [if_neg htp, if_neg htq] at h ⊢
    by_cases h1 : p.n < q.n
    · rw [beN_eight, beN_eight]
      have := beN_less (up p.n) (up q.n) 8 (by
        rw [Nat.mod_eq_of_lt (by have := up_lt hp.1 hp.2; exact this), Nat.mod_eq_of_lt (by have := up_lt hq.1 hq.2; exact this)]
        unfold up; omega) r1 r2
      simpa [less_cons] using this
    · rw [if_neg h1] at h
      split at h <;> simp at h

theorem penc_eq {p q : KP} (h : cmpPart p q = 0) : penc p = penc q := by
  unfold cmpPart at h
  unfold penc
  by_cases htp : p.t = true <;> by_cases htq : q.t = true
  · rw [if_pos htp, if_pos htq] at h ⊢
    rw [cmpBytes_eq h]
  · rw [if_pos htp, if_neg htq] at h; simp at h
  · rw [if_neg htp, if_pos htq] at h; simp at h
  · rw [if_neg htp, if_neg htq] at h ⊢
    by_cases h1 : p.n < q.n
    · rw [if_pos h1] at h; simp at h
    · rw [if_neg h1] at h
      by_cases h2 : q.n < p.n
      · rw [if_pos h2] at h; simp at h
      · rw [show p.n = q.n by omega]

theorem penc_pos (p : KP) : ∃ c r, penc p = c :: r := by
  unfold penc; split
  · exact ⟨_, _, rfl⟩
  · exact ⟨_, _, rfl⟩

def inRange (l : List KP) : Prop := ∀ p ∈ l, -9223372036854775808 ≤ p.n ∧ p.n ≤ 9223372036854775807

theorem encs_less {l m : List KP} (hl : inRange l) (hm : inRange m) (h : cmpList l m = -1) : less (l.flatMap penc) (m.flatMap penc) = true := by
  induction l generalizing m with
  | nil =>
    cases m with
    | nil => simp [cmpList] at h
    | cons q m =>
      obtain ⟨c, r, e⟩ := penc_pos q
      simp only [List.flatMap_cons, List.flatMap_nil, e, List.cons_append]
      rfl
  | cons p l ih =>
    cases m with
    | nil => simp [cmpList] at h
    | cons q m =>
      simp only [cmpList] at h
      simp only [List.flatMap_cons]
      by_cases h0 : cmpPart p q = 0
      · rw [if_pos h0] at h
        rw [penc_eq h0, less_app]
        exact ih (fun x hx => hl x (by simp [hx])) (fun x hx => hm x (by simp [hx])) h
      · rw [if_neg h0] at h
        exact penc_less (hl p (by simp)) (hm q (by simp)) h _ _

theorem encs_eq {l m : List KP} (h : cmpList l m = 0) : l.flatMap penc = m.flatMap penc := by
  induction l generalizing m with
  | nil =>
    cases m with
    | nil => rfl
    | cons q m => simp [cmpList] at h
  | cons p l ih =>
    cases m with
    | nil => simp [cmpList] at h
    | cons q m =>
      simp only [cmpList] at h
      simp only [List.flatMap_cons]
      by_cases h0 : cmpPart p q = 0
      · rw [if_pos h0] at h
        rw [penc_eq h0, ih h]
      · rw [if_neg h0] at h; exact absurd h h0

/-- KEYS STAND IN THE ORDER OF THEIR PARTS -/
theorem encs_order {l m : List KP} (hl : inRange l) (hm : inRange m) :
    (cmpList l m = -1 ∧ less (l.flatMap penc) (m.flatMap penc) = true ∧ less (m.flatMap penc) (l.flatMap penc) = false ∧ l.flatMap penc ≠ m.flatMap penc) ∨
    (cmpList l m = 0 ∧ l.flatMap penc = m.flatMap penc) ∨
    (cmpList l m = 1 ∧ less (l.flatMap penc) (m.flatMap penc) = false ∧ less (m.flatMap penc) (l.flatMap penc) = true ∧ l.flatMap penc ≠ m.flatMap penc) := by
  rcases cmpList_range l m with h | h | h
  · left
    have h1 := encs_less hl hm h
    refine ⟨h, h1, less_asymm h1, fun e => ?_⟩
    rw [e, less_irrefl] at h1; simp at h1
  · right; left; exact ⟨h, encs_eq h⟩
  · right; right
    have h1 := encs_less hm hl (by rw [cmpList_swap, h])
    refine ⟨h, less_asymm h1, h1, fun e => ?_⟩
    rw [e, less_irrefl] at h1; simp at h1
end Go.Proofs.Ytnkofinielabkaa.KM
