/- Texts joined by bundle.py: Wm. -/
import Derived.Test.YtgknkldhjejjmaaGreatDoorZaa
import Derived.Lib.ItoaNum
import Derived.Lib.Repeat
import Derived.Lib.ParseIntBTie

/- Plain mathematics of a log's names, second part: numerals with zeros ahead, and what is read of them. No function of the program. -/
namespace Go.Proofs.YtgknkldhjejjmaaGreatDoor
namespace WN
open Go.Lib

theorem digs_zero : ∀ k, digs k 0 = List.replicate k 48
  | 0 => rfl
  | k + 1 => by
    have h : digs (k + 1) 0 = digs k (0 / 10) ++ [dig 0] := rfl
    rw [h, Nat.zero_div, digs_zero k, List.replicate_succ']
    rfl

theorem pad : ∀ (k n : Nat), nDigits n ≤ k → List.replicate (k - nDigits n) 48 ++ decDigits n = digs k n
  | 0, n, h => by have := nDigits_pos n; omega
  | k + 1, n, h => by
    have hd : digs (k + 1) n = digs k (n / 10) ++ [dig n] := rfl
    by_cases hn : n < 10
    · rw [nDigits_small hn, hd, Nat.div_eq_of_lt hn, digs_zero, decDigits_one hn]
      unfold dig
      rw [Nat.mod_eq_of_lt hn]
      rfl
    · rw [nDigits_big hn] at h ⊢
      rw [hd, ← pad k (n / 10) (by omega), show k + 1 - (nDigits (n / 10) + 1) = k - nDigits (n / 10) by omega, List.append_assoc]
      congr 1
      rw [decDigits, dif_neg hn]
      rfl

theorem nDigits_le : ∀ (k n : Nat), 1 ≤ k → n < 10 ^ k → nDigits n ≤ k
  | 0, n, h, _ => by omega
  | k + 1, n, _, h => by
    by_cases hn : n < 10
    · rw [nDigits_small hn]; omega
    · rw [nDigits_big hn]
      have hk : 1 ≤ k := by
        rcases Nat.eq_zero_or_pos k with e | e
        · subst e; simp at h; omega
        · exact e
      have := nDigits_le k (n / 10) hk (by rw [Nat.pow_succ] at h; omega)
      omega

theorem repeat_one (c : UInt8) : ∀ k, repeatL [c] k = List.replicate k c
  | 0 => rfl
  | k + 1 => by
    show [c] ++ repeatL [c] k = _
    rw [repeat_one c k]
    rfl

theorem numeral (n : Nat) (h : n < 100000000) : (decDigits n).length ≤ 8 ∧ repeatL [48] (8 - (decDigits n).length) ++ decDigits n = digs 8 n := by
  have h8 := nDigits_le 8 n (by decide) (by omega)
  rw [decDigits_length]
  exact ⟨h8, by rw [repeat_one]; exact pad 8 n h8⟩

abbrev fold (a : Nat) (l : Bs) : Nat := l.foldl (fun a c => 10 * a + (c.toNat - 48)) a

theorem parse_fold : ∀ (l : Bs) (a : Nat), l.all isDig = true → (a + 1) * 10 ^ l.length ≤ 1000000000 → parseUintM 18446744073709551615 a l = .ok (fold a l)
  | [], a, _, _ => rfl
  | c :: l, a, hl, h => by
    simp only [List.all_cons, Bool.and_eq_true] at hl
    have hc := hl.1
    unfold isDig at hc
    simp only [Bool.and_eq_true, decide_eq_true_eq] at hc
    have hp : 1 ≤ 10 ^ l.length := Nat.one_le_pow _ _ (by decide)
    have e : (a + 1) * 10 ^ (c :: l).length = (10 * a + 10) * 10 ^ l.length := by rw [List.length_cons, Nat.pow_succ, Nat.mul_comm (10 ^ l.length) 10, ← Nat.mul_assoc]; congr 1; omega
    rw [e] at h
    have h2 : (10 * a + 10) ≤ (10 * a + 10) * 10 ^ l.length := Nat.le_mul_of_pos_right _ hp
    have h3 : (10 * a + (c.toNat - 48) + 1) * 10 ^ l.length ≤ (10 * a + 10) * 10 ^ l.length := Nat.mul_le_mul_right _ (by omega)
    have ih := parse_fold l (10 * a + (c.toNat - 48)) hl.2 (by omega)
    unfold parseUintM
    rw [if_pos hc, if_neg (by omega), if_neg (by omega), show a * 10 + (c.toNat - 48) = 10 * a + (c.toNat - 48) by omega, ih]
    rfl

theorem parse_digs (n : Nat) (h : n < 100000000) : parseIntB 64 (digs 8 n) = .ok (n : Int) := by
  have hd : digs 8 n = dig (n / 10 ^ 7) :: digs 7 n := digs_cons 7 n
  have h1 := dig_nat (n / 10 ^ 7)
  have hu : parseUintB 64 (digs 8 n) = .ok n := by
    unfold parseUintB
    rw [if_neg (by rw [hd]; exact List.cons_ne_nil _ _)]
    have := parse_fold (digs 8 n) 0 (digs_all 8 n) (by rw [digs_len]; decide)
    have hv : fold 0 (digs 8 n) = n := by
      have := val_digs 8 n
      unfold val at this
      rw [show fold 0 (digs 8 n) = n % 10 ^ 8 from this]
      omega
    rw [hv] at this
    exact this
  rw [hd]
  rw [parseIntB_plain 64 _ _ (by rw [h1]; omega) (by rw [h1]; omega), ← hd, hu]
  unfold signlessC
  simp
  omega

/-- a name of a kind -/
def Is (k name : Bs) (v : Nat) : Prop := goodKind k = true ∧ v < 100000000 ∧ name = k ++ 45 :: digs 8 v

theorem file_is {k name : Bs} {n : Int} (h : file k n = name) (hne : name ≠ []) : 0 ≤ n ∧ Is k name n.toNat := by
  unfold file at h
  split at h
  · rename_i hc
    exact ⟨hc.2.1, hc.1, by omega, h.symm⟩
  · exact absurd h.symm hne

theorem is_file {k name : Bs} {v : Nat} (h : Is k name v) : file k v = name := by
  unfold file
  rw [if_pos ⟨h.1, by omega, by have := h.2.1; omega⟩, h.2.2]
  rfl

theorem number_is {k name : Bs} {v : Nat} (h : Is k name v) : number k name = ((v : Int), true) := by
  rw [← is_file h]
  exact file_number k v h.1 (by omega) (by have := h.2.1; omega)

theorem number_not {k name : Bs} (h : ∀ v, ¬ Is k name v) : number k name = (0, false) := by
  unfold number
  split
  · rfl
  · rename_i hl
    split
    · rfl
    · split
      · rename_i hf
        exact absurd (file_is hf (by intro e; rw [e] at hl; simp at hl)).2 (h _)
      · rfl

theorem is_last {k name : Bs} {v : Nat} (h : Is k name v) : name.drop (name.length - 8) = digs 8 v := by
  have e : name.length - 8 = (k ++ [45]).length := by rw [h.2.2]; simp [digs_len]
  rw [e, h.2.2, show k ++ 45 :: digs 8 v = (k ++ [45]) ++ digs 8 v by simp, List.drop_left]

theorem number_short {k name : Bs} (h : name.length < 8) : number k name = (0, false) :=
  number_not fun v hv => by
    rw [hv.2.2] at h
    simp [digs_len] at h
    omega

theorem number_bad {k name : Bs} (h : ∀ v, parseIntB 64 (name.drop (name.length - 8)) ≠ .ok v) : number k name = (0, false) :=
  number_not fun v hv => h v (by rw [is_last hv]; exact parse_digs v hv.2.1)

theorem number_same {k name : Bs} {v : Int} (h8 : 8 ≤ name.length) (hf : file k v = name) : number k name = (v, true) := by
  obtain ⟨h0, hi⟩ := file_is hf (by intro e; rw [e] at h8; simp at h8)
  rw [number_is hi]
  congr 1
  omega

theorem number_other {k name : Bs} {v : Int} (hp : parseIntB 64 (name.drop (name.length - 8)) = .ok v) (hf : file k v ≠ name) : number k name = (0, false) :=
  number_not fun u hu => hf (by
    rw [is_last hu, parse_digs u hu.2.1] at hp
    injection hp with hp
    rw [← hp]
    exact is_file hu)

theorem file_none {k : Bs} {n : Int} (h : goodKind k = false ∨ n < 0 ∨ 100000000 ≤ n) : file k n = [] := by
  unfold file
  rw [if_neg]
  rintro ⟨h1, h2, h3⟩
  rcases h with h | h | h
  · rw [h] at h1; cases h1
  · omega
  · omega
theorem file_some {k : Bs} {n : Int} (h : goodKind k = true) (h0 : 0 ≤ n) (h1 : n < 100000000) : file k n = k ++ 45 :: digs 8 n.toNat := by
  unfold file
  rw [if_pos ⟨h, h0, h1⟩]
end WN
end Go.Proofs.YtgknkldhjejjmaaGreatDoor

