/- Plain mathematics of a log's names: eight decimal digits. No function of the program. -/
import Derived.Test.YtgknkldhjejjmaaDoorKit
namespace Go.Proofs.YtgknkldhjejjmaaDoor
namespace WN

abbrev Bs := List UInt8
def dig (n : Nat) : UInt8 := (48 + n % 10).toUInt8
/-- the last k decimal digits of a number -/
def digs : Nat → Nat → Bs
  | 0, _ => []
  | k + 1, n => digs k (n / 10) ++ [dig n]
def goodKind (k : Bs) : Bool := !k.isEmpty && k.all (fun c => decide (97 ≤ c.toNat) && decide (c.toNat ≤ 122))
/-- the name of a file of a kind and a number; the empty text, if there is none -/
def file (k : Bs) (n : Int) : Bs := if goodKind k = true ∧ 0 ≤ n ∧ n < 100000000 then k ++ 45 :: digs 8 n.toNat else []
def isDig (c : UInt8) : Bool := decide (48 ≤ c.toNat) && decide (c.toNat ≤ 57)
def val (l : Bs) : Nat := l.foldl (fun a c => 10 * a + (c.toNat - 48)) 0
/-- the number of which a name is that of a file of the kind -/
def number (k name : Bs) : Int × Bool :=
  if name.length ≠ k.length + 9 then (0, false)
  else if (name.drop (k.length + 1)).all isDig = false then (0, false)
  else if file k (val (name.drop (k.length + 1)) : Nat) = name then ((val (name.drop (k.length + 1)) : Nat), true) else (0, false)

theorem digs_len : ∀ k n, (digs k n).length = k
  | 0, _ => rfl
  | k + 1, n => by simp [digs, digs_len k]

theorem digs_cons : ∀ k n, digs (k + 1) n = dig (n / 10 ^ k) :: digs k n
  | 0, n => by simp [digs]
  | k + 1, n => by
    have h : digs (k + 2) n = digs (k + 1) (n / 10) ++ [dig n] := rfl
    rw [h, digs_cons k (n / 10), Nat.div_div_eq_div_mul, Nat.pow_succ, Nat.mul_comm (10 ^ k) 10]
    rfl

theorem dig_nat (n : Nat) : (dig n).toNat = 48 + n % 10 := by
  unfold dig
  rw [Nat.toUInt8, UInt8.toNat_ofNat']
  have := Nat.mod_lt n (show 0 < 10 by decide)
  omega
theorem dig_is (n : Nat) : isDig (dig n) = true := by
  unfold isDig
  rw [dig_nat]
  have := Nat.mod_lt n (show 0 < 10 by decide)
  simp; omega
theorem digs_all : ∀ k n, (digs k n).all isDig = true
  | 0, _ => rfl
  | k + 1, n => by simp [digs, digs_all k, dig_is]

theorem val_snoc (l : Bs) (c : UInt8) : val (l ++ [c]) = 10 * val l + (c.toNat - 48) := by simp [val]
theorem val_digs : ∀ k n, val (digs k n) = n % 10 ^ k
  | 0, n => by simp [digs, val, Nat.mod_one]
  | k + 1, n => by
    have h : digs (k + 1) n = digs k (n / 10) ++ [dig n] := rfl
    rw [h, val_snoc, val_digs k, dig_nat, Nat.pow_succ, Nat.mul_comm (10 ^ k) 10, Nat.mod_mul]
    omega
theorem fold_lt : ∀ (l : Bs) (a b : Nat), l.all isDig = true → a < b → l.foldl (fun a c => 10 * a + (c.toNat - 48)) a < b * 10 ^ l.length
  | [], a, b, _, h => by simpa using h
  | c :: l, a, b, hl, h => by
    simp only [List.all_cons, Bool.and_eq_true] at hl
    have hc := hl.1
    unfold isDig at hc
    simp only [Bool.and_eq_true, decide_eq_true_eq] at hc
    have h2 := fold_lt l (10 * a + (c.toNat - 48)) (10 * b) hl.2 (by omega)
    have e : b * 10 ^ (c :: l).length = 10 * b * 10 ^ l.length := by rw [List.length_cons, Nat.pow_succ, Nat.mul_comm 10 b, Nat.mul_assoc, Nat.mul_comm 10]
    rw [List.foldl_cons, e]
    exact h2
theorem val_lt (l : Bs) (h : l.all isDig = true) : val l < 10 ^ l.length := by
  have := fold_lt l 0 1 h (by decide)
  simpa [val] using this

theorem file_number (k : Bs) (n : Int) (hg : goodKind k = true) (h0 : 0 ≤ n) (h1 : n < 100000000) : number k (file k n) = (n, true) := by
  have hf : file k n = k ++ 45 :: digs 8 n.toNat := by unfold file; rw [if_pos ⟨hg, h0, h1⟩]
  have hd : (file k n).drop (k.length + 1) = digs 8 n.toNat := by rw [hf]; simp
  have hv : (val (digs 8 n.toNat) : Int) = n := by rw [val_digs]; omega
  unfold number
  rw [hd, digs_all, hv]
  rw [if_neg (by rw [hf]; simp [digs_len]), if_neg (by decide), if_pos rfl]
theorem file_len (k : Bs) (n : Int) : (file k n).length = 0 ∨ (file k n).length = k.length + 9 := by
  unfold file
  split
  · right; simp [digs_len]
  · left; rfl
theorem log7 : file [108, 111, 103] 7 = [108, 111, 103, 45, 48, 48, 48, 48, 48, 48, 48, 55] := by decide
theorem log1 : file [108, 111, 103] 1 = [108, 111, 103, 45, 48, 48, 48, 48, 48, 48, 48, 49] := by decide
theorem log2 : file [108, 111, 103] 2 = [108, 111, 103, 45, 48, 48, 48, 48, 48, 48, 48, 50] := by decide
end WN
end Go.Proofs.YtgknkldhjejjmaaDoor
