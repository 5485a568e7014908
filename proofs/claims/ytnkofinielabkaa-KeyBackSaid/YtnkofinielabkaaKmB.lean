/- Plain mathematics of layer 2: the bytes of parts. No program here. -/
import Derived.Test.YtnkofinielabkaaKmA
import Derived.Laws.BitsAllLaws
import Derived.Laws.BitsLemmas
namespace Go.Proofs.Ytnkofinielabkaa.KM
open Go

/-- a text's bytes, each 00 followed by FF -/
def esc : List UInt8 → List UInt8
  | [] => []
  | c :: r => if c = 0 then 0 :: 255 :: esc r else c :: esc r

theorem esc_append (a b : List UInt8) : esc (a ++ b) = esc a ++ esc b := by
  induction a with
  | nil => rfl
  | cons c a ih =>
    simp only [List.cons_append, esc, ih]
    split <;> simp

theorem esc_one (c : UInt8) : esc [c] = if c = 0 then [0, 255] else [c] := by
  simp only [esc]

theorem esc_len (l : List UInt8) : (esc l).length ≤ 2 * l.length := by
  induction l with
  | nil => simp [esc]
  | cons c r ih =>
    simp only [esc]
    split <;> simp <;> omega

theorem esc_take_succ (l : List UInt8) (k : Nat) (h : k < l.length) : esc (l.take (k + 1)) = esc (l.take k) ++ if l[k] = 0 then [0, 255] else [l[k]] := by
  rw [List.take_succ_eq_append_getElem h, esc_append, esc_one]

/-- the i-th of eight bytes, the highest first -/
def byteAt (v i : Nat) : UInt8 := (v / 256 ^ (7 - i)).toUInt8

/-- the first k of eight bytes -/
def beTo (v k : Nat) : List UInt8 := (List.range k).map (byteAt v)

theorem beTo_succ (v k : Nat) : beTo v (k + 1) = beTo v k ++ [byteAt v k] := by
  simp [beTo, List.range_succ]

theorem byteAt_int (v k : Nat) : ((v : Int) / 2 ^ (8 * (7 - k))) % 256 = ((byteAt v k).toNat : Int) := by
  unfold byteAt
  simp only [Nat.toUInt8, UInt8.toNat_ofNat']
  have e : (256 : Nat) ^ (7 - k) = 2 ^ (8 * (7 - k)) := by rw [Nat.pow_mul]
  rw [e]
  have e2 : ((2 : Int) ^ (8 * (7 - k))) = ((2 ^ (8 * (7 - k)) : Nat) : Int) := by simp
  rw [e2]
  omega

theorem beTo_len (v k : Nat) : (beTo v k).length = k := by simp [beTo]

/-- a number, turned so that it is not below 0 -/
def up (n : Int) : Nat := (n + 9223372036854775808).toNat

theorem xor63 (r : Nat) (h : r < 9223372036854775808) : r ^^^ 9223372036854775808 = r + 9223372036854775808 := by
  have e : (9223372036854775808 : Nat) = 2^63 := by decide
  rw [e] at h ⊢
  apply Nat.eq_of_testBit_eq
  intro i
  rw [Nat.testBit_xor, Nat.testBit_two_pow]
  rw [Nat.add_comm]
  by_cases hi : i = 63
  · subst hi
    rw [Nat.testBit_two_pow_add_eq, Nat.testBit_lt_two_pow h]
    simp
  · have hd : decide (63 = i) = false := by simp; omega
    rw [hd, Bool.xor_false]
    rcases Nat.lt_or_gt_of_ne hi with h1 | h1
    · rw [Nat.testBit_two_pow_add_gt h1]
    · rw [Nat.testBit_lt_two_pow (Nat.lt_of_lt_of_le h (Nat.pow_le_pow_right (by decide) (by omega)))]
      have : 2^63 + r < 2^i := by
        have h2 : 2^64 ≤ 2^i := Nat.pow_le_pow_right (by decide) h1
        have h3 : (2:Nat)^64 = 2^63 + 2^63 := by decide
        omega
      rw [Nat.testBit_lt_two_pow this]
theorem xor63_hi (r : Nat) (h : r < 9223372036854775808) : (r + 9223372036854775808) ^^^ 9223372036854775808 = r := by
  rw [← xor63 r h, Nat.xor_assoc, Nat.xor_self, Nat.xor_zero]

theorem up_lt {n : Int} (h0 : -9223372036854775808 ≤ n) (h1 : n ≤ 9223372036854775807) : up n < 18446744073709551616 := by unfold up; omega

theorem up_xor {n : Int} (h0 : -9223372036854775808 ≤ n) (h1 : n ≤ 9223372036854775807) : bits .xor .u64 (IntKind.u64.wrap n) 9223372036854775808 = ((up n : Nat) : Int) := by
  rw [IntKind.wrap_u64]
  obtain ⟨m, hm⟩ := Int.eq_ofNat_of_zero_le (Int.emod_nonneg n (show (18446744073709551616 : Int) ≠ 0 by decide))
  rw [hm]
  have h := u64_xor_nat m 9223372036854775808 (by omega) (by decide)
  refine h.trans ?_
  congr 1
  unfold up
  rcases Nat.lt_or_ge m 9223372036854775808 with hlt | hge
  · rw [xor63 m hlt]; omega
  · obtain ⟨r, rfl⟩ : ∃ r, m = r + 9223372036854775808 := ⟨m - 9223372036854775808, by omega⟩
    rw [xor63_hi r (by omega)]; omega

structure KP where
  t : Bool
  n : Int
  s : ByteArray

/-- the bytes of a part -/
def penc (p : KP) : List UInt8 := if p.t then 2 :: (esc p.s.data.toList ++ [0, 1]) else 1 :: beTo (up p.n) 8

def bad (p : KP) : Bool := p.t && decide (4096 < p.s.size)

/-- what Make comes to -/
def mk (l : List KP) : List UInt8 × Int := if 16 < l.length ∨ l.any bad then ([], 5) else (l.flatMap penc, 0)

theorem penc_len (p : KP) (h : bad p = false) : (penc p).length ≤ 8195 := by
  unfold penc
  split
  · rename_i ht
    have h2 := esc_len p.s.data.toList
    have h3 : p.s.data.toList.length = p.s.size := by simp
    simp only [bad, ht, Bool.true_and, decide_eq_false_iff_not] at h
    simp only [List.length_cons, List.length_append, List.length_nil]
    omega
  · simp [beTo_len]
end Go.Proofs.Ytnkofinielabkaa.KM
