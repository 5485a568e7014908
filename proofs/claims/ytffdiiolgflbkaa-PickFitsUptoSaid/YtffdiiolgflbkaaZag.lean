/- Texts joined by bundle.py: VarBits. -/
import Derived.Test.YtffdiiolgflbkaaZaf
import Derived.Laws.Wrap64
import Derived.RowKit

/- The bits of layer 1's turned numbers, as the code computes them. No program here. -/
namespace Go.Proofs.Ytffdiiolgflbkaa.VM
open Go.Lib Go.RowKit

theorem u64_xor_zero (a : Nat) (ha : a < 18446744073709551616) : bits .xor .u64 (a : Int) 0 = a := by
  have h := bits_xor_u64_nat a 0 ha (by decide)
  simpa using h

theorem u64_xor_comm (a b : Int) : bits .xor .u64 a b = bits .xor .u64 b a := by
  show IntKind.u64.wrap ((BitVec.ofInt 64 a ^^^ BitVec.ofInt 64 b).toNat : Int) = IntKind.u64.wrap ((BitVec.ofInt 64 b ^^^ BitVec.ofInt 64 a).toNat : Int)
  rw [BitVec.xor_comm]

theorem i64_xor_comm (a b : Int) : bits .xor .i64 a b = bits .xor .i64 b a := by
  show IntKind.i64.wrap ((BitVec.ofInt 64 a ^^^ BitVec.ofInt 64 b).toNat : Int) = IntKind.i64.wrap ((BitVec.ofInt 64 b ^^^ BitVec.ofInt 64 a).toNat : Int)
  rw [BitVec.xor_comm]

theorem i64_xor_zero (a : Nat) (ha : a < 9223372036854775808) : bits .xor .i64 (a : Int) 0 = a := by
  show IntKind.i64.wrap ((BitVec.ofInt 64 a ^^^ BitVec.ofInt 64 0).toNat : Int) = _
  have h0 : BitVec.ofInt 64 0 = 0#64 := by decide
  rw [h0, BitVec.xor_zero]
  have h2 : (BitVec.ofInt 64 (a : Int)).toNat = a := by
    rw [BitVec.ofInt_natCast, BitVec.toNat_ofNat]; exact Nat.mod_eq_of_lt (by omega)
  rw [h2, IntKind.wrap_i64]
  omega

theorem turn_pos {n : Int} (h0 : 0 ≤ n) (h1 : n ≤ 9223372036854775807) : bits .xor .u64 (n * 2) (n / 9223372036854775808) = zigzag n := by
  have e : n / 9223372036854775808 = 0 := by omega
  have e2 : n * 2 = ((zigzag n : Nat) : Int) := (zigzag_nonneg h0).symm
  rw [e, e2, u64_xor_zero _ (zigzag_lt (by omega) h1)]

theorem turn_neg {n : Int} (h0 : -9223372036854775808 ≤ n) (h1 : n < 0) :
    bits .xor .u64 (IntKind.u64.wrap (IntKind.u64.wrap n * 2)) (IntKind.u64.wrap (n / 9223372036854775808)) = zigzag n := by
  have e : n / 9223372036854775808 = -1 := by omega
  have e2 : IntKind.u64.wrap (-1) = IntKind.u64.max := by decide
  rw [e, e2, u64_xor_comm, zigzag_neg h0 h1]

theorem turn_back {v : Nat} (h : v < 18446744073709551616) : bits .xor .i64 ((v : Int) / 2) (wrap64 (-wrap64 (bits .and .u64 (v : Int) 1))) = unzig v := by
  rw [u64_and1 _ (by omega) (by omega)]
  have e : wrap64 ((v : Int) % 2) = (v : Int) % 2 := by unfold wrap64; omega
  have e2 : wrap64 (-((v : Int) % 2)) = -((v : Int) % 2) := by unfold wrap64; omega
  rw [e, e2]
  have e3 : (v : Int) / 2 = ((v / 2 : Nat) : Int) := by omega
  unfold unzig
  by_cases hv : v % 2 = 0
  · have e4 : -((v : Int) % 2) = 0 := by omega
    rw [if_pos hv, e4, e3, i64_xor_zero _ (by omega)]
  · have e4 : -((v : Int) % 2) = -1 := by omega
    rw [if_neg hv, e4, e3, i64_xor_comm, i64_not _ (by omega)]
set_option maxRecDepth 100000 in
theorem andNot128_fin : ∀ a : Fin 256, bits .andNot .u8 (a.val : Int) 128 = ((a.val % 128 : Nat) : Int) := by decide +kernel

theorem andNot128 (c : UInt8) : bits .andNot .u8 (c.toNat : Int) 128 = ((c.toNat % 128 : Nat) : Int) := andNot128_fin ⟨c.toNat, c.toNat_lt⟩

/-- seven bits more, above those that are there -/
theorem or_step {u k m : Nat} (hu : u < 128 ^ k) (hs : u + 128 ^ k * m < 18446744073709551616) :
    bits .or .u64 (u : Int) (IntKind.u64.wrap ((m : Int) * 2 ^ (7 * k))) = ((u + 128 ^ k * m : Nat) : Int) := by
  have e : (128 : Nat) ^ k = 2 ^ (7 * k) := by rw [Nat.pow_mul]
  have e2 : ((m : Int) * 2 ^ (7 * k)) = ((128 ^ k * m : Nat) : Int) := by
    rw [e, Int.natCast_mul, Int.mul_comm]; simp
  have hw : IntKind.u64.wrap ((m : Int) * 2 ^ (7 * k)) = ((128 ^ k * m : Nat) : Int) := by
    rw [e2, IntKind.wrap_u64]; omega
  rw [hw]
  have hmod : ((128 ^ k * m : Nat) : Int) % 2 ^ (7 * k) = 0 := by
    rw [e]
    exact Int.emod_eq_zero_of_dvd ⟨(m : Int), by simp⟩
  have hlt : (u : Int) < 2 ^ (7 * k) := by
    rw [e] at hu
    exact_mod_cast hu
  have h := bits_join_low .u64 64 (by decide) wraps_u64 (7 * k) (u : Int) ((128 ^ k * m : Nat) : Int) (by omega) hlt (by omega) (by omega) hmod (by omega)
  rw [h]
  simp
end Go.Proofs.Ytffdiiolgflbkaa.VM

