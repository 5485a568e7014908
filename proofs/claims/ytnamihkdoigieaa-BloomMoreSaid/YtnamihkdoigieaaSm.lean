/- Plain mathematics of the check sum. No program here. -/
namespace Go.Proofs.Ytnamihkdoigieaa.FM

/-- the register moved by one bit -/
def turn (c : Nat) : Nat := if c % 2 = 1 then (c / 2) ^^^ 3988292384 else c / 2
/-- .. by k bits -/
def turns : Nat → Nat → Nat
  | 0, c => c
  | k + 1, c => turn (turns k c)
def byte (c : Nat) (b : UInt8) : Nat := turns 8 (c ^^^ b.toNat)
def reg (l : List UInt8) : Nat := l.foldl byte 4294967295
def sum (l : List UInt8) : Nat := 4294967295 - reg l

theorem turn_lt {c : Nat} (h : c < 4294967296) : turn c < 4294967296 := by
  unfold turn
  split
  · exact Nat.xor_lt_two_pow (n := 32) (by omega) (by decide)
  · omega

theorem turns_lt {c : Nat} (h : c < 4294967296) : ∀ k, turns k c < 4294967296
  | 0 => h
  | k + 1 => turn_lt (turns_lt h k)

theorem xor_byte_lt {c : Nat} (h : c < 4294967296) (b : UInt8) : c ^^^ b.toNat < 4294967296 :=
  Nat.xor_lt_two_pow (n := 32) h (by have := b.toNat_lt; omega)

theorem byte_lt {c : Nat} (h : c < 4294967296) (b : UInt8) : byte c b < 4294967296 := turns_lt (xor_byte_lt h b) 8

theorem fold_lt (l : List UInt8) : ∀ {c : Nat}, c < 4294967296 → l.foldl byte c < 4294967296 := by
  induction l with
  | nil => intro c h; exact h
  | cons x r ih => intro c h; exact ih (byte_lt h x)

theorem reg_lt (l : List UInt8) : reg l < 4294967296 := fold_lt l (by decide)
theorem sum_lt (l : List UInt8) : sum l < 4294967296 := by unfold sum; omega

theorem reg_snoc (l : List UInt8) (k : Nat) (h : k < l.length) : reg (l.take (k + 1)) = byte (reg (l.take k)) l[k] := by
  rw [List.take_succ_eq_append_getElem h]
  unfold reg
  rw [List.foldl_append]
  rfl

end Go.Proofs.Ytnamihkdoigieaa.FM
