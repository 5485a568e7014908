/- Texts joined by bundle.py: YTFFmA, YTNSm, YTNBl. -/


/- Plain mathematics of layer 3: the check sum; two texts of one length that differ in one byte have unlike check sums. No program here. -/

namespace Go.Proofs.YtjkofciohehgfaaGreatDoor.L11.F3.FM

/-- the register moved by one bit -/
def turn (c : Nat) : Nat := if c % 2 = 1 then (c / 2) ^^^ 3988292384 else c / 2
/-- .. by k bits -/
def turns : Nat → Nat → Nat
  | 0, c => c
  | k + 1, c => turn (turns k c)
def byte (c : Nat) (b : UInt8) : Nat := turns 8 (c ^^^ b.toNat)
def reg (l : List UInt8) : Nat := l.foldl byte 4294967295
def sum (l : List UInt8) : Nat := 4294967295 - reg l

theorem turn_lt {c : Nat} (h : c < 4294967296) : turn c < 4294967296 := by
  unfold turn
  split
  · exact Nat.xor_lt_two_pow (n := 32) (by omega) (by decide)
  · omega

theorem xor_byte_lt {c : Nat} (h : c < 4294967296) (b : UInt8) : c ^^^ b.toNat < 4294967296 :=
  Nat.xor_lt_two_pow (n := 32) h (by have := b.toNat_lt; omega)

theorem sum_lt (l : List UInt8) : sum l < 4294967296 := by unfold sum; omega

theorem reg_snoc (l : List UInt8) (k : Nat) (h : k < l.length) : reg (l.take (k + 1)) = byte (reg (l.take k)) l[k] := by
  rw [List.take_succ_eq_append_getElem h]
  unfold reg
  rw [List.foldl_append]
  rfl

/-- the head of a body's frame -/
def head (l : List UInt8) : List UInt8 :=
  [(l.length / 256).toUInt8, (l.length % 256).toUInt8, (255 - l.length / 256).toUInt8, (255 - l.length % 256).toUInt8,
    (sum l / 16777216).toUInt8, (sum l / 65536 % 256).toUInt8, (sum l / 256 % 256).toUInt8, (sum l % 256).toUInt8]
def frame (l : List UInt8) : List UInt8 := head l ++ l

theorem head_len (l : List UInt8) : (head l).length = 8 := rfl
theorem frame_len (l : List UInt8) : (frame l).length = 8 + l.length := by simp [frame, head_len]

end Go.Proofs.YtjkofciohehgfaaGreatDoor.L11.F3.FM


/- Plain mathematics of the check sum. No program here. -/

namespace Go.Proofs.YtjkofciohehgfaaGreatDoor.L11.B9.FM

/-- the register moved by one bit -/
def turn (c : Nat) : Nat := if c % 2 = 1 then (c / 2) ^^^ 3988292384 else c / 2
/-- .. by k bits -/
def turns : Nat → Nat → Nat
  | 0, c => c
  | k + 1, c => turn (turns k c)
def byte (c : Nat) (b : UInt8) : Nat := turns 8 (c ^^^ b.toNat)
def reg (l : List UInt8) : Nat := l.foldl byte 4294967295
def sum (l : List UInt8) : Nat := 4294967295 - reg l

theorem turn_lt {c : Nat} (h : c < 4294967296) : turn c < 4294967296 := by
  unfold turn
  split
  · exact Nat.xor_lt_two_pow (n := 32) (by omega) (by decide)
  · omega

theorem xor_byte_lt {c : Nat} (h : c < 4294967296) (b : UInt8) : c ^^^ b.toNat < 4294967296 :=
  Nat.xor_lt_two_pow (n := 32) h (by have := b.toNat_lt; omega)

theorem sum_lt (l : List UInt8) : sum l < 4294967296 := by unfold sum; omega

theorem reg_snoc (l : List UInt8) (k : Nat) (h : k < l.length) : reg (l.take (k + 1)) = byte (reg (l.take k)) l[k] := by
  rw [List.take_succ_eq_append_getElem h]
  unfold reg
  rw [List.foldl_append]
  rfl

end Go.Proofs.YtjkofciohehgfaaGreatDoor.L11.B9.FM


/- Plain mathematics of layer 9: the bits of a key, filters, what is told of them. No program here. -/
namespace Go.Proofs.YtjkofciohehgfaaGreatDoor.L11.B9.BL

abbrev Bs := List UInt8

/-- the bit number i of a key -/
def at_ (k : Bs) (z i : Nat) : Nat := (FM.sum k + i * FM.sum (120 :: k)) % z
/-- the bits of a key -/
def places (k : Bs) (p z : Int) : List Nat := if p < 1 ∨ 8 < p ∨ z < 1 ∨ 16777216 < z then [] else (List.range p.toNat).map (at_ k z.toNat)

theorem places_none {k : Bs} {p z : Int} (h : p < 1 ∨ 8 < p ∨ z < 1 ∨ 16777216 < z) : places k p z = [] := if_pos h
theorem places_some {k : Bs} {p z : Nat} (h : ¬ ((p : Int) < 1 ∨ (8 : Int) < p ∨ (z : Int) < 1 ∨ (16777216 : Int) < z)) : places k p z = (List.range p).map (at_ k z) := by
  unfold places; rw [if_neg h]; rfl

theorem places_len (k : Bs) (p z : Int) : (places k p z).length ≤ 8 := by
  unfold places
  split
  · simp
  · simp only [List.length_map, List.length_range]; omega

theorem places_lt {k : Bs} {p z : Int} {q : Nat} (h : q ∈ places k p z) : (q : Int) < z := by
  unfold places at h
  split at h
  · simp at h
  · rename_i hn
    simp only [List.mem_map, List.mem_range] at h
    obtain ⟨i, -, rfl⟩ := h
    have h1 : at_ k z.toNat i < z.toNat := Nat.mod_lt _ (by omega)
    omega

/-- the byte's bit of a place -/
def mask (p : Nat) : UInt8 := UInt8.ofNat (2 ^ (p % 8))

theorem mask_toNat (p : Nat) : (mask p).toNat = 2 ^ (p % 8) := by
  have h : 2 ^ (p % 8) < 256 := by
    have := Nat.pow_lt_pow_right (a := 2) (by decide) (Nat.mod_lt p (show 8 > 0 by decide))
    simpa using this
  unfold mask
  rw [UInt8.toNat_ofNat', Nat.mod_eq_of_lt h]

/-- a place's bit set -/
def put (S : Bs) (p : Nat) : Bs := S.modify (p / 8) (· ||| mask p)
theorem put_len (S : Bs) (p : Nat) : (put S p).length = S.length := by simp [put]

theorem put_get (S : Bs) (p j : Nat) : (put S p)[j]? = (fun a => if p / 8 = j then a ||| mask p else a) <$> S[j]? := by
  unfold put
  rw [List.getElem?_modify]

theorem put_set (S : Bs) (p : Nat) (h : p / 8 < S.length) : put S p = S.set (p / 8) (S[p / 8] ||| mask p) := by
  apply List.ext_getElem?
  intro j
  rw [put_get, List.getElem?_set]
  by_cases hj : p / 8 = j
  · subst hj
    rw [if_pos rfl, if_pos h, List.getElem?_eq_getElem h]
    simp
  · rw [if_neg hj]
    cases S[j]? <;> simp [hj]

/-- all of a list's places set -/
def puts (S : Bs) (l : List Nat) : Bs := l.foldl put S

theorem puts_len (l : List Nat) : ∀ S : Bs, (puts S l).length = S.length := by
  induction l with
  | nil => intro S; rfl
  | cons p l ih => intro S; show (puts (put S p) l).length = _; rw [ih, put_len]

theorem puts_snoc (S : Bs) (l : List Nat) (k : Nat) (h : k < l.length) : puts S (l.take (k + 1)) = put (puts S (l.take k)) l[k] := by
  rw [List.take_succ_eq_append_getElem h]
  unfold puts
  rw [List.foldl_append]
  rfl

/-- the bits of keys set -/
def fill (p z : Nat) (S : Bs) (l : List Bs) : Bs := l.foldl (fun S k => puts S (places k p z)) S

theorem fill_len (p z : Nat) (l : List Bs) : ∀ S : Bs, (fill p z S l).length = S.length := by
  induction l with
  | nil => intro S; rfl
  | cons k l ih => intro S; show (fill p z (puts S (places k p z)) l).length = _; rw [ih, puts_len]

theorem fill_snoc (p z : Nat) (S : Bs) (l : List Bs) (k : Nat) (h : k < l.length) : fill p z S (l.take (k + 1)) = puts (fill p z S (l.take k)) (places l[k] p z) := by
  rw [List.take_succ_eq_append_getElem h]
  unfold fill
  rw [List.foldl_append]
  rfl

/-- the probes, and the bytes of bits, of a filter -/
def probes (b : Nat) : Nat := min (max (69 * b / 100) 1) 8
def bytes (b n : Nat) : Nat := (max (b * n) 64 + 7) / 8
/-- a filter -/
def filter (b : Nat) (l : List Bs) : Bs := UInt8.ofNat (probes b) :: fill (probes b) (8 * bytes b l.length) (List.replicate (bytes b l.length) 0) l
/-- P9.2 -/
def new (b : Int) (l : List Bs) : Bs × Int :=
  if b < 1 ∨ 16 < b then ([], 2) else if 65536 < l.length then ([], 5) else (filter b.toNat l, 0)
theorem probes_lt (b : Nat) : 1 ≤ probes b ∧ probes b ≤ 8 := by unfold probes; omega

theorem probes_byte (b : Nat) : (UInt8.ofNat (probes b)).toNat = probes b := by
  have := probes_lt b
  rw [UInt8.toNat_ofNat', Nat.mod_eq_of_lt (by simp; omega)]

theorem bytes_lt {b n : Nat} (hb : b ≤ 16) (hn : n ≤ 65536) : 8 ≤ bytes b n ∧ bytes b n ≤ 131072 := by
  have : b * n ≤ 16 * 65536 := Nat.mul_le_mul hb hn
  unfold bytes; omega

theorem filter_len (b : Nat) (l : List Bs) : (filter b l).length = 1 + bytes b l.length := by
  unfold filter
  rw [List.length_cons, fill_len, List.length_replicate]; omega

end Go.Proofs.YtjkofciohehgfaaGreatDoor.L11.B9.BL


