/- Texts joined by bundle.py: NSm, NBl. -/


/- Plain mathematics of the check sum. No program here. -/
namespace Go.Proofs.YtnglaolbfpdgoaaGreat.B9.FM

/-- the register moved by one bit -/
def turn (c : Nat) : Nat := if c % 2 = 1 then (c / 2) ^^^ 3988292384 else c / 2
/-- .. by k bits -/
def turns : Nat → Nat → Nat
  | 0, c => c
  | k + 1, c => turn (turns k c)
def byte (c : Nat) (b : UInt8) : Nat := turns 8 (c ^^^ b.toNat)
def reg (l : List UInt8) : Nat := l.foldl byte 4294967295
def sum (l : List UInt8) : Nat := 4294967295 - reg l

theorem turn_lt {c : Nat} (h : c < 4294967296) : turn c < 4294967296 := by
  unfold turn
  split
  · exact Nat.xor_lt_two_pow (n := 32) (by omega) (by decide)
  · omega

theorem turns_lt {c : Nat} (h : c < 4294967296) : ∀ k, turns k c < 4294967296
  | 0 => h
  | k + 1 => turn_lt (turns_lt h k)

theorem xor_byte_lt {c : Nat} (h : c < 4294967296) (b : UInt8) : c ^^^ b.toNat < 4294967296 :=
  Nat.xor_lt_two_pow (n := 32) h (by have := b.toNat_lt; omega)

theorem byte_lt {c : Nat} (h : c < 4294967296) (b : UInt8) : byte c b < 4294967296 := turns_lt (xor_byte_lt h b) 8

theorem fold_lt (l : List UInt8) : ∀ {c : Nat}, c < 4294967296 → l.foldl byte c < 4294967296 := by
  induction l with
  | nil => intro c h; exact h
  | cons x r ih => intro c h; exact ih (byte_lt h x)

theorem reg_lt (l : List UInt8) : reg l < 4294967296 := fold_lt l (by decide)
theorem sum_lt (l : List UInt8) : sum l < 4294967296 := by unfold sum; omega

theorem reg_snoc (l : List UInt8) (k : Nat) (h : k < l.length) : reg (l.take (k + 1)) = byte (reg (l.take k)) l[k] := by
  rw [List.take_succ_eq_append_getElem h]
  unfold reg
  rw [List.foldl_append]
  rfl

end Go.Proofs.YtnglaolbfpdgoaaGreat.B9.FM

/- Plain mathematics of layer 9: the bits of a key, filters, what is told of them. No program here. -/
namespace Go.Proofs.YtnglaolbfpdgoaaGreat.B9.BL

abbrev Bs := List UInt8

/-- the bit number i of a key -/
def at_ (k : Bs) (z i : Nat) : Nat := (FM.sum k + i * FM.sum (120 :: k)) % z
/-- the bits of a key -/
def places (k : Bs) (p z : Int) : List Nat := if p < 1 ∨ 8 < p ∨ z < 1 ∨ 16777216 < z then [] else (List.range p.toNat).map (at_ k z.toNat)

theorem places_none {k : Bs} {p z : Int} (h : p < 1 ∨ 8 < p ∨ z < 1 ∨ 16777216 < z) : places k p z = [] := if_pos h
theorem places_some {k : Bs} {p z : Nat} (h : ¬ ((p : Int) < 1 ∨ (8 : Int) < p ∨ (z : Int) < 1 ∨ (16777216 : Int) < z)) : places k p z = (List.range p).map (at_ k z) := by
  unfold places; rw [if_neg h]; rfl

theorem places_len (k : Bs) (p z : Int) : (places k p z).length ≤ 8 := by
  unfold places
  split
  · simp
  · simp only [List.length_map, List.length_range]; omega

theorem places_lt {k : Bs} {p z : Int} {q : Nat} (h : q ∈ places k p z) : (q : Int) < z := by
  unfold places at h
  split at h
  · simp at h
  · rename_i hn
    simp only [List.mem_map, List.mem_range] at h
    obtain ⟨i, -, rfl⟩ := h
    have h1 : at_ k z.toNat i < z.toNat := Nat.mod_lt _ (by omega)
    omega

theorem places_pos {k : Bs} {p z : Int} (h : ¬ (p < 1 ∨ 8 < p ∨ z < 1 ∨ 16777216 < z)) : places k p z ≠ [] := by
  unfold places
  rw [if_neg h]
  intro he
  have := congrArg List.length he
  simp at this
  omega

/-- the byte's bit of a place -/
def mask (p : Nat) : UInt8 := UInt8.ofNat (2 ^ (p % 8))

theorem mask_toNat (p : Nat) : (mask p).toNat = 2 ^ (p % 8) := by
  have h : 2 ^ (p % 8) < 256 := by
    have := Nat.pow_lt_pow_right (a := 2) (by decide) (Nat.mod_lt p (show 8 > 0 by decide))
    simpa using this
  unfold mask
  rw [UInt8.toNat_ofNat', Nat.mod_eq_of_lt h]

/-- a place's bit set -/
def put (S : Bs) (p : Nat) : Bs := S.modify (p / 8) (· ||| mask p)
/-- is it set? -/
def bit (S : Bs) (p : Nat) : Bool := ((S.getD (p / 8) 0).toNat).testBit (p % 8)

theorem put_len (S : Bs) (p : Nat) : (put S p).length = S.length := by simp [put]

theorem put_get (S : Bs) (p j : Nat) : (put S p)[j]? = (fun a => if p / 8 = j then a ||| mask p else a) <$> S[j]? := by
  unfold put
  rw [List.getElem?_modify]

theorem put_set (S : Bs) (p : Nat) (h : p / 8 < S.length) : put S p = S.set (p / 8) (S[p / 8] ||| mask p) := by
  apply List.ext_getElem?
  intro j
  rw [put_get, List.getElem?_set]
  by_cases hj : p / 8 = j
  · subst hj
    rw [if_pos rfl, if_pos h, List.getElem?_eq_getElem h]
    simp
  · rw [if_neg hj]
    cases S[j]? <;> simp [hj]

theorem or_comm3 (a b c : UInt8) : (a ||| b) ||| c = (a ||| c) ||| b := by
  rw [UInt8.or_assoc, UInt8.or_comm b c, UInt8.or_assoc]

theorem put_comm (S : Bs) (p q : Nat) : put (put S p) q = put (put S q) p := by
  apply List.ext_getElem?
  intro j
  rw [put_get, put_get, put_get, put_get]
  cases S[j]? with
  | none => rfl
  | some a =>
    simp only [Option.map_eq_map, Option.map_some]
    split <;> split <;> first | rfl | rw [or_comm3]

theorem bit_put_self (S : Bs) (p : Nat) (h : p / 8 < S.length) : bit (put S p) p = true := by
  unfold bit
  rw [List.getD_eq_getElem?_getD, put_get, List.getElem?_eq_getElem h]
  simp only [Option.map_eq_map, Option.map_some, Option.getD_some, if_true, UInt8.toNat_or, Nat.testBit_or, mask_toNat, Nat.testBit_two_pow_self, Bool.or_true]

theorem bit_put (S : Bs) (p q : Nat) (h : bit S q = true) : bit (put S p) q = true := by
  unfold bit at h ⊢
  rw [List.getD_eq_getElem?_getD] at h ⊢
  rw [put_get]
  cases hs : S[q / 8]? with
  | none => rw [hs] at h; simp at h
  | some a =>
    rw [hs] at h
    simp only [Option.getD_some] at h
    simp only [Option.map_eq_map, Option.map_some, Option.getD_some]
    split
    · rw [UInt8.toNat_or, Nat.testBit_or, h, Bool.true_or]
    · exact h

/-- all of a list's places set -/
def puts (S : Bs) (l : List Nat) : Bs := l.foldl put S

theorem puts_len (l : List Nat) : ∀ S : Bs, (puts S l).length = S.length := by
  induction l with
  | nil => intro S; rfl
  | cons p l ih => intro S; show (puts (put S p) l).length = _; rw [ih, put_len]

theorem bit_puts (l : List Nat) (q : Nat) : ∀ S : Bs, bit S q = true → bit (puts S l) q = true := by
  induction l with
  | nil => intro S h; exact h
  | cons p l ih => intro S h; exact ih _ (bit_put S p q h)

theorem bit_puts_mem (l : List Nat) (q : Nat) : ∀ S : Bs, q / 8 < S.length → q ∈ l → bit (puts S l) q = true := by
  induction l with
  | nil => intro S _ h; simp at h
  | cons p l ih =>
    intro S hq h
    rcases List.mem_cons.1 h with rfl | h
    · exact bit_puts l _ _ (bit_put_self S _ hq)
    · exact ih _ (by rw [put_len]; exact hq) h

theorem puts_put (l : List Nat) (q : Nat) : ∀ S : Bs, puts (put S q) l = put (puts S l) q := by
  induction l with
  | nil => intro S; rfl
  | cons p l ih => intro S; show puts (put (put S q) p) l = put (puts (put S p) l) q; rw [put_comm, ih]

theorem puts_comm (l m : List Nat) : ∀ S : Bs, puts (puts S m) l = puts (puts S l) m := by
  induction m with
  | nil => intro S; rfl
  | cons q m ih => intro S; show puts (puts (put S q) m) l = puts (put (puts S l) q) m; rw [ih, puts_put]

theorem puts_snoc (S : Bs) (l : List Nat) (k : Nat) (h : k < l.length) : puts S (l.take (k + 1)) = put (puts S (l.take k)) l[k] := by
  rw [List.take_succ_eq_append_getElem h]
  unfold puts
  rw [List.foldl_append]
  rfl

/-- the bits of keys set -/
def fill (p z : Nat) (S : Bs) (l : List Bs) : Bs := l.foldl (fun S k => puts S (places k p z)) S

theorem fill_len (p z : Nat) (l : List Bs) : ∀ S : Bs, (fill p z S l).length = S.length := by
  induction l with
  | nil => intro S; rfl
  | cons k l ih => intro S; show (fill p z (puts S (places k p z)) l).length = _; rw [ih, puts_len]

theorem fill_snoc (p z : Nat) (S : Bs) (l : List Bs) (k : Nat) (h : k < l.length) : fill p z S (l.take (k + 1)) = puts (fill p z S (l.take k)) (places l[k] p z) := by
  rw [List.take_succ_eq_append_getElem h]
  unfold fill
  rw [List.foldl_append]
  rfl

theorem bit_fill (p z : Nat) (q : Nat) (l : List Bs) : ∀ S : Bs, bit S q = true → bit (fill p z S l) q = true := by
  induction l with
  | nil => intro S h; exact h
  | cons k l ih => intro S h; exact ih _ (bit_puts _ q _ h)

theorem bit_fill_mem (p z : Nat) (k : Bs) (l : List Bs) : ∀ S : Bs, z ≤ 8 * S.length → k ∈ l → ∀ q ∈ places k p z, bit (fill p z S l) q = true := by
  induction l with
  | nil => intro S _ h; simp at h
  | cons x l ih =>
    intro S hz h q hq
    rcases List.mem_cons.1 h with rfl | h
    · have hlt := places_lt hq
      exact bit_fill p z q l _ (bit_puts_mem _ q _ (by omega) hq)
    · exact ih _ (by rw [puts_len]; exact hz) h q hq

theorem fill_puts (p z : Nat) (m : List Nat) (l : List Bs) : ∀ S : Bs, fill p z (puts S m) l = puts (fill p z S l) m := by
  induction l with
  | nil => intro S; rfl
  | cons k l ih => intro S; show fill p z (puts (puts S m) (places k p z)) l = puts (fill p z (puts S (places k p z)) l) m; rw [puts_comm, ih]

theorem fill_reverse (p z : Nat) (l : List Bs) : ∀ S : Bs, fill p z S l.reverse = fill p z S l := by
  induction l with
  | nil => intro S; rfl
  | cons k l ih =>
    intro S
    have e : fill p z S (k :: l) = fill p z (puts S (places k p z)) l := rfl
    have e2 : fill p z S (l.reverse ++ [k]) = puts (fill p z S l.reverse) (places k p z) := by unfold fill; rw [List.foldl_append]; rfl
    rw [List.reverse_cons, e2, ih, e, fill_puts]

/-- the probes, and the bytes of bits, of a filter -/
def probes (b : Nat) : Nat := min (max (69 * b / 100) 1) 8
def bytes (b n : Nat) : Nat := (max (b * n) 64 + 7) / 8
/-- a filter -/
def filter (b : Nat) (l : List Bs) : Bs := UInt8.ofNat (probes b) :: fill (probes b) (8 * bytes b l.length) (List.replicate (bytes b l.length) 0) l
/-- P9.2 -/
def new (b : Int) (l : List Bs) : Bs × Int :=
  if b < 1 ∨ 16 < b then ([], 2) else if 65536 < l.length then ([], 5) else (filter b.toNat l, 0)
/-- P9.3 -/
def has : Bs → Bs → Bool
  | [], _ => true
  | a :: S, k => (places k (a.toNat : Nat) (8 * S.length : Nat)).all (bit S)

theorem has_cons (a : UInt8) (S k : Bs) : has (a :: S) k = (places k (a.toNat : Nat) (8 * S.length : Nat)).all (bit S) := rfl

theorem probes_lt (b : Nat) : 1 ≤ probes b ∧ probes b ≤ 8 := by unfold probes; omega

theorem probes_byte (b : Nat) : (UInt8.ofNat (probes b)).toNat = probes b := by
  have := probes_lt b
  rw [UInt8.toNat_ofNat', Nat.mod_eq_of_lt (by simp; omega)]

theorem bytes_lt {b n : Nat} (hb : b ≤ 16) (hn : n ≤ 65536) : 8 ≤ bytes b n ∧ bytes b n ≤ 131072 := by
  have : b * n ≤ 16 * 65536 := Nat.mul_le_mul hb hn
  unfold bytes; omega

theorem filter_len (b : Nat) (l : List Bs) : (filter b l).length = 1 + bytes b l.length := by
  unfold filter
  rw [List.length_cons, fill_len, List.length_replicate]; omega

/-- no key that was handed in is told as not there -/
theorem finds (b : Nat) (l : List Bs) (k : Bs) (h : k ∈ l) : has (filter b l) k = true := by
  unfold filter
  rw [has_cons, List.all_eq_true, fill_len, List.length_replicate, probes_byte]
  exact fun q hq => bit_fill_mem _ _ k l _ (by simp) h q hq

/-- a filter is the same in whatever order the keys came -/
theorem turned (b : Nat) (l : List Bs) : filter b l.reverse = filter b l := by
  unfold filter
  rw [List.length_reverse, fill_reverse]

theorem new_turned (b : Int) (l : List Bs) : new b l.reverse = new b l := by
  unfold new
  rw [List.length_reverse, turned]

/-- of no keys none is told as there -/
theorem none_there {b : Nat} (hb : b ≤ 16) (k : Bs) : has (filter b []) k = false := by
  unfold filter
  rw [has_cons, fill_len, List.length_replicate, probes_byte]
  have hp := probes_lt b
  have hy := bytes_lt hb (show 0 ≤ 65536 by decide)
  have hne := places_pos (k := k) (p := (probes b : Nat)) (z := (8 * bytes b 0 : Nat)) (by omega)
  cases hl : places k (probes b : Nat) (8 * bytes b 0 : Nat) with
  | nil => exact absurd hl hne
  | cons q r =>
    simp only [List.length_nil, List.all_cons, Bool.and_eq_false_imp]
    intro h
    exfalso
    unfold bit fill at h
    simp only [List.foldl_nil, List.getD_eq_getElem?_getD, List.getElem?_replicate] at h
    split at h <;> simp at h
end Go.Proofs.YtnglaolbfpdgoaaGreat.B9.BL

