/- Texts joined by bundle.py: FFmA, FFmB. -/


/- Plain mathematics of layer 3: the check sum; two texts of one length that differ in one byte have unlike check sums. No program here. -/
namespace Go.Proofs.YtnglaolbfpdgoaaGreat.F3.FM

/-- the register moved by one bit -/
def turn (c : Nat) : Nat := if c % 2 = 1 then (c / 2) ^^^ 3988292384 else c / 2
/-- .. by k bits -/
def turns : Nat → Nat → Nat
  | 0, c => c
  | k + 1, c => turn (turns k c)
def byte (c : Nat) (b : UInt8) : Nat := turns 8 (c ^^^ b.toNat)
def reg (l : List UInt8) : Nat := l.foldl byte 4294967295
def sum (l : List UInt8) : Nat := 4294967295 - reg l

theorem turn_lt {c : Nat} (h : c < 4294967296) : turn c < 4294967296 := by
  unfold turn
  split
  · exact Nat.xor_lt_two_pow (n := 32) (by omega) (by decide)
  · omega

theorem turns_lt {c : Nat} (h : c < 4294967296) : ∀ k, turns k c < 4294967296
  | 0 => h
  | k + 1 => turn_lt (turns_lt h k)

theorem xor_byte_lt {c : Nat} (h : c < 4294967296) (b : UInt8) : c ^^^ b.toNat < 4294967296 :=
  Nat.xor_lt_two_pow (n := 32) h (by have := b.toNat_lt; omega)

theorem byte_lt {c : Nat} (h : c < 4294967296) (b : UInt8) : byte c b < 4294967296 := turns_lt (xor_byte_lt h b) 8

theorem fold_lt (l : List UInt8) : ∀ {c : Nat}, c < 4294967296 → l.foldl byte c < 4294967296 := by
  induction l with
  | nil => intro c h; exact h
  | cons x r ih => intro c h; exact ih (byte_lt h x)

theorem reg_lt (l : List UInt8) : reg l < 4294967296 := fold_lt l (by decide)
theorem sum_lt (l : List UInt8) : sum l < 4294967296 := by unfold sum; omega

theorem reg_snoc (l : List UInt8) (k : Nat) (h : k < l.length) : reg (l.take (k + 1)) = byte (reg (l.take k)) l[k] := by
  rw [List.take_succ_eq_append_getElem h]
  unfold reg
  rw [List.foldl_append]
  rfl

theorem xor_cancel {a b c : Nat} (h : a ^^^ c = b ^^^ c) : a = b := by
  have := congrArg (· ^^^ c) h
  simpa [Nat.xor_assoc] using this

theorem top_bit {c : Nat} (h : c < 2147483648) : (c ^^^ 3988292384).testBit 31 = true := by
  rw [Nat.testBit_xor, Nat.testBit_lt_two_pow (show c < 2 ^ 31 by omega)]
  decide

theorem turn_inj {c d : Nat} (hc : c < 4294967296) (hd : d < 4294967296) (h : turn c = turn d) : c = d := by
  unfold turn at h
  split at h <;> split at h
  · have := xor_cancel h; omega
  · have h1 := top_bit (c := c / 2) (by omega)
    rw [h, Nat.testBit_lt_two_pow (by omega)] at h1
    simp at h1
  · have h1 := top_bit (c := d / 2) (by omega)
    rw [← h, Nat.testBit_lt_two_pow (by omega)] at h1
    simp at h1
  · omega

theorem turns_inj {c d : Nat} (hc : c < 4294967296) (hd : d < 4294967296) : ∀ k, turns k c = turns k d → c = d
  | 0, h => h
  | k + 1, h => turns_inj hc hd k (turn_inj (turns_lt hc k) (turns_lt hd k) h)

theorem byte_inj {c d : Nat} (hc : c < 4294967296) (hd : d < 4294967296) {b : UInt8} (h : byte c b = byte d b) : c = d :=
  xor_cancel (turns_inj (xor_byte_lt hc b) (xor_byte_lt hd b) 8 h)

theorem byte_inj' {c : Nat} (hc : c < 4294967296) {a b : UInt8} (h : byte c a = byte c b) : a = b := by
  have h1 := turns_inj (xor_byte_lt hc a) (xor_byte_lt hc b) 8 h
  rw [Nat.xor_comm c, Nat.xor_comm c] at h1
  exact UInt8.toNat_inj.1 (xor_cancel h1)

theorem fold_inj (l : List UInt8) : ∀ {c d : Nat}, c < 4294967296 → d < 4294967296 → l.foldl byte c = l.foldl byte d → c = d := by
  induction l with
  | nil => intro c d _ _ h; exact h
  | cons x r ih => intro c d hc hd h; exact byte_inj hc hd (ih (byte_lt hc x) (byte_lt hd x) h)

/-- one byte that differs turns the check sum -/
theorem sum_differs {a b : List UInt8} {x y : UInt8} (h : x ≠ y) : sum (a ++ x :: b) ≠ sum (a ++ y :: b) := by
  intro he
  have h1 := reg_lt (a ++ x :: b)
  have h2 := reg_lt (a ++ y :: b)
  unfold sum at he
  have he' : reg (a ++ x :: b) = reg (a ++ y :: b) := by omega
  unfold reg at he'
  rw [List.foldl_append, List.foldl_append, List.foldl_cons, List.foldl_cons] at he'
  have ha := reg_lt a
  unfold reg at ha
  exact h (byte_inj' ha (fold_inj b (byte_lt ha x) (byte_lt ha y) he'))

/-- the head of a body's frame -/
def head (l : List UInt8) : List UInt8 :=
  [(l.length / 256).toUInt8, (l.length % 256).toUInt8, (255 - l.length / 256).toUInt8, (255 - l.length % 256).toUInt8,
    (sum l / 16777216).toUInt8, (sum l / 65536 % 256).toUInt8, (sum l / 256 % 256).toUInt8, (sum l % 256).toUInt8]
def frame (l : List UInt8) : List UInt8 := head l ++ l

theorem head_len (l : List UInt8) : (head l).length = 8 := rfl
theorem frame_len (l : List UInt8) : (frame l).length = 8 + l.length := by simp [frame, head_len]

theorem nat_byte {m : Nat} (h : m < 256) : (m.toUInt8).toNat = m := by
  simp only [Nat.toUInt8, UInt8.toNat_ofNat']; omega

/-- the size of the frame with which bytes begin, and the error -/
def at_ (l : List UInt8) (i : Nat) : Nat := (l.getD i 0).toNat
def meas (l : List UInt8) : Nat × Int :=
  if l.length = 0 then (0, 10) else if l.length < 4 then (0, 3)
  else if at_ l 0 + at_ l 2 ≠ 255 ∨ at_ l 1 + at_ l 3 ≠ 255 then (0, 4)
  else if l.length < 8 + (256 * at_ l 0 + at_ l 1) then (0, 3) else (8 + (256 * at_ l 0 + at_ l 1), 0)

/-- what is read at the beginning: the body, the frame's size, the error -/
def get (l : List UInt8) : List UInt8 × Nat × Int :=
  if (meas l).2 ≠ 0 then ([], 0, (meas l).2)
  else if l.take 8 ≠ head ((l.drop 8).take ((meas l).1 - 8)) then ([], 0, 6)
  else ((l.drop 8).take ((meas l).1 - 8), (meas l).1, 0)

theorem meas_ok {l : List UInt8} {m : Nat} (h : meas l = (m, 0)) : 8 ≤ m ∧ m ≤ l.length ∧ m = 8 + (256 * at_ l 0 + at_ l 1) ∧ at_ l 0 + at_ l 2 = 255 ∧ at_ l 1 + at_ l 3 = 255 := by
  unfold meas at h
  split at h
  · simp at h
  split at h
  · simp at h
  split at h
  · simp at h
  split at h
  · simp at h
  rename_i h1 h2 h3 h4
  simp only [Prod.mk.injEq, and_true] at h
  omega

/-- all that is read -/
def all : Nat → List UInt8 → List (List UInt8) × Nat × Int
  | 0, _ => ([], 0, 10)
  | f + 1, l =>
    if (get l).2.2 ≠ 0 then ([], 0, (get l).2.2)
    else ((get l).1 :: (all f (l.drop (get l).2.1)).1, (get l).2.1 + (all f (l.drop (get l).2.1)).2.1, (all f (l.drop (get l).2.1)).2.2)

theorem all_err {f : Nat} {l : List UInt8} {c : Int} (h : (get l).2.2 = c) (hc : c ≠ 0) : all (f + 1) l = ([], 0, c) := by
  unfold all
  rw [if_pos (by rw [h]; exact hc), h]

theorem all_step {f : Nat} {l : List UInt8} {b : List UInt8} {m : Nat} (h : get l = (b, m, 0)) : all (f + 1) l = (b :: (all f (l.drop m)).1, m + (all f (l.drop m)).2.1, (all f (l.drop m)).2.2) := by
  rw [all]
  rw [h, if_neg (by simp)]

theorem get_ok {l b : List UInt8} {m : Nat} (h : get l = (b, m, 0)) : meas l = (m, 0) ∧ b = (l.drop 8).take (m - 8) ∧ l.take 8 = head b := by
  unfold get at h
  split at h
  · rename_i h1
    simp only [Prod.mk.injEq] at h
    exact absurd h.2.2 h1
  split at h
  · simp at h
  · rename_i h1 h2
    simp only [Prod.mk.injEq, and_true] at h
    have hm : meas l = (m, 0) := by
      rw [← h.2]
      have : (meas l).2 = 0 := by simpa using h1
      rw [← this]
    refine ⟨hm, by rw [← h.1, h.2], ?_⟩
    rw [← h.1]
    simpa using h2

/-- a frame is read back -/
theorem get_frame (b r : List UInt8) (hb : b.length ≤ 65535) : get (frame b ++ r) = (b, 8 + b.length, 0) := by
  have hl : (frame b ++ r).length = 8 + b.length + r.length := by rw [List.length_append, frame_len]
  have a0 : at_ (frame b ++ r) 0 = b.length / 256 := nat_byte (by omega)
  have a1 : at_ (frame b ++ r) 1 = b.length % 256 := nat_byte (by omega)
  have a2 : at_ (frame b ++ r) 2 = 255 - b.length / 256 := nat_byte (by omega)
  have a3 : at_ (frame b ++ r) 3 = 255 - b.length % 256 := nat_byte (by omega)
  have hm : meas (frame b ++ r) = (8 + b.length, 0) := by
    unfold meas
    rw [if_neg (by omega), if_neg (by omega), if_neg (by omega), if_neg (by omega), a0, a1]
    congr 1
    omega
  have hd : ((frame b ++ r).drop 8).take b.length = b := by
    unfold frame
    rw [List.append_assoc, List.drop_left' (head_len b), List.take_left' rfl]
  have ht : (frame b ++ r).take 8 = head b := by
    unfold frame
    rw [List.append_assoc, List.take_left' (head_len b)]
  unfold get
  rw [hm]
  simp only [Nat.add_sub_cancel_left, hd, ht, ne_eq, not_true_eq_false, if_false]

/-- a frame that is cut off -/
theorem get_cut (b : List UInt8) (hb : b.length ≤ 65535) (c : Nat) (hc : c < 8 + b.length) : get ((frame b).take c) = ([], 0, if c = 0 then 10 else 3) := by
  have hl : ((frame b).take c).length = c := by rw [List.length_take, frame_len]; omega
  have hm : meas ((frame b).take c) = (0, if c = 0 then 10 else 3) := by
    unfold meas
    rw [hl]
    by_cases h0 : c = 0
    · rw [if_pos h0, if_pos h0]
    rw [if_neg h0, if_neg h0]
    by_cases h4 : c < 4
    · rw [if_pos h4]
    rw [if_neg h4]
    have hg : ∀ i, i < 4 → at_ ((frame b).take c) i = at_ (frame b) i := by
      intro i hi
      unfold at_
      rw [List.getD_eq_getElem?_getD, List.getD_eq_getElem?_getD, List.getElem?_take_of_lt (by omega)]
    have a0 : at_ (frame b) 0 = b.length / 256 := nat_byte (by omega)
    have a1 : at_ (frame b) 1 = b.length % 256 := nat_byte (by omega)
    have a2 : at_ (frame b) 2 = 255 - b.length / 256 := nat_byte (by omega)
    have a3 : at_ (frame b) 3 = 255 - b.length % 256 := nat_byte (by omega)
    rw [hg 0 (by omega), hg 1 (by omega), hg 2 (by omega), hg 3 (by omega), a0, a1, a2, a3, if_neg (by omega), if_pos (by omega)]
  unfold get
  rw [hm]
  by_cases h0 : c = 0
  · simp [h0]
  · simp [h0]

/-- a frame of which one byte is another one -/
theorem get_turned (b r : List UInt8) (hb : b.length ≤ 65535) (j : Nat) (hj : j < 8 + b.length) (y : UInt8) (hy : (frame b ++ r).getD j 0 ≠ y) :
    get ((frame b ++ r).set j y) = ([], 0, if j < 4 then 4 else 6) := by
  obtain ⟨X, hX⟩ : ∃ X, (frame b ++ r).set j y = X := ⟨_, rfl⟩
  have hl : X.length = 8 + b.length + r.length := by rw [← hX, List.length_set, List.length_append, frame_len]
  have hg : ∀ i, i ≠ j → at_ X i = at_ (frame b ++ r) i := by
    intro i hi
    unfold at_
    rw [← hX, List.getD_eq_getElem?_getD, List.getD_eq_getElem?_getD, List.getElem?_set_ne (by omega)]
  have hgj : at_ X j ≠ at_ (frame b ++ r) j := by
    unfold at_
    rw [← hX, List.getD_eq_getElem?_getD, List.getElem?_set_self (by rw [List.length_append, frame_len]; omega)]
    intro h
    exact hy (UInt8.toNat_inj.1 (by simpa using h.symm))
  have a0 : at_ (frame b ++ r) 0 = b.length / 256 := nat_byte (by omega)
  have a1 : at_ (frame b ++ r) 1 = b.length % 256 := nat_byte (by omega)
  have a2 : at_ (frame b ++ r) 2 = 255 - b.length / 256 := nat_byte (by omega)
  have a3 : at_ (frame b ++ r) 3 = 255 - b.length % 256 := nat_byte (by omega)
  rw [hX]
  by_cases h4 : j < 4
  · rw [if_pos h4]
    have hm : meas X = (0, 4) := by
      unfold meas
      rw [if_neg (by omega), if_neg (by omega), if_pos]
      have hj4 : j = 0 ∨ j = 1 ∨ j = 2 ∨ j = 3 := by omega
      rcases hj4 with rfl | rfl | rfl | rfl
      · have := hg 2 (by omega); omega
      · have := hg 3 (by omega); omega
      · have := hg 0 (by omega); omega
      · have := hg 1 (by omega); omega
    unfold get
    rw [hm]
    simp
  · rw [if_neg h4]
    have hm : meas X = (8 + b.length, 0) := by
      unfold meas
      rw [hg 0 (by omega), hg 1 (by omega), hg 2 (by omega), hg 3 (by omega), if_neg (by omega), if_neg (by omega), if_neg (by omega), if_neg (by omega), a0, a1]
      congr 1
      omega
    unfold get
    rw [hm]
    simp only [Nat.add_sub_cancel_left, ne_eq, not_true_eq_false, if_false]
    rw [if_pos]
    intro hh
    by_cases h8 : j < 8
    · have hbody : (X.drop 8).take b.length = b := by
        rw [← hX, List.drop_set_of_lt h8]
        unfold frame
        rw [List.append_assoc, List.drop_left' (head_len b), List.take_left' rfl]
      rw [hbody] at hh
      have h1 := congrArg (fun l => (List.getD l j 0).toNat) hh
      simp only [List.getD_eq_getElem?_getD, List.getElem?_take_of_lt h8] at h1
      apply hgj
      unfold at_
      simp only [List.getD_eq_getElem?_getD]
      rw [h1]
      unfold frame
      rw [List.append_assoc, List.getElem?_append_left (by rw [head_len]; exact h8)]
    · obtain ⟨k, rfl⟩ : ∃ k, j = 8 + k := ⟨j - 8, by omega⟩
      have hkl : k < b.length := by omega
      have hbody : (X.drop 8).take b.length = b.set k y := by
        rw [← hX]
        unfold frame
        rw [List.append_assoc, List.set_append_right _ _ (by rw [head_len]; omega), List.drop_left' (head_len b), List.set_append_left _ _ (by rw [head_len]; omega)]
        rw [head_len, Nat.add_sub_cancel_left, List.take_left' (by simp)]
      have htk : X.take 8 = head b := by
        rw [← hX, List.take_set_of_le (by omega)]
        unfold frame
        rw [List.append_assoc, List.take_left' (head_len b)]
      rw [hbody, htk] at hh
      have hyk : b[k] ≠ y := by
        intro h
        apply hy
        rw [List.getD_eq_getElem?_getD, List.getElem?_append_left (by rw [frame_len]; omega)]
        unfold frame
        rw [List.getElem?_append_right (by rw [head_len]; omega), head_len, Nat.add_sub_cancel_left, List.getElem?_eq_getElem hkl, h]
        rfl
      have hs : sum b = sum (b.set k y) := by
        have hv : ∀ (l : List UInt8), sum l = at_ (head l) 4 * 16777216 + at_ (head l) 5 * 65536 + at_ (head l) 6 * 256 + at_ (head l) 7 := by
          intro l
          have hs := sum_lt l
          have b4 : at_ (head l) 4 = sum l / 16777216 := nat_byte (by omega)
          have b5 : at_ (head l) 5 = sum l / 65536 % 256 := nat_byte (by omega)
          have b6 : at_ (head l) 6 = sum l / 256 % 256 := nat_byte (by omega)
          have b7 : at_ (head l) 7 = sum l % 256 := nat_byte (by omega)
          omega
        rw [hv b, hv (b.set k y), hh]
      have e1 : b = b.take k ++ b[k] :: b.drop (k + 1) := by
        rw [List.getElem_cons_drop, List.take_append_drop]
      have e2 : b.set k y = b.take k ++ y :: b.drop (k + 1) := by
        rw [List.set_eq_take_append_cons_drop, if_pos hkl]
      rw [e2] at hs
      conv at hs => lhs; rw [e1]
      exact sum_differs hyk hs
end Go.Proofs.YtnglaolbfpdgoaaGreat.F3.FM

/- Plain mathematics of layer 3: when a head is a body's; frames one behind the other, cut off, and with one byte turned. No program here. -/
namespace Go.Proofs.YtnglaolbfpdgoaaGreat.F3.FM

theorem at_lt (l : List UInt8) (i : Nat) : at_ l i < 256 := by unfold at_; have := (l.getD i 0).toNat_lt; omega

theorem head_val (l : List UInt8) : at_ (head l) 4 * 16777216 + at_ (head l) 5 * 65536 + at_ (head l) 6 * 256 + at_ (head l) 7 = sum l := by
  have hs := sum_lt l
  have b4 : at_ (head l) 4 = sum l / 16777216 := nat_byte (by omega)
  have b5 : at_ (head l) 5 = sum l / 65536 % 256 := nat_byte (by omega)
  have b6 : at_ (head l) 6 = sum l / 256 % 256 := nat_byte (by omega)
  have b7 : at_ (head l) 7 = sum l % 256 := nat_byte (by omega)
  omega

theorem head_iff {l b : List UInt8} {m : Nat} (h : meas l = (m, 0)) (hb : (l.drop 8).take (m - 8) = b) :
    l.take 8 = head b ↔ sum b = at_ l 4 * 16777216 + at_ l 5 * 65536 + at_ l 6 * 256 + at_ l 7 := by
  obtain ⟨h8, hml, hm, t0, t1⟩ := meas_ok h
  have hbl : b.length = m - 8 := by rw [← hb, List.length_take, List.length_drop]; omega
  have q0 := at_lt l 0
  have q1 := at_lt l 1
  have q4 := at_lt l 4
  have q5 := at_lt l 5
  have q6 := at_lt l 6
  have q7 := at_lt l 7
  constructor
  · intro hh
    have e : ∀ i, i < 8 → at_ l i = at_ (head b) i := by
      intro i hi
      rw [← hh]
      unfold at_
      rw [List.getD_eq_getElem?_getD, List.getD_eq_getElem?_getD, List.getElem?_take_of_lt hi]
    rw [e 4 (by omega), e 5 (by omega), e 6 (by omega), e 7 (by omega), head_val]
  · intro hs
    have a0 : at_ (head b) 0 = b.length / 256 := nat_byte (by omega)
    have a1 : at_ (head b) 1 = b.length % 256 := nat_byte (by omega)
    have a2 : at_ (head b) 2 = 255 - b.length / 256 := nat_byte (by omega)
    have a3 : at_ (head b) 3 = 255 - b.length % 256 := nat_byte (by omega)
    have b4 : at_ (head b) 4 = sum b / 16777216 := nat_byte (by omega)
    have b5 : at_ (head b) 5 = sum b / 65536 % 256 := nat_byte (by omega)
    have b6 : at_ (head b) 6 = sum b / 256 % 256 := nat_byte (by omega)
    have b7 : at_ (head b) 7 = sum b % 256 := nat_byte (by omega)
    have key : ∀ i, i < 8 → at_ l i = at_ (head b) i := by
      intro i hi
      have : i = 0 ∨ i = 1 ∨ i = 2 ∨ i = 3 ∨ i = 4 ∨ i = 5 ∨ i = 6 ∨ i = 7 := by omega
      rcases this with rfl | rfl | rfl | rfl | rfl | rfl | rfl | rfl <;> omega
    apply List.ext_getElem
    · rw [List.length_take, head_len]; omega
    · intro i h1 h2
      have hi : i < 8 := by rw [head_len] at h2; exact h2
      have hk := key i hi
      unfold at_ at hk
      rw [List.getD_eq_getElem?_getD, List.getD_eq_getElem?_getD, List.getElem?_eq_getElem (by omega), List.getElem?_eq_getElem h2] at hk
      rw [List.getElem_take]
      exact UInt8.toNat_inj.1 hk

/-- the higher bytes first -/
def acc (f : Nat → Nat) : Nat → Nat
  | 0 => 0
  | j + 1 => acc f j * 256 + f j

theorem acc_lt (f : Nat → Nat) (hf : ∀ i, f i < 256) : ∀ j, acc f j < 256 ^ j
  | 0 => by simp [acc]
  | j + 1 => by
    have h1 := acc_lt f hf j
    have h2 := hf j
    rw [acc, Nat.pow_succ]
    omega

theorem acc_small (f : Nat → Nat) (hf : ∀ i, f i < 256) (j : Nat) (h : j ≤ 3) : acc f j < 16777216 := by
  have h1 := acc_lt f hf j
  have h2 : 256 ^ j ≤ 256 ^ 3 := Nat.pow_le_pow_right (by decide) h
  have h3 : (256 : Nat) ^ 3 = 16777216 := by decide
  omega

theorem acc_four (f : Nat → Nat) : acc f 4 = f 0 * 16777216 + f 1 * 65536 + f 2 * 256 + f 3 := by
  simp only [acc]; omega

/-- frames one behind the other -/
def frames (bs : List (List UInt8)) : List UInt8 := bs.flatMap frame
/-- where the first k of them end -/
def ends (bs : List (List UInt8)) (k : Nat) : Nat := (frames (bs.take k)).length

theorem frames_cons (b : List UInt8) (r : List (List UInt8)) : frames (b :: r) = frame b ++ frames r := by simp [frames]
theorem frames_snoc (bs : List (List UInt8)) (k : Nat) (h : k < bs.length) : frames (bs.take (k + 1)) = frames (bs.take k) ++ frame bs[k] := by
  rw [List.take_succ_eq_append_getElem h]; unfold frames; rw [List.flatMap_append]; simp
theorem ends_zero (bs : List (List UInt8)) : ends bs 0 = 0 := by simp [ends, frames]
theorem ends_succ (bs : List (List UInt8)) (k : Nat) (h : k < bs.length) : ends bs (k + 1) = ends bs k + (8 + bs[k].length) := by
  unfold ends; rw [frames_snoc bs k h, List.length_append, frame_len]
theorem ends_cons (b : List UInt8) (r : List (List UInt8)) (k : Nat) : ends (b :: r) (k + 1) = 8 + b.length + ends r k := by
  unfold ends; rw [List.take_succ_cons, frames_cons, List.length_append, frame_len]
theorem ends_all (bs : List (List UInt8)) : ends bs bs.length = (frames bs).length := by unfold ends; rw [List.take_of_length_le (Nat.le_refl _)]
theorem ends_mono (bs : List (List UInt8)) {i j : Nat} (h : i ≤ j) (hj : j ≤ bs.length) : ends bs i ≤ ends bs j := by
  induction j with
  | zero => obtain rfl : i = 0 := by omega
            exact Nat.le_refl _
  | succ j ih =>
    by_cases hi : i = j + 1
    · subst hi; exact Nat.le_refl _
    · have h1 := ih (by omega) (by omega)
      have h2 := ends_succ bs j (by omega)
      omega

/-- how many frames are whole among the first c bytes -/
def whole : List (List UInt8) → Nat → Nat
  | [], _ => 0
  | b :: r, c => if 8 + b.length ≤ c then whole r (c - (8 + b.length)) + 1 else 0

theorem whole_spec (bs : List (List UInt8)) : ∀ c, whole bs c ≤ bs.length ∧ ends bs (whole bs c) ≤ c ∧ (whole bs c < bs.length → c < ends bs (whole bs c + 1)) := by
  induction bs with
  | nil => intro c; simp [whole, ends_zero]
  | cons b r ih =>
    intro c
    unfold whole
    split
    · obtain ⟨h1, h2, h3⟩ := ih (c - (8 + b.length))
      refine ⟨by simp; omega, by rw [ends_cons]; omega, fun h => ?_⟩
      have := h3 (by simpa using h)
      rw [ends_cons]; omega
    · refine ⟨by omega, by rw [ends_zero]; omega, fun _ => ?_⟩
      rw [ends_cons, ends_zero]; omega

theorem ends_le_iff (bs : List (List UInt8)) (c k : Nat) (h : k < bs.length) : ends bs (k + 1) ≤ c ↔ k < whole bs c := by
  obtain ⟨h1, h2, h3⟩ := whole_spec bs c
  constructor
  · intro he
    apply Classical.byContradiction
    intro hk
    have := h3 (by omega)
    have := ends_mono bs (i := whole bs c + 1) (j := k + 1) (by omega) (by omega)
    omega
  · intro hk
    have := ends_mono bs (i := k + 1) (j := whole bs c) (by omega) h1
    omega

/-- of frames that are cut off just those that are whole are given -/
theorem all_cut (bs : List (List UInt8)) (hb : ∀ b ∈ bs, b.length ≤ 65535) : ∀ (c f : Nat), c ≤ (frames bs).length → (frames bs).length < f →
    all f ((frames bs).take c) = (bs.take (whole bs c), ends bs (whole bs c), if ends bs (whole bs c) = c then 10 else 3) := by
  induction bs with
  | nil =>
    intro c f hc hf
    obtain rfl : c = 0 := by simpa [frames] using hc
    obtain ⟨f, rfl⟩ : ∃ g, f = g + 1 := ⟨f - 1, by omega⟩
    have hg : get ((frames []).take 0) = ([], 0, 10) := by simp [get, meas, frames]
    rw [all_err (c := 10) (by rw [hg]) (by decide)]
    simp [whole, ends_zero]
  | cons b r ih =>
    intro c f hc hf
    obtain ⟨f, rfl⟩ : ∃ g, f = g + 1 := ⟨f - 1, by omega⟩
    have hbl := hb b (by simp)
    rw [frames_cons, List.length_append, frame_len] at hc hf
    rw [frames_cons]
    unfold whole
    by_cases h : 8 + b.length ≤ c
    · rw [if_pos h]
      have e : (frame b ++ frames r).take c = frame b ++ (frames r).take (c - (8 + b.length)) := by
        rw [List.take_append, frame_len, List.take_of_length_le (by rw [frame_len]; exact h)]
      rw [e, all_step (get_frame b _ hbl), List.drop_left' (frame_len b), ih (fun x hx => hb x (by simp [hx])) _ f (by omega) (by omega)]
      rw [List.take_succ_cons, ends_cons]
      congr 2
      by_cases hq : ends r (whole r (c - (8 + b.length))) = c - (8 + b.length)
      · rw [if_pos hq, if_pos (by omega)]
      · rw [if_neg hq, if_neg (by omega)]
    · rw [if_neg h]
      have e : (frame b ++ frames r).take c = (frame b).take c := by
        rw [List.take_append_of_le_length (by rw [frame_len]; omega)]
      have hg := get_cut b hbl c (by omega)
      rw [e, all_err (c := if c = 0 then 10 else 3) (by rw [hg]) (by split <;> decide), ends_zero]
      congr 2
      by_cases h0 : c = 0
      · rw [if_pos h0, if_pos h0.symm]
      · rw [if_neg h0, if_neg (fun h => h0 h.symm)]

/-- of frames of which one byte is turned all that end ahead of it are given -/
theorem all_turned (bs : List (List UInt8)) (hb : ∀ b ∈ bs, b.length ≤ 65535) : ∀ (j f : Nat) (y : UInt8), j < (frames bs).length → (frames bs).getD j 0 ≠ y → (frames bs).length < f →
    ∃ e, (e = 4 ∨ e = 6) ∧ all f ((frames bs).set j y) = (bs.take (whole bs j), ends bs (whole bs j), e) := by
  induction bs with
  | nil => intro j f y hj; simp [frames] at hj
  | cons b r ih =>
    intro j f y hj hy hf
    obtain ⟨f, rfl⟩ : ∃ g, f = g + 1 := ⟨f - 1, by omega⟩
    have hbl := hb b (by simp)
    rw [frames_cons] at hy hj hf ⊢
    rw [List.length_append, frame_len] at hj hf
    unfold whole
    by_cases h : 8 + b.length ≤ j
    · rw [if_pos h]
      have e : (frame b ++ frames r).set j y = frame b ++ (frames r).set (j - (8 + b.length)) y := by
        rw [List.set_append_right _ _ (by rw [frame_len]; exact h), frame_len]
      have hy' : (frames r).getD (j - (8 + b.length)) 0 ≠ y := by
        rw [List.getD_eq_getElem?_getD, List.getElem?_append_right (by rw [frame_len]; exact h), frame_len] at hy
        rw [List.getD_eq_getElem?_getD]; exact hy
      obtain ⟨c, hc, hall⟩ := ih (fun x hx => hb x (by simp [hx])) (j - (8 + b.length)) f y (by omega) hy' (by omega)
      refine ⟨c, hc, ?_⟩
      rw [e, all_step (get_frame b _ hbl), List.drop_left' (frame_len b), hall, List.take_succ_cons, ends_cons]
    · rw [if_neg h]
      have hg := get_turned b (frames r) hbl j (by omega) y hy
      refine ⟨if j < 4 then 4 else 6, by split <;> simp, ?_⟩
      rw [all_err (c := if j < 4 then 4 else 6) (by rw [hg]) (by split <;> decide), ends_zero]
      simp
end Go.Proofs.YtnglaolbfpdgoaaGreat.F3.FM

