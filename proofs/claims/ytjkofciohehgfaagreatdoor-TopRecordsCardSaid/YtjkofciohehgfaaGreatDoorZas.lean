/- Texts joined by bundle.py: YDFmA, YDFmB, YDFmC. -/


/- Plain mathematics of layer 3: the check sum; two texts of one length that differ in one byte have unlike check sums. No program here. -/

namespace Go.Proofs.YtjkofciohehgfaaGreatDoor.L8.FM

/-- the register moved by one bit -/
def turn (c : Nat) : Nat := if c % 2 = 1 then (c / 2) ^^^ 3988292384 else c / 2
/-- .. by k bits -/
def turns : Nat → Nat → Nat
  | 0, c => c
  | k + 1, c => turn (turns k c)
def byte (c : Nat) (b : UInt8) : Nat := turns 8 (c ^^^ b.toNat)
def reg (l : List UInt8) : Nat := l.foldl byte 4294967295
def sum (l : List UInt8) : Nat := 4294967295 - reg l

theorem turn_lt {c : Nat} (h : c < 4294967296) : turn c < 4294967296 := by
  unfold turn
  split
  · exact Nat.xor_lt_two_pow (n := 32) (by omega) (by decide)
  · omega

theorem xor_byte_lt {c : Nat} (h : c < 4294967296) (b : UInt8) : c ^^^ b.toNat < 4294967296 :=
  Nat.xor_lt_two_pow (n := 32) h (by have := b.toNat_lt; omega)

theorem sum_lt (l : List UInt8) : sum l < 4294967296 := by unfold sum; omega

theorem reg_snoc (l : List UInt8) (k : Nat) (h : k < l.length) : reg (l.take (k + 1)) = byte (reg (l.take k)) l[k] := by
  rw [List.take_succ_eq_append_getElem h]
  unfold reg
  rw [List.foldl_append]
  rfl

/-- the head of a body's frame -/
def head (l : List UInt8) : List UInt8 :=
  [(l.length / 256).toUInt8, (l.length % 256).toUInt8, (255 - l.length / 256).toUInt8, (255 - l.length % 256).toUInt8,
    (sum l / 16777216).toUInt8, (sum l / 65536 % 256).toUInt8, (sum l / 256 % 256).toUInt8, (sum l % 256).toUInt8]
def frame (l : List UInt8) : List UInt8 := head l ++ l

theorem head_len (l : List UInt8) : (head l).length = 8 := rfl
theorem frame_len (l : List UInt8) : (frame l).length = 8 + l.length := by simp [frame, head_len]

theorem nat_byte {m : Nat} (h : m < 256) : (m.toUInt8).toNat = m := by
  simp only [Nat.toUInt8, UInt8.toNat_ofNat']; omega

/-- the size of the frame with which bytes begin, and the error -/
def at_ (l : List UInt8) (i : Nat) : Nat := (l.getD i 0).toNat
def meas (l : List UInt8) : Nat × Int :=
  if l.length = 0 then (0, 10) else if l.length < 4 then (0, 3)
  else if at_ l 0 + at_ l 2 ≠ 255 ∨ at_ l 1 + at_ l 3 ≠ 255 then (0, 4)
  else if l.length < 8 + (256 * at_ l 0 + at_ l 1) then (0, 3) else (8 + (256 * at_ l 0 + at_ l 1), 0)

/-- what is read at the beginning: the body, the frame's size, the error -/
def get (l : List UInt8) : List UInt8 × Nat × Int :=
  if (meas l).2 ≠ 0 then ([], 0, (meas l).2)
  else if l.take 8 ≠ head ((l.drop 8).take ((meas l).1 - 8)) then ([], 0, 6)
  else ((l.drop 8).take ((meas l).1 - 8), (meas l).1, 0)

theorem meas_ok {l : List UInt8} {m : Nat} (h : meas l = (m, 0)) : 8 ≤ m ∧ m ≤ l.length ∧ m = 8 + (256 * at_ l 0 + at_ l 1) ∧ at_ l 0 + at_ l 2 = 255 ∧ at_ l 1 + at_ l 3 = 255 := by
  unfold meas at h
  split at h
  · simp at h
  split at h
  · simp at h
  split at h
  · simp at h
  split at h
  · simp at h
  rename_i h1 h2 h3 h4
  simp only [Prod.mk.injEq, and_true] at h
  omega

/-- all that is read -/
def all : Nat → List UInt8 → List (List UInt8) × Nat × Int
  | 0, _ => ([], 0, 10)
  | f + 1, l =>
    if (get l).2.2 ≠ 0 then ([], 0, (get l).2.2)
    else ((get l).1 :: (all f (l.drop (get l).2.1)).1, (get l).2.1 + (all f (l.drop (get l).2.1)).2.1, (all f (l.drop (get l).2.1)).2.2)

theorem all_err {f : Nat} {l : List UInt8} {c : Int} (h : (get l).2.2 = c) (hc : c ≠ 0) : all (f + 1) l = ([], 0, c) := by
  unfold all
  rw [if_pos (by rw [h]; exact hc), h]

theorem all_step {f : Nat} {l : List UInt8} {b : List UInt8} {m : Nat} (h : get l = (b, m, 0)) : all (f + 1) l = (b :: (all f (l.drop m)).1, m + (all f (l.drop m)).2.1, (all f (l.drop m)).2.2) := by
  rw [all]
  rw [h, if_neg (by simp)]

theorem get_ok {l b : List UInt8} {m : Nat} (h : get l = (b, m, 0)) : meas l = (m, 0) ∧ b = (l.drop 8).take (m - 8) ∧ l.take 8 = head b := by
  unfold get at h
  split at h
  · rename_i h1
    simp only [Prod.mk.injEq] at h
    exact absurd h.2.2 h1
  split at h
  · simp at h
  · rename_i h1 h2
    simp only [Prod.mk.injEq, and_true] at h
    have hm : meas l = (m, 0) := by
      rw [← h.2]
      have : (meas l).2 = 0 := by simpa using h1
      rw [← this]
    refine ⟨hm, by rw [← h.1, h.2], ?_⟩
    rw [← h.1]
    simpa using h2

/-- a frame is read back -/
theorem get_frame (b r : List UInt8) (hb : b.length ≤ 65535) : get (frame b ++ r) = (b, 8 + b.length, 0) := by
  have hl : (frame b ++ r).length = 8 + b.length + r.length := by rw [List.length_append, frame_len]
  have a0 : at_ (frame b ++ r) 0 = b.length / 256 := nat_byte (by omega)
  have a1 : at_ (frame b ++ r) 1 = b.length % 256 := nat_byte (by omega)
  have a2 : at_ (frame b ++ r) 2 = 255 - b.length / 256 := nat_byte (by omega)
  have a3 : at_ (frame b ++ r) 3 = 255 - b.length % 256 := nat_byte (by omega)
  have hm : meas (frame b ++ r) = (8 + b.length, 0) := by
    unfold meas
    rw [if_neg (by omega), if_neg (by omega), if_neg (by omega), if_neg (by omega), a0, a1]
    congr 1
    omega
  have hd : ((frame b ++ r).drop 8).take b.length = b := by
    unfold frame
    rw [List.append_assoc, List.drop_left' (head_len b), List.take_left' rfl]
  have ht : (frame b ++ r).take 8 = head b := by
    unfold frame
    rw [List.append_assoc, List.take_left' (head_len b)]
  unfold get
  rw [hm]
  simp only [Nat.add_sub_cancel_left, hd, ht, ne_eq, not_true_eq_false, if_false]

/-- a frame that is cut off -/
theorem get_cut (b : List UInt8) (hb : b.length ≤ 65535) (c : Nat) (hc : c < 8 + b.length) : get ((frame b).take c) = ([], 0, if c = 0 then 10 else 3) := by
  have hl : ((frame b).take c).length = c := by rw [List.length_take, frame_len]; omega
  have hm : meas ((frame b).take c) = (0, if c = 0 then 10 else 3) := by
    unfold meas
    rw [hl]
    by_cases h0 : c = 0
    · rw [if_pos h0, if_pos h0]
    rw [if_neg h0, if_neg h0]
    by_cases h4 : c < 4
    · rw [if_pos h4]
    rw [if_neg h4]
    have hg : ∀ i, i < 4 → at_ ((frame b).take c) i = at_ (frame b) i := by
      intro i hi
      unfold at_
      rw [List.getD_eq_getElem?_getD, List.getD_eq_getElem?_getD, List.getElem?_take_of_lt (by omega)]
    have a0 : at_ (frame b) 0 = b.length / 256 := nat_byte (by omega)
    have a1 : at_ (frame b) 1 = b.length % 256 := nat_byte (by omega)
    have a2 : at_ (frame b) 2 = 255 - b.length / 256 := nat_byte (by omega)
    have a3 : at_ (frame b) 3 = 255 - b.length % 256 := nat_byte (by omega)
    rw [hg 0 (by omega), hg 1 (by omega), hg 2 (by omega), hg 3 (by omega), a0, a1, a2, a3, if_neg (by omega), if_pos (by omega)]
  unfold get
  rw [hm]
  by_cases h0 : c = 0
  · simp [h0]
  · simp [h0]

end Go.Proofs.YtjkofciohehgfaaGreatDoor.L8.FM


/- Plain mathematics of layer 3: when a head is a body's; frames one behind the other, cut off, and with one byte turned. No program here. -/
namespace Go.Proofs.YtjkofciohehgfaaGreatDoor.L8.FM

/-- frames one behind the other -/
def frames (bs : List (List UInt8)) : List UInt8 := bs.flatMap frame
/-- where the first k of them end -/
def ends (bs : List (List UInt8)) (k : Nat) : Nat := (frames (bs.take k)).length

theorem frames_cons (b : List UInt8) (r : List (List UInt8)) : frames (b :: r) = frame b ++ frames r := by simp [frames]
theorem frames_snoc (bs : List (List UInt8)) (k : Nat) (h : k < bs.length) : frames (bs.take (k + 1)) = frames (bs.take k) ++ frame bs[k] := by
  rw [List.take_succ_eq_append_getElem h]; unfold frames; rw [List.flatMap_append]; simp
theorem ends_zero (bs : List (List UInt8)) : ends bs 0 = 0 := by simp [ends, frames]
theorem ends_succ (bs : List (List UInt8)) (k : Nat) (h : k < bs.length) : ends bs (k + 1) = ends bs k + (8 + bs[k].length) := by
  unfold ends; rw [frames_snoc bs k h, List.length_append, frame_len]
theorem ends_cons (b : List UInt8) (r : List (List UInt8)) (k : Nat) : ends (b :: r) (k + 1) = 8 + b.length + ends r k := by
  unfold ends; rw [List.take_succ_cons, frames_cons, List.length_append, frame_len]
theorem ends_all (bs : List (List UInt8)) : ends bs bs.length = (frames bs).length := by unfold ends; rw [List.take_of_length_le (Nat.le_refl _)]
theorem ends_mono (bs : List (List UInt8)) {i j : Nat} (h : i ≤ j) (hj : j ≤ bs.length) : ends bs i ≤ ends bs j := by
  induction j with
  | zero => obtain rfl : i = 0 := by omega
            exact Nat.le_refl _
  | succ j ih =>
    by_cases hi : i = j + 1
    · subst hi; exact Nat.le_refl _
    · have h1 := ih (by omega) (by omega)
      have h2 := ends_succ bs j (by omega)
      omega

/-- how many frames are whole among the first c bytes -/
def whole : List (List UInt8) → Nat → Nat
  | [], _ => 0
  | b :: r, c => if 8 + b.length ≤ c then whole r (c - (8 + b.length)) + 1 else 0

theorem whole_spec (bs : List (List UInt8)) : ∀ c, whole bs c ≤ bs.length ∧ ends bs (whole bs c) ≤ c ∧ (whole bs c < bs.length → c < ends bs (whole bs c + 1)) := by
  induction bs with
  | nil => intro c; simp [whole, ends_zero]
  | cons b r ih =>
    intro c
    unfold whole
    split
    · obtain ⟨h1, h2, h3⟩ := ih (c - (8 + b.length))
      refine ⟨by simp; omega, by rw [ends_cons]; omega, fun h => ?_⟩
      have := h3 (by simpa using h)
      rw [ends_cons]; omega
    · refine ⟨by omega, by rw [ends_zero]; omega, fun _ => ?_⟩
      rw [ends_cons, ends_zero]; omega

theorem ends_le_iff (bs : List (List UInt8)) (c k : Nat) (h : k < bs.length) : ends bs (k + 1) ≤ c ↔ k < whole bs c := by
  obtain ⟨h1, h2, h3⟩ := whole_spec bs c
  constructor
  · intro he
    apply Classical.byContradiction
    intro hk
    have := h3 (by omega)
    have := ends_mono bs (i := whole bs c + 1) (j := k + 1) (by omega) (by omega)
    omega
  · intro hk
    have := ends_mono bs (i := k + 1) (j := whole bs c) (by omega) h1
    omega

/-- of frames that are cut off just those that are whole are given -/
theorem all_cut (bs : List (List UInt8)) (hb : ∀ b ∈ bs, b.length ≤ 65535) : ∀ (c f : Nat), c ≤ (frames bs).length → (frames bs).length < f →
    all f ((frames bs).take c) = (bs.take (whole bs c), ends bs (whole bs c), if ends bs (whole bs c) = c then 10 else 3) := by
  induction bs with
  | nil =>
    intro c f hc hf
    obtain rfl : c = 0 := by simpa [frames] using hc
    obtain ⟨f, rfl⟩ : ∃ g, f = g + 1 := ⟨f - 1, by omega⟩
    have hg : get ((frames []).take 0) = ([], 0, 10) := by simp [get, meas, frames]
    rw [all_err (c := 10) (by rw [hg]) (by decide)]
    simp [whole, ends_zero]
  | cons b r ih =>
    intro c f hc hf
    obtain ⟨f, rfl⟩ : ∃ g, f = g + 1 := ⟨f - 1, by omega⟩
    have hbl := hb b (by simp)
    rw [frames_cons, List.length_append, frame_len] at hc hf
    rw [frames_cons]
    unfold whole
    by_cases h : 8 + b.length ≤ c
    · rw [if_pos h]
      have e : (frame b ++ frames r).take c = frame b ++ (frames r).take (c - (8 + b.length)) := by
        rw [List.take_append, frame_len, List.take_of_length_le (by rw [frame_len]; exact h)]
      rw [e, all_step (get_frame b _ hbl), List.drop_left' (frame_len b), ih (fun x hx => hb x (by simp [hx])) _ f (by omega) (by omega)]
      rw [List.take_succ_cons, ends_cons]
      congr 2
      by_cases hq : ends r (whole r (c - (8 + b.length))) = c - (8 + b.length)
      · rw [if_pos hq, if_pos (by omega)]
      · rw [if_neg hq, if_neg (by omega)]
    · rw [if_neg h]
      have e : (frame b ++ frames r).take c = (frame b).take c := by
        rw [List.take_append_of_le_length (by rw [frame_len]; omega)]
      have hg := get_cut b hbl c (by omega)
      rw [e, all_err (c := if c = 0 then 10 else 3) (by rw [hg]) (by split <;> decide), ends_zero]
      congr 2
      by_cases h0 : c = 0
      · rw [if_pos h0, if_pos h0.symm]
      · rw [if_neg h0, if_neg (fun h => h0 h.symm)]

end Go.Proofs.YtjkofciohehgfaaGreatDoor.L8.FM


/- Plain mathematics of layer 3: how much fuel makes no difference. No program here. -/
namespace Go.Proofs.YtjkofciohehgfaaGreatDoor.L8.FM

theorem all_fuel : ∀ (f g : Nat) (l : List UInt8), l.length < f → l.length < g → all f l = all g l
  | 0, _, _, h, _ => by omega
  | _ + 1, 0, _, _, h => by omega
  | f + 1, g + 1, l, hf, hg => by
    obtain ⟨b, m, c, h⟩ : ∃ b m c, get l = (b, m, c) := ⟨_, _, _, rfl⟩
    by_cases hc : c = 0
    · subst hc
      obtain ⟨hm, -, -⟩ := get_ok h
      obtain ⟨h8, hml, -, -, -⟩ := meas_ok hm
      have hl : (l.drop m).length = l.length - m := List.length_drop
      rw [all_step h, all_step h, all_fuel f g (l.drop m) (by omega) (by omega)]
    · rw [all_err (by rw [h]) hc, all_err (by rw [h]) hc]

theorem cut_all (bs : List (List UInt8)) (hb : ∀ b ∈ bs, b.length ≤ 65535) (c f : Nat) (hc : c ≤ (frames bs).length) (hf : c < f) :
    all f ((frames bs).take c) = (bs.take (whole bs c), ends bs (whole bs c), if ends bs (whole bs c) = c then 10 else 3) := by
  rw [← all_cut bs hb c ((frames bs).length + 1) hc (by omega)]
  exact all_fuel _ _ _ (by rw [List.length_take]; omega) (by rw [List.length_take]; omega)

end Go.Proofs.YtjkofciohehgfaaGreatDoor.L8.FM


