/- Plain mathematics of layer 3: when a head is a body's; frames one behind the other, cut off, and with one byte turned. No program here. -/
import Derived.Test.YtgknkldhjejjmaaDoorFmA
namespace Go.Proofs.YtgknkldhjejjmaaDoor.FM

theorem at_lt (l : List UInt8) (i : Nat) : at_ l i < 256 := by unfold at_; have := (l.getD i 0).toNat_lt; omega

theorem head_val (l : List UInt8) : at_ (head l) 4 * 16777216 + at_ (head l) 5 * 65536 + at_ (head l) 6 * 256 + at_ (head l) 7 = sum l := by
  have hs := sum_lt l
  have b4 : at_ (head l) 4 = sum l / 16777216 := nat_byte (by omega)
  have b5 : at_ (head l) 5 = sum l / 65536 % 256 := nat_byte (by omega)
  have b6 : at_ (head l) 6 = sum l / 256 % 256 := nat_byte (by omega)
  have b7 : at_ (head l) 7 = sum l % 256 := nat_byte (by omega)
  omega

theorem head_iff {l b : List UInt8} {m : Nat} (h : meas l = (m, 0)) (hb : (l.drop 8).take (m - 8) = b) :
    l.take 8 = head b ↔ sum b = at_ l 4 * 16777216 + at_ l 5 * 65536 + at_ l 6 * 256 + at_ l 7 := by
  obtain ⟨h8, hml, hm, t0, t1⟩ := meas_ok h
  have hbl : b.length = m - 8 := by rw [← hb, List.length_take, List.length_drop]; omega
  have q0 := at_lt l 0
  have q1 := at_lt l 1
  have q4 := at_lt l 4
  have q5 := at_lt l 5
  have q6 := at_lt l 6
  have q7 := at_lt l 7
  constructor
  · intro hh
    have e : ∀ i, i < 8 → at_ l i = at_ (head b) i := by
      intro i hi
      rw [← hh]
      unfold at_
      rw [List.getD_eq_getElem?_getD, List.getD_eq_getElem?_getD, List.getElem?_take_of_lt hi]
    rw [e 4 (by omega), e 5 (by omega), e 6 (by omega), e 7 (by omega), head_val]
  · intro hs
    have a0 : at_ (head b) 0 = b.length / 256 := nat_byte (by omega)
    have a1 : at_ (head b) 1 = b.length % 256 := nat_byte (by omega)
    have a2 : at_ (head b) 2 = 255 - b.length / 256 := nat_byte (by omega)
    have a3 : at_ (head b) 3 = 255 - b.length % 256 := nat_byte (by omega)
    have b4 : at_ (head b) 4 = sum b / 16777216 := nat_byte (by omega)
    have b5 : at_ (head b) 5 = sum b / 65536 % 256 := nat_byte (by omega)
    have b6 : at_ (head b) 6 = sum b / 256 % 256 := nat_byte (by omega)
    have b7 : at_ (head b) 7 = sum b % 256 := nat_byte (by omega)
    have key : ∀ i, i < 8 → at_ l i = at_ (head b) i := by
      intro i hi
      have : i = 0 ∨ i = 1 ∨ i = 2 ∨ i = 3 ∨ i = 4 ∨ i = 5 ∨ i = 6 ∨ i = 7 := by omega
      rcases this with rfl | rfl | rfl | rfl | rfl | rfl | rfl | rfl <;> omega
    apply List.ext_getElem
    · rw [List.length_take, head_len]; omega
    · intro i h1 h2
      have hi : i < 8 := by rw [head_len] at h2; exact h2
      have hk := key i hi
      unfold at_ at hk
      rw [List.getD_eq_getElem?_getD, List.getD_eq_getElem?_getD, List.getElem?_eq_getElem (by omega), List.getElem?_eq_getElem h2] at hk
      rw [List.getElem_take]
      exact UInt8.toNat_inj.1 hk

/-- the higher bytes first -/
def acc (f : Nat → Nat) : Nat → Nat
  | 0 => 0
  | j + 1 => acc f j * 256 + f j

theorem acc_lt (f : Nat → Nat) (hf : ∀ i, f i < 256) : ∀ j, acc f j < 256 ^ j
  | 0 => by simp [acc]
  | j + 1 => by
    have h1 := acc_lt f hf j
    have h2 := hf j
    rw [acc, Nat.pow_succ]
    omega

theorem acc_small (f : Nat → Nat) (hf : ∀ i, f i < 256) (j : Nat) (h : j ≤ 3) : acc f j < 16777216 := by
  have h1 := acc_lt f hf j
  have h2 : 256 ^ j ≤ 256 ^ 3 := Nat.pow_le_pow_right (by decide) h
  have h3 : (256 : Nat) ^ 3 = 16777216 := by decide
  omega

theorem acc_four (f : Nat → Nat) : acc f 4 = f 0 * 16777216 + f 1 * 65536 + f 2 * 256 + f 3 := by
  simp only [acc]; omega

/-- frames one behind the other -/
def frames (bs : List (List UInt8)) : List UInt8 := bs.flatMap frame
/-- where the first k of them end -/
def ends (bs : List (List UInt8)) (k : Nat) : Nat := (frames (bs.take k)).length

theorem frames_cons (b : List UInt8) (r : List (List UInt8)) : frames (b :: r) = frame b ++ frames r := by simp [frames]
theorem frames_snoc (bs : List (List UInt8)) (k : Nat) (h : k < bs.length) : frames (bs.take (k + 1)) = frames (bs.take k) ++ frame bs[k] := by
  rw [List.take_succ_eq_append_getElem h]; unfold frames; rw [List.flatMap_append]; simp
theorem ends_zero (bs : List (List UInt8)) : ends bs 0 = 0 := by simp [ends, frames]
theorem ends_succ (bs : List (List UInt8)) (k : Nat) (h : k < bs.length) : ends bs (k + 1) = ends bs k + (8 + bs[k].length) := by
  unfold ends; rw [frames_snoc bs k h, List.length_append, frame_len]
theorem ends_cons (b : List UInt8) (r : List (List UInt8)) (k : Nat) : ends (b :: r) (k + 1) = 8 + b.length + ends r k := by
  unfold ends; rw [List.take_succ_cons, frames_cons, List.length_append, frame_len]
theorem ends_all (bs : List (List UInt8)) : ends bs bs.length = (frames bs).length := by unfold ends; rw [List.take_of_length_le (Nat.le_refl _)]
theorem ends_mono (bs : List (List UInt8)) {i j : Nat} (h : i ≤ j) (hj : j ≤ bs.length) : ends bs i ≤ ends bs j := by
  induction j with
  | zero => obtain rfl : i = 0 := by omega
            exact Nat.le_refl _
  | succ j ih =>
    by_cases hi : i = j + 1
    · subst hi; exact Nat.le_refl _
    · have h1 := ih (by omega) (by omega)
      have h2 := ends_succ bs j (by omega)
      omega

/-- how many frames are whole among the first c bytes -/
def whole : List (List UInt8) → Nat → Nat
  | [], _ => 0
  | b :: r, c => if 8 + b.length ≤ c then whole r (c - (8 + b.length)) + 1 else 0

theorem whole_spec (bs : List (List UInt8)) : ∀ c, whole bs c ≤ bs.length ∧ ends bs (whole bs c) ≤ c ∧ (whole bs c < bs.length → c < ends bs (whole bs c + 1)) := by
  induction bs with
  | nil => intro c; simp [whole, ends_zero]
  | cons b r ih =>
    intro c
    unfold whole
    split
    · obtain ⟨h1, h2, h3⟩ := ih (c - (8 + b.length))
      refine ⟨by simp; omega, by rw [ends_cons]; omega, fun h => ?_⟩
      have := h3 (by simpa using h)
      rw [ends_cons]; omega
    · refine ⟨by omega, by rw [ends_zero]; omega, fun _ => ?_⟩
      rw [ends_cons, ends_zero]; omega

theorem ends_le_iff (bs : List (List UInt8)) (c k : Nat) (h : k < bs.length) : ends bs (k + 1) ≤ c ↔ k < whole bs c := by
  obtain ⟨h1, h2, h3⟩ := whole_spec bs c
  constructor
  · intro he
    apply Classical.byContradiction
    intro hk
    have := h3 (by omega)
    have := ends_mono bs (i := whole bs c + 1) (j := k + 1) (by omega) (by omega)
    omega
  · intro hk
    have := ends_mono bs (i := k + 1) (j := whole bs c) (by omega) h1
    omega

/-- of frames that are cut off just those that are whole are given -/
theorem all_cut (bs : List (List UInt8)) (hb : ∀ b ∈ bs, b.length ≤ 65535) : ∀ (c f : Nat), c ≤ (frames bs).length → (frames bs).length < f →
    all f ((frames bs).take c) = (bs.take (whole bs c), ends bs (whole bs c), if ends bs (whole bs c) = c then 10 else 3) := by
  induction bs with
  | nil =>
    intro c f hc hf
    obtain rfl : c = 0 := by simpa [frames] using hc
    obtain ⟨f, rfl⟩ : ∃ g, f = g + 1 := ⟨f - 1, by omega⟩
    have hg : get ((frames []).take 0) = ([], 0, 10) := by simp [get, meas, frames]
    rw [all_err (c := 10) (by rw [hg]) (by decide)]
    simp [whole, ends_zero]
  | cons b r ih =>
    intro c f hc hf
    obtain ⟨f, rfl⟩ : ∃ g, f = g + 1 := ⟨f - 1, by omega⟩
    have hbl := hb b (by simp)
    rw [frames_cons, List.length_append, frame_len] at hc hf
    rw [frames_cons]
    unfold whole
    by_cases h : 8 + b.length ≤ c
    · rw [if_pos h]
      have e : (frame b ++ frames r).take c = frame b ++ (frames r).take (c - (8 + b.length)) := by
        rw [List.take_append, frame_len, List.take_of_length_le (by rw [frame_len]; exact h)]
      rw [e, all_step (get_frame b _ hbl), List.drop_left' (frame_len b), ih (fun x hx => hb x (by simp [hx])) _ f (by omega) (by omega)]
      rw [List.take_succ_cons, ends_cons]
      congr 2
      by_cases hq : ends r (whole r (c - (8 + b.length))) = c - (8 + b.length)
      · rw [if_pos hq, if_pos (by omega)]
      · rw [if_neg hq, if_neg (by omega)]
    · rw [if_neg h]
      have e : (frame b ++ frames r).take c = (frame b).take c := by
        rw [List.take_append_of_le_length (by rw [frame_len]; omega)]
      have hg := get_cut b hbl c (by omega)
      rw [e, all_err (c := if c = 0 then 10 else 3) (by rw [hg]) (by split <;> decide), ends_zero]
      congr 2
      by_cases h0 : c = 0
      · rw [if_pos h0, if_pos h0.symm]
      · rw [if_neg h0, if_neg (fun h => h0 h.symm)]

/-- of frames of which one byte is turned all that end ahead of it are given -/
theorem all_turned (bs : List (List UInt8)) (hb : ∀ b ∈ bs, b.length ≤ 65535) : ∀ (j f : Nat) (y : UInt8), j < (frames bs).length → (frames bs).getD j 0 ≠ y → (frames bs).length < f →
    ∃ e, (e = 4 ∨ e = 6) ∧ all f ((frames bs).set j y) = (bs.take (whole bs j), ends bs (whole bs j), e) := by
  induction bs with
  | nil => intro j f y hj; simp [frames] at hj
  | cons b r ih =>
    intro j f y hj hy hf
    obtain ⟨f, rfl⟩ : ∃ g, f = g + 1 := ⟨f - 1, by omega⟩
    have hbl := hb b (by simp)
    rw [frames_cons] at hy hj hf ⊢
    rw [List.length_append, frame_len] at hj hf
    unfold whole
    by_cases h : 8 + b.length ≤ j
    · rw [if_pos h]
      have e : (frame b ++ frames r).set j y = frame b ++ (frames r).set (j - (8 + b.length)) y := by
        rw [List.set_append_right _ _ (by rw [frame_len]; exact h), frame_len]
      have hy' : (frames r).getD (j - (8 + b.length)) 0 ≠ y := by
        rw [List.getD_eq_getElem?_getD, List.getElem?_append_right (by rw [frame_len]; exact h), frame_len] at hy
        rw [List.getD_eq_getElem?_getD]; exact hy
      obtain ⟨c, hc, hall⟩ := ih (fun x hx => hb x (by simp [hx])) (j - (8 + b.length)) f y (by omega) hy' (by omega)
      refine ⟨c, hc, ?_⟩
      rw [e, all_step (get_frame b _ hbl), List.drop_left' (frame_len b), hall, List.take_succ_cons, ends_cons]
    · rw [if_neg h]
      have hg := get_turned b (frames r) hbl j (by omega) y hy
      refine ⟨if j < 4 then 4 else 6, by split <;> simp, ?_⟩
      rw [all_err (c := if j < 4 then 4 else 6) (by rw [hg]) (by split <;> decide), ends_zero]
      simp
end Go.Proofs.YtgknkldhjejjmaaDoor.FM
