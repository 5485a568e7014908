/- Texts joined by bundle.py: VarMath. -/
import Derived.Lib.Varint
import Derived.Lib.Zigzag

/- Plain mathematics of layer 1: the bytes of a number are read back, and no other bytes are read. No program here. -/
namespace Go.Proofs.Ytffdiiolgflbkaa.VM
open Go.Lib

/-- how many of the first f bytes, from the left, have their highest bit -/
def lead : Nat → List UInt8 → Nat
  | 0, _ => 0
  | _ + 1, [] => 0
  | f + 1, c :: r => if 128 ≤ c.toNat then lead f r + 1 else 0

/-- how many bytes the number has with which l begins, and the error -/
def meas (l : List UInt8) : Nat × Int :=
  if lead 10 l = 10 then (0, 4) else if lead 10 l = l.length then (0, 3)
  else if lead 10 l = 9 ∧ 1 < (l.getD 9 0).toNat then (0, 4)
  else if 0 < lead 10 l ∧ (l.getD (lead 10 l) 0).toNat = 0 then (0, 4) else (lead 10 l + 1, 0)

/-- seven bits a byte, the lowest first -/
def val : List UInt8 → Nat
  | [] => 0
  | c :: r => c.toNat % 128 + 128 * val r

def unzig (v : Nat) : Int := if v % 2 = 0 then ((v / 2 : Nat) : Int) else -((v / 2 : Nat) : Int) - 1

/-- the bytes of a number -/
def enc (n : Int) : List UInt8 := uvarint (zigzag n)

/-- what is read at a place -/
def vget (l : List UInt8) (at_ : Int) : Int × Int × Int :=
  if at_ < 0 ∨ (l.length : Int) < at_ then (0, 0, 2)
  else if (meas (l.drop at_.toNat)).2 = 0 then (unzig (val ((l.drop at_.toNat).take (meas (l.drop at_.toNat)).1)), at_ + (meas (l.drop at_.toNat)).1, 0)
  else (0, 0, (meas (l.drop at_.toNat)).2)

theorem unzig_zigzag (n : Int) : unzig (zigzag n) = n := by
  unfold unzig zigzag
  split <;> split <;> omega

theorem zigzag_unzig (v : Nat) : zigzag (unzig v) = v := by
  unfold unzig zigzag
  split <;> split <;> omega

theorem unzig_range {v : Nat} (h : v < 18446744073709551616) : -9223372036854775808 ≤ unzig v ∧ unzig v ≤ 9223372036854775807 := by
  unfold unzig
  split <;> omega

theorem val_append (a b : List UInt8) : val (a ++ b) = val a + 128 ^ a.length * val b := by
  induction a with
  | nil => simp [val]
  | cons c r ih =>
    simp only [List.cons_append, val, ih, List.length_cons, Nat.pow_succ]
    have : 128 ^ r.length * 128 * val b = 128 * (128 ^ r.length * val b) := by rw [Nat.mul_comm (128 ^ r.length) 128, Nat.mul_assoc]
    omega

theorem val_lt (a : List UInt8) : val a < 128 ^ a.length := by
  induction a with
  | nil => simp [val]
  | cons c r ih =>
    simp only [val, List.length_cons, Nat.pow_succ]
    have := Nat.mod_lt c.toNat (show 128 > 0 by decide)
    omega

/-- whole bytes: all but the last have their highest bit; the last is not 0, unless alone -/
structure Canon (a : List UInt8) (c : UInt8) : Prop where
  hi : ∀ x ∈ a, 128 ≤ x.toNat
  lo : c.toNat < 128
  nz : a ≠ [] → c.toNat ≠ 0

theorem toUInt8_of (x : UInt8) (n : Nat) (h : n % 256 = x.toNat) : n.toUInt8 = x := by
  apply UInt8.toNat_inj.1
  simp only [Nat.toUInt8, UInt8.toNat_ofNat']
  have := x.toNat_lt
  omega

theorem canon_uvarint (x : Nat) : ∃ a c, uvarint x = a ++ [c] ∧ Canon a c := by
  induction x using Nat.strongRecOn with
  | _ x ih =>
    by_cases h : x < 128
    · refine ⟨[], x.toUInt8, by rw [uvarint_small h]; rfl, ⟨by simp, ?_, by simp⟩⟩
      simp only [Nat.toUInt8, UInt8.toNat_ofNat']; omega
    · obtain ⟨a, c, he, hc⟩ := ih (x / 128) (by omega)
      refine ⟨(x % 128 + 128).toUInt8 :: a, c, by rw [uvarint_big (by omega), he]; rfl, ⟨?_, hc.lo, ?_⟩⟩
      · intro y hy
        rcases List.mem_cons.1 hy with rfl | hy
        · simp only [Nat.toUInt8, UInt8.toNat_ofNat']; omega
        · exact hc.hi y hy
      · intro _ h0
        by_cases ha : a = []
        · subst ha
          have hlt : x / 128 < 128 := by
            by_cases hb : x / 128 < 128
            · exact hb
            · rw [uvarint_big (by omega)] at he
              have := congrArg List.length he
              have hp := uvarint_pos (x / 128 / 128)
              simp only [List.length_cons, List.length_append, List.length_nil] at this; omega
          rw [uvarint_small hlt] at he
          have hc0 : c = (x / 128).toUInt8 := by simpa using he.symm
          rw [hc0] at h0
          simp only [Nat.toUInt8, UInt8.toNat_ofNat'] at h0
          omega
        · exact hc.nz ha h0

theorem val_pos {a : List UInt8} {c : UInt8} (hc : Canon a c) (h : c.toNat ≠ 0) : 1 ≤ val (a ++ [c]) := by
  rw [val_append]
  have h1 : val [c] = c.toNat := by simp only [val]; have := hc.lo; omega
  have h2 : 0 < 128 ^ a.length := Nat.pow_pos (by decide)
  have h3 : 0 < 128 ^ a.length * c.toNat := Nat.mul_pos h2 (by omega)
  rw [h1]; omega

theorem uvarint_val {a : List UInt8} {c : UInt8} (hc : Canon a c) : uvarint (val (a ++ [c])) = a ++ [c] := by
  induction a with
  | nil =>
    have h1 : val [c] = c.toNat := by simp only [val]; have := hc.lo; omega
    rw [List.nil_append, h1, uvarint_small hc.lo, toUInt8_of c c.toNat (by have := c.toNat_lt; omega)]
  | cons x t ih =>
    have hct : Canon t c := ⟨fun y hy => hc.hi y (by simp [hy]), hc.lo, fun _ => hc.nz (by simp)⟩
    have hp := val_pos hct (hc.nz (by simp))
    have hx := hc.hi x (by simp)
    have hx2 := x.toNat_lt
    rw [List.cons_append]
    have e : val (x :: (t ++ [c])) = x.toNat % 128 + 128 * val (t ++ [c]) := rfl
    rw [e, uvarint_big (by omega)]
    have e1 : (x.toNat % 128 + 128 * val (t ++ [c])) % 128 = x.toNat % 128 := by omega
    have e2 : (x.toNat % 128 + 128 * val (t ++ [c])) / 128 = val (t ++ [c]) := by omega
    rw [e1, e2, ih hct, toUInt8_of x (x.toNat % 128 + 128) (by omega)]

theorem val_uvarint (x : Nat) : val (uvarint x) = x := by
  induction x using Nat.strongRecOn with
  | _ x ih =>
    by_cases h : x < 128
    · rw [uvarint_small h]
      simp only [val, Nat.toUInt8, UInt8.toNat_ofNat']; omega
    · rw [uvarint_big (by omega)]
      simp only [val, ih (x / 128) (by omega), Nat.toUInt8, UInt8.toNat_ofNat']; omega

theorem lead_canon {a : List UInt8} {c : UInt8} (hc : Canon a c) (r : List UInt8) (f : Nat) (h : a.length < f) : lead f (a ++ c :: r) = a.length := by
  induction a generalizing f with
  | nil =>
    cases f with
    | zero => simp at h
    | succ f => have := hc.lo; simp [lead]; omega
  | cons x t ih =>
    cases f with
    | zero => simp at h
    | succ f =>
      have hct : Canon t c := ⟨fun y hy => hc.hi y (by simp [hy]), hc.lo, fun _ => hc.nz (by simp)⟩
      have hx := hc.hi x (by simp)
      simp only [List.cons_append, lead, if_pos hx, List.length_cons]
      rw [ih hct f (by simpa using h)]

theorem lead_all {a : List UInt8} (h : ∀ x ∈ a, 128 ≤ x.toNat) (f : Nat) (hf : a.length ≤ f) : lead f a = a.length := by
  induction a generalizing f with
  | nil => cases f <;> rfl
  | cons x t ih =>
    cases f with
    | zero => simp at hf
    | succ f =>
      have hx := h x (by simp)
      simp only [lead, if_pos hx, List.length_cons]
      rw [ih (fun y hy => h y (by simp [hy])) f (by simpa using hf)]

theorem lead_le (f : Nat) (l : List UInt8) : lead f l ≤ f ∧ lead f l ≤ l.length := by
  induction l generalizing f with
  | nil => cases f <;> simp [lead]
  | cons c r ih =>
    cases f with
    | zero => simp [lead]
    | succ f =>
      simp only [lead]
      have := ih f
      split
      · simp; omega
      · simp

/-- what stands at the left of the first byte without its highest bit -/
theorem lead_split (f : Nat) (l : List UInt8) : (∀ x ∈ l.take (lead f l), 128 ≤ x.toNat) ∧ (lead f l < f → (h : lead f l < l.length) → l[lead f l].toNat < 128) := by
  induction l generalizing f with
  | nil => cases f <;> simp [lead]
  | cons c r ih =>
    cases f with
    | zero => simp [lead]
    | succ f =>
      by_cases hc : 128 ≤ c.toNat
      · have e : lead (f + 1) (c :: r) = lead f r + 1 := by simp only [lead, if_pos hc]
        have ih' := ih f
        constructor
        · intro x hx
          rw [e, List.take_succ_cons] at hx
          rcases List.mem_cons.1 hx with rfl | hx
          · exact hc
          · exact ih'.1 x hx
        · intro h1 h2
          simp only [e] at h1 h2 ⊢
          have := ih'.2 (by omega) (by simpa using h2)
          simpa using this
      · have e : lead (f + 1) (c :: r) = 0 := by simp only [lead, if_neg hc]
        constructor
        · intro x hx; rw [e] at hx; simp at hx
        · intro h1 h2; simp only [e]; simp; omega

/-- one more byte with its highest bit -/
theorem lead_step {l : List UInt8} {k : Nat} (hk : k < l.length) (h10 : k < 10) (hc : 128 ≤ l[k].toNat) (h : lead 10 l = k + lead (10 - k) (l.drop k)) :
    lead 10 l = (k + 1) + lead (10 - (k + 1)) (l.drop (k + 1)) := by
  rw [h, List.drop_eq_getElem_cons hk, show 10 - k = (10 - (k + 1)) + 1 by omega]
  simp only [lead, if_pos hc]
  omega

theorem lead_stop {l : List UInt8} {k : Nat} (hs : k = 10 ∨ k = l.length ∨ (∃ hk : k < l.length, l[k].toNat < 128)) (h : lead 10 l = k + lead (10 - k) (l.drop k)) : lead 10 l = k := by
  rw [h]
  rcases hs with rfl | rfl | ⟨hk, hc⟩
  · simp [lead]
  · rw [List.drop_length]
    cases 10 - l.length <;> simp [lead]
  · rw [List.drop_eq_getElem_cons hk]
    cases 10 - k with
    | zero => simp [lead]
    | succ f => simp only [lead, if_neg (show ¬ 128 ≤ l[k].toNat by omega)]; omega

theorem val_take_succ {l : List UInt8} {k : Nat} (hk : k < l.length) : val (l.take (k + 1)) = val (l.take k) + 128 ^ k * (l[k].toNat % 128) := by
  rw [List.take_succ_eq_append_getElem hk, val_append]
  have hlen : (l.take k).length = k := by simp; omega
  rw [hlen]
  simp [val]

theorem val_take_le (l : List UInt8) (k : Nat) : val (l.take k) ≤ val l := by
  conv => rhs; rw [← List.take_append_drop k l, val_append]
  omega

theorem meas_canon {a : List UInt8} {c : UInt8} (hc : Canon a c) (r : List UInt8) (h : a.length ≤ 8 ∨ (a.length = 9 ∧ c.toNat ≤ 1)) : meas (a ++ c :: r) = (a.length + 1, 0) := by
  have hl := lead_canon hc r 10 (by omega)
  have hlen : (a ++ c :: r).length = a.length + r.length + 1 := by simp; omega
  have hg : (a ++ c :: r).getD a.length 0 = c := by simp [List.getD]
  unfold meas
  rw [hl]
  rw [if_neg (by omega), if_neg (by omega)]
  have h3 : ¬(a.length = 9 ∧ 1 < ((a ++ c :: r).getD 9 0).toNat) := by
    rintro ⟨h9, h1⟩
    rw [← h9, hg] at h1
    omega
  rw [if_neg h3]
  have h4 : ¬(0 < a.length ∧ ((a ++ c :: r).getD a.length 0).toNat = 0) := by
    rintro ⟨h0, h1⟩
    rw [hg] at h1
    exact hc.nz (by intro h; subst h; simp at h0) h1
  rw [if_neg h4]

theorem canon_len {x : Nat} (hx : x < 18446744073709551616) {a : List UInt8} {c : UInt8} (he : uvarint x = a ++ [c]) : a.length ≤ 8 ∨ (a.length = 9 ∧ c.toNat ≤ 1) := by
  have h10 := uvarint_length64 hx
  rw [he] at h10
  simp at h10
  by_cases h9 : a.length = 9
  · right
    refine ⟨h9, ?_⟩
    have hv : val (a ++ [c]) = x := by rw [← he, val_uvarint]
    rw [val_append, h9] at hv
    have hc := c.toNat_lt
    have h1 : val [c] = c.toNat % 128 := by simp [val]
    rw [h1] at hv
    obtain ⟨a', c', he', hc'⟩ := canon_uvarint x
    have hcc : c = c' := by
      have := he.symm.trans he'
      exact (List.append_inj' this rfl).2 |> fun h => by simpa using h
    have := hc'.lo
    rw [← hcc] at this
    omega
  · left; omega

theorem meas_enc {x : Nat} (hx : x < 18446744073709551616) (r : List UInt8) : meas (uvarint x ++ r) = ((uvarint x).length, 0) := by
  obtain ⟨a, c, he, hc⟩ := canon_uvarint x
  have h := meas_canon hc r (canon_len hx he)
  rw [he]
  simpa using h

/-- bytes that are cut off within a number -/
theorem meas_cut {x : Nat} (hx : x < 18446744073709551616) {k : Nat} (hk : k < (uvarint x).length) : meas ((uvarint x).take k) = (0, 3) := by
  obtain ⟨a, c, he, hc⟩ := canon_uvarint x
  have hl := canon_len hx he
  rw [he] at hk ⊢
  have hk' : k ≤ a.length := by simp at hk; omega
  have ht : (a ++ [c]).take k = a.take k := List.take_append_of_le_length hk'
  rw [ht]
  have hlen : (a.take k).length = k := by simp; omega
  have hle := lead_all (a := a.take k) (fun y hy => hc.hi y (List.mem_of_mem_take hy)) 10 (by omega)
  unfold meas
  rw [hle, hlen, if_neg (by omega), if_pos rfl]

/-- what is measured is a number's bytes -/
theorem meas_ok {l : List UInt8} (h : (meas l).2 = 0) : 1 ≤ (meas l).1 ∧ (meas l).1 ≤ 10 ∧ (meas l).1 ≤ l.length ∧ (meas l).1 = lead 10 l + 1 ∧
    val (l.take (meas l).1) < 18446744073709551616 ∧ uvarint (val (l.take (meas l).1)) = l.take (meas l).1 := by
  have hl := lead_le 10 l
  have hs := lead_split 10 l
  generalize hk : lead 10 l = k at *
  unfold meas at h ⊢
  rw [hk] at h ⊢
  by_cases h1 : k = 10
  · rw [if_pos h1] at h; simp at h
  rw [if_neg h1] at h ⊢
  by_cases h2 : k = l.length
  · rw [if_pos h2] at h; simp at h
  rw [if_neg h2] at h ⊢
  by_cases h3 : k = 9 ∧ 1 < (l.getD 9 0).toNat
  · rw [if_pos h3] at h; simp at h
  rw [if_neg h3] at h ⊢
  by_cases h4 : 0 < k ∧ (l.getD k 0).toNat = 0
  · rw [if_pos h4] at h; simp at h
  rw [if_neg h4]
  have hlt : k < l.length := by omega
  have hg : ∀ j, (hj : j < l.length) → l.getD j 0 = l[j] := fun j hj => by simp [List.getD, hj]
  have htake : l.take (k + 1) = l.take k ++ [l[k]] := by rw [List.take_succ_eq_append_getElem hlt]
  have hlen : (l.take k).length = k := by simp; omega
  have hc : Canon (l.take k) l[k] := by
    refine ⟨hs.1, hs.2 (by omega) hlt, fun hne h0 => h4 ⟨?_, by rw [hg k hlt]; exact h0⟩⟩
    cases k with
    | zero => simp at hne
    | succ k => omega
  refine ⟨by simp, by simp; omega, by simp; omega, by simp, ?_, ?_⟩
  · show val (l.take (k + 1)) < _
    rw [htake, val_append, hlen]
    have hv := val_lt (l.take k)
    rw [hlen] at hv
    have h1' : val [l[k]] = l[k].toNat := by simp only [val]; have := hc.lo; omega
    rw [h1']
    by_cases h9 : k = 9
    · have hle : l[k].toNat ≤ 1 := by
        have h3' : ¬ 1 < (l.getD k 0).toNat := fun h => h3 ⟨h9, by rw [← h9]; exact h⟩
        rw [hg k hlt] at h3'
        omega
      have e : (128 : Nat) ^ 9 = 9223372036854775808 := by decide
      have hv9 : val (l.take k) < 9223372036854775808 := by rw [← e, ← h9]; exact hv
      have h9' : 128 ^ k * l[k].toNat ≤ 9223372036854775808 := by
        have h := Nat.mul_le_mul_left (128 ^ k) hle
        have ek : (128 : Nat) ^ k = 9223372036854775808 := by rw [h9, e]
        omega
      omega
    · have hlo := hc.lo
      have hk8 : k ≤ 8 := by omega
      have e : (128 : Nat) ^ (k + 1) ≤ 128 ^ 9 := Nat.pow_le_pow_right (by decide) (by omega)
      have hv2 := val_lt (l.take (k + 1))
      rw [htake, val_append, hlen, h1'] at hv2
      have hlen2 : (l.take k ++ [l[k]]).length = k + 1 := by simp; omega
      rw [hlen2] at hv2
      have e9 : (128 : Nat) ^ 9 = 9223372036854775808 := by decide
      omega
  · show uvarint (val (l.take (k + 1))) = l.take (k + 1)
    rw [htake]
    exact uvarint_val hc

/-- A NUMBER IS READ BACK, whatever stands behind -/
theorem vget_enc {n : Int} (h0 : -9223372036854775808 ≤ n) (h1 : n ≤ 9223372036854775807) (p r : List UInt8) :
    vget (p ++ enc n ++ r) p.length = (n, ((p.length + (enc n).length : Nat) : Int), 0) := by
  have hz := zigzag_lt h0 h1
  unfold vget
  have hlen : (p ++ enc n ++ r).length = p.length + (enc n).length + r.length := by simp only [List.length_append]
  rw [if_neg (by rw [hlen]; omega)]
  have hd : (p ++ enc n ++ r).drop ((p.length : Int)).toNat = enc n ++ r := by
    rw [Int.toNat_natCast, List.append_assoc, List.drop_left]
  have hm : meas (enc n ++ r) = ((enc n).length, 0) := meas_enc hz r
  rw [hd, hm]
  rw [if_pos rfl]
  have ht : (enc n ++ r).take ((enc n).length, (0 : Int)).1 = enc n := List.take_left
  rw [ht]
  unfold enc
  rw [val_uvarint, unzig_zigzag]
  simp

/-- NO OTHER BYTES are read as a number -/
theorem vget_ok {l : List UInt8} {at_ : Int} (h : (vget l at_).2.2 = 0) : 0 ≤ at_ ∧ at_ ≤ l.length ∧ ∃ k : Nat, 1 ≤ k ∧ k ≤ 10 ∧ at_ + k ≤ l.length ∧
    (vget l at_).2.1 = at_ + k ∧ -9223372036854775808 ≤ (vget l at_).1 ∧ (vget l at_).1 ≤ 9223372036854775807 ∧ enc (vget l at_).1 = (l.drop at_.toNat).take k := by
  unfold vget at h ⊢
  by_cases h1 : at_ < 0 ∨ (l.length : Int) < at_
  · rw [if_pos h1] at h; simp at h
  rw [if_neg h1] at h ⊢
  by_cases h2 : (meas (l.drop at_.toNat)).2 = 0
  · rw [if_pos h2]
    obtain ⟨a, b, c, d, e, f⟩ := meas_ok h2
    rw [List.length_drop] at c
    have hr := unzig_range e
    refine ⟨by omega, by omega, (meas (l.drop at_.toNat)).1, a, b, by omega, rfl, hr.1, hr.2, ?_⟩
    show enc (unzig _) = _
    unfold enc
    rw [zigzag_unzig, f]
  · rw [if_neg h2] at h; exact absurd h h2

/-- the length of a number's bytes -/
theorem enc_len {n : Int} (h0 : -9223372036854775808 ≤ n) (h1 : n ≤ 9223372036854775807) : 1 ≤ (enc n).length ∧ (enc n).length ≤ 10 :=
  ⟨uvarint_pos _, uvarint_length64 (zigzag_lt h0 h1)⟩

theorem vget_cut {n : Int} (h0 : -9223372036854775808 ≤ n) (h1 : n ≤ 9223372036854775807) {k : Nat} (hk : k < (enc n).length) : vget ((enc n).take k) 0 = (0, 0, 3) := by
  unfold vget
  rw [if_neg (by omega)]
  have hm : meas ((enc n).take k) = (0, 3) := meas_cut (zigzag_lt h0 h1) hk
  have hd : ((enc n).take k).drop (0 : Int).toNat = (enc n).take k := rfl
  rw [hd, hm, if_neg (by decide)]
end Go.Proofs.Ytffdiiolgflbkaa.VM

