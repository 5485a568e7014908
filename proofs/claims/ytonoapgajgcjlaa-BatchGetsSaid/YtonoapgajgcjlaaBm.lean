/- Plain mathematics of batches: their bytes, and what is read of bytes. No function of the program. -/
import Derived.Test.YtonoapgajgcjlaaSm
import Derived.Test.YtonoapgajgcjlaaVarMath
import Derived.Test.YtonoapgajgcjlaaVarE
namespace Go.Proofs.Ytonoapgajgcjlaa
namespace BK
open SK
open VM

def one (e : E) : E := { e with seq := 1 }
/-- the error of an item that is put -/
def bad1 (e : E) : Int := if good (one e) ≠ 0 then good (one e) else if e.til = 9223372036854775807 then 2 else 0
def textB (s : ByteArray) : List UInt8 := enc s.size ++ s.data.toList
def itemB (e : E) : List UInt8 := textB e.key ++ (if e.gone = true then enc 0 else enc (e.til + 1) ++ textB e.value)
/-- the first error -/
def bad : List E → Int
  | [] => 0
  | e :: r => if bad1 e ≠ 0 then bad1 e else bad r
def allB (l : List E) : List UInt8 := l.flatMap itemB
def putB (l : List E) : List UInt8 := enc l.length ++ allB l
def putOut (l : List E) : List UInt8 × Int := if 64 < l.length then ([], 5) else if bad l ≠ 0 then ([], bad l) else (putB l, 0)
def z (e : E) : E := { e with seq := 0 }

theorem textEnc_eq (s : ByteArray) : textEnc s = ⟨(textB s).toArray⟩ := rfl
theorem bad1_z (e : E) : bad1 (z e) = bad1 e := rfl
theorem itemB_z (e : E) : itemB (z e) = itemB e := rfl
theorem z_z (e : E) : z (z e) = z e := rfl
theorem z_self {e : E} (h : e.seq = 0) : z e = e := by cases e; simp_all [z]

theorem good_one_zero {e : E} (h : good (one e) = 0) : 0 < e.key.size ∧ e.key.size ≤ 64 ∧ e.value.size ≤ 512 ∧ 0 ≤ e.til ∧ (e.gone = true → e.value.size = 0 ∧ e.til = 0) := by
  unfold good one at h
  simp only at h
  split at h
  · simp at h
  · split at h
    · simp at h
    · split at h
      · simp at h
      · rename_i h1 h2 h3
        refine ⟨by omega, by omega, by omega, by omega, fun hg => ?_⟩
        have : ¬ (0 < e.value.size ∨ 0 < e.til) := fun h => h3 ⟨hg, h⟩
        omega

theorem bad1_zero {e : E} (h : bad1 e = 0) : good (one e) = 0 ∧ e.til ≠ 9223372036854775807 := by
  unfold bad1 at h
  split at h
  · rename_i h1; exact absurd h h1
  · split at h
    · simp at h
    · rename_i h1 h2
      exact ⟨by simpa using h1, h2⟩

theorem bad1_of {e : E} (h : good (one e) = 0) (ht : e.til ≠ 9223372036854775807) : bad1 e = 0 := by
  unfold bad1; rw [if_neg (by simp [h]), if_neg ht]

theorem bad_nil : bad [] = 0 := rfl
theorem bad_cons_ok {e : E} {r : List E} (h : bad1 e = 0) : bad (e :: r) = bad r := by simp [bad, h]
theorem bad_cons_no {e : E} {r : List E} (h : bad1 e ≠ 0) : bad (e :: r) = bad1 e := by simp [bad, h]
theorem bad_zero : ∀ {l : List E}, bad l = 0 → ∀ e ∈ l, bad1 e = 0
  | [], _ => by simp
  | x :: r, h => by
    by_cases hx : bad1 x = 0
    · rw [bad_cons_ok hx] at h
      intro e he
      rcases List.mem_cons.1 he with rfl | he
      · exact hx
      · exact bad_zero h e he
    · rw [bad_cons_no hx] at h
      exact absurd h hx
theorem bad_all : ∀ {l : List E}, (∀ e ∈ l, bad1 e = 0) → bad l = 0
  | [], _ => rfl
  | x :: r, h => by
    rw [bad_cons_ok (h x (List.mem_cons_self ..))]
    exact bad_all fun e he => h e (List.mem_cons_of_mem _ he)

theorem textB_len (s : ByteArray) (h : s.size ≤ 9223372036854775807) : (textB s).length ≤ 10 + s.size := by
  have := (enc_len (n := (s.size : Int)) (by omega) (by omega)).2
  simp only [textB, List.length_append, size_list]
  omega

theorem itemB_len {e : E} (h : bad1 e = 0) (hw : e.til ≤ 9223372036854775807) : (itemB e).length ≤ 606 := by
  obtain ⟨hg, ht⟩ := bad1_zero h
  obtain ⟨h1, h2, h3, h4, -⟩ := good_one_zero hg
  have hk := textB_len e.key (by omega)
  have hv := textB_len e.value (by omega)
  unfold itemB
  rw [List.length_append]
  split
  · have := (enc_len (n := 0) (by omega) (by omega)).2
    omega
  · have := (enc_len (n := e.til + 1) (by omega) (by omega)).2
    rw [List.length_append]
    omega

theorem allB_snoc (l : List E) (e : E) : allB (l ++ [e]) = allB l ++ itemB e := by simp [allB]

/-! ### reading -/

def rNum (l : List UInt8) (p : Nat) : Except Int (Int × Nat) :=
  if (vget l p).2.2 = 0 then .ok ((vget l p).1, (vget l p).2.1.toNat) else .error (vget l p).2.2
def rText (l : List UInt8) (p : Nat) : Except Int (ByteArray × Nat) :=
  if (vtext l p).2.2 = 0 then .ok (⟨(vtext l p).1.toArray⟩, (vtext l p).2.1.toNat) else .error (vtext l p).2.2
def rFin (e : E) (p : Nat) : Except Int (E × Nat) := if good (one e) = 0 then .ok (e, p) else .error (good (one e))
def rTail (l : List UInt8) (k : ByteArray) (n : Int) (p : Nat) : Except Int (E × Nat) :=
  if n < 0 then .error 4 else if n = 0 then rFin ⟨k, 0, true, ⟨#[]⟩, 0⟩ p else
    match rText l p with
    | .error c => .error c
    | .ok (v, q) => rFin ⟨k, 0, false, v, n - 1⟩ q
def rItem (l : List UInt8) (p : Nat) : Except Int (E × Nat) :=
  match rText l p with
  | .error c => .error c
  | .ok (k, p1) =>
    match rNum l p1 with
    | .error c => .error c
    | .ok (n, p2) => rTail l k n p2
def rItems (l : List UInt8) : Nat → Nat → List E → Except Int (List E × Nat)
  | 0, p, acc => .ok (acc, p)
  | k + 1, p, acc =>
    match rItem l p with
    | .error c => .error c
    | .ok (e, q) => rItems l k q (acc ++ [e])
def rEnd (l : List UInt8) : Except Int (List E × Nat) → Except Int (List E)
  | .error c => .error c
  | .ok (es, p) => if p < l.length then .error 4 else .ok es
def getOut (l : List UInt8) : Except Int (List E) :=
  match rNum l 0 with
  | .error c => .error c
  | .ok (n, p) => if 64 < n then .error 5 else if n < 0 then .error 4 else rEnd l (rItems l n.toNat p [])

theorem num_ok {l : List UInt8} {p q : Nat} {n : Int} (h : rNum l p = .ok (n, q)) :
    -9223372036854775808 ≤ n ∧ n ≤ 9223372036854775807 ∧ q ≤ l.length ∧ ∃ a r, l = a ++ (enc n ++ r) ∧ a.length = p ∧ q = p + (enc n).length := by
  unfold rNum at h
  split at h
  · rename_i h0
    obtain ⟨-, hp, k, hk1, hk10, hle, hb, hn0, hn1, he⟩ := vget_ok h0
    simp only [Except.ok.injEq, Prod.mk.injEq] at h
    obtain ⟨rfl, rfl⟩ := h
    rw [hb]
    have hlen : (enc (vget l p).1).length = k := by
      rw [he, List.length_take, List.length_drop, Int.toNat_natCast]; omega
    refine ⟨hn0, hn1, by omega, l.take p, (l.drop p).drop k, ?_, by rw [List.length_take]; omega, by rw [hlen]; omega⟩
    rw [he, Int.toNat_natCast, List.take_append_drop, List.take_append_drop]
  · cases h

theorem num_enc {n : Int} (h0 : -9223372036854775808 ≤ n) (h1 : n ≤ 9223372036854775807) (a r : List UInt8) : rNum (a ++ (enc n ++ r)) a.length = .ok (n, a.length + (enc n).length) := by
  have h := vget_enc h0 h1 a r
  rw [List.append_assoc] at h
  unfold rNum
  rw [h, if_pos rfl, Int.toNat_natCast]

theorem num_cut {n : Int} (h0 : -9223372036854775808 ≤ n) (h1 : n ≤ 9223372036854775807) (a : List UInt8) {k : Nat} (hk : k < (enc n).length) : rNum (a ++ (enc n).take k) a.length = .error 3 := by
  have hm := meas_cut (Go.Lib.zigzag_lt h0 h1) hk
  have hv : vget (a ++ (enc n).take k) a.length = (0, 0, 3) := by
    rw [vget_fault (by simp) (by rw [List.drop_left]; unfold enc; rw [hm]; decide), List.drop_left]
    unfold enc; rw [hm]
  unfold rNum
  rw [hv, if_neg (by decide)]

theorem num_le {l : List UInt8} {p q : Nat} {n : Int} (h : rNum l p = .ok (n, q)) : q ≤ l.length := (num_ok h).2.2.1

/-- vtext, said by rNum -/
theorem text_num (l : List UInt8) (p : Nat) : rText l p =
    match rNum l p with
    | .error c => .error c
    | .ok (n, q) => if n < 0 then .error 4 else if 65535 < n then .error 5 else if (l.length : Int) - q < n then .error 3 else .ok (⟨((l.drop q).take n.toNat).toArray⟩, q + n.toNat) := by
  unfold rText rNum vtext
  by_cases h0 : (vget l p).2.2 = 0
  · obtain ⟨-, hp, k, hk1, hk10, hle, hb, hn0, hn1, he⟩ := vget_ok h0
    have hq : ((vget l p).2.1.toNat : Int) = (vget l p).2.1 := by omega
    simp only [h0, ne_eq, not_true_eq_false, if_false, if_true]
    rw [hq]
    split
    · rw [if_neg (by decide)]
    · split
      · rw [if_neg (by decide)]
      · split
        · rw [if_neg (by decide)]
        · rw [if_pos rfl]
          simp only [Except.ok.injEq, Prod.mk.injEq, true_and]
          omega
  · simp only [h0, ne_eq, not_false_eq_true, if_true, if_false]

theorem str_bytes (s : ByteArray) (r : List UInt8) (a : List UInt8) : (((a ++ (s.data.toList ++ r)).drop a.length).take s.size) = s.data.toList := by
  rw [List.drop_left, List.take_append_of_le_length (by rw [size_list]; exact Nat.le_refl _), List.take_of_length_le (by rw [size_list]; exact Nat.le_refl _)]

theorem text_ok {l : List UInt8} {p q : Nat} {s : ByteArray} (h : rText l p = .ok (s, q)) :
    s.size ≤ 65535 ∧ q ≤ l.length ∧ ∃ a r, l = a ++ (textB s ++ r) ∧ a.length = p ∧ q = p + (textB s).length := by
  rw [text_num] at h
  cases hn : rNum l p with
  | error c => rw [hn] at h; cases h
  | ok x =>
    obtain ⟨n, b⟩ := x
    rw [hn] at h
    simp only at h
    obtain ⟨-, -, hbl, a, r, hl, ha, hb⟩ := num_ok hn
    split at h
    · cases h
    · split at h
      · cases h
      · split at h
        · cases h
        · rename_i h1 h2 h3
          simp only [Except.ok.injEq, Prod.mk.injEq] at h
          obtain ⟨rfl, rfl⟩ := h
          have hlr : l.length = b + r.length := by rw [hl, hb, ← ha]; simp; omega
          have hd : l.drop b = r := by
            rw [hl, hb, ← ha, ← List.append_assoc, ← List.length_append, List.drop_left]
          rw [hd]
          have hs : (⟨(r.take n.toNat).toArray⟩ : ByteArray).size = n.toNat := by
            show (r.take n.toNat).toArray.size = _
            rw [List.size_toArray, List.length_take]; omega
          have hsi : (((⟨(r.take n.toNat).toArray⟩ : ByteArray).size : Nat) : Int) = n := by rw [hs]; omega
          refine ⟨by rw [hs]; omega, by omega, a, r.drop n.toNat, ?_, ha, ?_⟩
          · unfold textB
            rw [hsi, hl]
            simp
          · unfold textB
            rw [hsi, List.length_append, size_list, hs]
            omega

theorem text_enc (s : ByteArray) (hs : s.size ≤ 65535) (a r : List UInt8) : rText (a ++ (textB s ++ r)) a.length = .ok (s, a.length + (textB s).length) := by
  have h := num_enc (n := (s.size : Int)) (by omega) (by omega) a (s.data.toList ++ r)
  rw [text_num]
  unfold textB
  rw [List.append_assoc, h]
  simp only
  rw [if_neg (by omega), if_neg (by omega), if_neg (by simp; omega)]
  have hsb := str_bytes s r (a ++ enc (s.size : Int))
  rw [List.append_assoc, List.length_append] at hsb
  rw [Int.toNat_natCast, hsb]
  simp only [Except.ok.injEq, Prod.mk.injEq, List.length_append, size_list]
  exact ⟨trivial, by omega⟩

theorem text_cut (s : ByteArray) (hs : s.size ≤ 65535) (a : List UInt8) {k : Nat} (hk : k < (textB s).length) : rText (a ++ (textB s).take k) a.length = .error 3 := by
  rw [text_num]
  by_cases hke : k < (enc (s.size : Int)).length
  · have h := num_cut (n := (s.size : Int)) (by omega) (by omega) a hke
    unfold textB
    rw [List.take_append_of_le_length (by omega), h]
  · have hx : (textB s).take k = enc (s.size : Int) ++ s.data.toList.take (k - (enc (s.size : Int)).length) := by
      unfold textB
      rw [List.take_append, List.take_of_length_le (by omega)]
    have h := num_enc (n := (s.size : Int)) (by omega) (by omega) a (s.data.toList.take (k - (enc (s.size : Int)).length))
    rw [hx, h]
    simp only
    unfold textB at hk
    rw [List.length_append, size_list] at hk
    rw [if_neg (by omega), if_neg (by omega), if_pos (by simp [List.length_take]; omega)]

theorem fin_enc {e : E} (h : bad1 e = 0) (p : Nat) : rFin e p = .ok (e, p) := by unfold rFin; rw [if_pos (bad1_zero h).1]

theorem gone_eq {e : E} (h : bad1 e = 0) (hs : e.seq = 0) (hg : e.gone = true) : e = ⟨e.key, 0, true, ⟨#[]⟩, 0⟩ := by
  obtain ⟨h1, h2⟩ := (good_one_zero (bad1_zero h).1).2.2.2.2 hg
  have h3 : e.value = ⟨#[]⟩ := by
    apply str_ext
    rw [← size_list, List.length_eq_zero_iff] at h1
    rw [h1]
  obtain ⟨k, q, g, v, t⟩ := e
  simp only at hs hg h2 h3
  subst hs hg h2 h3
  rfl

theorem item_enc {e : E} (h : bad1 e = 0) (hs : e.seq = 0) (hw : e.til ≤ 9223372036854775807) (a r : List UInt8) :
    rItem (a ++ (itemB e ++ r)) a.length = .ok (e, a.length + (itemB e).length) := by
  obtain ⟨hg1, ht⟩ := bad1_zero h
  obtain ⟨h1, h2, h3, h4, h5⟩ := good_one_zero hg1
  unfold rItem
  by_cases hg : e.gone = true
  · have hB : itemB e = textB e.key ++ enc 0 := by unfold itemB; rw [if_pos hg]
    rw [hB]
    have e1 := text_enc e.key (by omega) a (enc 0 ++ r)
    have e2 := num_enc (n := 0) (by omega) (by omega) (a ++ textB e.key) r
    simp only [List.append_assoc, List.length_append] at e1 e2 ⊢
    rw [e1]
    simp only
    rw [e2]
    simp only [rTail, if_true]
    rw [if_neg (by omega), ← gone_eq h hs hg, fin_enc h]
    simp only [Except.ok.injEq, Prod.mk.injEq, true_and]
    omega
  · have hB : itemB e = textB e.key ++ (enc (e.til + 1) ++ textB e.value) := by unfold itemB; rw [if_neg hg]
    have hgf : e.gone = false := by simpa using hg
    have he : (⟨e.key, 0, false, e.value, e.til + 1 - 1⟩ : E) = e := by
      obtain ⟨k, q, g, v, t⟩ := e
      simp only at hs hgf
      subst hs hgf
      simp
    rw [hB]
    have e1 := text_enc e.key (by omega) a (enc (e.til + 1) ++ (textB e.value ++ r))
    have e2 := num_enc (n := e.til + 1) (by omega) (by omega) (a ++ textB e.key) (textB e.value ++ r)
    have e3 := text_enc e.value (by omega) (a ++ (textB e.key ++ enc (e.til + 1))) r
    simp only [List.append_assoc, List.length_append] at e1 e2 e3 ⊢
    rw [e1]
    simp only
    rw [e2]
    simp only [rTail]
    rw [if_neg (by omega), if_neg (by omega), show a.length + (textB e.key).length + (enc (e.til + 1)).length = a.length + ((textB e.key).length + (enc (e.til + 1)).length) by omega, e3]
    simp only
    rw [he, fin_enc h]
    simp only [Except.ok.injEq, Prod.mk.injEq, true_and]
    omega

theorem item_ok {l : List UInt8} {p q : Nat} {e : E} (h : rItem l p = .ok (e, q)) :
    bad1 e = 0 ∧ e.seq = 0 ∧ e.til ≤ 9223372036854775807 ∧ q ≤ l.length ∧ ∃ a r, l = a ++ (itemB e ++ r) ∧ a.length = p ∧ q = p + (itemB e).length := by
  unfold rItem at h
  cases hk : rText l p with
  | error c => rw [hk] at h; cases h
  | ok x =>
    obtain ⟨k, p1⟩ := x
    rw [hk] at h
    simp only at h
    obtain ⟨hks, -, a, r, hl, ha, hp1⟩ := text_ok hk
    cases hn : rNum l p1 with
    | error c => rw [hn] at h; cases h
    | ok x =>
      obtain ⟨n, p2⟩ := x
      rw [hn] at h
      simp only [rTail] at h
      obtain ⟨hn0, hn1, hp2l, a2, r2, hl2, ha2, hp2⟩ := num_ok hn
      have hc2 : a2 = a ++ textB k ∧ r = enc n ++ r2 := by
        rw [← List.append_assoc] at hl
        exact List.append_inj (hl2.symm.trans hl) (by rw [ha2, hp1, List.length_append, ha]) |>.imp id (fun h => h.symm)
      obtain ⟨rfl, rfl⟩ := hc2
      split at h
      · cases h
      · split at h
        · rename_i h1 h2
          unfold rFin at h
          split at h
          · rename_i hg
            simp only [Except.ok.injEq, Prod.mk.injEq] at h
            obtain ⟨rfl, rfl⟩ := h
            refine ⟨bad1_of hg (by simp), rfl, by simp, hp2l, a, r2, ?_, ha, ?_⟩
            · rw [hl, h2]; simp [itemB]
            · rw [hp2, hp1, h2]; simp [itemB]; omega
          · cases h
        · rename_i h1 h2
          cases hv : rText l p2 with
          | error c => rw [hv] at h; cases h
          | ok x =>
            obtain ⟨v, p3⟩ := x
            rw [hv] at h
            simp only at h
            obtain ⟨hvs, hp3l, a3, r3, hl3, ha3, hp3⟩ := text_ok hv
            have hc3 : a3 = a ++ textB k ++ enc n ∧ r2 = textB v ++ r3 := by
              rw [← List.append_assoc] at hl2
              exact List.append_inj (hl3.symm.trans hl2) (by rw [ha3, hp2, List.length_append, ha2]) |>.imp id (fun h => h.symm)
            obtain ⟨rfl, rfl⟩ := hc3
            unfold rFin at h
            split at h
            · rename_i hg
              simp only [Except.ok.injEq, Prod.mk.injEq] at h
              obtain ⟨rfl, rfl⟩ := h
              refine ⟨bad1_of hg (by simp only; omega), rfl, by simp only; omega, hp3l, a, r3, ?_, ha, ?_⟩
              · rw [hl]; simp [itemB]
              · rw [hp3, hp2, hp1]; simp [itemB]; omega
            · cases h

theorem item_cut {e : E} (h : bad1 e = 0) (hw : e.til ≤ 9223372036854775807) (a : List UInt8) {k : Nat} (hk : k < (itemB e).length) : rItem (a ++ (itemB e).take k) a.length = .error 3 := by
  obtain ⟨hg1, ht⟩ := bad1_zero h
  obtain ⟨h1, h2, h3, h4, h5⟩ := good_one_zero hg1
  unfold rItem
  by_cases k1 : k < (textB e.key).length
  · have hx : (itemB e).take k = (textB e.key).take k := by
      unfold itemB
      rw [List.take_append_of_le_length (by omega)]
    rw [hx, text_cut e.key (by omega) a k1]
  · have hx : (itemB e).take k = textB e.key ++ (if e.gone = true then enc 0 else enc (e.til + 1) ++ textB e.value).take (k - (textB e.key).length) := by
      unfold itemB
      rw [List.take_append, List.take_of_length_le (by omega)]
    unfold itemB at hk
    rw [List.length_append] at hk
    obtain ⟨j, hj⟩ : ∃ j, k - (textB e.key).length = j := ⟨_, rfl⟩
    rw [hx, hj, text_enc e.key (by omega)]
    simp only
    by_cases hg : e.gone = true
    · rw [if_pos hg] at hk ⊢
      have e2 := num_cut (n := 0) (by omega) (by omega) (a ++ textB e.key) (k := j) (by omega)
      rw [List.append_assoc, List.length_append] at e2
      rw [e2]
    · rw [if_neg hg] at hk ⊢
      rw [List.length_append] at hk
      by_cases k2 : j < (enc (e.til + 1)).length
      · have e2 := num_cut (n := e.til + 1) (by omega) (by omega) (a ++ textB e.key) k2
        rw [List.append_assoc, List.length_append] at e2
        rw [List.take_append_of_le_length (by omega), e2]
      · rw [List.take_append, List.take_of_length_le (l := enc (e.til + 1)) (by omega)]
        have e2 := num_enc (n := e.til + 1) (by omega) (by omega) (a ++ textB e.key) ((textB e.value).take (j - (enc (e.til + 1)).length))
        have e3 := text_cut e.value (by omega) (a ++ (textB e.key ++ enc (e.til + 1))) (k := j - (enc (e.til + 1)).length) (by omega)
        simp only [List.append_assoc, List.length_append] at e2 e3 ⊢
        rw [e2]
        simp only [rTail]
        rw [if_neg (by omega), if_neg (by omega), show a.length + (textB e.key).length + (enc (e.til + 1)).length = a.length + ((textB e.key).length + (enc (e.til + 1)).length) by omega, e3]

theorem items_enc : ∀ (es : List E), bad es = 0 → (∀ e ∈ es, e.seq = 0 ∧ e.til ≤ 9223372036854775807) → ∀ (a r : List UInt8) (acc : List E),
    rItems (a ++ (allB es ++ r)) es.length a.length acc = .ok (acc ++ es, a.length + (allB es).length)
  | [], _, _, a, r, acc => by simp [rItems, allB]
  | e :: es, h, hw, a, r, acc => by
    have he := bad_zero h e (List.mem_cons_self ..)
    have hi := item_enc he (hw e (List.mem_cons_self ..)).1 (hw e (List.mem_cons_self ..)).2 a (allB es ++ r)
    have hr := items_enc es (by rw [← bad_cons_ok he]; exact h) (fun x hx => hw x (List.mem_cons_of_mem _ hx)) (a ++ itemB e) r (acc ++ [e])
    have hA : allB (e :: es) = itemB e ++ allB es := rfl
    rw [hA]
    simp only [List.append_assoc, List.length_append, List.length_cons] at hi hr ⊢
    simp only [rItems]
    rw [hi]
    simp only
    rw [hr]
    simp only [List.cons_append, List.nil_append, Except.ok.injEq, Prod.mk.injEq, true_and]
    omega

theorem items_cut : ∀ (es : List E), bad es = 0 → (∀ e ∈ es, e.seq = 0 ∧ e.til ≤ 9223372036854775807) → ∀ (a : List UInt8) (acc : List E) (k : Nat), k < (allB es).length →
    rItems (a ++ (allB es).take k) es.length a.length acc = .error 3
  | [], _, _, a, acc, k, hk => by simp [allB] at hk
  | e :: es, h, hw, a, acc, k, hk => by
    have he := bad_zero h e (List.mem_cons_self ..)
    have hA : allB (e :: es) = itemB e ++ allB es := rfl
    rw [hA] at hk ⊢
    rw [List.length_append] at hk
    simp only [List.length_cons, rItems]
    by_cases hk1 : k < (itemB e).length
    · rw [List.take_append_of_le_length (by omega), item_cut he (hw e (List.mem_cons_self ..)).2 a hk1]
    · rw [List.take_append, List.take_of_length_le (l := itemB e) (by omega)]
      have hi := item_enc he (hw e (List.mem_cons_self ..)).1 (hw e (List.mem_cons_self ..)).2 a ((allB es).take (k - (itemB e).length))
      have hr := items_cut es (by rw [← bad_cons_ok he]; exact h) (fun x hx => hw x (List.mem_cons_of_mem _ hx)) (a ++ itemB e) (acc ++ [e]) (k - (itemB e).length) (by omega)
      rw [hi]
      simp only
      rw [List.append_assoc, List.length_append] at hr
      rw [hr]

theorem items_ok {l : List UInt8} : ∀ {k p q : Nat} {acc es : List E}, rItems l k p acc = .ok (es, q) → p ≤ l.length →
    ∃ fs, es = acc ++ fs ∧ fs.length = k ∧ bad fs = 0 ∧ (∀ e ∈ fs, e.seq = 0 ∧ e.til ≤ 9223372036854775807) ∧ q ≤ l.length ∧ ∃ a r, l = a ++ (allB fs ++ r) ∧ a.length = p ∧ q = p + (allB fs).length
  | 0, p, q, acc, es, h, hp => by
    simp only [rItems, Except.ok.injEq, Prod.mk.injEq] at h
    obtain ⟨rfl, rfl⟩ := h
    exact ⟨[], by simp, rfl, rfl, by simp, hp, l.take p, l.drop p, by simp [allB], by rw [List.length_take]; omega, by simp [allB]⟩
  | k + 1, p, q, acc, es, h, hp => by
    simp only [rItems] at h
    cases hi : rItem l p with
    | error c => rw [hi] at h; cases h
    | ok x =>
      obtain ⟨e, p1⟩ := x
      rw [hi] at h
      simp only at h
      obtain ⟨h1, h2, h3, h4, a, r, hl, ha, hp1⟩ := item_ok hi
      obtain ⟨fs, hes, hlen, hbad, hall, hq, a2, r2, hl2, ha2, hq2⟩ := items_ok h h4
      have hc : a2 = a ++ itemB e ∧ r = allB fs ++ r2 := by
        rw [← List.append_assoc] at hl
        exact List.append_inj (hl2.symm.trans hl) (by rw [ha2, hp1, List.length_append, ha]) |>.imp id (fun h => h.symm)
      obtain ⟨rfl, rfl⟩ := hc
      refine ⟨e :: fs, by rw [hes]; simp, by simp [hlen], by rw [bad_cons_ok h1]; exact hbad, fun x hx => ?_, hq, a, r2, ?_, ha, ?_⟩
      · rcases List.mem_cons.1 hx with rfl | hx
        · exact ⟨h2, h3⟩
        · exact hall x hx
      · rw [hl]; simp [allB]
      · rw [hq2, hp1]; simp [allB]; omega

theorem get_ok {l : List UInt8} {es : List E} (h : getOut l = .ok es) : es.length ≤ 64 ∧ bad es = 0 ∧ (∀ e ∈ es, e.seq = 0 ∧ e.til ≤ 9223372036854775807) ∧ putB es = l := by
  unfold getOut at h
  cases hn : rNum l 0 with
  | error c => rw [hn] at h; cases h
  | ok x =>
    obtain ⟨n, p⟩ := x
    rw [hn] at h
    simp only at h
    obtain ⟨-, -, hpl, a, r, hl, ha, hp⟩ := num_ok hn
    obtain rfl := List.length_eq_zero_iff.1 ha
    split at h
    · cases h
    · split at h
      · cases h
      · rename_i h1 h2
        cases hi : rItems l n.toNat p [] with
        | error c => rw [hi] at h; cases h
        | ok x =>
          obtain ⟨fs, q⟩ := x
          rw [hi] at h
          simp only [rEnd] at h
          split at h
          · cases h
          · rename_i h3
            simp only [Except.ok.injEq] at h
            subst h
            obtain ⟨gs, hgs, hlen, hbad, hall, hq, a2, r2, hl2, ha2, hq2⟩ := items_ok hi hpl
            simp only [List.nil_append] at hgs hl hp
            subst hgs
            have hc : a2 = enc n ∧ r = allB fs ++ r2 := List.append_inj (hl2.symm.trans hl) (by rw [ha2, hp]; omega) |>.imp id (fun h => h.symm)
            obtain ⟨rfl, rfl⟩ := hc
            have hr2 : r2 = [] := by
              apply List.length_eq_zero_iff.1
              have := congrArg List.length hl2
              simp only [List.length_append] at this
              omega
            subst hr2
            have hni : ((fs.length : Nat) : Int) = n := by rw [hlen]; omega
            refine ⟨by omega, hbad, hall, ?_⟩
            unfold putB
            rw [hni, hl2]; simp

theorem get_put {es : List E} (hn : es.length ≤ 64) (hb : bad es = 0) (hw : ∀ e ∈ es, e.til ≤ 9223372036854775807) (r : List UInt8) :
    getOut (putB es ++ r) = if r = [] then .ok (es.map z) else .error 4 := by
  have hB : putB es = enc es.length ++ allB (es.map z) := by
    unfold putB allB
    rw [List.flatMap_map]
    rfl
  have e1 := num_enc (n := (es.length : Int)) (by omega) (by omega) [] (allB (es.map z) ++ r)
  have hbz : bad (es.map z) = 0 := bad_all fun e he => by
    obtain ⟨x, hx, rfl⟩ := List.mem_map.1 he
    rw [bad1_z]; exact bad_zero hb x hx
  have e2 := items_enc (es.map z) hbz (fun e he => by
    obtain ⟨x, hx, rfl⟩ := List.mem_map.1 he
    exact ⟨rfl, hw x hx⟩) (enc es.length) r []
  rw [List.length_map] at e2
  unfold getOut
  rw [hB]
  simp only [List.nil_append, List.length_nil, Nat.zero_add, List.append_assoc] at e1 e2 ⊢
  rw [e1]
  simp only
  rw [if_neg (by omega), if_neg (by omega), Int.toNat_natCast, e2]
  simp only [rEnd, List.length_append]
  by_cases hr : r = []
  · subst hr
    rw [if_neg (by simp), if_pos rfl]
  · have := List.length_pos_iff.2 hr
    rw [if_pos (by omega), if_neg hr]

theorem get_cut {es : List E} (hn : es.length ≤ 64) (hb : bad es = 0) (hw : ∀ e ∈ es, e.til ≤ 9223372036854775807) {k : Nat} (hk : k < (putB es).length) : getOut ((putB es).take k) = .error 3 := by
  have hB : putB es = enc es.length ++ allB (es.map z) := by
    unfold putB allB
    rw [List.flatMap_map]
    rfl
  have hbz : bad (es.map z) = 0 := bad_all fun e he => by
    obtain ⟨x, hx, rfl⟩ := List.mem_map.1 he
    rw [bad1_z]; exact bad_zero hb x hx
  have hwz : ∀ e ∈ es.map z, e.seq = 0 ∧ e.til ≤ 9223372036854775807 := fun e he => by
    obtain ⟨x, hx, rfl⟩ := List.mem_map.1 he
    exact ⟨rfl, hw x hx⟩
  rw [hB] at hk ⊢
  rw [List.length_append] at hk
  unfold getOut
  by_cases hk1 : k < (enc (es.length : Int)).length
  · have e1 := num_cut (n := (es.length : Int)) (by omega) (by omega) [] hk1
    simp only [List.nil_append, List.length_nil] at e1
    rw [List.take_append_of_le_length (by omega), e1]
  · rw [List.take_append, List.take_of_length_le (l := enc (es.length : Int)) (by omega)]
    have e1 := num_enc (n := (es.length : Int)) (by omega) (by omega) [] ((allB (es.map z)).take (k - (enc (es.length : Int)).length))
    have e2 := items_cut (es.map z) hbz hwz (enc es.length) [] (k - (enc (es.length : Int)).length) (by omega)
    rw [List.length_map] at e2
    simp only [List.nil_append, List.length_nil, Nat.zero_add] at e1
    rw [e1]
    simp only
    rw [if_neg (by omega), if_neg (by omega), Int.toNat_natCast, e2]
    rfl

theorem putB_pos (es : List E) : 0 < (putB es).length := by
  have := Go.Lib.uvarint_pos (Go.Lib.zigzag (es.length : Int))
  unfold putB enc
  rw [List.length_append]; omega
end BK
end Go.Proofs.Ytonoapgajgcjlaa
