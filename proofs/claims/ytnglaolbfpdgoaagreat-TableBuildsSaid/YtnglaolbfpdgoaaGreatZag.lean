/- Texts joined by bundle.py: Bm. -/
import Derived.Test.YtnglaolbfpdgoaaGreatZaa
import Derived.Test.YtnglaolbfpdgoaaGreatZab
import Derived.Test.YtnglaolbfpdgoaaGreatZaf

/- Plain mathematics of blocks: their bytes, and what is read of bytes. No function of the program. -/
namespace Go.Proofs.YtnglaolbfpdgoaaGreat
namespace BK
open SK
open VM

/-! ### entries in order -/

/-- the error of an entry behind others -/
def nb (a : List E) (e : E) : Int :=
  if good e ≠ 0 then good e else if e.til = 9223372036854775807 then 2 else
    match a.getLast? with
    | none => 0
    | some p => if less p e = true then 0 else 16
def ordF : List E → List E → Int × Int
  | _, [] => (0, 0)
  | a, e :: r => if nb a e ≠ 0 then ((a.length : Int), nb a e) else ordF (a ++ [e]) r
def ord (l : List E) : Int × Int := ordF [] l
def OkF : List E → List E → Prop
  | _, [] => True
  | a, e :: r => nb a e = 0 ∧ OkF (a ++ [e]) r

theorem nb_zero {a : List E} {e : E} (h : nb a e = 0) : good e = 0 ∧ e.til ≠ 9223372036854775807 ∧ ∀ p, a.getLast? = some p → less p e = true := by
  unfold nb at h
  split at h
  · rename_i h1; exact absurd h h1
  · rename_i h1
    have hg : good e = 0 := by simpa using h1
    split at h
    · simp at h
    · rename_i h2
      refine ⟨hg, h2, fun p hp => ?_⟩
      rw [hp] at h
      simp only at h
      split at h
      · assumption
      · simp at h

theorem good_gone {e : E} (h : good e = 0) (hg : e.gone = true) : e.value.size = 0 ∧ e.til = 0 := by
  have hz := good_zero h
  unfold good at h
  split at h
  · simp at h
  · split at h
    · simp at h
    · split at h
      · simp at h
      · rename_i h1 h2 h3
        have : ¬ (0 < e.value.size ∨ 0 < e.til) := fun h => h3 ⟨hg, h⟩
        omega

theorem ordF_ok : ∀ (a r : List E), OkF a r → ordF a r = (0, 0)
  | _, [], _ => rfl
  | a, e :: r, h => by
    simp only [ordF, h.1, ne_eq, not_true_eq_false, if_false]
    exact ordF_ok _ _ h.2
theorem okF_ord : ∀ (a r : List E), (ordF a r).2 = 0 → OkF a r
  | _, [], _ => trivial
  | a, e :: r, h => by
    by_cases h0 : nb a e = 0
    · simp only [ordF, h0, ne_eq, not_true_eq_false, if_false] at h
      exact ⟨h0, okF_ord _ _ h⟩
    · simp only [ordF, h0, ne_eq, not_false_eq_true, if_true] at h

theorem ord_step {l : List E} {j : Nat} (hj : j < l.length) (h : ord l = ordF (l.take j) (l.drop j)) (hb : nb (l.take j) l[j] = 0) : ord l = ordF (l.take (j + 1)) (l.drop (j + 1)) := by
  rw [h, List.drop_eq_getElem_cons hj, List.take_succ_eq_append_getElem hj]
  simp only [ordF, hb, ne_eq, not_true_eq_false, if_false]
theorem ord_bad {l : List E} {j : Nat} (hj : j < l.length) (h : ord l = ordF (l.take j) (l.drop j)) (hb : nb (l.take j) l[j] ≠ 0) : ord l = ((j : Int), nb (l.take j) l[j]) := by
  rw [h, List.drop_eq_getElem_cons hj]
  simp only [ordF, hb, ne_eq, not_false_eq_true, if_true, List.length_take]
  rw [Nat.min_eq_left (by omega)]
theorem ord_end {l : List E} (h : ord l = ordF (l.take l.length) (l.drop l.length)) : ord l = (0, 0) := by
  rw [h, List.drop_length]; rfl

theorem okF_all : ∀ (a r : List E), OkF a r → ∀ e ∈ r, good e = 0 ∧ e.til ≠ 9223372036854775807
  | _, [], _ => by simp
  | a, x :: r, h => by
    intro e he
    rcases List.mem_cons.1 he with rfl | he
    · exact ⟨(nb_zero h.1).1, (nb_zero h.1).2.1⟩
    · exact okF_all _ _ h.2 e he

theorem sorted_last {a : List E} {e : E} (hs : Sorted a) (h : ∀ p, a.getLast? = some p → less p e = true) : ∀ x ∈ a, less x e = true := by
  rcases List.eq_nil_or_concat a with rfl | ⟨b, p, rfl⟩
  · simp
  · simp only [List.concat_eq_append] at *
    have hp := h p (by simp)
    intro x hx
    rcases List.mem_append.1 hx with hx | hx
    · exact less_trans ((List.pairwise_append.1 hs).2.2 x hx p (by simp)) hp
    · simp at hx; rw [hx]; exact hp

theorem okF_sorted : ∀ (a r : List E), Sorted a → OkF a r → Sorted (a ++ r)
  | a, [], hs, _ => by simpa using hs
  | a, e :: r, hs, h => by
    have h1 := okF_sorted (a ++ [e]) r (by
      refine List.pairwise_append.2 ⟨hs, List.pairwise_singleton _ _, fun x hx y hy => ?_⟩
      simp at hy; rw [hy]
      exact sorted_last hs (nb_zero h.1).2.2 x hx) h.2
    simpa using h1

theorem ok_sorted {l : List E} (h : OkF [] l) : Sorted l := by simpa using okF_sorted [] l List.Pairwise.nil h

/-! ### what keys share -/

def alike : List UInt8 → List UInt8 → Nat
  | x :: a, y :: b => if x = y then alike a b + 1 else 0
  | _, _ => 0

theorem alike_le : ∀ (a b : List UInt8), alike a b ≤ a.length ∧ alike a b ≤ b.length ∧ a.take (alike a b) = b.take (alike a b)
  | [], [] => by simp [alike]
  | [], _ :: _ => by simp [alike]
  | _ :: _, [] => by simp [alike]
  | x :: a, y :: b => by
    obtain ⟨h1, h2, h3⟩ := alike_le a b
    unfold alike
    split
    · rename_i h
      refine ⟨by simp; omega, by simp; omega, ?_⟩
      simp [h, h3]
    · simp

theorem alike_split : ∀ (i : Nat) (a b : List UInt8), a.take i = b.take i → i ≤ a.length → i ≤ b.length → alike a b = i + alike (a.drop i) (b.drop i)
  | 0, a, b, _, _, _ => by simp
  | i + 1, [], b, _, h, _ => by simp at h
  | i + 1, a, [], _, _, h => by simp at h
  | i + 1, x :: a, y :: b, h, h1, h2 => by
    simp only [List.take_succ_cons, List.cons.injEq] at h
    have := alike_split i a b h.2 (by simpa using h1) (by simpa using h2)
    simp only [alike, h.1, if_true, List.drop_succ_cons]
    omega

theorem alike_comm : ∀ (a b : List UInt8), alike a b = alike b a
  | [], [] => rfl
  | [], _ :: _ => rfl
  | _ :: _, [] => rfl
  | x :: a, y :: b => by
    simp only [alike, alike_comm a b, eq_comm]
theorem alike_stop {a b : List UInt8} {i : Nat} (h : a.take i = b.take i) (h1 : i < a.length) (h2 : i < b.length) (hne : a[i] ≠ b[i]) : alike a b = i := by
  rw [alike_split i a b h (by omega) (by omega), List.drop_eq_getElem_cons h1, List.drop_eq_getElem_cons h2]
  simp [alike, hne]
theorem alike_end {a b : List UInt8} {i : Nat} (h : a.take i = b.take i) (h1 : i ≤ a.length) (h2 : i ≤ b.length) (hm : i = a.length ∨ i = b.length) : alike a b = i := by
  rw [alike_split i a b h h1 h2]
  rcases hm with hm | hm
  · rw [hm, List.drop_length]; simp [alike]
  · rw [hm, List.drop_length]
    cases a.drop b.length <;> simp [alike]
theorem alike_next {a b : List UInt8} {i : Nat} (h : a.take i = b.take i) (h1 : i < a.length) (h2 : i < b.length) (he : a[i] = b[i]) : a.take (i + 1) = b.take (i + 1) := by
  rw [List.take_succ_eq_append_getElem h1, List.take_succ_eq_append_getElem h2, h, he]

def lastKey (a : List E) : ByteArray := match a.getLast? with | none => ⟨#[]⟩ | some p => p.key
/-- how many bytes an entry's key shares with the one ahead -/
def sh (v : Nat) (a : List E) (e : E) : Nat := if a.length % v = 0 then 0 else alike (lastKey a).data.toList e.key.data.toList

theorem sh_le (v : Nat) (a : List E) (e : E) : sh v a e ≤ (lastKey a).size ∧ sh v a e ≤ e.key.size ∧ (lastKey a).data.toList.take (sh v a e) = e.key.data.toList.take (sh v a e) := by
  unfold sh
  split
  · simp
  · have := alike_le (lastKey a).data.toList e.key.data.toList
    rw [size_list, size_list] at this
    exact this
theorem sh_one (a : List E) (e : E) : sh 1 a e = 0 := by unfold sh; rw [if_pos (Nat.mod_one _)]

/-! ### bytes -/

def textB (s : ByteArray) : List UInt8 := enc s.size ++ s.data.toList
/-- the bytes of an entry whose key shares n bytes with the one ahead -/
def entB (e : E) (n : Nat) : List UInt8 := enc n ++ (textB (e.key.extract n e.key.size) ++ (enc e.seq ++ (if e.gone = true then enc 0 else enc (e.til + 1) ++ textB e.value)))
def bodyF (v : Nat) : List E → List E → List UInt8
  | _, [] => []
  | a, e :: r => entB e (sh v a e) ++ bodyF v (a ++ [e]) r
def buildB (l : List E) (v : Nat) : List UInt8 := enc l.length ++ bodyF v [] l
def buildOut (l : List E) (v : Int) : List UInt8 × Int := if v < 1 ∨ 64 < v then ([], 2) else if 4096 < l.length then ([], 5) else if (ord l).2 ≠ 0 then ([], (ord l).2) else (buildB l v.toNat, 0)

theorem textEnc_eq (s : ByteArray) : textEnc s = ⟨(textB s).toArray⟩ := rfl

theorem textB_len (s : ByteArray) (h : s.size ≤ 9223372036854775807) : (textB s).length ≤ 10 + s.size := by
  have := (enc_len (n := (s.size : Int)) (by omega) (by omega)).2
  simp only [textB, List.length_append, size_list]
  omega

theorem tail_size (k : ByteArray) (n : Nat) : (k.extract n k.size).size = k.size - n := by rw [ByteArray.size_extract]; omega

theorem bodyF_snoc (v : Nat) : ∀ (a r : List E) (e : E), bodyF v a (r ++ [e]) = bodyF v a r ++ entB e (sh v (a ++ r) e)
  | a, [], e => by simp [bodyF]
  | a, x :: r, e => by
    simp only [List.cons_append, bodyF]
    rw [bodyF_snoc v (a ++ [x]) r e]
    simp
theorem body_take {l : List E} {j : Nat} (v : Nat) (hj : j < l.length) : bodyF v [] (l.take (j + 1)) = bodyF v [] (l.take j) ++ entB l[j] (sh v (l.take j) l[j]) := by
  rw [List.take_succ_eq_append_getElem hj, bodyF_snoc]; rfl

theorem entB_len {e : E} {n : Nat} (hg : good e = 0) (hn : n ≤ e.key.size) (hw : e.wf) (ht : e.til ≠ 9223372036854775807) : (entB e n).length ≤ 700 := by
  obtain ⟨h1, h2, h3, h4, h5⟩ := good_zero hg
  have hq := hw.seq
  have htl := hw.til
  have l1 := (enc_len (n := (n : Int)) (by omega) (by omega)).2
  have l2 := textB_len (e.key.extract n e.key.size) (by rw [tail_size]; omega)
  have l3 := (enc_len (n := e.seq) (by omega) (by omega)).2
  rw [tail_size] at l2
  unfold entB
  rw [List.length_append, List.length_append, List.length_append]
  split
  · have := (enc_len (n := 0) (by omega) (by omega)).2
    omega
  · have l4 := (enc_len (n := e.til + 1) (by omega) (by omega)).2
    have l5 := textB_len e.value (by omega)
    rw [List.length_append]
    omega

theorem bodyF_len (v : Nat) : ∀ (a r : List E), (∀ e ∈ r, good e = 0 ∧ e.wf ∧ e.til ≠ 9223372036854775807) → (bodyF v a r).length ≤ r.length * 700
  | _, [], _ => by simp [bodyF]
  | a, e :: r, h => by
    obtain ⟨h1, h2, h3⟩ := h e (List.mem_cons_self ..)
    have l1 := entB_len h1 (sh_le v a e).2.1 h2 h3
    have l2 := bodyF_len v (a ++ [e]) r fun x hx => h x (List.mem_cons_of_mem _ hx)
    simp only [bodyF, List.length_append, List.length_cons]
    omega

theorem buildB_pos (l : List E) (v : Nat) (h : l.length ≤ 4096) : 0 < (buildB l v).length := by
  have := (enc_len (n := (l.length : Int)) (by omega) (by omega)).1
  unfold buildB
  rw [List.length_append]
  omega

/-! ### reading -/

def rNum (l : List UInt8) (p : Nat) : Except Int (Int × Nat) :=
  if (vget l p).2.2 = 0 then .ok ((vget l p).1, (vget l p).2.1.toNat) else .error (vget l p).2.2
def rText (l : List UInt8) (p : Nat) : Except Int (ByteArray × Nat) :=
  if (vtext l p).2.2 = 0 then .ok (⟨(vtext l p).1.toArray⟩, (vtext l p).2.1.toNat) else .error (vtext l p).2.2
/-- the rest of a key behind what is shared -/
def rRest (l : List UInt8) (k : ByteArray) (n : Int) (p : Nat) : Except Int (ByteArray × Nat) :=
  if n < 0 ∨ (k.size : Int) < n then .error 4 else
    match rText l p with
    | .error c => .error c
    | .ok (t, q) => .ok (k.extract 0 n.toNat ++ t, q)
def rKey (l : List UInt8) (p : Nat) (k : ByteArray) : Except Int (ByteArray × Nat) :=
  match rNum l p with
  | .error c => .error c
  | .ok (n, q) => rRest l k n q
def rTail (l : List UInt8) (k : ByteArray) (s n : Int) (p : Nat) : Except Int (E × Nat) :=
  if n < 0 then .error 4 else if n = 0 then .ok (⟨k, s, true, ⟨#[]⟩, 0⟩, p) else
    match rText l p with
    | .error c => .error c
    | .ok (v, q) => .ok (⟨k, s, false, v, n - 1⟩, q)
def rOne (l : List UInt8) (p : Nat) (k : ByteArray) : Except Int (E × Nat) :=
  match rKey l p k with
  | .error c => .error c
  | .ok (k, p1) =>
    match rNum l p1 with
    | .error c => .error c
    | .ok (s, p2) =>
      match rNum l p2 with
      | .error c => .error c
      | .ok (n, p3) => rTail l k s n p3
def rFin (a : List E) : Except Int (E × Nat) → Except Int (E × Nat)
  | .error c => .error c
  | .ok (e, q) => if nb a e = 0 then .ok (e, q) else .error (nb a e)
def rEnt (l : List UInt8) (p : Nat) (a : List E) : Except Int (E × Nat) := rFin a (rOne l p (lastKey a))
def rEnts (l : List UInt8) : Nat → Nat → List E → Except Int (List E × Nat)
  | 0, p, acc => .ok (acc, p)
  | k + 1, p, acc =>
    match rEnt l p acc with
    | .error c => .error c
    | .ok (e, q) => rEnts l k q (acc ++ [e])
def rEnd (l : List UInt8) : Except Int (List E × Nat) → Except Int (List E)
  | .error c => .error c
  | .ok (es, p) => if p < l.length then .error 4 else .ok es
def getOut (l : List UInt8) : Except Int (List E) :=
  match rNum l 0 with
  | .error c => .error c
  | .ok (n, p) => if 4096 < n then .error 5 else if n < 0 then .error 4 else rEnd l (rEnts l n.toNat p [])

theorem num_ok {l : List UInt8} {p q : Nat} {n : Int} (h : rNum l p = .ok (n, q)) :
    -9223372036854775808 ≤ n ∧ n ≤ 9223372036854775807 ∧ q ≤ l.length ∧ ∃ a r, l = a ++ (enc n ++ r) ∧ a.length = p ∧ q = p + (enc n).length := by
  unfold rNum at h
  split at h
  · rename_i h0
    obtain ⟨-, hp, k, hk1, hk10, hle, hb, hn0, hn1, he⟩ := vget_ok h0
    simp only [Except.ok.injEq, Prod.mk.injEq] at h
    obtain ⟨rfl, rfl⟩ := h
    rw [hb]
    have hlen : (enc (vget l p).1).length = k := by
      rw [he, List.length_take, List.length_drop, Int.toNat_natCast]; omega
    refine ⟨hn0, hn1, by omega, l.take p, (l.drop p).drop k, ?_, by rw [List.length_take]; omega, by rw [hlen]; omega⟩
    rw [he, Int.toNat_natCast, List.take_append_drop, List.take_append_drop]
  · cases h

theorem num_enc {n : Int} (h0 : -9223372036854775808 ≤ n) (h1 : n ≤ 9223372036854775807) (a r : List UInt8) : rNum (a ++ (enc n ++ r)) a.length = .ok (n, a.length + (enc n).length) := by
  have h := vget_enc h0 h1 a r
  rw [List.append_assoc] at h
  unfold rNum
  rw [h, if_pos rfl, Int.toNat_natCast]

theorem num_cut {n : Int} (h0 : -9223372036854775808 ≤ n) (h1 : n ≤ 9223372036854775807) (a : List UInt8) {k : Nat} (hk : k < (enc n).length) : rNum (a ++ (enc n).take k) a.length = .error 3 := by
  have hm := meas_cut (Go.Lib.zigzag_lt h0 h1) hk
  have hv : vget (a ++ (enc n).take k) a.length = (0, 0, 3) := by
    rw [vget_fault (by simp) (by rw [List.drop_left]; unfold enc; rw [hm]; decide), List.drop_left]
    unfold enc; rw [hm]
  unfold rNum
  rw [hv, if_neg (by decide)]

theorem num_le {l : List UInt8} {p q : Nat} {n : Int} (h : rNum l p = .ok (n, q)) : q ≤ l.length := (num_ok h).2.2.1

/-- vtext, said by rNum -/
theorem text_num (l : List UInt8) (p : Nat) : rText l p =
    match rNum l p with
    | .error c => .error c
    | .ok (n, q) => if n < 0 then .error 4 else if 65535 < n then .error 5 else if (l.length : Int) - q < n then .error 3 else .ok (⟨((l.drop q).take n.toNat).toArray⟩, q + n.toNat) := by
  unfold rText rNum vtext
  by_cases h0 : (vget l p).2.2 = 0
  · obtain ⟨-, hp, k, hk1, hk10, hle, hb, hn0, hn1, he⟩ := vget_ok h0
    have hq : ((vget l p).2.1.toNat : Int) = (vget l p).2.1 := by omega
    simp only [h0, ne_eq, not_true_eq_false, if_false, if_true]
    rw [hq]
    split
    · rw [if_neg (by decide)]
    · split
      · rw [if_neg (by decide)]
      · split
        · rw [if_neg (by decide)]
        · rw [if_pos rfl]
          simp only [Except.ok.injEq, Prod.mk.injEq, true_and]
          omega
  · simp only [h0, ne_eq, not_false_eq_true, if_true, if_false]

theorem str_bytes (s : ByteArray) (r : List UInt8) (a : List UInt8) : (((a ++ (s.data.toList ++ r)).drop a.length).take s.size) = s.data.toList := by
  rw [List.drop_left, List.take_append_of_le_length (by rw [size_list]; exact Nat.le_refl _), List.take_of_length_le (by rw [size_list]; exact Nat.le_refl _)]

theorem text_ok {l : List UInt8} {p q : Nat} {s : ByteArray} (h : rText l p = .ok (s, q)) :
    s.size ≤ 65535 ∧ q ≤ l.length ∧ ∃ a r, l = a ++ (textB s ++ r) ∧ a.length = p ∧ q = p + (textB s).length := by
  rw [text_num] at h
  cases hn : rNum l p with
  | error c => rw [hn] at h; cases h
  | ok x =>
    obtain ⟨n, b⟩ := x
    rw [hn] at h
    simp only at h
    obtain ⟨-, -, hbl, a, r, hl, ha, hb⟩ := num_ok hn
    split at h
    · cases h
    · split at h
      · cases h
      · split at h
        · cases h
        · rename_i h1 h2 h3
          simp only [Except.ok.injEq, Prod.mk.injEq] at h
          obtain ⟨rfl, rfl⟩ := h
          have hlr : l.length = b + r.length := by rw [hl, hb, ← ha]; simp; omega
          have hd : l.drop b = r := by
            rw [hl, hb, ← ha, ← List.append_assoc, ← List.length_append, List.drop_left]
          rw [hd]
          have hs : (⟨(r.take n.toNat).toArray⟩ : ByteArray).size = n.toNat := by
            show (r.take n.toNat).toArray.size = _
            rw [List.size_toArray, List.length_take]; omega
          have hsi : (((⟨(r.take n.toNat).toArray⟩ : ByteArray).size : Nat) : Int) = n := by rw [hs]; omega
          refine ⟨by rw [hs]; omega, by omega, a, r.drop n.toNat, ?_, ha, ?_⟩
          · unfold textB
            rw [hsi, hl]
            simp
          · unfold textB
            rw [hsi, List.length_append, size_list, hs]
            omega

theorem text_enc (s : ByteArray) (hs : s.size ≤ 65535) (a r : List UInt8) : rText (a ++ (textB s ++ r)) a.length = .ok (s, a.length + (textB s).length) := by
  have h := num_enc (n := (s.size : Int)) (by omega) (by omega) a (s.data.toList ++ r)
  rw [text_num]
  unfold textB
  rw [List.append_assoc, h]
  simp only
  rw [if_neg (by omega), if_neg (by omega), if_neg (by simp; omega)]
  have hsb := str_bytes s r (a ++ enc (s.size : Int))
  rw [List.append_assoc, List.length_append] at hsb
  rw [Int.toNat_natCast, hsb]
  simp only [Except.ok.injEq, Prod.mk.injEq, List.length_append, size_list]
  exact ⟨trivial, by omega⟩

theorem text_cut (s : ByteArray) (hs : s.size ≤ 65535) (a : List UInt8) {k : Nat} (hk : k < (textB s).length) : rText (a ++ (textB s).take k) a.length = .error 3 := by
  rw [text_num]
  by_cases hke : k < (enc (s.size : Int)).length
  · have h := num_cut (n := (s.size : Int)) (by omega) (by omega) a hke
    unfold textB
    rw [List.take_append_of_le_length (by omega), h]
  · have hx : (textB s).take k = enc (s.size : Int) ++ s.data.toList.take (k - (enc (s.size : Int)).length) := by
      unfold textB
      rw [List.take_append, List.take_of_length_le (by omega)]
    have h := num_enc (n := (s.size : Int)) (by omega) (by omega) a (s.data.toList.take (k - (enc (s.size : Int)).length))
    rw [hx, h]
    simp only
    unfold textB at hk
    rw [List.length_append, size_list] at hk
    rw [if_neg (by omega), if_neg (by omega), if_pos (by simp [List.length_take]; omega)]


theorem text_le {l : List UInt8} {p q : Nat} {t : ByteArray} (h : rText l p = .ok (t, q)) : t.size ≤ 65535 ∧ q ≤ l.length := ⟨(text_ok h).1, (text_ok h).2.1⟩

theorem key_le {l : List UInt8} {p q : Nat} {k k' : ByteArray} (h : rKey l p k = .ok (k', q)) : k'.size ≤ k.size + 65535 ∧ q ≤ l.length := by
  unfold rKey at h
  cases hn : rNum l p with
  | error c => rw [hn] at h; cases h
  | ok x =>
    obtain ⟨n, p1⟩ := x
    rw [hn] at h
    simp only [rRest] at h
    split at h
    · cases h
    · rename_i h1
      cases ht : rText l p1 with
      | error c => rw [ht] at h; cases h
      | ok y =>
        obtain ⟨t, p2⟩ := y
        rw [ht] at h
        simp only [Except.ok.injEq, Prod.mk.injEq] at h
        obtain ⟨rfl, rfl⟩ := h
        have := text_le ht
        rw [ByteArray.size_append, ByteArray.size_extract]
        exact ⟨by omega, this.2⟩

/-- what every entry that is read has -/
theorem one_wf {l : List UInt8} {p q : Nat} {k : ByteArray} {e : E} (h : rOne l p k = .ok (e, q)) (hk : k.size ≤ 70000000000000) : e.wf ∧ q ≤ l.length := by
  unfold rOne at h
  cases h1 : rKey l p k with
  | error c => rw [h1] at h; cases h
  | ok x =>
    obtain ⟨k', p1⟩ := x
    have hk1 := (key_le h1).1
    rw [h1] at h
    simp only at h
    cases h2 : rNum l p1 with
    | error c => rw [h2] at h; cases h
    | ok x =>
      obtain ⟨s, p2⟩ := x
      have hs := num_ok h2
      rw [h2] at h
      simp only at h
      cases h3 : rNum l p2 with
      | error c => rw [h3] at h; cases h
      | ok x =>
        obtain ⟨n, p3⟩ := x
        have hn := num_ok h3
        rw [h3] at h
        simp only [rTail] at h
        split at h
        · cases h
        · split at h
          · simp only [Except.ok.injEq, Prod.mk.injEq] at h
            obtain ⟨rfl, rfl⟩ := h
            exact ⟨⟨by simp only; omega, Nat.zero_le _, ⟨hs.1, hs.2.1⟩, ⟨by simp only; omega, by simp only; omega⟩⟩, hn.2.2.1⟩
          · cases h4 : rText l p3 with
            | error c => rw [h4] at h; cases h
            | ok x =>
              obtain ⟨v, p4⟩ := x
              have hv := text_le h4
              rw [h4] at h
              simp only [Except.ok.injEq, Prod.mk.injEq] at h
              obtain ⟨rfl, rfl⟩ := h
              exact ⟨⟨by simp only; omega, by simp only; omega, ⟨hs.1, hs.2.1⟩, ⟨by simp only; omega, by simp only; omega⟩⟩, hv.2⟩

theorem ent_ok {l : List UInt8} {p q : Nat} {a : List E} {e : E} (h : rEnt l p a = .ok (e, q)) : rOne l p (lastKey a) = .ok (e, q) ∧ nb a e = 0 := by
  unfold rEnt at h
  cases h1 : rOne l p (lastKey a) with
  | error c => rw [h1] at h; cases h
  | ok x =>
    obtain ⟨e', q'⟩ := x
    rw [h1] at h
    simp only [rFin] at h
    split at h
    · rename_i h2
      simp only [Except.ok.injEq, Prod.mk.injEq] at h
      obtain ⟨rfl, rfl⟩ := h
      exact ⟨rfl, h2⟩
    · cases h

theorem lastKey_le {a : List E} (h : ∀ x ∈ a, good x = 0) : (lastKey a).size ≤ 64 := by
  unfold lastKey
  cases hl : a.getLast? with
  | none => exact Nat.zero_le _
  | some p => exact (good_zero (h p (List.mem_of_getLast? hl))).2.1

theorem ents_ok {l : List UInt8} : ∀ {k p q : Nat} {acc es : List E}, rEnts l k p acc = .ok (es, q) → ∃ r, es = acc ++ r ∧ r.length = k ∧ OkF acc r
  | 0, p, q, acc, es, h => by
    simp only [rEnts, Except.ok.injEq, Prod.mk.injEq] at h
    exact ⟨[], by simp [h.1], rfl, trivial⟩
  | k + 1, p, q, acc, es, h => by
    simp only [rEnts] at h
    cases hi : rEnt l p acc with
    | error c => rw [hi] at h; cases h
    | ok x =>
      obtain ⟨e, p1⟩ := x
      rw [hi] at h
      simp only at h
      obtain ⟨r, h1, h2, h3⟩ := ents_ok h
      exact ⟨e :: r, by simpa using h1, by simp [h2], (ent_ok hi).2, h3⟩

theorem get_ok {l : List UInt8} {es : List E} (h : getOut l = .ok es) : es.length ≤ 4096 ∧ OkF [] es := by
  unfold getOut at h
  cases hn : rNum l 0 with
  | error c => rw [hn] at h; cases h
  | ok x =>
    obtain ⟨n, p⟩ := x
    rw [hn] at h
    simp only at h
    split at h
    · cases h
    · split at h
      · cases h
      · rename_i h1 h2
        cases hi : rEnts l n.toNat p [] with
        | error c => rw [hi] at h; cases h
        | ok y =>
          obtain ⟨es', q⟩ := y
          rw [hi] at h
          simp only [rEnd] at h
          split at h
          · cases h
          · simp only [Except.ok.injEq] at h
            subst h
            obtain ⟨r, h3, h4, h5⟩ := ents_ok hi
            rw [List.nil_append] at h3
            subst h3
            exact ⟨by omega, h5⟩

theorem gone_eq {e : E} (h : good e = 0) (hg : e.gone = true) : e = ⟨e.key, e.seq, true, ⟨#[]⟩, 0⟩ := by
  obtain ⟨h1, h2⟩ := good_gone h hg
  have h3 : e.value = ⟨#[]⟩ := by
    apply str_ext
    rw [← size_list, List.length_eq_zero_iff] at h1
    rw [h1]
  obtain ⟨k, q, g, v, t⟩ := e
  simp only at hg h2 h3
  subst hg h2 h3
  rfl

theorem key_join {k key : ByteArray} {n : Nat} (h : k.data.toList.take n = key.data.toList.take n) : k.extract 0 n ++ key.extract n key.size = key := by
  apply str_ext
  rw [str_app, Lib.extract_data, Lib.extract_data, List.drop_zero, Nat.sub_zero, h, List.take_of_length_le (l := key.data.toList.drop n) (by rw [List.length_drop, size_list]; omega), List.take_append_drop]

theorem one_enc {e : E} {k : ByteArray} {n : Nat} (hg : good e = 0) (ht : e.til ≠ 9223372036854775807) (hw : e.seq ≤ 9223372036854775807 ∧ e.til ≤ 9223372036854775807) (h1 : n ≤ k.size) (h2 : n ≤ e.key.size)
    (h : k.data.toList.take n = e.key.data.toList.take n) (a r : List UInt8) : rOne (a ++ (entB e n ++ r)) a.length k = .ok (e, a.length + (entB e n).length) := by
  obtain ⟨g1, g2, g3, g4, g5⟩ := good_zero hg
  have hts := tail_size e.key n
  have hj := key_join h
  unfold rOne rKey
  by_cases hgo : e.gone = true
  · have hB : entB e n = enc n ++ (textB (e.key.extract n e.key.size) ++ (enc e.seq ++ enc 0)) := by unfold entB; rw [if_pos hgo]
    rw [hB]
    have e1 := num_enc (n := (n : Int)) (by omega) (by omega) a (textB (e.key.extract n e.key.size) ++ (enc e.seq ++ (enc 0 ++ r)))
    have e2 := text_enc (e.key.extract n e.key.size) (by omega) (a ++ enc n) (enc e.seq ++ (enc 0 ++ r))
    have e3 := num_enc (n := e.seq) (by omega) (by omega) (a ++ (enc n ++ textB (e.key.extract n e.key.size))) (enc 0 ++ r)
    have e4 := num_enc (n := 0) (by omega) (by omega) (a ++ (enc n ++ (textB (e.key.extract n e.key.size) ++ enc e.seq))) r
    simp only [List.append_assoc, List.length_append] at e1 e2 e3 e4 ⊢
    rw [e1]
    simp only [rRest]
    rw [if_neg (by omega), e2]
    simp only
    rw [Int.toNat_natCast, hj, show a.length + (enc (n : Int)).length + (textB (e.key.extract n e.key.size)).length = a.length + ((enc (n : Int)).length + (textB (e.key.extract n e.key.size)).length) by omega, e3]
    simp only
    rw [show a.length + ((enc (n : Int)).length + (textB (e.key.extract n e.key.size)).length) + (enc e.seq).length = a.length + ((enc (n : Int)).length + ((textB (e.key.extract n e.key.size)).length + (enc e.seq).length)) by omega, e4]
    simp only [rTail, if_true]
    rw [if_neg (by omega), ← gone_eq hg hgo]
    simp only [Except.ok.injEq, Prod.mk.injEq, true_and]
    omega
  · have hB : entB e n = enc n ++ (textB (e.key.extract n e.key.size) ++ (enc e.seq ++ (enc (e.til + 1) ++ textB e.value))) := by unfold entB; rw [if_neg hgo]
    have hgf : e.gone = false := by simpa using hgo
    have he : (⟨e.key, e.seq, false, e.value, e.til + 1 - 1⟩ : E) = e := by
      obtain ⟨k, q, g, v, t⟩ := e
      simp only at hgf
      subst hgf
      simp
    rw [hB]
    have e1 := num_enc (n := (n : Int)) (by omega) (by omega) a (textB (e.key.extract n e.key.size) ++ (enc e.seq ++ (enc (e.til + 1) ++ (textB e.value ++ r))))
    have e2 := text_enc (e.key.extract n e.key.size) (by omega) (a ++ enc n) (enc e.seq ++ (enc (e.til + 1) ++ (textB e.value ++ r)))
    have e3 := num_enc (n := e.seq) (by omega) (by omega) (a ++ (enc n ++ textB (e.key.extract n e.key.size))) (enc (e.til + 1) ++ (textB e.value ++ r))
    have e4 := num_enc (n := e.til + 1) (by omega) (by omega) (a ++ (enc n ++ (textB (e.key.extract n e.key.size) ++ enc e.seq))) (textB e.value ++ r)
    have e5 := text_enc e.value (by omega) (a ++ (enc n ++ (textB (e.key.extract n e.key.size) ++ (enc e.seq ++ enc (e.til + 1))))) r
    simp only [List.append_assoc, List.length_append] at e1 e2 e3 e4 e5 ⊢
    rw [e1]
    simp only [rRest]
    rw [if_neg (by omega), e2]
    simp only
    rw [Int.toNat_natCast, hj, show a.length + (enc (n : Int)).length + (textB (e.key.extract n e.key.size)).length = a.length + ((enc (n : Int)).length + (textB (e.key.extract n e.key.size)).length) by omega, e3]
    simp only
    rw [show a.length + ((enc (n : Int)).length + (textB (e.key.extract n e.key.size)).length) + (enc e.seq).length = a.length + ((enc (n : Int)).length + ((textB (e.key.extract n e.key.size)).length + (enc e.seq).length)) by omega, e4]
    simp only [rTail]
    rw [if_neg (by omega), if_neg (by omega), show a.length + ((enc (n : Int)).length + ((textB (e.key.extract n e.key.size)).length + (enc e.seq).length)) + (enc (e.til + 1)).length = a.length + ((enc (n : Int)).length + ((textB (e.key.extract n e.key.size)).length + ((enc e.seq).length + (enc (e.til + 1)).length))) by omega, e5]
    simp only
    rw [he]
    simp only [Except.ok.injEq, Prod.mk.injEq, true_and]
    omega

theorem ents_enc (v : Nat) : ∀ (es : List E) (acc : List E), OkF acc es → (∀ e ∈ es, e.wf) → ∀ (a r : List UInt8),
    rEnts (a ++ (bodyF v acc es ++ r)) es.length a.length acc = .ok (acc ++ es, a.length + (bodyF v acc es).length)
  | [], acc, _, _, a, r => by simp [rEnts, bodyF]
  | e :: es, acc, h, hw, a, r => by
    obtain ⟨hg, ht, -⟩ := nb_zero h.1
    have hwe := hw e (List.mem_cons_self ..)
    obtain ⟨s1, s2, s3⟩ := sh_le v acc e
    have hi := one_enc hg ht ⟨hwe.seq.2, hwe.til.2⟩ s1 s2 s3 a (bodyF v (acc ++ [e]) es ++ r)
    have hr := ents_enc v es (acc ++ [e]) h.2 (fun x hx => hw x (List.mem_cons_of_mem _ hx)) (a ++ entB e (sh v acc e)) r
    simp only [List.length_append, List.append_assoc] at hr
    simp only [bodyF, List.append_assoc, List.length_cons, rEnts, rEnt]
    rw [hi]
    simp only [rFin, h.1, if_true]
    rw [hr]
    simp
    omega

theorem get_build {l : List E} {v : Nat} (hl : l.length ≤ 4096) (h : OkF [] l) (hw : ∀ e ∈ l, e.wf) : getOut (buildB l v) = .ok l := by
  have e1 := num_enc (n := (l.length : Int)) (by omega) (by omega) [] (bodyF v [] l)
  have e2 := ents_enc v l [] h hw (enc l.length) []
  simp only [List.nil_append, List.length_nil, Nat.zero_add, List.append_nil] at e1 e2
  unfold getOut buildB
  rw [e1]
  simp only
  rw [if_neg (by omega), if_neg (by omega), Int.toNat_natCast, e2]
  simp only [rEnd, List.length_append]
  rw [if_neg (by omega)]

/-! ### errors are no noughts -/

theorem num_err {l : List UInt8} {p : Nat} {c : Int} (h : rNum l p = .error c) : c ≠ 0 := by
  unfold rNum at h
  split at h
  · cases h
  · rename_i h0; simp only [Except.error.injEq] at h; rw [← h]; exact h0
theorem text_err {l : List UInt8} {p : Nat} {c : Int} (h : rText l p = .error c) : c ≠ 0 := by
  unfold rText at h
  split at h
  · cases h
  · rename_i h0; simp only [Except.error.injEq] at h; rw [← h]; exact h0

theorem nb_ne {a : List E} {e : E} {c : Int} (h : nb a e = c) (hc : nb a e ≠ 0) : c ≠ 0 := by rw [← h]; exact hc
theorem rest_err {l : List UInt8} {k : ByteArray} {n : Int} {p : Nat} {c : Int} (h : rRest l k n p = .error c) : c ≠ 0 := by
  unfold rRest at h
  split at h
  · simp only [Except.error.injEq] at h; rw [← h]; decide
  · cases ht : rText l p with
    | error d => rw [ht] at h; simp only [Except.error.injEq] at h; rw [← h]; exact text_err ht
    | ok x => rw [ht] at h; cases h
theorem key_err {l : List UInt8} {k : ByteArray} {p : Nat} {c : Int} (h : rKey l p k = .error c) : c ≠ 0 := by
  unfold rKey at h
  cases hn : rNum l p with
  | error d => rw [hn] at h; simp only [Except.error.injEq] at h; rw [← h]; exact num_err hn
  | ok x => rw [hn] at h; exact rest_err h
theorem one_err {l : List UInt8} {p : Nat} {k : ByteArray} {c : Int} (h : rOne l p k = .error c) : c ≠ 0 := by
  unfold rOne at h
  cases hk : rKey l p k with
  | error d => rw [hk] at h; simp only [Except.error.injEq] at h; rw [← h]; exact key_err hk
  | ok x =>
    rw [hk] at h
    simp only at h
    cases hn : rNum l x.2 with
    | error d => rw [hn] at h; simp only [Except.error.injEq] at h; rw [← h]; exact num_err hn
    | ok y =>
      rw [hn] at h
      simp only at h
      cases hm : rNum l y.2 with
      | error d => rw [hm] at h; simp only [Except.error.injEq] at h; rw [← h]; exact num_err hm
      | ok z =>
        rw [hm] at h
        simp only [rTail] at h
        split at h
        · simp only [Except.error.injEq] at h; rw [← h]; decide
        · split at h
          · cases h
          · cases hv : rText l z.2 with
            | error d => rw [hv] at h; simp only [Except.error.injEq] at h; rw [← h]; exact text_err hv
            | ok x => rw [hv] at h; cases h
theorem ent_err {l : List UInt8} {p : Nat} {a : List E} {c : Int} (h : rEnt l p a = .error c) : c ≠ 0 := by
  unfold rEnt at h
  cases hk : rOne l p (lastKey a) with
  | error d => rw [hk] at h; simp only [rFin, Except.error.injEq] at h; rw [← h]; exact one_err hk
  | ok x =>
    rw [hk] at h
    simp only [rFin] at h
    split at h
    · cases h
    · rename_i h0; simp only [Except.error.injEq] at h; rw [← h]; exact h0
theorem ents_err {l : List UInt8} : ∀ {k p : Nat} {acc : List E} {c : Int}, rEnts l k p acc = .error c → c ≠ 0
  | 0, _, _, _, h => by cases h
  | k + 1, p, acc, c, h => by
    simp only [rEnts] at h
    cases hi : rEnt l p acc with
    | error d => rw [hi] at h; simp only [Except.error.injEq] at h; rw [← h]; exact ent_err hi
    | ok x => rw [hi] at h; exact ents_err h
theorem get_err {l : List UInt8} {c : Int} (h : getOut l = .error c) : c ≠ 0 := by
  unfold getOut at h
  cases hn : rNum l 0 with
  | error d => rw [hn] at h; simp only [Except.error.injEq] at h; rw [← h]; exact num_err hn
  | ok x =>
    obtain ⟨n, p⟩ := x
    rw [hn] at h
    simp only at h
    split at h
    · simp only [Except.error.injEq] at h; rw [← h]; decide
    · split at h
      · simp only [Except.error.injEq] at h; rw [← h]; decide
      · cases hi : rEnts l n.toNat p [] with
        | error d => rw [hi] at h; simp only [rEnd, Except.error.injEq] at h; rw [← h]; exact ents_err hi
        | ok x =>
          obtain ⟨es, q⟩ := x
          rw [hi] at h
          simp only [rEnd] at h
          split at h
          · simp only [Except.error.injEq] at h; rw [← h]; decide
          · cases h

/-- the entries that Parse tells, and its error -/
def getL (l : List UInt8) : List E := match getOut l with | .ok es => es | .error _ => []
def getC (l : List UInt8) : Int := match getOut l with | .ok _ => 0 | .error c => c
theorem getC_zero {l : List UInt8} (h : getC l = 0) : getOut l = .ok (getL l) := by
  unfold getC at h
  unfold getL
  cases hx : getOut l with
  | error c => rw [hx] at h; exact absurd h (get_err hx)
  | ok es => rfl
theorem getL_none {l : List UInt8} (h : getC l ≠ 0) : getL l = [] := by
  unfold getC at h
  unfold getL
  cases hx : getOut l with
  | error c => rfl
  | ok es => rw [hx] at h; exact absurd rfl h
theorem getC_ok {l : List UInt8} {es : List E} (h : getOut l = .ok es) : getC l = 0 ∧ getL l = es := by unfold getC getL; rw [h]; exact ⟨rfl, rfl⟩
theorem getC_err {l : List UInt8} {c : Int} (h : getOut l = .error c) : getC l = c ∧ getL l = [] := by unfold getC getL; rw [h]; exact ⟨rfl, rfl⟩

/-! ### what keys share never takes more -/

theorem enc_small (n : Nat) (h : n < 64) : enc n = [(2 * n).toUInt8] := by
  unfold enc
  have hz : Go.Lib.zigzag (n : Int) = 2 * n := by unfold Go.Lib.zigzag; rw [if_pos (by omega)]; omega
  rw [hz, Go.Lib.uvarint_small (by omega)]
theorem enc_min (n : Nat) (h : n ≤ 64) : 1 ≤ (enc n).length := (enc_len (n := (n : Int)) (by omega) (by omega)).1
theorem enc_64 : (enc (64 : Nat)).length ≤ 10 := (enc_len (n := ((64 : Nat) : Int)) (by omega) (by omega)).2

theorem entB_shared {e : E} {n : Nat} (hk : e.key.size ≤ 64) (hn : n ≤ e.key.size) : (entB e n).length ≤ (entB e 0).length := by
  have hz : e.key.extract 0 e.key.size = e.key := by
    apply str_ext
    rw [Lib.extract_data, List.drop_zero, Nat.sub_zero, List.take_of_length_le (by rw [size_list]; exact Nat.le_refl _)]
  unfold entB
  simp only [List.length_append, hz, textB, size_list, tail_size]
  have hts := tail_size e.key n
  have h0 : (enc ((0 : Nat) : Int)).length = 1 := by rw [enc_small 0 (by decide)]; rfl
  have hm := enc_min e.key.size hk
  by_cases h64 : n = 64
  · have he : e.key.size - n = 0 := by omega
    have h10 := enc_64
    subst h64
    rw [he, h0]
    omega
  · have h1 : (enc ((n : Nat) : Int)).length = 1 := by rw [enc_small n (by omega)]; rfl
    by_cases hn0 : n = 0
    · subst hn0; simp
    · have h2 : (enc ((e.key.size - n : Nat) : Int)).length = 1 := by rw [enc_small _ (by omega)]; rfl
      rw [h0, h1, h2]
      omega

theorem bodyF_shared (v : Nat) : ∀ (a r : List E), (∀ e ∈ r, e.key.size ≤ 64) → (bodyF v a r).length ≤ (bodyF 1 a r).length
  | _, [], _ => by simp [bodyF]
  | a, e :: r, h => by
    have h1 := entB_shared (h e (List.mem_cons_self ..)) (sh_le v a e).2.1
    have h2 := bodyF_shared v (a ++ [e]) r fun x hx => h x (List.mem_cons_of_mem _ hx)
    simp only [bodyF, List.length_append, sh_one]
    omega

theorem build_shared {l : List E} (h : OkF [] l) (v : Nat) : (buildB l v).length ≤ (buildB l 1).length := by
  have := bodyF_shared v [] l fun e he => (good_zero (okF_all _ _ h e he).1).2.1
  unfold buildB
  rw [List.length_append, List.length_append]
  omega

/-! ### what is found -/

theorem get_self {l : List E} (hs : Sorted l) {i : Nat} (hi : i < l.length) : SK.get l l[i].key l[i].seq = (l[i], true) := by
  have hl : l = l.take i ++ (l[i] :: l.drop (i + 1)) := by rw [← List.drop_eq_getElem_cons hi, List.take_append_drop]
  have hn : (l.take i).find? (fun x => decide (x.key = l[i].key ∧ x.seq ≤ l[i].seq)) = none := by
    rw [List.find?_eq_none]
    intro x hx h
    simp only [decide_eq_true_eq] at h
    have hs' : Sorted (l.take i ++ (l[i] :: l.drop (i + 1))) := by rw [← hl]; exact hs
    have h3 := (List.pairwise_append.1 hs').2.2 x hx l[i] (List.mem_cons_self ..)
    rw [less, if_pos h.1, decide_eq_true_eq] at h3
    omega
  have hf : l.find? (fun x => decide (x.key = l[i].key ∧ x.seq ≤ l[i].seq)) = some l[i] := by
    have : (l.take i ++ (l[i] :: l.drop (i + 1))).find? (fun x => decide (x.key = l[i].key ∧ x.seq ≤ l[i].seq)) = some l[i] := by
      rw [List.find?_append, hn, Option.none_or, List.find?_cons]
      simp
    rwa [← hl] at this
  unfold SK.get
  rw [hf]

theorem build_cases (l : List E) (v : Int) : ((buildOut l v).2 ≠ 0 ∧ (buildOut l v).1 = []) ∨ (1 ≤ v ∧ v ≤ 64 ∧ l.length ≤ 4096 ∧ OkF [] l ∧ buildOut l v = (buildB l v.toNat, 0)) := by
  unfold buildOut
  split
  · left; simp
  · split
    · left; simp
    · split
      · left; rename_i h; exact ⟨h, rfl⟩
      · right
        rename_i h1 h2 h3
        exact ⟨by omega, by omega, by omega, okF_ord _ _ (by simpa [ord] using h3), rfl⟩
end BK
end Go.Proofs.YtnglaolbfpdgoaaGreat

