/- Plain mathematics of layer 2: keys are read back. No program here. -/
import Derived.Test.YtnkofinielabkaaKmB
namespace Go.Proofs.Ytnkofinielabkaa.KM
open Go

/-- a text read up to its end: the text, what is behind it, the error -/
def scan : List UInt8 → List UInt8 → List UInt8 × List UInt8 × Int
  | [], _ => ([], [], 3)
  | [x], b => if x = 0 then ([], [], 3) else if b.length = 4096 then ([], [], 5) else ([], [], 3)
  | x :: y :: r, b =>
    if x = 0 then (if y = 1 then (b, r, 0) else if y ≠ 255 then ([], [], 4) else if b.length = 4096 then ([], [], 5) else scan r (b ++ [0]))
    else if b.length = 4096 then ([], [], 5) else scan (y :: r) (b ++ [x])

theorem scan_step {x : UInt8} {r b : List UInt8} (hx : x ≠ 0) (hb : b.length ≠ 4096) : scan (x :: r) b = scan r (b ++ [x]) := by
  cases r with
  | nil => simp [scan, hx, hb]
  | cons y r => rw [scan, if_neg hx, if_neg hb]

theorem scan_long {x : UInt8} {r b : List UInt8} (hx : x ≠ 0) (hb : b.length = 4096) : scan (x :: r) b = ([], [], 5) := by
  cases r with
  | nil => simp [scan, hx, hb]
  | cons y r => rw [scan, if_neg hx, if_pos hb]

theorem scan_esc (x r b : List UInt8) (h : b.length + x.length ≤ 4096) : scan (esc x ++ 0 :: 1 :: r) b = (b ++ x, r, 0) := by
  induction x generalizing b with
  | nil => simp [esc, scan]
  | cons c x ih =>
    simp only [List.length_cons] at h
    have hb : b.length ≠ 4096 := by omega
    by_cases hc : c = 0
    · subst hc
      have e : esc (0 :: x) ++ 0 :: 1 :: r = 0 :: 255 :: (esc x ++ 0 :: 1 :: r) := by simp [esc]
      rw [e, scan, if_pos rfl, if_neg (by decide), if_neg (by simp), if_neg hb, ih _ (by simp; omega)]
      simp
    · have e : esc (c :: x) ++ 0 :: 1 :: r = c :: (esc x ++ 0 :: 1 :: r) := by simp [esc, hc]
      rw [e, scan_step hc hb, ih _ (by simp; omega)]
      simp

theorem scan_err (l b : List UInt8) (h : (scan l b).2.2 ≠ 0) : (scan l b).1 = [] ∧ (scan l b).2.1 = [] := by
  induction l, b using scan.induct with
  | case1 b => simp [scan]
  | case2 b => simp [scan]
  | case3 x b hx hb => simp [scan, hx, hb]
  | case4 x b hx hb => simp [scan, hx, hb]
  | case5 b r => simp [scan] at h
  | case6 y r b h1 h2 => simp [scan, h1, h2]
  | case7 y r b h1 h2 h3 =>
    have hy : y = 255 := by simpa using h2
    subst hy
    simp [scan, h3]
  | case8 y r b h1 h2 h3 ih =>
    rw [scan, if_pos rfl, if_neg h1, if_neg h2, if_neg h3] at h ⊢
    exact ih h
  | case9 x y r b hx hb => rw [scan_long hx hb]; simp
  | case10 x y r b hx hb ih =>
    rw [scan_step hx hb] at h ⊢
    exact ih h

theorem scan_ok {l b t r : List UInt8} (h : scan l b = (t, r, 0)) (hb : b.length ≤ 4096) : ∃ x, t = b ++ x ∧ l = esc x ++ 0 :: 1 :: r ∧ t.length ≤ 4096 := by
  induction l, b using scan.induct with
  | case1 b => simp [scan] at h
  | case2 b => simp [scan] at h
  | case3 x b hx hb' => simp [scan, hx, hb'] at h
  | case4 x b hx hb' => simp [scan, hx, hb'] at h
  | case5 b r' =>
    rw [scan, if_pos rfl, if_pos rfl] at h
    simp only [Prod.mk.injEq, and_true] at h
    obtain ⟨rfl, rfl⟩ := h
    exact ⟨[], by simp, by simp [esc], hb⟩
  | case6 y r b h1 h2 => simp [scan, h1, h2] at h
  | case7 y r b h1 h2 h3 => simp [scan, h1, h3] at h; simp_all
  | case8 y r' b h1 h2 h3 ih =>
    rw [scan, if_pos rfl, if_neg h1, if_neg h2, if_neg h3] at h
    obtain ⟨x, ht, hl, hlen⟩ := ih h (by simp; omega)
    have hy : y = 255 := by simpa using h2
    exact ⟨0 :: x, by rw [ht]; simp, by rw [hl, hy]; simp [esc], hlen⟩
  | case9 x y r b hx hb' => rw [scan_long hx hb'] at h; simp at h
  | case10 x y r b hx hb' ih =>
    rw [scan_step hx hb'] at h
    obtain ⟨z, ht, hl, hlen⟩ := ih h (by simp; omega)
    exact ⟨x :: z, by rw [ht]; simp, by rw [hl]; simp [esc, hx], hlen⟩

/-- the number whose bytes these are, the highest first -/
def beVal (l : List UInt8) : Nat := l.foldl (fun u c => u * 256 + c.toNat) 0

theorem beVal_snoc (l : List UInt8) (c : UInt8) : beVal (l ++ [c]) = beVal l * 256 + c.toNat := by
  simp [beVal]

theorem beVal_lt (l : List UInt8) : beVal l < 256 ^ l.length := by
  have h : ∀ (l : List UInt8) (u : Nat), l.foldl (fun u c => u * 256 + c.toNat) u < (u + 1) * 256 ^ l.length := by
    intro l
    induction l with
    | nil => intro u; simp
    | cons c r ih =>
      intro u
      have h1 := ih (u * 256 + c.toNat)
      have hc := c.toNat_lt
      simp only [List.foldl_cons, List.length_cons, Nat.pow_succ]
      have h2 : (u * 256 + c.toNat + 1) * 256 ^ r.length ≤ ((u + 1) * 256) * 256 ^ r.length := Nat.mul_le_mul_right _ (by omega)
      rw [Nat.mul_comm (256 ^ r.length) 256, ← Nat.mul_assoc]
      omega
  have := h l 0
  simpa [beVal] using this

theorem beVal_beTo (v : Nat) (hv : v < 18446744073709551616) : beVal (beTo v 8) = v := by
  simp only [beTo, List.range_succ, List.range_zero, List.map_cons, List.map_nil, List.nil_append, List.cons_append, beVal, List.foldl_cons, List.foldl_nil, byteAt, Nat.toUInt8, UInt8.toNat_ofNat']
  simp only [show (256 : Nat) ^ (7 - 0) = 72057594037927936 by decide, show (256 : Nat) ^ (7 - 1) = 281474976710656 by decide, show (256 : Nat) ^ (7 - 2) = 1099511627776 by decide, show (256 : Nat) ^ (7 - 3) = 4294967296 by decide, show (256 : Nat) ^ (7 - 4) = 16777216 by decide, show (256 : Nat) ^ (7 - 5) = 65536 by decide, show (256 : Nat) ^ (7 - 6) = 256 by decide, show (256 : Nat) ^ (7 - 7) = 1 by decide]
  omega

theorem beTo_beVal {l : List UInt8} (h : l.length = 8) : beTo (beVal l) 8 = l := by
  match l, h with
  | [a, b, c, d, e, f, g, i], _ =>
    have ha := a.toNat_lt; have hb := b.toNat_lt; have hc := c.toNat_lt; have hd := d.toNat_lt
    have he := e.toNat_lt; have hf := f.toNat_lt; have hg := g.toNat_lt; have hi := i.toNat_lt
    simp only [beTo, List.range_succ, List.range_zero, List.map_cons, List.map_nil, List.nil_append, List.cons_append, beVal, List.foldl_cons, List.foldl_nil, byteAt]
    simp only [show (256 : Nat) ^ (7 - 0) = 72057594037927936 by decide, show (256 : Nat) ^ (7 - 1) = 281474976710656 by decide, show (256 : Nat) ^ (7 - 2) = 1099511627776 by decide, show (256 : Nat) ^ (7 - 3) = 4294967296 by decide, show (256 : Nat) ^ (7 - 4) = 16777216 by decide, show (256 : Nat) ^ (7 - 5) = 65536 by decide, show (256 : Nat) ^ (7 - 6) = 256 by decide, show (256 : Nat) ^ (7 - 7) = 1 by decide]
    simp only [List.cons.injEq, and_true]
    refine ⟨?_, ?_, ?_, ?_, ?_, ?_, ?_, ?_⟩ <;> (apply UInt8.toNat_inj.1; simp only [Nat.toUInt8, UInt8.toNat_ofNat']; omega)

/-- a number out of its eight bytes -/
def down (v : Nat) : Int := (v : Int) - 9223372036854775808

theorem up_down {v : Nat} : up (down v) = v := by unfold up down; omega
theorem down_up {n : Int} (h : -9223372036854775808 ≤ n) : down (up n) = n := by unfold up down; omega
theorem down_range {v : Nat} (h : v < 18446744073709551616) : -9223372036854775808 ≤ down v ∧ down v ≤ 9223372036854775807 := by unfold down; omega

def norm (p : KP) : KP := if p.t then ⟨true, 0, p.s⟩ else ⟨false, p.n, ⟨#[]⟩⟩

theorem penc_norm (p : KP) : penc (norm p) = penc p := by
  unfold norm penc
  split <;> simp_all

def noPart : KP := ⟨false, 0, ⟨#[]⟩⟩

/-- the part with which bytes begin, what is behind it, the error -/
def gp : List UInt8 → KP × List UInt8 × Int
  | [] => (noPart, [], 4)
  | c :: r =>
    if c = 1 then (if r.length < 8 then (noPart, [], 3) else (⟨false, down (beVal (r.take 8)), ⟨#[]⟩⟩, r.drop 8, 0))
    else if c = 2 then (if (scan r []).2.2 = 0 then (⟨true, 0, ⟨(scan r []).1.toArray⟩⟩, (scan r []).2.1, 0) else (noPart, [], (scan r []).2.2))
    else (noPart, [], 4)

theorem gp_enc {p : KP} (hr : -9223372036854775808 ≤ p.n ∧ p.n ≤ 9223372036854775807) (hb : bad p = false) (r : List UInt8) : gp (penc p ++ r) = (norm p, r, 0) := by
  unfold penc norm
  by_cases ht : p.t = true
  · rw [if_pos ht, if_pos ht]
    have e : 2 :: (esc p.s.data.toList ++ [0, 1]) ++ r = 2 :: (esc p.s.data.toList ++ 0 :: 1 :: r) := by simp
    have hs : p.s.size ≤ 4096 := by simpa [bad, ht] using hb
    have h := scan_esc p.s.data.toList r [] (by simpa using hs)
    rw [e, gp, if_neg (by decide), if_pos rfl, h, if_pos rfl]
    simp
  · rw [if_neg ht, if_neg ht]
    have e : 1 :: beTo (up p.n) 8 ++ r = 1 :: (beTo (up p.n) 8 ++ r) := rfl
    have hl := beTo_len (up p.n) 8
    rw [e, gp, if_pos rfl, if_neg (by simp [hl]), List.take_left' hl, List.drop_left' hl, beVal_beTo _ (up_lt hr.1 hr.2), down_up hr.1]

theorem gp_ok {l : List UInt8} {p : KP} {r : List UInt8} (h : gp l = (p, r, 0)) : l = penc p ++ r ∧ bad p = false ∧ (-9223372036854775808 ≤ p.n ∧ p.n ≤ 9223372036854775807) ∧ r.length < l.length ∧ norm p = p := by
  cases l with
  | nil => simp [gp] at h
  | cons c l =>
    rw [gp] at h
    split at h
    · split at h
      · simp at h
      · rename_i h1 h2
        subst h1
        simp only [Prod.mk.injEq, and_true] at h
        obtain ⟨rfl, rfl⟩ := h
        have hl8 : (l.take 8).length = 8 := by simp; omega
        have hv := beVal_lt (l.take 8)
        rw [hl8] at hv
        have e8 : (256 : Nat) ^ 8 = 18446744073709551616 := by decide
        rw [e8] at hv
        refine ⟨?_, rfl, down_range hv, by simp; omega, rfl⟩
        simp only [penc, Bool.false_eq_true, if_false, up_down, beTo_beVal hl8]
        rw [List.cons_append, List.take_append_drop]
    · split at h
      · rename_i h1 h2
        subst h2
        split at h
        · rename_i h3
          obtain ⟨t, r', e, hs⟩ : ∃ t r' e, scan l [] = (t, r', e) := ⟨_, _, _, rfl⟩
          rw [hs] at h h3
          have he : e = 0 := h3
          subst he
          simp only [Prod.mk.injEq, and_true] at h
          obtain ⟨rfl, rfl⟩ := h
          obtain ⟨x, hx, hl, hlen⟩ := scan_ok hs (by simp)
          simp only [List.nil_append] at hx
          subst hx
          refine ⟨?_, ?_, by simp, ?_, rfl⟩
          · simp only [penc, if_true]
            rw [hl]; simp
          · simp [bad, ByteArray.size]; omega
          · rw [hl]; simp; omega
        · rename_i h3
          simp only [Prod.mk.injEq] at h
          exact absurd h.2.2 h3
      · simp at h

theorem gp_err {l : List UInt8} (h : (gp l).2.2 ≠ 0) : (gp l).1 = noPart := by
  cases l with
  | nil => rfl
  | cons c l =>
    rw [gp] at h ⊢
    repeat' split
    all_goals first | rfl | (simp_all; done)

/-- what Parse comes to -/
def parse : Nat → List UInt8 → List KP → List KP × Int
  | 0, _, acc => (acc, 0)
  | f + 1, l, acc => if l = [] then (acc, 0) else if acc.length = 16 then ([], 5) else if (gp l).2.2 ≠ 0 then ([], (gp l).2.2) else parse f (gp l).2.1 (acc ++ [(gp l).1])

theorem parse_enc (l : List KP) (hr : ∀ p ∈ l, -9223372036854775808 ≤ p.n ∧ p.n ≤ 9223372036854775807) (hb : l.any bad = false) : ∀ (f : Nat) (acc : List KP), l.length ≤ f → acc.length + l.length ≤ 16 → parse f (l.flatMap penc) acc = (acc ++ l.map norm, 0) := by
  induction l with
  | nil =>
    intro f acc _ _
    cases f <;> simp [parse]
  | cons p l ih =>
    intro f acc hf h16
    simp only [List.length_cons] at hf h16
    simp only [List.any_cons, Bool.or_eq_false_iff] at hb
    cases f with
    | zero => omega
    | succ f =>
      have hg := gp_enc (hr p (by simp)) hb.1 (l.flatMap penc)
      have hne : penc p ++ l.flatMap penc ≠ [] := by
        unfold penc; split <;> simp
      rw [List.flatMap_cons, parse, if_neg hne, if_neg (by omega), hg, if_neg (by simp)]
      rw [ih (fun q hq => hr q (by simp [hq])) hb.2 f _ (by omega) (by simp; omega)]
      simp

theorem parse_ok : ∀ (f : Nat) (l : List UInt8) (acc c : List KP), l.length ≤ f → acc.length ≤ 16 → parse f l acc = (c, 0) →
    ∃ x, c = acc ++ x ∧ l = x.flatMap penc ∧ x.any bad = false ∧ c.length ≤ 16 ∧ (∀ p ∈ x, -9223372036854775808 ≤ p.n ∧ p.n ≤ 9223372036854775807) := by
  intro f
  induction f with
  | zero =>
    intro l acc c hl ha h
    have : l = [] := List.length_eq_zero_iff.1 (by omega)
    subst this
    simp only [parse, Prod.mk.injEq, and_true] at h
    subst h
    exact ⟨[], by simp, rfl, rfl, ha, by simp⟩
  | succ f ih =>
    intro l acc c hl ha h
    rw [parse] at h
    split at h
    · rename_i h0
      subst h0
      simp only [Prod.mk.injEq, and_true] at h
      subst h
      exact ⟨[], by simp, rfl, rfl, ha, by simp⟩
    · split at h
      · simp at h
      · rename_i h16
        split at h
        · rename_i he
          simp only [Prod.mk.injEq] at h
          exact absurd h.2 he
        · rename_i he
          obtain ⟨p, r, e, hg⟩ : ∃ p r e, gp l = (p, r, e) := ⟨_, _, _, rfl⟩
          rw [hg] at h he
          have he0 : e = 0 := by simpa using he
          subst he0
          obtain ⟨hl2, hb, hr, hlt, -⟩ := gp_ok hg
          obtain ⟨x, hc, hx, hbx, hlen, hrx⟩ := ih r (acc ++ [p]) c (by omega) (by simp; omega) h
          refine ⟨p :: x, by rw [hc]; simp, by rw [hl2, hx]; simp, by simp [hb, hbx], hlen, ?_⟩
          intro q hq
          rcases List.mem_cons.1 hq with rfl | hq
          · exact hr
          · exact hrx q hq

theorem parse_err : ∀ (f : Nat) (l : List UInt8) (acc : List KP), (parse f l acc).2 ≠ 0 → (parse f l acc).1 = [] := by
  intro f
  induction f with
  | zero => intro l acc h; simp [parse] at h
  | succ f ih =>
    intro l acc h
    rw [parse] at h ⊢
    split
    · rename_i h0; simp [h0] at h
    · split
      · rfl
      · split
        · rfl
        · rename_i h0 h1 h2
          rw [if_neg h0, if_neg h1, if_neg h2] at h
          exact ih _ _ h
end Go.Proofs.Ytnkofinielabkaa.KM
