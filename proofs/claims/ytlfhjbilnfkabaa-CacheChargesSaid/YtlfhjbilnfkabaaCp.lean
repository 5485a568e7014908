/- A cache in plain words, and calls of one that lives above a world. -/
import Derived.Test.YtlfhjbilnfkabaaCo
namespace Go.Proofs.Ytlfhjbilnfkabaa
open Go.RowKit Go.Maps
open BM CM

namespace CM
abbrev Ls := List Blk
def totB (L : Ls) : Nat := (L.map fun x => cost x.data).sum
def hitB (f k : Int) (x : Blk) : Bool := x.file == f && x.block == k
def findB (f k : Int) (L : Ls) : Option Nat := L.findIdx? (hitB f k)
def shrB (n : Int) (L : Ls) (s : S) : Bool × Ls × S :=
  if left s + totB (L.filter loose) < n then (false, L, s) else (true, (dl (fun t => decide (n ≤ left t)) loose [] L s).1, (dl (fun t => decide (n ≤ left t)) loose [] L s).2)
def putB (f k : Int) (d : ByteArray) (L : Ls) (s : S) : Int × Ls × S :=
  if (findB f k L).isSome then (11, L, s)
  else if (shrB (cost d : Nat) L s).1 then (0, (shrB (cost d : Nat) L s).2.1 ++ [⟨f, k, d, 0⟩], (BM.reserve 1 (cost d : Nat) (shrB (cost d : Nat) L s).2.2).2) else (14, L, s)
def getB (f k : Int) (L : Ls) : ByteArray × Bool × Ls :=
  match findB f k L with
  | some i => match L[i]? with
    | some x => (x.data, true, L.eraseIdx i ++ [x])
    | none => (⟨#[]⟩, false, L)
  | none => (⟨#[]⟩, false, L)
def pinB (f k : Int) (by_ : Int) (L : Ls) : Bool × Ls :=
  match findB f k L with
  | some i => match L[i]? with
    | some x => if (x.pins : Int) + by_ < 0 then (false, L) else (true, L.modify i fun x => { x with pins := ((x.pins : Int) + by_).toNat })
    | none => (false, L)
  | none => (false, L)
def dropB (f : Int) (L : Ls) (s : S) : Ls × S := dl (fun _ => false) (ofFile f) [] L s

theorem totB_bl (Z : Zs) : totB (bl Z) = tot Z := by unfold totB tot bl; rw [List.map_map]; rfl
theorem bl_filter (m : Blk → Bool) (Z : Zs) : (bl Z).filter m = bl (Z.filter fun x => m x.2) := by
  unfold bl; rw [List.filter_map]; rfl
theorem bl_erase (Z : Zs) (i : Nat) : bl (Z.eraseIdx i) = (bl Z).eraseIdx i := map_erase _ _ _
theorem bl_get {Z : Zs} {i : Nat} (h : i < Z.length) : (bl Z)[i]'(by rw [bl_len]; exact h) = Z[i].2 := by simp [bl]
theorem bl_pins (Z : Zs) (i v : Nat) : bl (setPins Z i v) = (bl Z).modify i fun x => { x with pins := v } := by
  apply List.ext_getElem?
  intro j
  unfold bl setPins
  rw [List.getElem?_map, List.getElem?_modify, List.getElem?_modify, List.getElem?_map]
  cases Z[j]? with
  | none => simp
  | some x => by_cases h : i = j <;> simp [h]

theorem shr_eq {n : Int} {Z : Zs} {s : S} (ok : Ok s) (hs : s.k1 = tot Z) (hnd : (ads Z).Nodup) : shrB n (bl Z) s = ((shr n Z s).1, bl (shr n Z s).2.1, (shr n Z s).2.2) := by
  have hr := left_range ok
  have hps := pkb_short (max n 0 - left s) loose Z
  unfold shrB shr
  rw [bl_filter, totB_bl]
  simp only
  by_cases h : (tot (pkb (max n 0 - left s) loose 0 Z) : Int) < max n 0 - left s
  · rw [if_pos h, if_pos (by have := hps.1 h; omega)]
  · rw [if_neg h, if_neg (by intro h2; exact h (hps.2 (by omega)))]
    have := dl_gone (fun t => decide (n ≤ left t)) loose (max n 0 - left s) (fun t b k => Ok t ∧ left t = left s + b ∧ (k : Int) ≤ t.k1)
      (fun t b k ⟨h1, h2, h3⟩ => by have := left_range h1; simp only [decide_eq_true_eq]; omega)
      (fun t b d k ⟨h1, h2, h3⟩ => by
        refine ⟨ok_release h1 _ _, ?_, ?_⟩
        · rw [left_rel (by omega), h2]; omega
        · rw [rel_k1 (by omega)]; omega)
      (fun t b d k ⟨h1, h2, h3⟩ => ⟨h1, h2, by omega⟩) Z [] s 0 (by simpa using hnd) ⟨ok, by omega, by omega⟩
    simp only [List.nil_append] at this
    rw [show bl [] = [] from rfl] at this
    rw [this]
theorem drp_eq {f : Int} {Z : Zs} {s : S} (hnd : (ads Z).Nodup) (ht : tot Z ≤ 1099511627776) : dropB f (bl Z) s = (bl (drp f Z s).1, (drp f Z s).2) := by
  unfold dropB drp
  have := dl_gone (fun _ => false) (ofFile f) 9223372036854775807 (fun t b k => b + k ≤ 1099511627776)
      (fun t b k h => by simp; omega) (fun t b d k h => by omega) (fun t b d k h => by omega) Z [] s 0 (by simpa using hnd) (by omega)
  simp only [List.nil_append] at this
  rw [show bl [] = [] from rfl] at this
  rw [this]

/-- what is found, and where -/
theorem find_one {Z : Zs} (hk : Z.Pairwise (fun x y => ¬ (x.2.file = y.2.file ∧ x.2.block = y.2.block))) (f k : Int) :
    (∃ i, ∃ h : i < Z.length, Z[i].2.file = f ∧ Z[i].2.block = k ∧ at_ Z f k = some Z[i].1 ∧ findB f k (bl Z) = some i) ∨ ((∀ x ∈ Z, ¬ (x.2.file = f ∧ x.2.block = k)) ∧ at_ Z f k = none ∧ findB f k (bl Z) = none) := by
  rcases find_spec (Z := Z) f k with ⟨i, hi, e1, e2, e3⟩ | ⟨hn, e3⟩
  · refine .inl ⟨i, hi, e1, e2, e3, ?_⟩
    unfold findB
    rw [List.findIdx?_eq_some_iff_getElem]
    refine ⟨by rw [bl_len]; exact hi, by rw [bl_get hi]; simp [hitB, e1, e2], fun j hj => ?_⟩
    have hjl : j < Z.length := by omega
    rw [bl_get hjl]
    have := List.pairwise_iff_getElem.1 hk j i hjl hi hj
    simp only [hitB, Bool.and_eq_true, beq_iff_eq]
    exact fun h => this ⟨h.1.trans e1.symm, h.2.trans e2.symm⟩
  · refine .inr ⟨hn, e3, ?_⟩
    unfold findB
    rw [List.findIdx?_eq_none_iff]
    intro x hx
    obtain ⟨y, hy, rfl⟩ : ∃ y ∈ Z, y.2 = x := by simpa [bl] using hx
    have := hn y hy
    simp only [hitB, Bool.and_eq_false_iff]
    by_cases h1 : y.2.file = f
    · right
      have : ¬ y.2.block = k := fun h2 => this ⟨h1, h2⟩
      simpa using this
    · left; simpa using h1
end CM

structure Live (W w : World) (c z b N : Nat) (Z : Zs) (s : S) : Prop where
  below : Below W.heap.size W w
  rep : Rep w c z b N Z s
  lo : ∀ g, own c z b Z g → W.heap.size ≤ g
/-- what a call leaves -/
structure Turn (W w w' : World) (c z b N : Nat) (Z : Zs) (N' : Nat) (Z' : Zs) (s' : S) : Prop where
  live : Live W w' c z b N' Z' s'
  only : Only (own c z b Z) w w'
  len : Z'.length ≤ Z.length + 1
  bound : N' ≤ N + 1
  own_ : ∀ g, own c z b Z' g → own c z b Z g ∨ w.heap.size ≤ g

section
variable {W w : World} {c z b N : Nat} {Z : Zs} {s : S}
theorem Live.turn (h : Live W w c z b N Z s) {w' : World} {N' : Nat} {Z' : Zs} {s' : S} (h1 : Rep w' c z b N' Z' s') (h2 : Only (own c z b Z) w w') (h3 : Z'.length ≤ Z.length + 1) (h4 : N' ≤ N + 1)
    (h5 : ∀ g, own c z b Z' g → own c z b Z g ∨ w.heap.size ≤ g) : Turn W w w' c z b N Z N' Z' s' :=
  ⟨⟨h2.below h.below h.below.size h.lo, h1, fun g hg => (h5 g hg).elim (h.lo g) (fun hw => Nat.le_trans h.below.size hw)⟩, h2, h3, h4, h5⟩
theorem Live.still (h : Live W w c z b N Z s) {w' : World} (hb : Below w.heap.size w w') : Live W w' c z b N Z s := ⟨h.below.trans (hb.mono h.below.size), h.rep.below hb, h.lo⟩
theorem Live.stay (h : Live W w c z b N Z s) {w' : World} (hb : Below w.heap.size w w') : Turn W w w' c z b N Z N Z s :=
  h.turn (h.rep.below hb) (Only.of_below hb) (by omega) (by omega) (fun g hg => .inl hg)
theorem own_sub {Z' : Zs} (h : ∀ p ∈ ads Z', p ∈ ads Z ∨ w.heap.size ≤ p) : ∀ g, own c z b Z' g → own c z b Z g ∨ w.heap.size ≤ g := by
  rintro g (h1 | h1 | h1 | h1)
  · exact .inl (.inl h1)
  · exact .inl (.inr (.inl h1))
  · exact .inl (.inr (.inr (.inl h1)))
  · exact (h g h1).imp (fun h => .inr (.inr (.inr h))) id

theorem Live.put (h : Live W w c z b N Z s) (hN : N ≤ 1000000) (hlen : Z.length ≤ 1000000) {f k : Int} (hf : i64 f) (hk : i64 k) (d : ByteArray) (hd : d.size ≤ 140737488351232) {r : Int × Ls × S} (hr : putB f k d (bl Z) s = r) :
    Calls Try.prog 19 #[.pointer (some ⟨c, 0, none⟩), keyV f k, .string d] w fun e w' => e = .returned (.int .i64 r.1) ∧ ∃ N' Z', Turn W w w' c z b N Z N' Z' r.2.2 ∧ bl Z' = r.2.1 := by
  subst hr
  have hse := shr_eq (n := (cost d : Nat)) h.rep.ok h.rep.sum h.rep.cor.nodup
  unfold putB
  rcases find_one h.rep.cor.keys f k with ⟨i, hi, -, -, e3, e4⟩ | ⟨-, e3, e4⟩
  · rw [e4]
    simp only [Option.isSome_some, if_true]
    exact (put_there h.rep hf hk d e3).mono fun e w' ⟨h1, h2⟩ => ⟨h1, N, Z, h.stay h2, rfl⟩
  · rw [e4, hse]
    simp only [Option.isSome_none, Bool.false_eq_true, if_false]
    cases hs : (shr (cost d : Nat) Z s).1 with
    | false =>
      have hzz : (shr (cost d : Nat) Z s).2 = (Z, s) := by
        unfold shr at hs ⊢
        simp only at hs ⊢
        split
        · rfl
        · rename_i hh; rw [if_neg hh] at hs; cases hs
      have := put_full h.rep hlen hf hk d hd e3 hs
      rw [hzz] at this
      simp only [Bool.false_eq_true, if_false]
      exact this.mono fun e w' ⟨h1, h2, h3⟩ => ⟨h1, N, Z, h.turn h2 h3 (by omega) (by omega) (fun g hg => .inl hg), rfl⟩
    | true =>
      simp only [if_true]
      refine (put_ok h.rep hN hlen hf hk d hd e3 hs).mono ?_
      rintro e w' ⟨h1, p, h2, h3, h4⟩
      have hsub := shr_sub (cost d : Nat) Z s
      refine ⟨h1, N + 1, _, h.turn h3 h4 ?_ (by omega) ?_, by rw [bl_app]; rfl⟩
      · rw [List.length_append]; have := hsub.length_le; simp; omega
      · refine own_sub fun q hq => ?_
        simp only [ads, List.map_append, List.mem_append, List.map_cons, List.map_nil, List.mem_singleton] at hq
        rcases hq with hq | rfl
        · exact .inl ((hsub.map Prod.fst).subset hq)
        · exact .inr h2

theorem Live.get (h : Live W w c z b N Z s) {f k : Int} (hf : i64 f) (hk : i64 k) {r : ByteArray × Bool × Ls} (hr : getB f k (bl Z) = r) :
    Calls Try.prog 24 #[.pointer (some ⟨c, 0, none⟩), keyV f k] w fun e w' => e = .returned (.tuple #[.string r.1, .bool r.2.1]) ∧ ∃ Z', Turn W w w' c z b N Z N Z' s ∧ bl Z' = r.2.2 := by
  subst hr
  unfold getB
  rcases find_one h.rep.cor.keys f k with ⟨i, hi, -, -, e3, e4⟩ | ⟨-, e3, e4⟩
  · rw [e4]
    simp only
    rw [List.getElem?_eq_getElem (by rw [bl_len]; exact hi), bl_get hi]
    refine (get_hit h.rep hf hk hi e3).mono ?_
    rintro e w' ⟨h1, h2, h3⟩
    refine ⟨h1, _, h.turn h2 h3 ?_ (by omega) ?_, by rw [bl_app, bl_erase]; rfl⟩
    · rw [List.length_append, List.length_eraseIdx_of_lt hi]; simp <;> omega
    · refine own_sub fun q hq => .inl ?_
      obtain ⟨y, hy, rfl⟩ := mem_ads.1 hq
      exact mem_ads.2 ⟨y, (perm_last hi).mem_iff.2 hy, rfl⟩
  · rw [e4]
    exact (get_miss h.rep hf hk e3).mono fun e w' ⟨h1, h2⟩ => ⟨h1, Z, h.stay h2, rfl⟩

theorem Live.pin (h : Live W w c z b N Z s) {f k : Int} (hf : i64 f) (hk : i64 k) (hp : ∀ x ∈ bl Z, x.pins < 1000000000) {r : Bool × Ls} (hr : pinB f k 1 (bl Z) = r) :
    Calls Try.prog 20 #[.pointer (some ⟨c, 0, none⟩), keyV f k] w fun e w' => e = .returned (.bool r.1) ∧ ∃ Z', Turn W w w' c z b N Z N Z' s ∧ bl Z' = r.2 := by
  subst hr
  unfold pinB
  rcases find_one h.rep.cor.keys f k with ⟨i, hi, -, -, e3, e4⟩ | ⟨-, e3, e4⟩
  · rw [e4]
    simp only
    rw [List.getElem?_eq_getElem (by rw [bl_len]; exact hi), bl_get hi]
    dsimp only
    rw [if_neg (by omega)]
    refine (pin_hit h.rep hf hk hi e3 (hp _ (by rw [← bl_get hi]; exact List.getElem_mem _))).mono ?_
    rintro e w' ⟨h1, h2, h3⟩
    refine ⟨h1, _, h.turn h2 h3 (by rw [pins_len]; omega) (by omega) (own_sub fun q hq => .inl (by rw [pins_ads] at hq; exact hq)), ?_⟩
    rw [bl_pins]
    apply List.ext_getElem?
    intro j
    rw [List.getElem?_modify, List.getElem?_modify]
    by_cases hij : i = j
    · subst hij
      rw [List.getElem?_eq_getElem (by rw [bl_len]; exact hi), bl_get hi]
      simp
    · simp [hij]
  · rw [e4]
    exact (pin_miss h.rep hf hk e3).mono fun e w' ⟨h1, h2⟩ => ⟨h1, Z, h.stay h2, rfl⟩
theorem Live.unpin (h : Live W w c z b N Z s) {f k : Int} (hf : i64 f) (hk : i64 k) {r : Bool × Ls} (hr : pinB f k (-1) (bl Z) = r) :
    Calls Try.prog 25 #[.pointer (some ⟨c, 0, none⟩), keyV f k] w fun e w' => e = .returned (.bool r.1) ∧ ∃ Z', Turn W w w' c z b N Z N Z' s ∧ bl Z' = r.2 := by
  subst hr
  unfold pinB
  rcases find_one h.rep.cor.keys f k with ⟨i, hi, -, -, e3, e4⟩ | ⟨-, e3, e4⟩
  · rw [e4]
    simp only
    rw [List.getElem?_eq_getElem (by rw [bl_len]; exact hi), bl_get hi]
    refine (unpin_hit h.rep hf hk hi e3).mono ?_
    rintro e w' ⟨h1, h2, h3⟩
    dsimp only
    by_cases h0 : Z[i].2.pins = 0
    · rw [if_pos (by omega)]
      rw [h0] at h1 h2
      have hz := pins_same i hi
      rw [h0] at hz
      rw [show (0 - 1 : Nat) = 0 from rfl, hz] at h2
      exact ⟨h1, Z, h.turn h2 h3 (by omega) (by omega) (fun g hg => .inl hg), rfl⟩
    · rw [if_neg (by omega)]
      rw [decide_eq_true (by omega)] at h1
      refine ⟨h1, _, h.turn h2 h3 (by rw [pins_len]; omega) (by omega) (own_sub fun q hq => .inl (by rw [pins_ads] at hq; exact hq)), ?_⟩
      rw [bl_pins]
      apply List.ext_getElem?
      intro j
      rw [List.getElem?_modify, List.getElem?_modify]
      by_cases hij : i = j
      · subst hij
        rw [List.getElem?_eq_getElem (by rw [bl_len]; exact hi), bl_get hi]
        simp; omega
      · simp [hij]
  · rw [e4]
    exact (unpin_miss h.rep hf hk e3).mono fun e w' ⟨h1, h2⟩ => ⟨h1, Z, h.stay h2, rfl⟩
theorem Live.shrink (h : Live W w c z b N Z s) (hlen : Z.length ≤ 1000000) {n : Int} (hn : i64 n) {r : Bool × Ls × S} (hr : shrB n (bl Z) s = r) :
    Calls Try.prog 22 #[.pointer (some ⟨c, 0, none⟩), .int .i64 n] w fun e w' => e = .returned (.bool r.1) ∧ ∃ Z', Turn W w w' c z b N Z N Z' r.2.2 ∧ bl Z' = r.2.1 := by
  subst hr
  rw [shr_eq h.rep.ok h.rep.sum h.rep.cor.nodup]
  refine (shrink_any h.rep hlen n hn).mono ?_
  rintro e w' ⟨h1, h2, h3⟩
  have hsub := shr_sub n Z s
  exact ⟨h1, _, h.turn h2 h3 (by have := hsub.length_le; omega) (by omega) (own_sub fun q hq => .inl ((hsub.map Prod.fst).subset hq)), rfl⟩
theorem Live.drop (h : Live W w c z b N Z s) (hlen : Z.length ≤ 1000000) (f : Int) {r : Ls × S} (hr : dropB f (bl Z) s = r) :
    Calls Try.prog 23 #[.pointer (some ⟨c, 0, none⟩), .int .i64 f] w fun e w' => e = .returned (.tuple #[]) ∧ ∃ Z', Turn W w w' c z b N Z N Z' r.2 ∧ bl Z' = r.1 := by
  subst hr
  rw [drp_eq h.rep.cor.nodup h.rep.tot_le]
  refine (drop_any h.rep hlen f).mono ?_
  rintro e w' ⟨h1, h2, h3⟩
  have hsub : (drp f Z s).1.Sublist Z := gone_sub _ _
  exact ⟨h1, _, h.turn h2 h3 (by have := hsub.length_le; omega) (by omega) (own_sub fun q hq => .inl ((hsub.map Prod.fst).subset hq)), rfl⟩
theorem Live.kept (h : Live W w c z b N Z s) (hN : N ≤ 1000000) (hlen : Z.length ≤ 1000000) {L : Ls} (hL : bl Z = L) :
    Calls Try.prog 16 #[.pointer (some ⟨c, 0, none⟩)] w fun e w' => ∃ A cap, e = .returned (.slice A L.length cap) ∧ KeysIn w' w.heap.size A (L.reverse.map fun x => (x.file, x.block)) ∧ Below w.heap.size w w' := by
  subst hL
  refine (kept_any h.rep hlen hN).mono ?_
  rintro e w' ⟨A, cap, h1, h2, h3⟩
  refine ⟨A, cap, by rw [bl_len]; exact h1, ?_, h3⟩
  rw [show (bl Z).reverse.map (fun x => (x.file, x.block)) = Z.reverse.map kp by unfold bl; rw [← List.map_reverse, List.map_map]; rfl]
  exact h2
end
end Go.Proofs.Ytlfhjbilnfkabaa
