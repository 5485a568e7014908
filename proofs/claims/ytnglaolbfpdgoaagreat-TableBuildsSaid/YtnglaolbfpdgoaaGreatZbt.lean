/- Texts joined by bundle.py: Um, Un. -/
import Derived.Test.YtnglaolbfpdgoaaGreatZbp
import Derived.Test.YtnglaolbfpdgoaaGreatZbf

/- Plain mathematics: a table that was made is read back; with a byte turned it is read back, or not at all. -/
namespace Go.Proofs.YtnglaolbfpdgoaaGreat
open Go.RowKit
open SK
open TB (Bs Sp)
namespace TB

/-! ### frames in their place -/

theorem get_fr (p : Bs) (h : p.length ≤ 65535) : F3.FM.get (fr p) = (p, 8 + p.length, 0) := by
  have := F3.FM.get_frame p [] h
  rwa [List.append_nil] at this
theorem one_fr (p : Bs) (h : p.length ≤ 65535) : one (fr p) ((8 + p.length : Nat) : Int) = .ok p := by
  unfold one
  rw [vget0, get_fr p h]
  simp
theorem part_at (A M C : Bs) : part (A ++ (M ++ C)) (A.length : Int) (M.length : Int) = .ok M := by
  unfold part
  rw [if_neg (by simp; omega), Int.toNat_natCast, Int.toNat_natCast, List.drop_left, List.take_left]
theorem bodyOf_at (A p C : Bs) (h : p.length ≤ 65535) (a n : Int) (ha : a = A.length) (hn : n = (8 + p.length : Nat)) : bodyOf (A ++ (fr p ++ C)) a n = .ok p := by
  subst ha hn
  unfold bodyOf
  have := part_at A (fr p) C
  rw [fr_len] at this
  rw [this]
  exact one_fr p h

theorem part_other {s : Bs} {j : Nat} {y : UInt8} {a n : Int} (h : (j : Int) < a ∨ a + n ≤ j) : part (s.set j y) a n = part s a n := by
  unfold part
  rw [List.length_set]
  by_cases hc : a < 0 ∨ n < 0 ∨ (s.length : Int) < a ∨ (s.length : Int) - a < n
  · rw [if_pos hc, if_pos hc]
  · rw [if_neg hc, if_neg hc]
    congr 1
    rw [List.drop_set]
    split
    · rfl
    · rw [List.take_set_of_le (by omega)]
theorem bodyOf_other {s : Bs} {j : Nat} {y : UInt8} {a n : Int} (h : (j : Int) < a ∨ a + n ≤ j) : bodyOf (s.set j y) a n = bodyOf s a n := by
  unfold bodyOf; rw [part_other h]

theorem bodyOf_turned (A p C : Bs) (h : p.length ≤ 65535) (a n : Int) (ha : a = A.length) (hn : n = (8 + p.length : Nat)) (j : Nat) (y : UInt8) (h1 : A.length ≤ j) (h2 : j < A.length + (8 + p.length)) (hy : (A ++ (fr p ++ C)).getD j 0 ≠ y) :
    ∃ c, bodyOf ((A ++ (fr p ++ C)).set j y) a n = .error c := by
  subst ha hn
  have hset : (A ++ (fr p ++ C)).set j y = A ++ ((fr p).set (j - A.length) y ++ C) := by
    rw [List.set_append_right _ _ h1, List.set_append_left _ _ (by rw [fr_len]; omega)]
  have hg : (fr p ++ []).getD (j - A.length) 0 ≠ y := by
    intro he
    apply hy
    rw [← he, List.append_nil]
    simp only [List.getD_eq_getElem?_getD]
    rw [List.getElem?_append_right h1, List.getElem?_append_left (by rw [fr_len]; omega)]
  have ht := F3.FM.get_turned p [] h (j - A.length) (by omega) y hg
  have hf : F3.FM.frame p = fr p := rfl
  rw [List.append_nil, hf] at ht
  rw [hset]
  have hl : ((fr p).set (j - A.length) y).length = 8 + p.length := by rw [List.length_set, fr_len]
  have hp := part_at A ((fr p).set (j - A.length) y) C
  rw [hl] at hp
  unfold bodyOf
  rw [hp]
  show ∃ c, one ((fr p).set (j - A.length) y) _ = .error c
  unfold one
  rw [vget0, ht]
  by_cases h4 : j - A.length < 4
  · exact ⟨4, by simp [h4]⟩
  · exact ⟨6, by simp [h4]⟩

/-! ### a place -/

theorem big_be : ∀ (k n a : Nat), (be k n).foldl (fun a b => a * 256 + b.toNat) a = a * 256 ^ k + n % 256 ^ k
  | 0, n, a => by simp [be, Nat.mod_one]
  | k + 1, n, a => by
    have hb : ((n / 256 ^ k % 256).toUInt8).toNat = n / 256 ^ k % 256 := by
      have := byte_toNat (n / 256 ^ k % 256) (Nat.mod_lt _ (by decide))
      omega
    simp only [be, List.foldl_cons]
    have h1 : n % 256 ^ (k + 1) = n % 256 ^ k + 256 ^ k * (n / 256 ^ k % 256) := Nat.mod_pow_succ
    have h2 : a * 256 ^ (k + 1) = a * 256 * 256 ^ k := by rw [Nat.pow_succ', Nat.mul_assoc]
    rw [big_be k n, hb, h1, h2, Nat.add_mul, Nat.mul_comm (256 ^ k)]
    omega
theorem big_place (n : Nat) (h : n < 18446744073709551616) : big (be 8 n) = n := by
  unfold big
  rw [big_be 8 n 0, Nat.zero_mul, Nat.zero_add]
  exact Nat.mod_eq_of_lt (by simpa using h)

/-! ### cuts -/

theorem cutsF_flat {size : Nat} (hs : 1 ≤ size) : ∀ (f : Nat) (l : List E), l.length ≤ f → (cutsF size f l).flatten = l
  | 0, l, h => by
    have : l = [] := List.length_eq_zero_iff.1 (by omega)
    subst this; rfl
  | f + 1, [], _ => rfl
  | f + 1, e :: r, h => by
    have hb := taken_bounds hs (l := e :: r) (by simp)
    simp only [cutsF, List.flatten_cons]
    rw [cutsF_flat hs f _ (by rw [List.length_drop]; simp at h ⊢; omega), List.take_append_drop]
theorem cuts_flat {size : Nat} (hs : 1 ≤ size) (l : List E) : (cuts size l).flatten = l := cutsF_flat hs _ _ (Nat.le_refl _)

/-- a block that is in order, and fits -/
structure Blk (b : List E) : Prop where
  ne : b ≠ []
  len : b.length ≤ 2048
  ok : BK.OkF [] b
  wf : ∀ e ∈ b, e.wf
  fits : (BK.buildB b 16).length ≤ 65535

theorem cutsF_blk {size : Nat} (hs : 1 ≤ size) (hs2 : size ≤ 4096) : ∀ (f : Nat) (l : List E), BK.OkF [] l → Fine l → ∀ b ∈ cutsF size f l, Blk b
  | 0, _, _, _, b, h => by simp [cutsF] at h
  | _ + 1, [], _, _, b, h => by simp [cutsF] at h
  | f + 1, e :: r, hok, hf, b, h => by
    have hb := taken_bounds hs (l := e :: r) (by simp)
    simp only [cutsF, List.mem_cons] at h
    rcases h with rfl | h
    · refine ⟨fun h => ?_, by rw [List.length_take]; omega, okF_take _ _ _ hok, fun x hx => (hf x (List.mem_of_mem_take hx)).1, block_fits hs hs2 (by simp) hf⟩
      have := congrArg List.length h
      rw [List.length_take] at this
      simp only [List.length_nil] at this
      omega
    · exact cutsF_blk hs hs2 f _ (okF_drop _ _ _ hok) (hf.drop _) b h

/-! ### the index is read back -/

theorem rTri_enc (s : Sp) (hl : s.last.size ≤ 65535) (ha : s.at_ ≤ 9223372036854775807) (hn : s.n ≤ 9223372036854775807) (a r : Bs) : rTri (a ++ (spB s ++ r)) a.length = .ok ((s.last, (s.at_ : Int), (s.n : Int)), a.length + (spB s).length) := by
  have e1 := BK.text_enc s.last hl a (VM.enc s.at_ ++ (VM.enc s.n ++ r))
  have e2 := BK.num_enc (n := (s.at_ : Int)) (by omega) (by omega) (a ++ BK.textB s.last) (VM.enc s.n ++ r)
  have e3 := BK.num_enc (n := (s.n : Int)) (by omega) (by omega) (a ++ (BK.textB s.last ++ VM.enc s.at_)) r
  unfold rTri spB
  simp only [List.append_assoc, List.length_append] at e1 e2 e3 ⊢
  rw [e1]
  simp only
  rw [e2]
  simp only
  rw [show a.length + (BK.textB s.last).length + (VM.enc (s.at_ : Int)).length = a.length + ((BK.textB s.last).length + (VM.enc (s.at_ : Int)).length) by omega, e3]
  simp only [Except.ok.injEq, Prod.mk.injEq, true_and]
  omega

/-- last keys stand in order behind k -/
def Up : ByteArray → List (List E) → Prop
  | _, [] => True
  | k, b :: r => lt (BK.lastKey b) k = false ∧ Up (BK.lastKey b) r

theorem rSps_enc (place : Nat) (hp : place ≤ 9223372036854775807) : ∀ (D : List (List E)) (e : Nat) (acc : List Sp) (a r : Bs), (∀ b ∈ D, (BK.lastKey b).size ≤ 65535) → Up (lastSp acc) D → e + (body D).length ≤ place →
    rSps (a ++ ((sps e D).flatMap spB ++ r)) place D.length a.length e acc = .ok (acc ++ sps e D, a.length + ((sps e D).flatMap spB).length, e + (body D).length)
  | [], e, acc, a, r, _, _, _ => by simp [rSps, sps, body]
  | b :: D, e, acc, a, r, hk, hu, hpl => by
    have hbl : (body (b :: D)).length = (fr (BK.buildB b 16)).length + (body D).length := by simp [body]
    rw [hbl] at hpl
    have hfl := fr_len (BK.buildB b 16)
    have ht := rTri_enc ⟨BK.lastKey b, e, (fr (BK.buildB b 16)).length⟩ (hk b (by simp)) (by show e ≤ _; omega) (by show (fr _).length ≤ _; omega) a ((sps (e + (fr (BK.buildB b 16)).length) D).flatMap spB ++ r)
    have ih := rSps_enc place hp D (e + (fr (BK.buildB b 16)).length) (acc ++ [⟨BK.lastKey b, e, (fr (BK.buildB b 16)).length⟩]) (a ++ spB ⟨BK.lastKey b, e, (fr (BK.buildB b 16)).length⟩) r (fun x hx => hk x (by simp [hx])) (by simpa [lastSp] using hu.2) (by omega)
    simp only [sps, List.flatMap_cons, List.append_assoc, List.length_cons, rSps]
    rw [ht]
    simp only
    rw [if_pos ⟨rfl, by omega, by omega, hu.1⟩, Int.toNat_natCast]
    simp only [List.append_assoc, List.length_append] at ih
    rw [List.length_append] 
    rw [show a.length + (spB ⟨BK.lastKey b, e, (fr (BK.buildB b 16)).length⟩).length = (a.length + (spB ⟨BK.lastKey b, e, (fr (BK.buildB b 16)).length⟩).length) from rfl, ih, hbl]
    simp only [List.cons_append, List.nil_append, Except.ok.injEq, Prod.mk.injEq, true_and]
    omega

theorem spansOf_enc (D : List (List E)) (hk : ∀ b ∈ D, (BK.lastKey b).size ≤ 65535) (hu : Up ⟨#[]⟩ D) (hp : (body D).length ≤ 9223372036854775807) (hl : D.length ≤ 9223372036854775807) : spansOf (idx (sps 0 D)) (body D).length = .ok (sps 0 D) := by
  have e1 := BK.num_enc (n := ((sps 0 D).length : Int)) (by omega) (by rw [sps_len]; omega) [] ((sps 0 D).flatMap spB)
  have e2 := rSps_enc (body D).length hp D 0 [] (VM.enc ((sps 0 D).length : Int)) [] hk hu (by omega)
  simp only [List.nil_append, List.length_nil, Nat.zero_add, List.append_nil] at e1 e2
  unfold spansOf idx
  rw [e1]
  simp only
  rw [if_neg (by omega), Int.toNat_natCast, sps_len] at *
  rw [e2]
  simp only [rSpEnd]
  rw [if_pos (by simp)]
end TB
end Go.Proofs.YtnglaolbfpdgoaaGreat

/- Plain mathematics: a table that was made is opened, and read whole; with a byte turned likewise, or not at all. -/
namespace Go.Proofs.YtnglaolbfpdgoaaGreat
open Go.RowKit
open SK
open TB (Bs Sp)
namespace TB

/-- what a table that is made is made of -/
structure Made (S b : Nat) (l : List E) : Prop where
  s1 : 1 ≤ S
  s2 : S ≤ 4096
  ok : BK.OkF [] l
  fine : Fine l
  n : l.length ≤ 65536
  ix : (ixOf S l).length ≤ 65535
  fl : (flOf b l).length ≤ 65535

theorem made_of {l : List E} {size bits : Int} (hn : l.length ≤ 65536) (hw : ∀ e ∈ l, e.wf) (h : (tabOut l size bits).2 = 0) : Made size.toNat bits.toNat l ∧ tabOut l size bits = (bytes size.toNat bits.toNat l, 0) := by
  unfold tabOut at h ⊢
  split at h
  · simp at h
  · rename_i h1
    rw [if_neg h1]
    split at h
    · simp at h
    · rename_i h2
      rw [if_neg h2]
      split at h
      · rename_i h3; exact absurd h h3
      · rename_i h3
        rw [if_neg h3]
        split at h
        · simp at h
        · rename_i h4
          rw [if_neg h4]
          have hok : BK.OkF [] l := BK.okF_ord _ _ (by simpa [BK.ord] using h3)
          exact ⟨⟨by omega, by omega, hok, fun e he => ⟨hw e he, BK.okF_all _ _ hok e he⟩, hn, by omega, by omega⟩, rfl⟩

theorem less_le {a b : E} (h : less a b = true) : lt b.key a.key = false := by
  unfold less at h
  by_cases hk : a.key = b.key
  · rw [hk]; exact lt_irrefl _
  · rw [if_neg hk] at h
    cases h2 : lt b.key a.key with
    | false => rfl
    | true => have := lt_trans h h2; rw [lt_irrefl] at this; cases this

theorem last_mem {b : List E} (h : b ≠ []) : ∃ x ∈ b, BK.lastKey b = x.key ∧ ∃ r, b = r ++ [x] := by
  rcases List.eq_nil_or_concat b with rfl | ⟨r, x, rfl⟩
  · exact absurd rfl h
  · exact ⟨x, by simp, by simp [BK.lastKey], r, by simp⟩

theorem up_of : ∀ (D : List (List E)) (k : ByteArray), (∀ b ∈ D, b ≠ []) → Sorted D.flatten → (∀ e ∈ D.flatten, lt e.key k = false) → Up k D
  | [], _, _, _, _ => trivial
  | b :: r, k, hne, hs, hk => by
    rw [List.flatten_cons] at hs hk
    obtain ⟨x, hx, hxk, -⟩ := last_mem (hne b (by simp))
    obtain ⟨h1, h2, h3⟩ := List.pairwise_append.1 hs
    refine ⟨by rw [hxk]; exact hk x (List.mem_append_left _ hx), up_of r _ (fun c hc => hne c (by simp [hc])) h2 fun e he => ?_⟩
    rw [hxk]
    exact less_le (h3 x hx e he)

theorem lt_empty (k : ByteArray) : lt k ⟨#[]⟩ = false := by
  unfold lt
  cases k.data.toList with
  | nil => rfl
  | cons a r => rfl

theorem body_cons (b : List E) (r : List (List E)) : body (b :: r) = fr (BK.buildB b 16) ++ body r := by simp [body]
theorem body_app (D1 D2 : List (List E)) : body (D1 ++ D2) = body D1 ++ body D2 := by simp [body]
theorem body_le : ∀ (D : List (List E)), (∀ b ∈ D, Blk b) → (body D).length ≤ D.length * 65543
  | [], _ => by simp [body]
  | b :: r, h => by
    have h1 := (h b (by simp)).fits
    have h2 := body_le r fun x hx => h x (by simp [hx])
    rw [body_cons, List.length_append, fr_len, List.length_cons]
    omega
theorem blocks_le : ∀ (D : List (List E)), (∀ b ∈ D, b ≠ []) → D.length ≤ D.flatten.length
  | [], _ => by simp
  | b :: r, h => by
    have h1 := List.length_pos_iff.2 (h b (by simp))
    have h2 := blocks_le r fun x hx => h x (by simp [hx])
    rw [List.flatten_cons, List.length_append, List.length_cons]
    omega

theorem Made.len {S b : Nat} {l : List E} (_ : Made S b l) : (bytes S b l).length = (TB.body (cuts S l)).length + (fr (ixOf S l)).length + (fr (flOf b l)).length + 24 := by
  unfold bytes ftOf
  simp only [List.length_append, fr_len, be_len]
  omega
theorem Made.foot {S b : Nat} {l : List E} (_ : Made S b l) : (ftOf (TB.body (cuts S l)).length ((TB.body (cuts S l)).length + (fr (ixOf S l)).length)).length = 16 := by unfold ftOf; rw [List.length_append, be_len, be_len]
section
variable {S b : Nat} {l : List E} (h : Made S b l)
include h
theorem Made.blk : ∀ c ∈ cuts S l, Blk c := cutsF_blk h.s1 h.s2 _ _ h.ok h.fine
theorem Made.flat : (cuts S l).flatten = l := cuts_flat h.s1 l
theorem Made.sorted : Sorted (cuts S l).flatten := by rw [h.flat]; exact BK.ok_sorted h.ok
theorem Made.blocks : (cuts S l).length ≤ 65536 := by
  have := blocks_le (cuts S l) fun c hc => (h.blk c hc).ne
  rw [h.flat] at this
  have := h.n
  omega
theorem Made.body : (body (cuts S l)).length ≤ 65536 * 65543 := Nat.le_trans (body_le _ h.blk) (Nat.mul_le_mul_right _ h.blocks)
theorem Made.index : spansOf (ixOf S l) (TB.body (cuts S l)).length = .ok (sps 0 (cuts S l)) := by
  have hb := h.body
  refine spansOf_enc (cuts S l) (fun c hc => ?_) (up_of _ _ (fun c hc => (h.blk c hc).ne) h.sorted fun e _ => lt_empty _) (by omega) (by have := h.blocks; omega)
  obtain ⟨x, hx, hxk, -⟩ := last_mem (h.blk c hc).ne
  rw [hxk]
  have := (good_zero (BK.okF_all _ _ (h.blk c hc).ok x hx).1).2.1
  omega
end

/-- what is read of any bytes in which foot, index and filter stand as they were put -/
theorem open_as {S b : Nat} {l : List E} (h : Made S b l) {T : Bs} (hT : T.length = (bytes S b l).length)
    (h0 : bodyOf T ((T.length : Int) - 24) 24 = .ok (ftOf (body (cuts S l)).length ((body (cuts S l)).length + (fr (ixOf S l)).length)))
    (h1 : bodyOf T (body (cuts S l)).length (8 + (ixOf S l).length : Nat) = .ok (ixOf S l))
    (h2 : bodyOf T ((body (cuts S l)).length + (fr (ixOf S l)).length : Nat) (8 + (flOf b l).length : Nat) = .ok (flOf b l)) : openS T T.length = .ok (sps 0 (cuts S l), flOf b l) := by
  have hlen := h.len
  have hb := h.body
  have hix := h.ix
  have hi := fr_len (ixOf S l)
  have hf := fr_len (flOf b l)
  have hz : ((T.length : Int) - 24).toNat = (body (cuts S l)).length + (fr (ixOf S l)).length + (fr (flOf b l)).length := by omega
  have hzi : (T.length : Int) - 24 = ((body (cuts S l)).length + (fr (ixOf S l)).length + (fr (flOf b l)).length : Nat) := by omega
  unfold openS
  rw [if_neg (by omega), hz]
  unfold readS
  rw [hzi] at h0
  rw [h0]
  simp only [rest0]
  have t1 : (ftOf (body (cuts S l)).length ((body (cuts S l)).length + (fr (ixOf S l)).length)).take 8 = be 8 (body (cuts S l)).length := by
    unfold ftOf; rw [List.take_append_of_le_length (by rw [be_len]; exact Nat.le_refl _), List.take_of_length_le (by rw [be_len]; exact Nat.le_refl _)]
  have t2 : (ftOf (body (cuts S l)).length ((body (cuts S l)).length + (fr (ixOf S l)).length)).drop 8 = be 8 ((body (cuts S l)).length + (fr (ixOf S l)).length) := by
    unfold ftOf; rw [List.drop_append_of_le_length (by rw [be_len]; exact Nat.le_refl _), List.drop_of_length_le (by rw [be_len]; exact Nat.le_refl _), List.nil_append]
  rw [t1, t2, big_place _ (by omega), big_place _ (by omega), if_pos ⟨by omega, by omega⟩]
  rw [show (((body (cuts S l)).length + (fr (ixOf S l)).length : Nat) : Int) - ((body (cuts S l)).length : Nat) = (8 + (ixOf S l).length : Nat) by omega, h1]
  simp only [rest1]
  rw [show (((body (cuts S l)).length + (fr (ixOf S l)).length + (fr (flOf b l)).length : Nat) : Int) - ((body (cuts S l)).length + (fr (ixOf S l)).length : Nat) = (8 + (flOf b l).length : Nat) by omega, h2]
  simp only [rest2]
  rw [h.index]
  rfl

section
variable {S b : Nat} {l : List E} (h : Made S b l)
include h
theorem Made.foot_at : bodyOf (bytes S b l) (((bytes S b l).length : Int) - 24) 24 = .ok (ftOf (TB.body (cuts S l)).length ((TB.body (cuts S l)).length + (fr (ixOf S l)).length)) := by
  have hl := h.len
  have hb : bytes S b l = (TB.body (cuts S l) ++ (fr (ixOf S l) ++ fr (flOf b l))) ++ (fr (ftOf (TB.body (cuts S l)).length ((TB.body (cuts S l)).length + (fr (ixOf S l)).length)) ++ []) := by unfold bytes; simp only [List.append_assoc, List.append_nil]
  have hf := h.foot
  have := bodyOf_at (TB.body (cuts S l) ++ (fr (ixOf S l) ++ fr (flOf b l))) (ftOf (TB.body (cuts S l)).length ((TB.body (cuts S l)).length + (fr (ixOf S l)).length)) [] (by rw [hf]; omega) (((bytes S b l).length : Int) - 24) 24 (by simp only [List.length_append]; omega) (by rw [hf]; rfl)
  rw [← hb] at this
  exact this
theorem Made.index_at : bodyOf (bytes S b l) (TB.body (cuts S l)).length (8 + (ixOf S l).length : Nat) = .ok (ixOf S l) := bodyOf_at (TB.body (cuts S l)) (ixOf S l) _ h.ix _ _ rfl rfl
theorem Made.filter_at : bodyOf (bytes S b l) ((TB.body (cuts S l)).length + (fr (ixOf S l)).length : Nat) (8 + (flOf b l).length : Nat) = .ok (flOf b l) := by
  have hb : bytes S b l = (TB.body (cuts S l) ++ fr (ixOf S l)) ++ (fr (flOf b l) ++ fr (ftOf (TB.body (cuts S l)).length ((TB.body (cuts S l)).length + (fr (ixOf S l)).length))) := by unfold bytes; simp only [List.append_assoc]
  have := bodyOf_at (TB.body (cuts S l) ++ fr (ixOf S l)) (flOf b l) (fr (ftOf (TB.body (cuts S l)).length ((TB.body (cuts S l)).length + (fr (ixOf S l)).length))) h.fl ((TB.body (cuts S l)).length + (fr (ixOf S l)).length : Nat) (8 + (flOf b l).length : Nat) (by rw [List.length_append]) rfl
  rw [← hb] at this
  exact this
/-- a table that was made is opened -/
theorem Made.open_ : openS (bytes S b l) (bytes S b l).length = .ok (sps 0 (cuts S l), flOf b l) := open_as h rfl h.foot_at h.index_at h.filter_at
end

/-! ### reading all -/

theorem rd_at (A C : Bs) (b : List E) (h : Blk b) (a n : Nat) (ha : a = A.length) (hn : n = (fr (BK.buildB b 16)).length) : rd (A ++ (fr (BK.buildB b 16) ++ C)) ⟨BK.lastKey b, a, n⟩ = .ok b := by
  unfold rd
  rw [bodyOf_at A (BK.buildB b 16) C h.fits _ _ (by rw [ha]) (by rw [hn, fr_len])]
  simp only [rd1]
  rw [BK.get_build (by have := h.len; omega) h.ok h.wf]
  simp only [rd2]
  rw [if_neg (fun h' => h'.elim h.ne fun h' => h' rfl)]

theorem fits_of {a b : List E} {r : List E} (hs : Sorted (a ++ (b ++ r))) : fits a b = true := by
  unfold fits
  cases ha : a.getLast? with
  | none => rfl
  | some x =>
    cases hb : b.head? with
    | none => rfl
    | some y =>
      exact (List.pairwise_append.1 hs).2.2 x (List.mem_of_getLast? ha) y (List.mem_append_left _ (List.mem_of_head? hb))

theorem fromS_enc (key : ByteArray) : ∀ (D : List (List E)) (A C : Bs) (a acc : List E), (∀ b ∈ D, Blk b) → Sorted (a ++ D.flatten) → fromS (A ++ (body D ++ C)) key (sps A.length D) a acc = .ok (acc ++ from_ D.flatten key)
  | [], A, C, a, acc, _, _ => by simp [fromS, sps, from_]
  | b :: r, A, C, a, acc, hb, hs => by
    rw [List.flatten_cons] at hs
    have hrd := rd_at A (body r ++ C) b (hb b (by simp)) A.length (fr (BK.buildB b 16)).length rfl rfl
    have ih := fromS_enc key r (A ++ fr (BK.buildB b 16)) C b (acc ++ from_ b key) (fun x hx => hb x (by simp [hx])) (List.pairwise_append.1 hs).2.1
    rw [body_cons, List.append_assoc]
    simp only [sps, fromS]
    rw [hrd]
    simp only [fits_of hs, if_true]
    rw [List.length_append, List.append_assoc] at ih
    rw [ih, List.flatten_cons, List.append_assoc]
    congr 2
    unfold from_
    rw [List.filter_append]

theorem sps_drop : ∀ (k p : Nat) (D : List (List E)), (sps p D).drop k = sps (p + (body (D.take k)).length) (D.drop k)
  | 0, p, D => by simp [body]
  | k + 1, p, [] => by simp [sps]
  | k + 1, p, b :: r => by
    simp only [sps, List.drop_succ_cons, List.take_succ_cons]
    rw [sps_drop k _ r, body_cons, List.length_append, Nat.add_assoc]
theorem sps_last : ∀ (p : Nat) (D : List (List E)), (sps p D).map Sp.last = D.map BK.lastKey
  | _, [] => rfl
  | p, b :: r => by simp [sps, sps_last _ r]

theorem all_as {S b : Nat} {l : List E} (h : Made S b l) (key : ByteArray) {T : Bs} (hT : fromS T key ((sps 0 (cuts S l)).drop (which (sps 0 (cuts S l)) key)) [] [] = fromS (bytes S b l) key ((sps 0 (cuts S l)).drop (which (sps 0 (cuts S l)) key)) [] []) : allS T (sps 0 (cuts S l)) key = .ok (from_ l key) := by
  unfold allS
  rw [hT]
  generalize hw : which (sps 0 (cuts S l)) key = w
  have hsp : cuts S l = (cuts S l).take w ++ (cuts S l).drop w := (List.take_append_drop _ _).symm
  have hb : bytes S b l = body ((cuts S l).take w) ++ (body ((cuts S l).drop w) ++ (fr (ixOf S l) ++ (fr (flOf b l) ++ fr (ftOf (body (cuts S l)).length ((body (cuts S l)).length + (fr (ixOf S l)).length))))) := by
    unfold bytes
    rw [← List.append_assoc (body (List.take w _)), ← body_app, List.take_append_drop]
  have hs := h.sorted
  rw [sps_drop, Nat.zero_add, hb, fromS_enc key _ _ _ [] [] (fun c hc => h.blk c (List.mem_of_mem_drop hc)) (by
    rw [hsp, List.flatten_append] at hs
    exact (List.pairwise_append.1 hs).2.1)]
  rw [List.nil_append]
  congr 1
  have hl : l = ((cuts S l).take w).flatten ++ ((cuts S l).drop w).flatten := by rw [← List.flatten_append, List.take_append_drop, h.flat]
  conv => rhs; rw [hl]
  unfold from_
  rw [List.filter_append]
  have hnil : ((cuts S l).take w).flatten.filter (fun x => !(Go.bytesBefore x.key.data.toList key.data.toList)) = [] := by
    rw [List.filter_eq_nil_iff]
    intro e he
    obtain ⟨c, hc, hec⟩ := List.mem_flatten.1 he
    obtain ⟨i, hi, rfl⟩ := List.getElem_of_mem hc
    rw [List.length_take] at hi
    rw [List.getElem_take] at hec
    have hic : i < (cuts S l).length := by omega
    have his : i < (sps 0 (cuts S l)).length := by rw [sps_len]; exact hic
    have hlt : lt ((sps 0 (cuts S l))[i].last) key = true := by
      have := List.not_of_lt_findIdx (p := fun x : Sp => !lt x.last key) (xs := sps 0 (cuts S l)) (i := i) (by unfold which at hw; omega)
      simpa using this
    have hlast : (sps 0 (cuts S l))[i].last = BK.lastKey (cuts S l)[i] := by
      have h1 : ((sps 0 (cuts S l)).map Sp.last)[i]? = ((cuts S l).map BK.lastKey)[i]? := by rw [sps_last]
      rw [List.getElem?_map, List.getElem?_map, List.getElem?_eq_getElem his, List.getElem?_eq_getElem hic] at h1
      simpa using h1
    rw [hlast] at hlt
    have hblk := h.blk _ (List.getElem_mem hic)
    obtain ⟨x, hx, hxk, r, hr⟩ := last_mem hblk.ne
    rw [hxk] at hlt
    have hel : lt x.key e.key = false := by
      rw [hr] at hec
      rcases List.mem_append.1 hec with he' | he'
      · have hs2 := BK.ok_sorted hblk.ok
        rw [hr] at hs2
        exact less_le ((List.pairwise_append.1 hs2).2.2 e he' x (by simp))
      · simp only [List.mem_singleton] at he'; rw [he']; exact lt_irrefl _
    simp only [Bool.not_eq_true, Bool.not_eq_false']
    cases hk : Go.bytesBefore e.key.data.toList key.data.toList with
    | true => rfl
    | false =>
      have := le_trans (a := key) (b := e.key) (c := x.key) hk hel
      rw [this] at hlt; cases hlt
  rw [hnil, List.nil_append]

theorem Made.all_ {S b : Nat} {l : List E} (h : Made S b l) (key : ByteArray) : allS (bytes S b l) (sps 0 (cuts S l)) key = .ok (from_ l key) := all_as h key rfl

/-! ### with a byte turned -/

theorem fromS_turned (T T' : Bs) (key : ByteArray) : ∀ (L : List Sp) (a acc : List E), (∀ sp ∈ L, (∃ c, rd T' sp = .error c) ∨ rd T' sp = rd T sp) → (∃ c, fromS T' key L a acc = .error c) ∨ fromS T' key L a acc = fromS T key L a acc
  | [], _, _, _ => .inr rfl
  | sp :: r, a, acc, h => by
    simp only [fromS]
    rcases h sp (by simp) with ⟨c, hc⟩ | he
    · left; exact ⟨c, by rw [hc]⟩
    · rw [he]
      cases rd T sp with
      | error c => right; rfl
      | ok es =>
        simp only
        split
        · exact fromS_turned T T' key r es _ fun x hx => h x (by simp [hx])
        · right; rfl

theorem sps_mem : ∀ (p : Nat) (D : List (List E)) (sp : Sp), sp ∈ sps p D → ∃ D1 b D2, D = D1 ++ b :: D2 ∧ sp = ⟨BK.lastKey b, p + (body D1).length, (fr (BK.buildB b 16)).length⟩
  | p, [], sp, h => by simp [sps] at h
  | p, b :: r, sp, h => by
    simp only [sps, List.mem_cons] at h
    rcases h with rfl | h
    · exact ⟨[], b, r, rfl, by simp [body]⟩
    · obtain ⟨D1, c, D2, rfl, rfl⟩ := sps_mem _ r sp h
      exact ⟨b :: D1, c, D2, rfl, by rw [body_cons, List.length_append, Nat.add_assoc]⟩

theorem err_open {T : Bs} {n : Int} (hn : 24 ≤ n) {c : Int} (h : bodyOf T (n - 24) 24 = .error c) : ∃ c, openS T n = .error c := by
  refine ⟨c, ?_⟩
  unfold openS readS
  rw [if_neg (by omega), show (((n - 24).toNat : Nat) : Int) = n - 24 by omega, h]
  rfl

/-- one byte turned: not opened, or read just so, or an error -/
theorem Made.turned {S b : Nat} {l : List E} (h : Made S b l) (j : Nat) (y : UInt8) (hj : j < (bytes S b l).length) (hy : (bytes S b l).getD j 0 ≠ y) :
    (∃ c, openS ((bytes S b l).set j y) (bytes S b l).length = .error c) ∨
    (openS ((bytes S b l).set j y) (bytes S b l).length = .ok (sps 0 (cuts S l), flOf b l) ∧ ∀ key, (∃ c, allS ((bytes S b l).set j y) (sps 0 (cuts S l)) key = .error c) ∨ allS ((bytes S b l).set j y) (sps 0 (cuts S l)) key = .ok (from_ l key)) := by
  have hlen := h.len
  have hft := h.foot
  have hix := fr_len (ixOf S l)
  have hfl := fr_len (flOf b l)
  obtain ⟨G, hG⟩ : ∃ G, TB.body (cuts S l) = G := ⟨_, rfl⟩
  have hT : bytes S b l = G ++ (fr (ixOf S l) ++ (fr (flOf b l) ++ fr (ftOf G.length (G.length + (fr (ixOf S l)).length)))) := by unfold bytes; rw [hG]
  rw [hG] at hlen hft
  have hsl : ((bytes S b l).set j y).length = (bytes S b l).length := List.length_set
  by_cases c1 : G.length + (fr (ixOf S l)).length + (fr (flOf b l)).length ≤ j
  · left
    have hb : bytes S b l = (G ++ (fr (ixOf S l) ++ fr (flOf b l))) ++ (fr (ftOf G.length (G.length + (fr (ixOf S l)).length)) ++ []) := by rw [hT]; simp only [List.append_assoc, List.append_nil]
    obtain ⟨c, hc⟩ := bodyOf_turned (G ++ (fr (ixOf S l) ++ fr (flOf b l))) (ftOf G.length (G.length + (fr (ixOf S l)).length)) [] (by rw [hft]; omega) (((bytes S b l).length : Int) - 24) 24 (by simp only [List.length_append]; omega) (by rw [hft]; rfl) j y (by simp only [List.length_append]; omega) (by simp only [List.length_append]; omega) (by rw [← hb]; exact hy)
    rw [← hb] at hc
    exact err_open (by omega) hc
  · have h0 := h.foot_at
    rw [hG, ← bodyOf_other (j := j) (y := y) (Or.inl (by omega))] at h0
    by_cases c2 : G.length + (fr (ixOf S l)).length ≤ j
    · left
      have hb : bytes S b l = (G ++ fr (ixOf S l)) ++ (fr (flOf b l) ++ fr (ftOf G.length (G.length + (fr (ixOf S l)).length))) := by rw [hT]; simp only [List.append_assoc]
      obtain ⟨c, hc⟩ := bodyOf_turned (G ++ fr (ixOf S l)) (flOf b l) (fr (ftOf G.length (G.length + (fr (ixOf S l)).length))) h.fl (G.length + (fr (ixOf S l)).length : Nat) (8 + (flOf b l).length : Nat) (by rw [List.length_append]) rfl j y (by rw [List.length_append]; omega) (by rw [List.length_append]; omega) (by rw [← hb]; exact hy)
      rw [← hb] at hc
      have h1 := h.index_at
      rw [hG, ← bodyOf_other (j := j) (y := y) (Or.inr (by omega))] at h1
      refine ⟨c, ?_⟩
      unfold openS readS
      rw [if_neg (by omega), show ((((bytes S b l).length : Int) - 24).toNat : Int) = ((bytes S b l).length : Int) - 24 by omega, h0]
      simp only [rest0]
      have t1 : (ftOf G.length (G.length + (fr (ixOf S l)).length)).take 8 = be 8 G.length := by
        unfold ftOf; rw [List.take_append_of_le_length (by rw [be_len]; exact Nat.le_refl _), List.take_of_length_le (by rw [be_len]; exact Nat.le_refl _)]
      have t2 : (ftOf G.length (G.length + (fr (ixOf S l)).length)).drop 8 = be 8 (G.length + (fr (ixOf S l)).length) := by
        unfold ftOf; rw [List.drop_append_of_le_length (by rw [be_len]; exact Nat.le_refl _), List.drop_of_length_le (by rw [be_len]; exact Nat.le_refl _), List.nil_append]
      have hbd := h.body
      rw [hG] at hbd
      have hix2 := h.ix
      rw [t1, t2, big_place _ (by omega), big_place _ (by omega), if_pos ⟨by omega, by omega⟩]
      rw [show ((G.length + (fr (ixOf S l)).length : Nat) : Int) - (G.length : Nat) = (8 + (ixOf S l).length : Nat) by omega, h1]
      simp only [rest1]
      rw [show ((((bytes S b l).length : Int) - 24).toNat : Int) - ((G.length + (fr (ixOf S l)).length : Nat) : Int) = (8 + (flOf b l).length : Nat) by omega, hc]
      rfl
    · by_cases c3 : G.length ≤ j
      · left
        obtain ⟨c, hc⟩ := bodyOf_turned G (ixOf S l) (fr (flOf b l) ++ fr (ftOf G.length (G.length + (fr (ixOf S l)).length))) h.ix G.length (8 + (ixOf S l).length : Nat) rfl rfl j y c3 (by omega) (by rw [← hT]; exact hy)
        rw [← hT] at hc
        refine ⟨c, ?_⟩
        unfold openS readS
        rw [if_neg (by omega), show ((((bytes S b l).length : Int) - 24).toNat : Int) = ((bytes S b l).length : Int) - 24 by omega, h0]
        simp only [rest0]
        have t1 : (ftOf G.length (G.length + (fr (ixOf S l)).length)).take 8 = be 8 G.length := by
          unfold ftOf; rw [List.take_append_of_le_length (by rw [be_len]; exact Nat.le_refl _), List.take_of_length_le (by rw [be_len]; exact Nat.le_refl _)]
        have t2 : (ftOf G.length (G.length + (fr (ixOf S l)).length)).drop 8 = be 8 (G.length + (fr (ixOf S l)).length) := by
          unfold ftOf; rw [List.drop_append_of_le_length (by rw [be_len]; exact Nat.le_refl _), List.drop_of_length_le (by rw [be_len]; exact Nat.le_refl _), List.nil_append]
        have hbd := h.body
        rw [hG] at hbd
        have hix2 := h.ix
        rw [t1, t2, big_place _ (by omega), big_place _ (by omega), if_pos ⟨by omega, by omega⟩]
        rw [show ((G.length + (fr (ixOf S l)).length : Nat) : Int) - (G.length : Nat) = (8 + (ixOf S l).length : Nat) by omega, hc]
        rfl
      · right
        have h1 := h.index_at
        have h2 := h.filter_at
        refine ⟨?_, fun key => ?_⟩
        · have := open_as h (T := (bytes S b l).set j y) hsl (by rw [hsl, hG]; exact h0) (by rw [bodyOf_other (Or.inl (by rw [hG]; omega))]; exact h1) (by rw [bodyOf_other (Or.inl (by rw [hG]; omega))]; exact h2)
          rw [hsl] at this
          exact this
        · have hrd : ∀ sp ∈ (sps 0 (cuts S l)).drop (which (sps 0 (cuts S l)) key), (∃ c, rd ((bytes S b l).set j y) sp = .error c) ∨ rd ((bytes S b l).set j y) sp = rd (bytes S b l) sp := by
            intro sp hsp
            obtain ⟨D1, c, D2, hD, rfl⟩ := sps_mem 0 _ sp (List.mem_of_mem_drop hsp)
            have hblk := h.blk c (by rw [hD]; simp)
            have hfc := fr_len (BK.buildB c 16)
            have hbb : bytes S b l = TB.body D1 ++ (fr (BK.buildB c 16) ++ (TB.body D2 ++ (fr (ixOf S l) ++ (fr (flOf b l) ++ fr (ftOf G.length (G.length + (fr (ixOf S l)).length)))))) := by
              rw [hT, ← hG, hD, body_app, body_cons]
              simp only [List.append_assoc]
            by_cases hin : (TB.body D1).length ≤ j ∧ j < (TB.body D1).length + (8 + (BK.buildB c 16).length)
            · left
              obtain ⟨c', hc'⟩ := bodyOf_turned (TB.body D1) (BK.buildB c 16) _ hblk.fits (TB.body D1).length (8 + (BK.buildB c 16).length : Nat) rfl rfl j y hin.1 hin.2 (by rw [← hbb]; exact hy)
              rw [← hbb] at hc'
              refine ⟨c', ?_⟩
              unfold rd
              simp only [Nat.zero_add]
              rw [hfc, hc']
              rfl
            · right
              unfold rd
              simp only [Nat.zero_add]
              rw [bodyOf_other]
              rw [hfc]
              omega
          rcases fromS_turned (bytes S b l) ((bytes S b l).set j y) key _ [] [] hrd with ⟨c, hc⟩ | he
          · left; exact ⟨c, hc⟩
          · right; exact all_as h key he

/-! ### every key may be there -/

theorem dedF_has : ∀ (l : List ByteArray) (p : Option ByteArray) (x : ByteArray), x ∈ l → x ∈ dedF p l ∨ p = some x
  | [], _, _, h => by simp at h
  | k :: r, p, x, h => by
    unfold dedF
    rcases List.mem_cons.1 h with rfl | h
    · by_cases hp : p = some x
      · exact .inr hp
      · left; rw [if_neg hp]; exact List.mem_cons_self ..
    · by_cases hp : p = some k
      · rw [if_pos hp]; exact dedF_has r p x h
      · rw [if_neg hp]
        rcases dedF_has r (some k) x h with h | h
        · exact .inl (List.mem_cons_of_mem _ h)
        · injection h with h; rw [h]; exact .inl (List.mem_cons_self ..)
theorem may_all (b : Nat) (l : List E) {e : E} (h : e ∈ l) : B9.BL.has (flOf b l) e.key.data.toList = true := by
  refine B9.BL.finds b _ _ ?_
  unfold B9.keysOf
  refine List.mem_map.2 ⟨e.key, ?_, rfl⟩
  rcases dedF_has (l.map E.key) none e.key (List.mem_map.2 ⟨e, h, rfl⟩) with h | h
  · exact h
  · cases h
end TB
end Go.Proofs.YtnglaolbfpdgoaaGreat

