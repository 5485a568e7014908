/- Which blocks are forgotten, and what is left: plain mathematics. -/
import Derived.Test.YtlfhjbilnfkabaaCg
namespace Go.Proofs.Ytlfhjbilnfkabaa
open Go.RowKit
open BM

namespace CM
/-- what is left when these are forgotten -/
def gone (Z P : Zs) : Zs := P.foldl (fun Z x => Z.eraseP fun y => y.1 == x.1) Z
/-- .. and what the budget is then -/
def rels (s : S) (P : Zs) : S := P.foldl (fun s x => (BM.release 1 (cost x.2.data) s).2) s
/-- those that are meant, from the first on, till they cost enough -/
def pkb (e : Int) (m : Blk → Bool) : Nat → Zs → Zs
  | _, [] => []
  | a, x :: r => if (a : Int) < e then (if m x.2 then x :: pkb e m (a + cost x.2.data) r else pkb e m a r) else []
def left (s : S) : Int := s.lim - s.used
/-- the document's way: one after the other -/
def dl (stop : S → Bool) (m : Blk → Bool) : List Blk → List Blk → S → List Blk × S
  | done, [], s => (done, s)
  | done, x :: r, s => if stop s then (done ++ x :: r, s) else if m x then dl stop m done r (BM.release 1 (cost x.data) s).2 else dl stop m (done ++ [x]) r s
def bl (Z : Zs) : List Blk := Z.map Prod.snd
theorem bl_len (Z : Zs) : (bl Z).length = Z.length := by simp [bl]
theorem bl_app (Z Y : Zs) : bl (Z ++ Y) = bl Z ++ bl Y := by simp [bl]

theorem tot_nil : tot [] = 0 := rfl
theorem tot_app (Z Y : Zs) : tot (Z ++ Y) = tot Z + tot Y := by simp [tot]
theorem tot_sub {Z Y : Zs} (h : Z.Sublist Y) : tot Z ≤ tot Y := by
  induction h with
  | slnil => exact Nat.le_refl _
  | cons a _ ih => rw [tot_cons]; omega
  | cons_cons a _ ih => rw [tot_cons, tot_cons]; omega

theorem pkb_sub (e : Int) (m : Blk → Bool) : ∀ (a : Nat) (Z : Zs), (pkb e m a Z).Sublist (Z.filter fun x => m x.2)
  | _, [] => List.Sublist.refl _
  | a, x :: r => by
    rw [pkb, List.filter_cons]
    by_cases h : (a : Int) < e
    · rw [if_pos h]
      cases hm : m x.2 with
      | true => simp only [if_true]; exact (pkb_sub e m _ r).cons_cons x
      | false => simp only [Bool.false_eq_true, if_false]; exact pkb_sub e m _ r
    · rw [if_neg h]; exact List.nil_sublist _
theorem pkb_all (e : Int) (m : Blk → Bool) : ∀ (a : Nat) (Z : Zs), (a : Int) + tot (pkb e m a Z) < e → pkb e m a Z = Z.filter fun x => m x.2
  | _, [], _ => rfl
  | a, x :: r, h => by
    rw [pkb] at h ⊢
    rw [List.filter_cons]
    by_cases h1 : (a : Int) < e
    · rw [if_pos h1] at h ⊢
      cases hm : m x.2 with
      | true =>
        simp only [hm, if_true] at h ⊢
        rw [tot_cons] at h
        rw [pkb_all e m (a + cost x.2.data) r (by omega)]
      | false =>
        simp only [hm, Bool.false_eq_true, if_false] at h ⊢
        exact pkb_all e m a r h
    · rw [if_neg h1] at h
      rw [tot_nil] at h; omega

/-- as many as are asked for are there just if all that are meant are enough -/
theorem pkb_short (e : Int) (m : Blk → Bool) (Z : Zs) : ((tot (pkb e m 0 Z) : Int) < e) ↔ ((tot (Z.filter fun x => m x.2) : Int) < e) := by
  constructor
  · intro h
    rw [← pkb_all e m 0 Z (by omega)]; exact h
  · intro h
    have := tot_sub (pkb_sub e m 0 Z)
    omega

theorem gone_nil (Z : Zs) : gone Z [] = Z := rfl
theorem gone_cons (Z : Zs) (x : Nat × Blk) (P : Zs) : gone Z (x :: P) = gone (Z.eraseP fun y => y.1 == x.1) P := rfl
theorem gone_snoc (Z P : Zs) (x : Nat × Blk) : gone Z (P ++ [x]) = (gone Z P).eraseP fun y => y.1 == x.1 := by unfold gone; rw [List.foldl_append]; rfl
theorem rels_cons (s : S) (x : Nat × Blk) (P : Zs) : rels s (x :: P) = rels (BM.release 1 (cost x.2.data) s).2 P := rfl
theorem rels_snoc (s : S) (P : Zs) (x : Nat × Blk) : rels s (P ++ [x]) = (BM.release 1 (cost x.2.data) (rels s P)).2 := by unfold rels; rw [List.foldl_append]; rfl
theorem erase_here {done r : Zs} {x : Nat × Blk} (h : x.1 ∉ ads done) : (done ++ x :: r).eraseP (fun y => y.1 == x.1) = done ++ r := by
  induction done with
  | nil => simp
  | cons y d ih =>
    have h1 : (y.1 == x.1) = false := beq_eq_false_iff_ne.2 fun e => h (by simp [ads, e])
    have h2 : x.1 ∉ ads d := fun hm => h (by simp only [ads, List.map_cons, List.mem_cons]; exact .inr hm)
    rw [List.cons_append, List.eraseP_cons, h1, cond_false, ih h2]; rfl

/-- a block that is kept, and isn't among those, stays -/
theorem gone_mem {x : Nat × Blk} : ∀ {P Z : Zs}, x ∈ Z → x.1 ∉ ads P → x ∈ gone Z P
  | [], _, h, _ => h
  | y :: P, Z, h, hn => by
    rw [gone_cons]
    refine gone_mem (P := P) ?_ (fun hm => hn (by simp only [ads, List.map_cons, List.mem_cons]; exact .inr hm))
    refine (List.mem_eraseP_of_neg ?_).2 h
    have : x.1 ≠ y.1 := fun e => hn (by simp [ads, e])
    simpa using this
theorem gone_sub (P : Zs) : ∀ Z : Zs, (gone Z P).Sublist Z := by
  induction P with
  | nil => intro Z; exact List.Sublist.refl _
  | cons y P ih => intro Z; rw [gone_cons]; exact (ih _).trans List.eraseP_sublist

/-- the program's way and the document's -/
theorem dl_gone (stop : S → Bool) (m : Blk → Bool) (e : Int) (I : S → Nat → Nat → Prop) (h1 : ∀ t b k, I t b k → (stop t = true ↔ ¬ (b : Int) < e)) (h2 : ∀ t b d k, I t b (d + k) → I (BM.release 1 d t).2 (b + d) k) (h3 : ∀ t b d k, I t b (d + k) → I t b k) :
    ∀ (r done : Zs) (s : S) (a : Nat), (ads (done ++ r)).Nodup → I s a (tot r) → dl stop m (bl done) (bl r) s = (bl (gone (done ++ r) (pkb e m a r)), rels s (pkb e m a r)) := by
  intro r
  induction r with
  | nil => intro done s a _ _; simp [dl, pkb, bl, gone_nil, rels]
  | cons x r ih =>
    intro done s a hnd hI
    have h1' := h1 s a _ hI
    rw [tot_cons] at hI
    have hx : x.1 ∉ ads done := fun hm => by
      simp only [ads, List.map_append, List.map_cons, List.nodup_append] at hnd
      exact hnd.2.2 _ hm x.1 (by simp) rfl
    show dl stop m (bl done) (x.2 :: bl r) s = _
    rw [dl, pkb]
    by_cases hs : stop s = true
    · rw [if_pos hs, if_neg (h1'.1 hs), gone_nil]
      simp [bl, rels]
    · have hlt : (a : Int) < e := by
        by_cases hlt : (a : Int) < e
        · exact hlt
        · exact absurd (h1'.2 hlt) hs
      rw [if_neg hs, if_pos hlt]
      cases hm : m x.2 with
      | true =>
        simp only [if_true]
        rw [gone_cons, erase_here hx, rels_cons]
        refine ih done _ (a + cost x.2.data) ?_ (h2 _ _ _ _ hI)
        simp only [ads, List.map_append, List.map_cons] at hnd ⊢
        exact hnd.sublist (List.Sublist.append (List.Sublist.refl _) (List.sublist_cons_self _ _))
      | false =>
        simp only [Bool.false_eq_true, if_false]
        have hap : done ++ x :: r = (done ++ [x]) ++ r := by simp
        rw [hap] at hnd ⊢
        have := ih (done ++ [x]) s a hnd (h3 _ _ _ _ hI)
        rw [← this]
        simp [bl]
end CM
end Go.Proofs.Ytlfhjbilnfkabaa
