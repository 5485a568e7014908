/- The reference's lists of names beside a disk's: plain mathematics. No function of the program. -/
import Derived.Test.YtadokmihabfbjaaDmD
namespace Go.Proofs.Ytadokmihabfbjaa
namespace DM

abbrev RN := List (Bs × Int)
/-- a disk's names as the reference has them -/
def nm (l : Nm) : RN := l.map fun p => (p.1, (p.2 : Int))

/-- 'with', from a place on: is the change there already? -/
def rw' (c : Bs × Int) : Bool → RN → RN
  | put, [] => if put then [] else [c]
  | put, p :: r => if p.1 = c.1 then rw' c put r else if !put && bytesBefore c.1 p.1 then c :: p :: rw' c true r else p :: rw' c put r
def rwith (l : RN) (c : Bs × Int) : RN := rw' c (decide (c.2 < 0)) l
def rall (l : RN) (x : RN) : RN := x.foldl rwith l

theorem del_cons (p : Bs × Nat) (r : Nm) (k : Bs) : del (p :: r) k = if p.1 = k then del r k else p :: del r k := by
  unfold del
  rw [List.filter_cons]
  by_cases h : p.1 = k
  · simp [h]
  · simp [h]
theorem nm_cons (p : Bs × Nat) (r : Nm) : nm (p :: r) = (p.1, (p.2 : Int)) :: nm r := rfl

theorem rw_true (c : Bs × Int) : ∀ l : Nm, rw' c true (nm l) = nm (del l c.1)
  | [] => rfl
  | p :: r => by
    have ih := rw_true c r
    rw [nm_cons, rw', ih, del_cons]
    by_cases h : p.1 = c.1
    · rw [if_pos h, if_pos h]
    · rw [if_neg h, if_neg h, if_neg (by simp)]
      rfl

theorem rw_false (k : Bs) (n : Nat) : ∀ l : Nm, rw' (k, (n : Int)) false (nm l) = nm (put l k n)
  | [] => rfl
  | p :: r => by
    have ih := rw_false k n r
    have it := rw_true (k, (n : Int)) r
    unfold put at ih ⊢
    rw [nm_cons, rw', ih, it, del_cons]
    by_cases h : p.1 = k
    · rw [if_pos h, if_pos h]
    · rw [if_neg h, if_neg h]
      by_cases hb : bytesBefore k p.1 = true
      · have hi : ins (k, n) (p :: del r k) = (k, n) :: p :: del r k := by rw [ins, if_pos hb]
        rw [hi, if_pos (by simpa using hb)]
        rfl
      · have hi : ins (k, n) (p :: del r k) = p :: ins (k, n) (del r k) := by rw [ins, if_neg hb]
        rw [hi, if_neg (by simpa using hb)]
        rfl

theorem rwith_put (l : Nm) (k : Bs) (n : Nat) : rwith (nm l) (k, (n : Int)) = nm (put l k n) := by
  unfold rwith
  rw [decide_eq_false (by simp), rw_false]
theorem rwith_del (l : Nm) (k : Bs) : rwith (nm l) (k, -1) = nm (del l k) := by
  unfold rwith
  rw [show decide (((k, -1) : Bs × Int).2 < 0) = true from rfl, rw_true]

theorem ins_first (x : Bs × Nat) : ∀ l : Nm, (∀ p ∈ l, bytesBefore x.1 p.1 = true) → ins x l = x :: l
  | [], _ => rfl
  | p :: r, h => by rw [ins, if_pos (h p (List.mem_cons_self ..))]

theorem del_ins {x : Bs × Nat} {k : Bs} (hk : x.1 ≠ k) : ∀ {l : Nm}, Sorted l → del (ins x l) k = ins x (del l k)
  | [], _ => by simp [ins, del, hk]
  | p :: r, h => by
    obtain ⟨h1, h2⟩ := List.pairwise_cons.1 h
    have ih := del_ins hk h2
    by_cases hb : bytesBefore x.1 p.1 = true
    · have hi : ins x (p :: r) = x :: p :: r := by rw [ins, if_pos hb]
      rw [hi, del_cons, if_neg hk, del_cons]
      by_cases hp : p.1 = k
      · rw [if_pos hp]
        exact (ins_first x _ (fun q hq => WideShapes.bytes_trans _ _ _ hb (h1 q (mem_del.1 hq).1))).symm
      · rw [if_neg hp, ins, if_pos hb]
    · have hi : ins x (p :: r) = p :: ins x r := by rw [ins, if_neg hb]
      rw [hi, del_cons, del_cons, ih]
      by_cases hp : p.1 = k
      · rw [if_pos hp, if_pos hp]
      · rw [if_neg hp, if_neg hp, ins, if_neg hb]

theorem del_del (l : Nm) (a b : Bs) : del (del l a) b = del (del l b) a := by
  unfold del
  rw [List.filter_filter, List.filter_filter]
  congr 1
  funext p
  exact Bool.and_comm _ _

/-- what one call did to names, as the reference has it -/
def qd (e : E) : RN := (if e.name = [] then [] else [(e.name, (e.file : Int))]) ++ (if e.gone = [] then [] else [(e.gone, -1)])

theorem rall_qd {l : Nm} (hs : Sorted l) (hne : ∀ p ∈ l, p.1 ≠ []) {e : E} (h : e.gone ≠ e.name ∨ e.name = []) : rall (nm l) (qd e) = nm (app l e) := by
  unfold qd rall app
  by_cases h1 : e.name = []
  · rw [if_pos h1, if_pos h1, List.nil_append]
    by_cases h2 : e.gone = []
    · rw [if_pos h2, h2, del_of_none hne]
      rfl
    · rw [if_neg h2]
      exact rwith_del _ _
  · rw [if_neg h1, if_neg h1]
    by_cases h2 : e.gone = []
    · rw [if_pos h2, h2, del_of_none hne]
      exact rwith_put _ _ _
    · rw [if_neg h2]
      show rwith (rwith (nm l) (e.name, (e.file : Int))) (e.gone, -1) = _
      rw [rwith_put, rwith_del]
      unfold put
      have hgn : e.name ≠ e.gone := fun he => by
        rcases h with h | h
        · exact h he.symm
        · exact h1 h
      rw [del_ins (x := (e.name, e.file)) hgn (sorted_del hs _), del_del]

theorem rfind_nm (l : Nm) (k : Bs) : (match (nm l).find? (fun p => p.1 == k) with | some p => p.2 | none => -1) = (match find l k with | some n => (n : Int) | none => -1) := by
  unfold nm find
  rw [List.find?_map]
  have : ((fun p : Bs × Int => p.1 == k) ∘ fun p : Bs × Nat => (p.1, (p.2 : Int))) = fun p => p.1 == k := rfl
  rw [this]
  cases l.find? (fun p => p.1 == k) <;> rfl
end DM
end Go.Proofs.Ytadokmihabfbjaa
