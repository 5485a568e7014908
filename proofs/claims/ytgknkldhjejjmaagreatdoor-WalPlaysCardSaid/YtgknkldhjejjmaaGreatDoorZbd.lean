/- Texts joined by bundle.py: RmA, RmB. -/
import Derived.Test.YtgknkldhjejjmaaGreatDoorZad

/- The reference's lists of names beside a disk's: plain mathematics. No function of the program. -/
namespace Go.Proofs.YtgknkldhjejjmaaGreatDoor
namespace DM

abbrev RN := List (Bs × Int)
/-- a disk's names as the reference has them -/
def nm (l : Nm) : RN := l.map fun p => (p.1, (p.2 : Int))

/-- 'with', from a place on: is the change there already? -/
def rw' (c : Bs × Int) : Bool → RN → RN
  | put, [] => if put then [] else [c]
  | put, p :: r => if p.1 = c.1 then rw' c put r else if !put && bytesBefore c.1 p.1 then c :: p :: rw' c true r else p :: rw' c put r
def rwith (l : RN) (c : Bs × Int) : RN := rw' c (decide (c.2 < 0)) l
def rall (l : RN) (x : RN) : RN := x.foldl rwith l

theorem del_cons (p : Bs × Nat) (r : Nm) (k : Bs) : del (p :: r) k = if p.1 = k then del r k else p :: del r k := by
  unfold del
  rw [List.filter_cons]
  by_cases h : p.1 = k
  · simp [h]
  · simp [h]
theorem nm_cons (p : Bs × Nat) (r : Nm) : nm (p :: r) = (p.1, (p.2 : Int)) :: nm r := rfl

theorem rw_true (c : Bs × Int) : ∀ l : Nm, rw' c true (nm l) = nm (del l c.1)
  | [] => rfl
  | p :: r => by
    have ih := rw_true c r
    rw [nm_cons, rw', ih, del_cons]
    by_cases h : p.1 = c.1
    · rw [if_pos h, if_pos h]
    · rw [if_neg h, if_neg h, if_neg (by simp)]
      rfl

theorem rw_false (k : Bs) (n : Nat) : ∀ l : Nm, rw' (k, (n : Int)) false (nm l) = nm (put l k n)
  | [] => rfl
  | p :: r => by
    have ih := rw_false k n r
    have it := rw_true (k, (n : Int)) r
    unfold put at ih ⊢
    rw [nm_cons, rw', ih, it, del_cons]
    by_cases h : p.1 = k
    · rw [if_pos h, if_pos h]
    · rw [if_neg h, if_neg h]
      by_cases hb : bytesBefore k p.1 = true
      · have hi : ins (k, n) (p :: del r k) = (k, n) :: p :: del r k := by rw [ins, if_pos hb]
        rw [hi, if_pos (by simpa using hb)]
        rfl
      · have hi : ins (k, n) (p :: del r k) = p :: ins (k, n) (del r k) := by rw [ins, if_neg hb]
        rw [hi, if_neg (by simpa using hb)]
        rfl

theorem rwith_put (l : Nm) (k : Bs) (n : Nat) : rwith (nm l) (k, (n : Int)) = nm (put l k n) := by
  unfold rwith
  rw [decide_eq_false (by simp), rw_false]
theorem rwith_del (l : Nm) (k : Bs) : rwith (nm l) (k, -1) = nm (del l k) := by
  unfold rwith
  rw [show decide (((k, -1) : Bs × Int).2 < 0) = true from rfl, rw_true]

theorem ins_first (x : Bs × Nat) : ∀ l : Nm, (∀ p ∈ l, bytesBefore x.1 p.1 = true) → ins x l = x :: l
  | [], _ => rfl
  | p :: r, h => by rw [ins, if_pos (h p (List.mem_cons_self ..))]

theorem del_ins {x : Bs × Nat} {k : Bs} (hk : x.1 ≠ k) : ∀ {l : Nm}, Sorted l → del (ins x l) k = ins x (del l k)
  | [], _ => by simp [ins, del, hk]
  | p :: r, h => by
    obtain ⟨h1, h2⟩ := List.pairwise_cons.1 h
    have ih := del_ins hk h2
    by_cases hb : bytesBefore x.1 p.1 = true
    · have hi : ins x (p :: r) = x :: p :: r := by rw [ins, if_pos hb]
      rw [hi, del_cons, if_neg hk, del_cons]
      by_cases hp : p.1 = k
      · rw [if_pos hp]
        exact (ins_first x _ (fun q hq => WideShapes.bytes_trans _ _ _ hb (h1 q (mem_del.1 hq).1))).symm
      · rw [if_neg hp, ins, if_pos hb]
    · have hi : ins x (p :: r) = p :: ins x r := by rw [ins, if_neg hb]
      rw [hi, del_cons, del_cons, ih]
      by_cases hp : p.1 = k
      · rw [if_pos hp, if_pos hp]
      · rw [if_neg hp, if_neg hp, ins, if_neg hb]

theorem del_del (l : Nm) (a b : Bs) : del (del l a) b = del (del l b) a := by
  unfold del
  rw [List.filter_filter, List.filter_filter]
  congr 1
  funext p
  exact Bool.and_comm _ _

/-- what one call did to names, as the reference has it -/
def qd (e : E) : RN := (if e.name = [] then [] else [(e.name, (e.file : Int))]) ++ (if e.gone = [] then [] else [(e.gone, -1)])

theorem rall_qd {l : Nm} (hs : Sorted l) (hne : ∀ p ∈ l, p.1 ≠ []) {e : E} (h : e.gone ≠ e.name ∨ e.name = []) : rall (nm l) (qd e) = nm (app l e) := by
  unfold qd rall app
  by_cases h1 : e.name = []
  · rw [if_pos h1, if_pos h1, List.nil_append]
    by_cases h2 : e.gone = []
    · rw [if_pos h2, h2, del_of_none hne]
      rfl
    · rw [if_neg h2]
      exact rwith_del _ _
  · rw [if_neg h1, if_neg h1]
    by_cases h2 : e.gone = []
    · rw [if_pos h2, h2, del_of_none hne]
      exact rwith_put _ _ _
    · rw [if_neg h2]
      show rwith (rwith (nm l) (e.name, (e.file : Int))) (e.gone, -1) = _
      rw [rwith_put, rwith_del]
      unfold put
      have hgn : e.name ≠ e.gone := fun he => by
        rcases h with h | h
        · exact h he.symm
        · exact h1 h
      rw [del_ins (x := (e.name, e.file)) hgn (sorted_del hs _), del_del]

theorem rfind_nm (l : Nm) (k : Bs) : (match (nm l).find? (fun p => p.1 == k) with | some p => p.2 | none => -1) = (match find l k with | some n => (n : Int) | none => -1) := by
  unfold nm find
  rw [List.find?_map]
  have : ((fun p : Bs × Int => p.1 == k) ∘ fun p : Bs × Nat => (p.1, (p.2 : Int))) = fun p => p.1 == k := rfl
  rw [this]
  cases l.find? (fun p => p.1 == k) <;> rfl
end DM
end Go.Proofs.YtgknkldhjejjmaaGreatDoor

/- The reference's state, and what its functions make of it: plain mathematics. No function of the program. -/
namespace Go.Proofs.YtgknkldhjejjmaaGreatDoor
namespace DM

structure RS where
  room : Int
  files : List F
  names : RN
  lasts : RN
  queue : List RN
  off : Bool
  cutLeft : Nat
  cutNames : Int
  cutBytes : List Int
  brk : Nat

def rpre (l : RN) (q : List RN) (k : Nat) : RN := (q.take k).foldl rall l
def RS.fail (t : RS) (names : Int) (bytes : List Int) : RS :=
  { t with files := t.files.mapIdx (loseF bytes), names := rpre t.lasts t.queue (rest names (t.queue.length + 1)), lasts := rpre t.lasts t.queue (rest names (t.queue.length + 1)), queue := [], cutLeft := 0, brk := 0 }
def RS.trap (t : RS) : Int × RS := (if t.cutLeft = 1 then 1 else if t.brk = 1 then 2 else 0, { t with cutLeft := t.cutLeft - 1, brk := t.brk - 1 })
def RS.finish (t : RS) (c : Int) : Int × RS := if c = 1 then (13, { t.fail t.cutNames t.cutBytes with off := true }) else if c = 2 then (12, t) else (0, t)
def RS.did (t : RS) (x : RN) : RS := { t with names := rall t.names x, queue := if x = [] then t.queue else t.queue ++ [x] }
def RS.names' (t : RS) (x : RN) : Int × RS := (if t.trap.1 = 2 then t.trap.2 else t.trap.2.did x).finish t.trap.1
def RS.used (t : RS) : Nat := (t.names.map fun p => lens t.files p.2.toNat).sum
def RS.usedTo (t : RS) (j : Nat) : Nat := ((t.names.take j).map fun p => lens t.files p.2.toNat).sum
theorem RS.usedTo_step (t : RS) (j : Nat) (h : j < t.names.length) : t.usedTo (j + 1) = t.usedTo j + lens t.files (t.names[j]).2.toNat := by
  unfold RS.usedTo
  rw [List.take_succ_eq_append_getElem h, List.map_append, List.sum_append]
  simp
theorem RS.usedTo_le (t : RS) (M : Nat) (h : ∀ n, lens t.files n ≤ M) : ∀ j, t.usedTo j ≤ j * M := by
  intro j
  induction j with
  | zero => simp [RS.usedTo]
  | succ j ih =>
    by_cases hj : j < t.names.length
    · rw [t.usedTo_step j hj, Nat.succ_mul]
      have := h (t.names[j]).2.toNat
      omega
    · have : t.usedTo (j + 1) = t.usedTo j := by unfold RS.usedTo; rw [List.take_of_length_le (by omega), List.take_of_length_le (by omega)]
      rw [this, Nat.succ_mul]; omega
theorem RS.usedTo_end (t : RS) : t.usedTo t.names.length = t.used := by unfold RS.usedTo RS.used; rw [List.take_of_length_le (Nat.le_refl _)]
def rfind' (l : RN) (k : Bs) : Int := match l.find? (fun p => p.1 == k) with | some p => p.2 | none => -1
def RS.at (t : RS) (i : Int) : F := t.files.getD i.toNat ⟨[], 0⟩
def RS.read (t : RS) (k : Bs) : Bs × Int := if t.off then ([], 13) else if rfind' t.names k < 0 then ([], 10) else ((t.at (rfind' t.names k)).data, 0)
def RS.part (t : RS) (k : Bs) (i n : Int) : Bs × Int :=
  if (t.read k).2 ≠ 0 then ([], (t.read k).2) else if i < 0 ∨ n < 0 ∨ ((t.read k).1.length : Int) < i ∨ ((t.read k).1.length : Int) - i < n then ([], 2) else (((t.read k).1.drop i.toNat).take n.toNat, 0)
def RS.put (t : RS) (i : Int) (f : F) : RS := { t with files := t.files.set i.toNat f }
def RS.create (t : RS) (k : Bs) : Int × RS :=
  if t.off then (13, t) else if k = [] ∨ 64 < k.length then (2, t) else if 0 ≤ rfind' t.names k then (11, t) else if 4096 ≤ t.names.length then (12, t)
  else if t.brk ≠ 1 ∨ t.cutLeft = 1 then ({ t with files := t.files ++ [⟨[], 0⟩] } : RS).names' [(k, (t.files.length : Int))] else t.names' [(k, (t.files.length : Int) - 1)]
def RS.append (t : RS) (k d : Bs) : Int × RS :=
  if t.off then (13, t) else if rfind' t.names k < 0 then (10, t)
  else if 1048576 < ((t.at (rfind' t.names k)).data.length + d.length : Int) ∨ t.room < (t.used + d.length : Int) then (12, t)
  else (if t.trap.1 = 2 then t.trap.2 else t.trap.2.put (rfind' t.names k) ⟨(t.at (rfind' t.names k)).data ++ d, (t.at (rfind' t.names k)).sync⟩).finish t.trap.1
def RS.sync (t : RS) (k : Bs) : Int × RS :=
  if t.off then (13, t) else if rfind' t.names k < 0 then (10, t)
  else (if t.trap.1 = 0 then t.trap.2.put (rfind' t.names k) ⟨(t.at (rfind' t.names k)).data, (t.at (rfind' t.names k)).data.length⟩ else t.trap.2).finish t.trap.1
def RS.syncDir (t : RS) : Int × RS := if t.off then (13, t) else (if t.trap.1 = 0 then { t.trap.2 with lasts := t.names, queue := [] } else t.trap.2).finish t.trap.1
def RS.rename (t : RS) (a b : Bs) : Int × RS :=
  if t.off then (13, t) else if rfind' t.names a < 0 then (10, t) else if b = [] ∨ 64 < b.length then (2, t)
  else if a = b then t.names' [] else t.names' [(b, rfind' t.names a), (a, -1)]
def RS.remove (t : RS) (a : Bs) : Int × RS := if t.off then (13, t) else if rfind' t.names a < 0 then (10, t) else t.names' [(a, -1)]
def RS.cut (t : RS) (n names : Int) (l : List Int) : RS := { t with cutLeft := (max n 1).toNat, cutNames := names, cutBytes := l }
def RS.break' (t : RS) (n : Int) : RS := { t with brk := (max n 1).toNat }
def RS.spoil (t : RS) (k : Bs) (bit : Int) : RS :=
  if rfind' t.names k < 0 then t else if (t.at (rfind' t.names k)).data = [] then t
  else t.put (rfind' t.names k) ⟨flip (t.at (rfind' t.names k)).data (rest bit (8 * (t.at (rfind' t.names k)).data.length) / 8) (rest bit (8 * (t.at (rfind' t.names k)).data.length) % 8), (t.at (rfind' t.names k)).sync⟩
end DM
end Go.Proofs.YtgknkldhjejjmaaGreatDoor

