/- The reference's state, and what its functions make of it: plain mathematics. No function of the program. -/
import Derived.Test.YtadokmihabfbjaaRmA
import Derived.Test.YtadokmihabfbjaaDmC
namespace Go.Proofs.Ytadokmihabfbjaa
namespace DM

structure RS where
  room : Int
  files : List F
  names : RN
  lasts : RN
  queue : List RN
  off : Bool
  cutLeft : Nat
  cutNames : Int
  cutBytes : List Int
  brk : Nat

def rpre (l : RN) (q : List RN) (k : Nat) : RN := (q.take k).foldl rall l
def RS.fail (t : RS) (names : Int) (bytes : List Int) : RS :=
  { t with files := t.files.mapIdx (loseF bytes), names := rpre t.lasts t.queue (rest names (t.queue.length + 1)), lasts := rpre t.lasts t.queue (rest names (t.queue.length + 1)), queue := [], cutLeft := 0, brk := 0 }
def RS.trap (t : RS) : Int × RS := (if t.cutLeft = 1 then 1 else if t.brk = 1 then 2 else 0, { t with cutLeft := t.cutLeft - 1, brk := t.brk - 1 })
def RS.finish (t : RS) (c : Int) : Int × RS := if c = 1 then (13, { t.fail t.cutNames t.cutBytes with off := true }) else if c = 2 then (12, t) else (0, t)
def RS.did (t : RS) (x : RN) : RS := { t with names := rall t.names x, queue := if x = [] then t.queue else t.queue ++ [x] }
def RS.names' (t : RS) (x : RN) : Int × RS := (if t.trap.1 = 2 then t.trap.2 else t.trap.2.did x).finish t.trap.1
def RS.used (t : RS) : Nat := (t.names.map fun p => lens t.files p.2.toNat).sum
def RS.usedTo (t : RS) (j : Nat) : Nat := ((t.names.take j).map fun p => lens t.files p.2.toNat).sum
theorem RS.usedTo_step (t : RS) (j : Nat) (h : j < t.names.length) : t.usedTo (j + 1) = t.usedTo j + lens t.files (t.names[j]).2.toNat := by
  unfold RS.usedTo
  rw [List.take_succ_eq_append_getElem h, List.map_append, List.sum_append]
  simp
theorem RS.usedTo_le (t : RS) (M : Nat) (h : ∀ n, lens t.files n ≤ M) : ∀ j, t.usedTo j ≤ j * M := by
  intro j
  induction j with
  | zero => simp [RS.usedTo]
  | succ j ih =>
    by_cases hj : j < t.names.length
    · rw [t.usedTo_step j hj, Nat.succ_mul]
      have := h (t.names[j]).2.toNat
      omega
    · have : t.usedTo (j + 1) = t.usedTo j := by unfold RS.usedTo; rw [List.take_of_length_le (by omega), List.take_of_length_le (by omega)]
      rw [this, Nat.succ_mul]; omega
theorem RS.usedTo_end (t : RS) : t.usedTo t.names.length = t.used := by unfold RS.usedTo RS.used; rw [List.take_of_length_le (Nat.le_refl _)]
def rfind' (l : RN) (k : Bs) : Int := match l.find? (fun p => p.1 == k) with | some p => p.2 | none => -1
def RS.at (t : RS) (i : Int) : F := t.files.getD i.toNat ⟨[], 0⟩
def RS.read (t : RS) (k : Bs) : Bs × Int := if t.off then ([], 13) else if rfind' t.names k < 0 then ([], 10) else ((t.at (rfind' t.names k)).data, 0)
def RS.part (t : RS) (k : Bs) (i n : Int) : Bs × Int :=
  if (t.read k).2 ≠ 0 then ([], (t.read k).2) else if i < 0 ∨ n < 0 ∨ ((t.read k).1.length : Int) < i ∨ ((t.read k).1.length : Int) - i < n then ([], 2) else (((t.read k).1.drop i.toNat).take n.toNat, 0)
def RS.put (t : RS) (i : Int) (f : F) : RS := { t with files := t.files.set i.toNat f }
def RS.create (t : RS) (k : Bs) : Int × RS :=
  if t.off then (13, t) else if k = [] ∨ 64 < k.length then (2, t) else if 0 ≤ rfind' t.names k then (11, t) else if 4096 ≤ t.names.length then (12, t)
  else if t.brk ≠ 1 ∨ t.cutLeft = 1 then ({ t with files := t.files ++ [⟨[], 0⟩] } : RS).names' [(k, (t.files.length : Int))] else t.names' [(k, (t.files.length : Int) - 1)]
def RS.append (t : RS) (k d : Bs) : Int × RS :=
  if t.off then (13, t) else if rfind' t.names k < 0 then (10, t)
  else if 1048576 < ((t.at (rfind' t.names k)).data.length + d.length : Int) ∨ t.room < (t.used + d.length : Int) then (12, t)
  else (if t.trap.1 = 2 then t.trap.2 else t.trap.2.put (rfind' t.names k) ⟨(t.at (rfind' t.names k)).data ++ d, (t.at (rfind' t.names k)).sync⟩).finish t.trap.1
def RS.sync (t : RS) (k : Bs) : Int × RS :=
  if t.off then (13, t) else if rfind' t.names k < 0 then (10, t)
  else (if t.trap.1 = 0 then t.trap.2.put (rfind' t.names k) ⟨(t.at (rfind' t.names k)).data, (t.at (rfind' t.names k)).data.length⟩ else t.trap.2).finish t.trap.1
def RS.syncDir (t : RS) : Int × RS := if t.off then (13, t) else (if t.trap.1 = 0 then { t.trap.2 with lasts := t.names, queue := [] } else t.trap.2).finish t.trap.1
def RS.rename (t : RS) (a b : Bs) : Int × RS :=
  if t.off then (13, t) else if rfind' t.names a < 0 then (10, t) else if b = [] ∨ 64 < b.length then (2, t)
  else if a = b then t.names' [] else t.names' [(b, rfind' t.names a), (a, -1)]
def RS.remove (t : RS) (a : Bs) : Int × RS := if t.off then (13, t) else if rfind' t.names a < 0 then (10, t) else t.names' [(a, -1)]
def RS.cut (t : RS) (n names : Int) (l : List Int) : RS := { t with cutLeft := (max n 1).toNat, cutNames := names, cutBytes := l }
def RS.break' (t : RS) (n : Int) : RS := { t with brk := (max n 1).toNat }
def RS.spoil (t : RS) (k : Bs) (bit : Int) : RS :=
  if rfind' t.names k < 0 then t else if (t.at (rfind' t.names k)).data = [] then t
  else t.put (rfind' t.names k) ⟨flip (t.at (rfind' t.names k)).data (rest bit (8 * (t.at (rfind' t.names k)).data.length) / 8) (rest bit (8 * (t.at (rfind' t.names k)).data.length) % 8), (t.at (rfind' t.names k)).sync⟩
end DM
end Go.Proofs.Ytadokmihabfbjaa
