/- Texts joined by bundle.py: YTTm. -/
import Derived.Test.YtjkofciohehgfaaGreatDoorZaz
import Derived.Test.YtjkofciohehgfaaGreatDoorZbb
import Derived.Test.YtjkofciohehgfaaGreatDoorZbc
import Derived.Test.YtjkofciohehgfaaGreatDoorZbd

/- Plain mathematics of tables: their bytes, and what is read of bytes. No function of the program. -/
namespace Go.Proofs.YtjkofciohehgfaaGreatDoor.L11
namespace TB
open SK BK

abbrev Bs := List UInt8
structure Sp where
  last : ByteArray
  at_ : Nat
  n : Nat
deriving DecidableEq

def fr (b : Bs) : Bs := F3.FM.frame b
theorem fr_len (b : Bs) : (fr b).length = 8 + b.length := F3.FM.frame_len b

/-! ### which entries make a block -/

def tk (size : Nat) : Nat → Nat → List E → Nat
  | i, _, [] => i
  | i, h, e :: r => if i = 2048 ∨ size ≤ h then i else tk size (i + 1) (h + (e.key.size + e.value.size)) r
def taken (size : Nat) (l : List E) : Nat := tk size 0 0 l
def wt (l : List E) : Nat := (l.map fun e => e.key.size + e.value.size).sum

theorem wt_take {l : List E} {j : Nat} (h : j < l.length) : wt (l.take (j + 1)) = wt (l.take j) + (l[j].key.size + l[j].value.size) := by
  unfold wt; rw [List.take_succ_eq_append_getElem h, List.map_append, List.sum_append]; simp only [List.map_cons, List.map_nil, List.sum_cons, List.sum_nil, Nat.add_zero]

theorem tk_bounds (size : Nat) : ∀ (l : List E) (i h : Nat), i ≤ 2048 → i ≤ tk size i h l ∧ tk size i h l ≤ i + l.length ∧ tk size i h l ≤ 2048
  | [], i, h, hi => by simp [tk, hi]
  | e :: r, i, h, hi => by
    unfold tk
    split
    · simp; omega
    · rename_i hn
      have := tk_bounds size r (i + 1) (h + (e.key.size + e.value.size)) (by omega)
      simp only [List.length_cons]
      omega

theorem tk_held (size : Nat) : ∀ (l : List E) (i h m : Nat), tk size i h l = i + m + 1 → h + wt (l.take m) < size
  | [], i, h, m, he => by simp [tk] at he; omega
  | e :: r, i, h, m, he => by
    unfold tk at he
    split at he
    · omega
    · rename_i hn
      cases m with
      | zero => simp [wt]; omega
      | succ m =>
        have := tk_held size r (i + 1) (h + (e.key.size + e.value.size)) m (by omega)
        simp only [wt, List.take_succ_cons, List.map_cons, List.sum_cons] at *
        omega

theorem taken_bounds {size : Nat} (hs : 1 ≤ size) {l : List E} (h : l ≠ []) : 1 ≤ taken size l ∧ taken size l ≤ l.length ∧ taken size l ≤ 2048 := by
  have hb := tk_bounds size l 0 0 (by omega)
  refine ⟨?_, by unfold taken; omega, hb.2.2⟩
  cases l with
  | nil => exact absurd rfl h
  | cons e r =>
    unfold taken tk
    rw [if_neg (by omega)]
    exact (tk_bounds size r 1 _ (by omega)).1

def cutsF (size : Nat) : Nat → List E → List (List E)
  | 0, _ => []
  | _ + 1, [] => []
  | f + 1, e :: r => (e :: r).take (taken size (e :: r)) :: cutsF size f ((e :: r).drop (taken size (e :: r)))
def cuts (size : Nat) (l : List E) : List (List E) := cutsF size l.length l

theorem cutsF_fuel {size : Nat} (hs : 1 ≤ size) : ∀ (f g : Nat) (l : List E), l.length ≤ f → l.length ≤ g → cutsF size f l = cutsF size g l
  | 0, 0, _, _, _ => rfl
  | 0, g + 1, l, h, _ => by
    have : l = [] := List.length_eq_zero_iff.1 (by omega)
    subst this; rfl
  | f + 1, 0, l, _, h => by
    have : l = [] := List.length_eq_zero_iff.1 (by omega)
    subst this; rfl
  | f + 1, g + 1, [], _, _ => rfl
  | f + 1, g + 1, e :: r, h1, h2 => by
    have hb := taken_bounds hs (l := e :: r) (by simp)
    simp only [cutsF]
    rw [cutsF_fuel hs f g _ (by rw [List.length_drop]; simp at h1 ⊢; omega) (by rw [List.length_drop]; simp at h2 ⊢; omega)]

theorem cuts_nil (size : Nat) : cuts size [] = [] := rfl
theorem cuts_step {size : Nat} (hs : 1 ≤ size) {l : List E} (h : l ≠ []) : cuts size l = l.take (taken size l) :: cuts size (l.drop (taken size l)) := by
  cases l with
  | nil => exact absurd rfl h
  | cons e r =>
    have hb := taken_bounds hs (l := e :: r) (by simp)
    unfold cuts
    simp only [List.length_cons, cutsF]
    rw [cutsF_fuel hs r.length _ _ (by rw [List.length_drop]; simp; omega) (Nat.le_refl _)]

/-! ### the bytes -/

def sps : Nat → List (List E) → List Sp
  | _, [] => []
  | p, b :: r => ⟨lastKey b, p, (fr (buildB b 16)).length⟩ :: sps (p + (fr (buildB b 16)).length) r
def body (D : List (List E)) : Bs := D.flatMap fun b => fr (buildB b 16)
def spB (s : Sp) : Bs := textB s.last ++ (VM.enc s.at_ ++ VM.enc s.n)
def idx (ss : List Sp) : Bs := VM.enc ss.length ++ ss.flatMap spB
def be : Nat → Nat → Bs
  | 0, _ => []
  | k + 1, n => (n / 256 ^ k % 256).toUInt8 :: be k n
theorem be_len (n : Nat) : ∀ k, (be k n).length = k
  | 0 => rfl
  | k + 1 => by simp [be, be_len n k]
def dedF : Option ByteArray → List ByteArray → List ByteArray
  | _, [] => []
  | p, k :: r => if p = some k then dedF p r else k :: dedF (some k) r
def ded (l : List ByteArray) : List ByteArray := dedF none l
def keys (l : List E) : List ByteArray := ded (l.map E.key)

theorem body_snoc (D : List (List E)) (b : List E) : body (D ++ [b]) = body D ++ fr (buildB b 16) := by simp [body]
theorem sps_snoc : ∀ (p : Nat) (D : List (List E)) (b : List E), sps p (D ++ [b]) = sps p D ++ [⟨lastKey b, p + (body D).length, (fr (buildB b 16)).length⟩]
  | p, [], b => by simp [sps, body]
  | p, x :: D, b => by
    simp only [List.cons_append, sps]
    rw [sps_snoc _ D b]
    simp [body, Nat.add_assoc]
theorem sps_len : ∀ (p : Nat) (D : List (List E)), (sps p D).length = D.length
  | _, [] => rfl
  | p, b :: r => by simp [sps, sps_len _ r]

def ixOf (size : Nat) (l : List E) : Bs := idx (sps 0 (cuts size l))
def flOf (bits : Nat) (l : List E) : Bs := B9.BL.filter bits (B9.keysOf (keys l))
def ftOf (p q : Nat) : Bs := be 8 p ++ be 8 q
def bytes (size bits : Nat) (l : List E) : Bs :=
  body (cuts size l) ++ (fr (ixOf size l) ++ (fr (flOf bits l) ++ fr (ftOf (body (cuts size l)).length ((body (cuts size l)).length + (fr (ixOf size l)).length))))
def tabOut (l : List E) (size bits : Int) : Bs × Int :=
  if size < 1 ∨ 4096 < size ∨ bits < 1 ∨ 16 < bits then ([], 2)
  else if 65536 < l.length then ([], 5)
  else if (ord l).2 ≠ 0 then ([], (ord l).2)
  else if 65535 < (ixOf size.toNat l).length ∨ 65535 < (flOf bits.toNat l).length then ([], 5)
  else (bytes size.toNat bits.toNat l, 0)

/-! ### reading -/

/-- is a below b? -/
def lt (a b : ByteArray) : Bool := Go.bytesBefore a.data.toList b.data.toList
def okSp (place e : Nat) (last key : ByteArray) (a n : Int) : Prop := a = e ∧ 8 ≤ n ∧ n ≤ (place : Int) - e ∧ lt key last = false
instance (place e : Nat) (last key : ByteArray) (a n : Int) : Decidable (okSp place e last key a n) := by unfold okSp; infer_instance
end TB
end Go.Proofs.YtjkofciohehgfaaGreatDoor.L11


