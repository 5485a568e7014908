/- Texts joined by bundle.py: Tm. -/
import Derived.Test.YtnglaolbfpdgoaaGreatZag
import Derived.Test.YtnglaolbfpdgoaaGreatZah
import Derived.Test.YtnglaolbfpdgoaaGreatZaj
import Derived.Test.YtnglaolbfpdgoaaGreatZaq

/- Plain mathematics of tables: their bytes, and what is read of bytes. No function of the program. -/
namespace Go.Proofs.YtnglaolbfpdgoaaGreat
namespace TB
open SK BK

abbrev Bs := List UInt8
structure Sp where
  last : ByteArray
  at_ : Nat
  n : Nat
deriving DecidableEq

def fr (b : Bs) : Bs := F3.FM.frame b
theorem fr_len (b : Bs) : (fr b).length = 8 + b.length := F3.FM.frame_len b

/-! ### which entries make a block -/

def tk (size : Nat) : Nat → Nat → List E → Nat
  | i, _, [] => i
  | i, h, e :: r => if i = 2048 ∨ size ≤ h then i else tk size (i + 1) (h + (e.key.size + e.value.size)) r
def taken (size : Nat) (l : List E) : Nat := tk size 0 0 l
def wt (l : List E) : Nat := (l.map fun e => e.key.size + e.value.size).sum

theorem wt_take {l : List E} {j : Nat} (h : j < l.length) : wt (l.take (j + 1)) = wt (l.take j) + (l[j].key.size + l[j].value.size) := by
  unfold wt; rw [List.take_succ_eq_append_getElem h, List.map_append, List.sum_append]; simp only [List.map_cons, List.map_nil, List.sum_cons, List.sum_nil, Nat.add_zero]

theorem tk_bounds (size : Nat) : ∀ (l : List E) (i h : Nat), i ≤ 2048 → i ≤ tk size i h l ∧ tk size i h l ≤ i + l.length ∧ tk size i h l ≤ 2048
  | [], i, h, hi => by simp [tk, hi]
  | e :: r, i, h, hi => by
    unfold tk
    split
    · simp; omega
    · rename_i hn
      have := tk_bounds size r (i + 1) (h + (e.key.size + e.value.size)) (by omega)
      simp only [List.length_cons]
      omega

theorem tk_held (size : Nat) : ∀ (l : List E) (i h m : Nat), tk size i h l = i + m + 1 → h + wt (l.take m) < size
  | [], i, h, m, he => by simp [tk] at he; omega
  | e :: r, i, h, m, he => by
    unfold tk at he
    split at he
    · omega
    · rename_i hn
      cases m with
      | zero => simp [wt]; omega
      | succ m =>
        have := tk_held size r (i + 1) (h + (e.key.size + e.value.size)) m (by omega)
        simp only [wt, List.take_succ_cons, List.map_cons, List.sum_cons] at *
        omega

theorem taken_bounds {size : Nat} (hs : 1 ≤ size) {l : List E} (h : l ≠ []) : 1 ≤ taken size l ∧ taken size l ≤ l.length ∧ taken size l ≤ 2048 := by
  have hb := tk_bounds size l 0 0 (by omega)
  refine ⟨?_, by unfold taken; omega, hb.2.2⟩
  cases l with
  | nil => exact absurd rfl h
  | cons e r =>
    unfold taken tk
    rw [if_neg (by omega)]
    exact (tk_bounds size r 1 _ (by omega)).1

def cutsF (size : Nat) : Nat → List E → List (List E)
  | 0, _ => []
  | _ + 1, [] => []
  | f + 1, e :: r => (e :: r).take (taken size (e :: r)) :: cutsF size f ((e :: r).drop (taken size (e :: r)))
def cuts (size : Nat) (l : List E) : List (List E) := cutsF size l.length l

theorem cutsF_fuel {size : Nat} (hs : 1 ≤ size) : ∀ (f g : Nat) (l : List E), l.length ≤ f → l.length ≤ g → cutsF size f l = cutsF size g l
  | 0, 0, _, _, _ => rfl
  | 0, g + 1, l, h, _ => by
    have : l = [] := List.length_eq_zero_iff.1 (by omega)
    subst this; rfl
  | f + 1, 0, l, _, h => by
    have : l = [] := List.length_eq_zero_iff.1 (by omega)
    subst this; rfl
  | f + 1, g + 1, [], _, _ => rfl
  | f + 1, g + 1, e :: r, h1, h2 => by
    have hb := taken_bounds hs (l := e :: r) (by simp)
    simp only [cutsF]
    rw [cutsF_fuel hs f g _ (by rw [List.length_drop]; simp at h1 ⊢; omega) (by rw [List.length_drop]; simp at h2 ⊢; omega)]

theorem cuts_nil (size : Nat) : cuts size [] = [] := rfl
theorem cuts_step {size : Nat} (hs : 1 ≤ size) {l : List E} (h : l ≠ []) : cuts size l = l.take (taken size l) :: cuts size (l.drop (taken size l)) := by
  cases l with
  | nil => exact absurd rfl h
  | cons e r =>
    have hb := taken_bounds hs (l := e :: r) (by simp)
    unfold cuts
    simp only [List.length_cons, cutsF]
    rw [cutsF_fuel hs r.length _ _ (by rw [List.length_drop]; simp; omega) (Nat.le_refl _)]

/-! ### the bytes -/

def sps : Nat → List (List E) → List Sp
  | _, [] => []
  | p, b :: r => ⟨lastKey b, p, (fr (buildB b 16)).length⟩ :: sps (p + (fr (buildB b 16)).length) r
def body (D : List (List E)) : Bs := D.flatMap fun b => fr (buildB b 16)
def spB (s : Sp) : Bs := textB s.last ++ (VM.enc s.at_ ++ VM.enc s.n)
def idx (ss : List Sp) : Bs := VM.enc ss.length ++ ss.flatMap spB
def be : Nat → Nat → Bs
  | 0, _ => []
  | k + 1, n => (n / 256 ^ k % 256).toUInt8 :: be k n
theorem be_len (n : Nat) : ∀ k, (be k n).length = k
  | 0 => rfl
  | k + 1 => by simp [be, be_len n k]
def dedF : Option ByteArray → List ByteArray → List ByteArray
  | _, [] => []
  | p, k :: r => if p = some k then dedF p r else k :: dedF (some k) r
def ded (l : List ByteArray) : List ByteArray := dedF none l
def keys (l : List E) : List ByteArray := ded (l.map E.key)

theorem body_snoc (D : List (List E)) (b : List E) : body (D ++ [b]) = body D ++ fr (buildB b 16) := by simp [body]
theorem sps_snoc : ∀ (p : Nat) (D : List (List E)) (b : List E), sps p (D ++ [b]) = sps p D ++ [⟨lastKey b, p + (body D).length, (fr (buildB b 16)).length⟩]
  | p, [], b => by simp [sps, body]
  | p, x :: D, b => by
    simp only [List.cons_append, sps]
    rw [sps_snoc _ D b]
    simp [body, Nat.add_assoc]
theorem sps_len : ∀ (p : Nat) (D : List (List E)), (sps p D).length = D.length
  | _, [] => rfl
  | p, b :: r => by simp [sps, sps_len _ r]

def ixOf (size : Nat) (l : List E) : Bs := idx (sps 0 (cuts size l))
def flOf (bits : Nat) (l : List E) : Bs := B9.BL.filter bits (B9.keysOf (keys l))
def ftOf (p q : Nat) : Bs := be 8 p ++ be 8 q
def bytes (size bits : Nat) (l : List E) : Bs :=
  body (cuts size l) ++ (fr (ixOf size l) ++ (fr (flOf bits l) ++ fr (ftOf (body (cuts size l)).length ((body (cuts size l)).length + (fr (ixOf size l)).length))))
def tabOut (l : List E) (size bits : Int) : Bs × Int :=
  if size < 1 ∨ 4096 < size ∨ bits < 1 ∨ 16 < bits then ([], 2)
  else if 65536 < l.length then ([], 5)
  else if (ord l).2 ≠ 0 then ([], (ord l).2)
  else if 65535 < (ixOf size.toNat l).length ∨ 65535 < (flOf bits.toNat l).length then ([], 5)
  else (bytes size.toNat bits.toNat l, 0)

/-! ### reading -/

def part (s : Bs) (a n : Int) : Except Int Bs :=
  if a < 0 ∨ n < 0 ∨ (s.length : Int) < a ∨ (s.length : Int) - a < n then .error 2 else .ok ((s.drop a.toNat).take n.toNat)
def one (p : Bs) (n : Int) : Except Int Bs :=
  if (F3.vget p 0).2.2 ≠ 0 then .error (F3.vget p 0).2.2 else if (F3.vget p 0).2.1 ≠ n then .error 4 else .ok (F3.vget p 0).1
def one' (n : Int) : Except Int Bs → Except Int Bs
  | .error c => .error c
  | .ok p => one p n
def bodyOf (s : Bs) (a n : Int) : Except Int Bs := one' n (part s a n)

def big (l : Bs) : Nat := l.foldl (fun a b => a * 256 + b.toNat) 0

/-- is a below b? -/
def lt (a b : ByteArray) : Bool := Go.bytesBefore a.data.toList b.data.toList
def lastSp (ss : List Sp) : ByteArray := match ss.getLast? with | none => ⟨#[]⟩ | some s => s.last
def okSp (place e : Nat) (last key : ByteArray) (a n : Int) : Prop := a = e ∧ 8 ≤ n ∧ n ≤ (place : Int) - e ∧ lt key last = false
instance (place e : Nat) (last key : ByteArray) (a n : Int) : Decidable (okSp place e last key a n) := by unfold okSp; infer_instance
/-- key, place, number of bytes -/
def rTri (l : Bs) (p : Nat) : Except Int ((ByteArray × Int × Int) × Nat) :=
  match rText l p with
  | .error c => .error c
  | .ok (k, p1) =>
    match rNum l p1 with
    | .error c => .error c
    | .ok (a, p2) =>
      match rNum l p2 with
      | .error c => .error c
      | .ok (n, p3) => .ok ((k, a, n), p3)
def rSps (l : Bs) (place : Nat) : Nat → Nat → Nat → List Sp → Except Int (List Sp × Nat × Nat)
  | 0, p, e, acc => .ok (acc, p, e)
  | k + 1, p, e, acc =>
    match rTri l p with
    | .error c => .error c
    | .ok ((key, a, n), q) => if okSp place e (lastSp acc) key a n then rSps l place k q (e + n.toNat) (acc ++ [⟨key, e, n.toNat⟩]) else .error 4
def rSpEnd (l : Bs) (place : Nat) : Except Int (List Sp × Nat × Nat) → Except Int (List Sp)
  | .error c => .error c
  | .ok (ss, q, e) => if q = l.length ∧ e = place then .ok ss else .error 4
def spansOf (l : Bs) (place : Nat) : Except Int (List Sp) :=
  match rNum l 0 with
  | .error c => .error c
  | .ok (n, p) => if n < 0 then .error 4 else rSpEnd l place (rSps l place n.toNat p 0 [])

def rest3 (fl : Bs) : Except Int (List Sp) → Except Int (List Sp × Bs)
  | .error c => .error c
  | .ok ss => .ok (ss, fl)
def rest2 (ix : Bs) (x : Nat) : Except Int Bs → Except Int (List Sp × Bs)
  | .error c => .error c
  | .ok fl => rest3 fl (spansOf ix x)
def rest1 (s : Bs) (x y z : Nat) : Except Int Bs → Except Int (List Sp × Bs)
  | .error c => .error c
  | .ok ix => rest2 ix x (bodyOf s y ((z : Int) - y))
def rest0 (s : Bs) (z : Nat) : Except Int Bs → Except Int (List Sp × Bs)
  | .error c => .error c
  | .ok ft => if big (ft.take 8) ≤ big (ft.drop 8) ∧ big (ft.drop 8) ≤ z then rest1 s (big (ft.take 8)) (big (ft.drop 8)) z (bodyOf s (big (ft.take 8)) ((big (ft.drop 8) : Int) - big (ft.take 8))) else .error 4
/-- what stands ahead of the foot's place -/
def readS (s : Bs) (z : Nat) : Except Int (List Sp × Bs) := rest0 s z (bodyOf s z 24)
def openS (s : Bs) (size : Int) : Except Int (List Sp × Bs) := if size < 24 then .error 3 else readS s (size - 24).toNat

def which (ss : List Sp) (k : ByteArray) : Nat := ss.findIdx fun x => !lt x.last k
def blk (s : Bs) (ss : List Sp) (i : Int) : Except Int Bs :=
  if h : i < 0 ∨ (ss.length : Int) ≤ i then .error 2 else bodyOf s (ss[i.toNat]'(by omega)).at_ (ss[i.toNat]'(by omega)).n
def rd2 (last : ByteArray) : Except Int (List E) → Except Int (List E)
  | .error c => .error c
  | .ok es => if es = [] ∨ lastKey es ≠ last then .error 4 else .ok es
def rd1 (last : ByteArray) : Except Int Bs → Except Int (List E)
  | .error c => .error c
  | .ok b => rd2 last (BK.getOut b)
def rd (s : Bs) (sp : Sp) : Except Int (List E) := rd1 sp.last (bodyOf s sp.at_ sp.n)
def fits (a es : List E) : Bool := match a.getLast?, es.head? with | some x, some y => less x y | _, _ => true
def fromS (s : Bs) (key : ByteArray) : List Sp → List E → List E → Except Int (List E)
  | [], _, acc => .ok acc
  | sp :: r, a, acc =>
    match rd s sp with
    | .error c => .error c
    | .ok es => if fits a es = true then fromS s key r es (acc ++ from_ es key) else .error 4
def allS (s : Bs) (ss : List Sp) (key : ByteArray) : Except Int (List E) := fromS s key (ss.drop (which ss key)) [] []

/-- what is told of a reading: nothing and the error, or what was read -/
def codeOf {α : Type} : Except Int α → Int
  | .error c => c
  | .ok _ => 0
end TB
end Go.Proofs.YtnglaolbfpdgoaaGreat

