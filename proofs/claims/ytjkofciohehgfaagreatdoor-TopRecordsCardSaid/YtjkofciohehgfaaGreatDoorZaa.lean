/- Texts joined by bundle.py: YBKit, YBSm, YBLaw, YBTwo, YBVarMath, YBVarBits, YBVarA, YBVarC, YBVarD, YBClone, YBVarE, YBBm, YBGo, YBGp, YBBu, YTVarMath, YTVarBits. -/
import Derived.Test.YtjkofciohehgfaaGreatDoorRows
import Derived.WalkKit
import Derived.IntWalk
import Derived.Laws.Rows
import Derived.Lib.Hide
import Derived.Lib.SlBytesRow
import Derived.Lib.BufferWrite
import Derived.Lib.BufferRead
import Derived.Lib.UnsafeStr
import Derived.Laws.MakeOwn
import Derived.OwnWalk
import Derived.WalkSmall
import Derived.WalkLawsBesides
import Derived.Deep.AppendLies
import Derived.Deep.RegionHeld3
import Derived.BigQuiet
import Derived.Laws.StructEq
import Derived.WideAt
import Derived.WideShapes
import Derived.ProofKit
import Derived.OpenShut
import Derived.JoinedCond
import Derived.Deep.DrawnRows
import Derived.Lib.Varint
import Derived.Lib.Zigzag
import Derived.Laws.Wrap64
import Derived.RowKit
import Derived.Outline
import Derived.Lib.Builder
import Derived.Lib.AppendStr
import Derived.Laws.Externs

/- Small words for memory: bytes, texts, rows. No function of the program. -/
namespace Go.Proofs.YtjkofciohehgfaaGreatDoor.L7
open Go.RowKit

theorem ret_int {k : IntKind} {a b : Int} (h : a = b) : Ending.returned (.int k a) = .returned (.int k b) := by rw [h]

theorem byte_of (s : ByteArray) (k : Nat) (h : k < s.size) : s.data.toList[k]'(by simpa using h) = s[k] := by
  rfl

theorem size_list (s : ByteArray) : s.data.toList.length = s.size := by simp

theorem info_u8 : (Tryz.prog.info? 5).map (fun i => (i.zero, i.size, i.bytes)) = some (some (.int .u8 0), 1, 1) := by kernel_rfl

theorem str_ext {a b : ByteArray} (h : a.data.toList = b.data.toList) : a = b := by
  apply ByteArray.ext
  exact Array.toList_inj.1 h

theorem str_mk (s : ByteArray) : (⟨s.data.toList.toArray⟩ : ByteArray) = s := str_ext (by simp)

theorem below_setRow {B : Nat} {w w1 : World} {g : Nat} {cs : Array Value} (h : Below B w w1) (hB : B ≤ g) : Below B w (w1.setRow g cs) :=
  h.trans ⟨rfl, rfl, rfl, by simp, fun k hk => setRow_other _ _ _ _ (by omega)⟩

theorem own_below {w w' : World} {base : Nat} {e : TypeId} {size : Nat} {v : Value} {n : Nat} {xs : List Value} (h : w.ownsRow base e size v n xs) (hb : Below w.heap.size w w') : w'.ownsRow base e size v n xs :=
  h.kept (row := none) ⟨hb.os, hb.tape, hb.output, hb.size, fun k hk _ => hb.block k hk⟩ (by cases v.ownBlock <;> simp)

theorem byte_toNat (m : Nat) (h : m < 256) : ((m.toUInt8).toNat : Int) = m := by
  simp only [Nat.toUInt8, UInt8.toNat_ofNat']; omega

theorem addr_add0 (g j : Nat) : (⟨g, 0, none⟩ : Addr).add j = ⟨g, j, none⟩ := by unfold Addr.add; split <;> simp_all

theorem heap_set_fr {w : World} {g : Nat} {cs : Array Value} {t : TypeId} {fr : Nat × Nat} (h : w.heap[g]? = some (.cells cs t fr)) (j : Nat) (u : Value) :
    (w.setCell ⟨g, j, none⟩ u).heap[g]? = some (.cells (cs.setIfInBounds j u) t fr) := by
  simp [World.setCell, Array.getElem?_modify, h]

theorem frozen_of_row (w : World) (g j : Nat) (cs : Array Value) (t : TypeId) (hg : w.heap[g]? = some (.cells cs t (0, 0))) : w.frozen? ⟨g, j, none⟩ = false := by
  simp [World.frozen?, hg]

theorem grownBy_setCell (w : World) (p : Addr) (u : Value) : w.grownBy (w.setCell p u) (some p.block) :=
  ⟨rfl, rfl, rfl, by simp [World.setCell], fun k _ hk => Below.heap_setCell _ _ _ _ (fun e => hk (by rw [e]))⟩
theorem grown_refl (w : World) (r : Option Nat) : w.grownBy w r := ⟨rfl, rfl, rfl, Nat.le_refl _, fun _ _ _ => rfl⟩
theorem grown_trans {a b c : World} {r : Option Nat} (h : a.grownBy b r) (k : b.grownBy c r) : a.grownBy c r :=
  ⟨k.os.trans h.os, k.tape.trans h.tape, k.output.trans h.output, Nat.le_trans h.size k.size, fun x hx hr => (k.block x (by have := h.size; omega) hr).trans (h.block x hx hr)⟩
theorem grown_drewN {a b : World} {r : Option Nat} (h : a.grownBy b r) (n : Nat) : a.grownBy (b.drewN n) r := ⟨h.os, h.tape, h.output, h.size, h.block⟩
theorem grown_set {a b : World} {r : Nat} (h : a.grownBy b (some r)) (j : Nat) (u : Value) : a.grownBy (b.setCell ⟨r, j, none⟩ u) (some r) := grown_trans h (grownBy_setCell _ _ _)
theorem grown_below {a b : World} {r : Option Nat} (h : Below a.heap.size a b) : a.grownBy b r := ⟨h.os, h.tape, h.output, h.size, fun k hk _ => h.block k hk⟩
end Go.Proofs.YtjkofciohehgfaaGreatDoor.L7


/- Plain mathematics of entries in order. No function of the program. -/
namespace Go.Proofs.YtjkofciohehgfaaGreatDoor.L7
namespace SK

structure E where
  key : ByteArray
  seq : Int
  gone : Bool
  value : ByteArray
  til : Int
deriving DecidableEq

def E.cells (e : E) : List Value := [.string e.key, .int .i64 e.seq, .bool e.gone, .string e.value, .int .i64 e.til]
def E.val (e : E) : Value := .agg #[.string e.key, .int .i64 e.seq, .bool e.gone, .string e.value, .int .i64 e.til]
def E.zero : E := ⟨⟨#[]⟩, 0, false, ⟨#[]⟩, 0⟩

/-- sizes that a machine has, numbers of 64 bits -/
structure E.wf (e : E) : Prop where
  key : e.key.size ≤ 140737488351232
  value : e.value.size ≤ 140737488351232
  seq : -9223372036854775808 ≤ e.seq ∧ e.seq ≤ 9223372036854775807
  til : -9223372036854775808 ≤ e.til ∧ e.til ≤ 9223372036854775807

def good (e : E) : Int :=
  if 64 < e.key.size ∨ 512 < e.value.size then 5
  else if e.key.size = 0 ∨ e.seq < 1 ∨ e.til < 0 then 2
  else if e.gone = true ∧ (0 < e.value.size ∨ 0 < e.til) then 2
  else 0

theorem good_zero {e : E} (h : good e = 0) : 0 < e.key.size ∧ e.key.size ≤ 64 ∧ e.value.size ≤ 512 ∧ 1 ≤ e.seq ∧ 0 ≤ e.til := by
  unfold good at h
  split at h
  · simp at h
  · split at h
    · simp at h
    · rename_i h1 h2
      omega

end SK
end Go.Proofs.YtjkofciohehgfaaGreatDoor.L7


/- How a law's row is shut: it returned true, and below the heap's old size nothing has turned: so each argument reads as it did. For every program and law whose row lists no variable. -/
namespace Go.Proofs.YtjkofciohehgfaaGreatDoor.L7
open Go.ChangeShapes Go.WideShapes Go.ChangeAt Go.RowKit

section
variable {H : Type} {enc : TypeId × Value → H} {P : Program}

/-- every argument reads as it did -/
theorem args_stay {W W' : World} (hl : laidOutB P = true) (hb : Below W.heap.size W W') (ts : List TypeId) : ∀ (vs : List Value) (ds : List (DataW H)) (ps : List MemPlace),
    (ts.all fun t => P.readableRec t && decide (t < P.types.size)) = true → (∀ x ∈ ps, x.block < W.heap.size) → DataW.TrodAll enc P W 0 (fun _ => true) true ts vs ds ps →
    DataW.TrodAll enc P W' 0 (fun b => decide (b < W.heap.size)) true ts vs ds ps := by
  induction ts with
  | nil =>
    intro vs ds ps _ _ h
    obtain ⟨rfl, rfl, rfl⟩ := trodAll_nil h
    exact trodAll_mk0
  | cons t ts ih =>
    intro vs ds ps ht hp h
    simp only [List.all_cons, Bool.and_eq_true, decide_eq_true_eq] at ht
    obtain ⟨v, vs', d, ds', p, q, rfl, rfl, rfl, h0, h1⟩ := trodAll_cons h
    exact trodAll_cons_mk (Below.trod hl ht.1.1 ht.1.2 h0 hb fun x hx => hp x (List.mem_append_left _ hx)) (ih vs' ds' q ht.2 (fun x hx => hp x (List.mem_append_right _ hx)) h1)

theorem law_post {f : Func} {s : ChangeSpec} {W W' : World} {args : Array Value} {ds gs : List (DataW H)} {before : List MemPlace} {tb : TypeId} (hl : laidOutB P = true)
    (hp : (f.params.toList.all fun t => P.readableRec t && decide (t < P.types.size)) = true) (hv : s.vars = []) (hr : f.resultTypes = #[tb]) (hb : P.underlying tb = some .bool)
    (hW : DataW.Whole enc P f.params.toList s.vars false W args.toList ds gs before) (hfn : s.fn H (ds ++ gs) = { results := [.lit (.bool true)], args := ds }) (hB : Below W.heap.size W W') :
    s.post enc P f false true false false W args (.bool true) W' := by
  have hlt := hW.lt
  have hW' := hW
  obtain ⟨p, q, hA, hV, rfl, _, _⟩ := hW
  rw [hv] at hV
  obtain ⟨rfl, rfl⟩ := trodVars_none hV
  refine ⟨ds, [], _, [], p, [], hW', ?_, ?_, ?_, hB.frame _, fun h => by cases h⟩
  · rw [hfn, hr]
    exact trodAll_cons_mk (shut_bool hb true) trodAll_mk0
  · rw [hfn]
    exact args_stay hl hB _ _ _ _ hp (fun x hx => hlt x (List.mem_append_left _ hx)) hA
  · rw [hfn, hv]
    exact rfl
end
end Go.Proofs.YtjkofciohehgfaaGreatDoor.L7


/- Two rows of unlike elements, each appended to: general. -/
namespace Go.Proofs.YtjkofciohehgfaaGreatDoor.L7
open Go.RowKit
attribute [local go_sem ↓] Go.wp_at_zero Go.wp_at_succ

section
variable {w w' : World} {b1 b2 : Nat} {e1 e2 : TypeId} {s1 s2 : Nat} {v1 v2 : Value} {n1 n2 : Nat} {xs1 xs2 : List Value}

end

section
variable {base : Nat} {e1 e2 : TypeId} {s1 s2 : Nat} {v1 v2 : Value} {n1 n2 : Nat} {xs1 xs2 : List Value} {W w w' : World}
end

end Go.Proofs.YtjkofciohehgfaaGreatDoor.L7


/- Plain mathematics of layer 1: the bytes of a number are read back, and no other bytes are read. No program here. -/
namespace Go.Proofs.YtjkofciohehgfaaGreatDoor.L7.VM
open Go.Lib

/-- how many of the first f bytes, from the left, have their highest bit -/
def lead : Nat → List UInt8 → Nat
  | 0, _ => 0
  | _ + 1, [] => 0
  | f + 1, c :: r => if 128 ≤ c.toNat then lead f r + 1 else 0

/-- how many bytes the number has with which l begins, and the error -/
def meas (l : List UInt8) : Nat × Int :=
  if lead 10 l = 10 then (0, 4) else if lead 10 l = l.length then (0, 3)
  else if lead 10 l = 9 ∧ 1 < (l.getD 9 0).toNat then (0, 4)
  else if 0 < lead 10 l ∧ (l.getD (lead 10 l) 0).toNat = 0 then (0, 4) else (lead 10 l + 1, 0)

/-- seven bits a byte, the lowest first -/
def val : List UInt8 → Nat
  | [] => 0
  | c :: r => c.toNat % 128 + 128 * val r

def unzig (v : Nat) : Int := if v % 2 = 0 then ((v / 2 : Nat) : Int) else -((v / 2 : Nat) : Int) - 1

/-- the bytes of a number -/
def enc (n : Int) : List UInt8 := uvarint (zigzag n)

/-- what is read at a place -/
def vget (l : List UInt8) (at_ : Int) : Int × Int × Int :=
  if at_ < 0 ∨ (l.length : Int) < at_ then (0, 0, 2)
  else if (meas (l.drop at_.toNat)).2 = 0 then (unzig (val ((l.drop at_.toNat).take (meas (l.drop at_.toNat)).1)), at_ + (meas (l.drop at_.toNat)).1, 0)
  else (0, 0, (meas (l.drop at_.toNat)).2)

theorem unzig_zigzag (n : Int) : unzig (zigzag n) = n := by
  unfold unzig zigzag
  split <;> split <;> omega

theorem zigzag_unzig (v : Nat) : zigzag (unzig v) = v := by
  unfold unzig zigzag
  split <;> split <;> omega

theorem unzig_range {v : Nat} (h : v < 18446744073709551616) : -9223372036854775808 ≤ unzig v ∧ unzig v ≤ 9223372036854775807 := by
  unfold unzig
  split <;> omega

theorem val_append (a b : List UInt8) : val (a ++ b) = val a + 128 ^ a.length * val b := by
  induction a with
  | nil => simp [val]
  | cons c r ih =>
    simp only [List.cons_append, val, ih, List.length_cons, Nat.pow_succ]
    have : 128 ^ r.length * 128 * val b = 128 * (128 ^ r.length * val b) := by rw [Nat.mul_comm (128 ^ r.length) 128, Nat.mul_assoc]
    omega

theorem val_lt (a : List UInt8) : val a < 128 ^ a.length := by
  induction a with
  | nil => simp [val]
  | cons c r ih =>
    simp only [val, List.length_cons, Nat.pow_succ]
    have := Nat.mod_lt c.toNat (show 128 > 0 by decide)
    omega

/-- whole bytes: all but the last have their highest bit; the last is not 0, unless alone -/
structure Canon (a : List UInt8) (c : UInt8) : Prop where
  hi : ∀ x ∈ a, 128 ≤ x.toNat
  lo : c.toNat < 128
  nz : a ≠ [] → c.toNat ≠ 0

theorem toUInt8_of (x : UInt8) (n : Nat) (h : n % 256 = x.toNat) : n.toUInt8 = x := by
  apply UInt8.toNat_inj.1
  simp only [Nat.toUInt8, UInt8.toNat_ofNat']
  have := x.toNat_lt
  omega

theorem canon_uvarint (x : Nat) : ∃ a c, uvarint x = a ++ [c] ∧ Canon a c := by
  induction x using Nat.strongRecOn with
  | _ x ih =>
    by_cases h : x < 128
    · refine ⟨[], x.toUInt8, by rw [uvarint_small h]; rfl, ⟨by simp, ?_, by simp⟩⟩
      simp only [Nat.toUInt8, UInt8.toNat_ofNat']; omega
    · obtain ⟨a, c, he, hc⟩ := ih (x / 128) (by omega)
      refine ⟨(x % 128 + 128).toUInt8 :: a, c, by rw [uvarint_big (by omega), he]; rfl, ⟨?_, hc.lo, ?_⟩⟩
      · intro y hy
        rcases List.mem_cons.1 hy with rfl | hy
        · simp only [Nat.toUInt8, UInt8.toNat_ofNat']; omega
        · exact hc.hi y hy
      · intro _ h0
        by_cases ha : a = []
        · subst ha
          have hlt : x / 128 < 128 := by
            by_cases hb : x / 128 < 128
            · exact hb
            · rw [uvarint_big (by omega)] at he
              have := congrArg List.length he
              have hp := uvarint_pos (x / 128 / 128)
              simp only [List.length_cons, List.length_append, List.length_nil] at this; omega
          rw [uvarint_small hlt] at he
          have hc0 : c = (x / 128).toUInt8 := by simpa using he.symm
          rw [hc0] at h0
          simp only [Nat.toUInt8, UInt8.toNat_ofNat'] at h0
          omega
        · exact hc.nz ha h0

theorem val_pos {a : List UInt8} {c : UInt8} (hc : Canon a c) (h : c.toNat ≠ 0) : 1 ≤ val (a ++ [c]) := by
  rw [val_append]
  have h1 : val [c] = c.toNat := by simp only [val]; have := hc.lo; omega
  have h2 : 0 < 128 ^ a.length := Nat.pow_pos (by decide)
  have h3 : 0 < 128 ^ a.length * c.toNat := Nat.mul_pos h2 (by omega)
  rw [h1]; omega

theorem uvarint_val {a : List UInt8} {c : UInt8} (hc : Canon a c) : uvarint (val (a ++ [c])) = a ++ [c] := by
  induction a with
  | nil =>
    have h1 : val [c] = c.toNat := by simp only [val]; have := hc.lo; omega
    rw [List.nil_append, h1, uvarint_small hc.lo, toUInt8_of c c.toNat (by have := c.toNat_lt; omega)]
  | cons x t ih =>
    have hct : Canon t c := ⟨fun y hy => hc.hi y (by simp [hy]), hc.lo, fun _ => hc.nz (by simp)⟩
    have hp := val_pos hct (hc.nz (by simp))
    have hx := hc.hi x (by simp)
    have hx2 := x.toNat_lt
    rw [List.cons_append]
    have e : val (x :: (t ++ [c])) = x.toNat % 128 + 128 * val (t ++ [c]) := rfl
    rw [e, uvarint_big (by omega)]
    have e1 : (x.toNat % 128 + 128 * val (t ++ [c])) % 128 = x.toNat % 128 := by omega
    have e2 : (x.toNat % 128 + 128 * val (t ++ [c])) / 128 = val (t ++ [c]) := by omega
    rw [e1, e2, ih hct, toUInt8_of x (x.toNat % 128 + 128) (by omega)]

theorem val_uvarint (x : Nat) : val (uvarint x) = x := by
  induction x using Nat.strongRecOn with
  | _ x ih =>
    by_cases h : x < 128
    · rw [uvarint_small h]
      simp only [val, Nat.toUInt8, UInt8.toNat_ofNat']; omega
    · rw [uvarint_big (by omega)]
      simp only [val, ih (x / 128) (by omega), Nat.toUInt8, UInt8.toNat_ofNat']; omega

theorem lead_canon {a : List UInt8} {c : UInt8} (hc : Canon a c) (r : List UInt8) (f : Nat) (h : a.length < f) : lead f (a ++ c :: r) = a.length := by
  induction a generalizing f with
  | nil =>
    cases f with
    | zero => simp at h
    | succ f => have := hc.lo; simp [lead]; omega
  | cons x t ih =>
    cases f with
    | zero => simp at h
    | succ f =>
      have hct : Canon t c := ⟨fun y hy => hc.hi y (by simp [hy]), hc.lo, fun _ => hc.nz (by simp)⟩
      have hx := hc.hi x (by simp)
      simp only [List.cons_append, lead, if_pos hx, List.length_cons]
      rw [ih hct f (by simpa using h)]

theorem lead_le (f : Nat) (l : List UInt8) : lead f l ≤ f ∧ lead f l ≤ l.length := by
  induction l generalizing f with
  | nil => cases f <;> simp [lead]
  | cons c r ih =>
    cases f with
    | zero => simp [lead]
    | succ f =>
      simp only [lead]
      have := ih f
      split
      · simp; omega
      · simp

/-- what stands at the left of the first byte without its highest bit -/
theorem lead_split (f : Nat) (l : List UInt8) : (∀ x ∈ l.take (lead f l), 128 ≤ x.toNat) ∧ (lead f l < f → (h : lead f l < l.length) → l[lead f l].toNat < 128) := by
  induction l generalizing f with
  | nil => cases f <;> simp [lead]
  | cons c r ih =>
    cases f with
    | zero => simp [lead]
    | succ f =>
      by_cases hc : 128 ≤ c.toNat
      · have e : lead (f + 1) (c :: r) = lead f r + 1 := by simp only [lead, if_pos hc]
        have ih' := ih f
        constructor
        · intro x hx
          rw [e, List.take_succ_cons] at hx
          rcases List.mem_cons.1 hx with rfl | hx
          · exact hc
          · exact ih'.1 x hx
        · intro h1 h2
          simp only [e] at h1 h2 ⊢
          have := ih'.2 (by omega) (by simpa using h2)
          simpa using this
      · have e : lead (f + 1) (c :: r) = 0 := by simp only [lead, if_neg hc]
        constructor
        · intro x hx; rw [e] at hx; simp at hx
        · intro h1 h2; simp only [e]; simp; omega

/-- one more byte with its highest bit -/
theorem lead_step {l : List UInt8} {k : Nat} (hk : k < l.length) (h10 : k < 10) (hc : 128 ≤ l[k].toNat) (h : lead 10 l = k + lead (10 - k) (l.drop k)) :
    lead 10 l = (k + 1) + lead (10 - (k + 1)) (l.drop (k + 1)) := by
  rw [h, List.drop_eq_getElem_cons hk, show 10 - k = (10 - (k + 1)) + 1 by omega]
  simp only [lead, if_pos hc]
  omega

theorem lead_stop {l : List UInt8} {k : Nat} (hs : k = 10 ∨ k = l.length ∨ (∃ hk : k < l.length, l[k].toNat < 128)) (h : lead 10 l = k + lead (10 - k) (l.drop k)) : lead 10 l = k := by
  rw [h]
  rcases hs with rfl | rfl | ⟨hk, hc⟩
  · simp [lead]
  · rw [List.drop_length]
    cases 10 - l.length <;> simp [lead]
  · rw [List.drop_eq_getElem_cons hk]
    cases 10 - k with
    | zero => simp [lead]
    | succ f => simp only [lead, if_neg (show ¬ 128 ≤ l[k].toNat by omega)]; omega

theorem val_take_succ {l : List UInt8} {k : Nat} (hk : k < l.length) : val (l.take (k + 1)) = val (l.take k) + 128 ^ k * (l[k].toNat % 128) := by
  rw [List.take_succ_eq_append_getElem hk, val_append]
  have hlen : (l.take k).length = k := by simp; omega
  rw [hlen]
  simp [val]

theorem val_take_le (l : List UInt8) (k : Nat) : val (l.take k) ≤ val l := by
  conv => rhs; rw [← List.take_append_drop k l, val_append]
  omega

theorem meas_canon {a : List UInt8} {c : UInt8} (hc : Canon a c) (r : List UInt8) (h : a.length ≤ 8 ∨ (a.length = 9 ∧ c.toNat ≤ 1)) : meas (a ++ c :: r) = (a.length + 1, 0) := by
  have hl := lead_canon hc r 10 (by omega)
  have hlen : (a ++ c :: r).length = a.length + r.length + 1 := by simp; omega
  have hg : (a ++ c :: r).getD a.length 0 = c := by simp [List.getD]
  unfold meas
  rw [hl]
  rw [if_neg (by omega), if_neg (by omega)]
  have h3 : ¬(a.length = 9 ∧ 1 < ((a ++ c :: r).getD 9 0).toNat) := by
    rintro ⟨h9, h1⟩
    rw [← h9, hg] at h1
    omega
  rw [if_neg h3]
  have h4 : ¬(0 < a.length ∧ ((a ++ c :: r).getD a.length 0).toNat = 0) := by
    rintro ⟨h0, h1⟩
    rw [hg] at h1
    exact hc.nz (by intro h; subst h; simp at h0) h1
  rw [if_neg h4]

theorem canon_len {x : Nat} (hx : x < 18446744073709551616) {a : List UInt8} {c : UInt8} (he : uvarint x = a ++ [c]) : a.length ≤ 8 ∨ (a.length = 9 ∧ c.toNat ≤ 1) := by
  have h10 := uvarint_length64 hx
  rw [he] at h10
  simp at h10
  by_cases h9 : a.length = 9
  · right
    refine ⟨h9, ?_⟩
    have hv : val (a ++ [c]) = x := by rw [← he, val_uvarint]
    rw [val_append, h9] at hv
    have hc := c.toNat_lt
    have h1 : val [c] = c.toNat % 128 := by simp [val]
    rw [h1] at hv
    obtain ⟨a', c', he', hc'⟩ := canon_uvarint x
    have hcc : c = c' := by
      have := he.symm.trans he'
      exact (List.append_inj' this rfl).2 |> fun h => by simpa using h
    have := hc'.lo
    rw [← hcc] at this
    omega
  · left; omega

theorem meas_enc {x : Nat} (hx : x < 18446744073709551616) (r : List UInt8) : meas (uvarint x ++ r) = ((uvarint x).length, 0) := by
  obtain ⟨a, c, he, hc⟩ := canon_uvarint x
  have h := meas_canon hc r (canon_len hx he)
  rw [he]
  simpa using h

/-- what is measured is a number's bytes -/
theorem meas_ok {l : List UInt8} (h : (meas l).2 = 0) : 1 ≤ (meas l).1 ∧ (meas l).1 ≤ 10 ∧ (meas l).1 ≤ l.length ∧ (meas l).1 = lead 10 l + 1 ∧
    val (l.take (meas l).1) < 18446744073709551616 ∧ uvarint (val (l.take (meas l).1)) = l.take (meas l).1 := by
  have hl := lead_le 10 l
  have hs := lead_split 10 l
  generalize hk : lead 10 l = k at *
  unfold meas at h ⊢
  rw [hk] at h ⊢
  by_cases h1 : k = 10
  · rw [if_pos h1] at h; simp at h
  rw [if_neg h1] at h ⊢
  by_cases h2 : k = l.length
  · rw [if_pos h2] at h; simp at h
  rw [if_neg h2] at h ⊢
  by_cases h3 : k = 9 ∧ 1 < (l.getD 9 0).toNat
  · rw [if_pos h3] at h; simp at h
  rw [if_neg h3] at h ⊢
  by_cases h4 : 0 < k ∧ (l.getD k 0).toNat = 0
  · rw [if_pos h4] at h; simp at h
  rw [if_neg h4]
  have hlt : k < l.length := by omega
  have hg : ∀ j, (hj : j < l.length) → l.getD j 0 = l[j] := fun j hj => by simp [List.getD, hj]
  have htake : l.take (k + 1) = l.take k ++ [l[k]] := by rw [List.take_succ_eq_append_getElem hlt]
  have hlen : (l.take k).length = k := by simp; omega
  have hc : Canon (l.take k) l[k] := by
    refine ⟨hs.1, hs.2 (by omega) hlt, fun hne h0 => h4 ⟨?_, by rw [hg k hlt]; exact h0⟩⟩
    cases k with
    | zero => simp at hne
    | succ k => omega
  refine ⟨by simp, by simp; omega, by simp; omega, by simp, ?_, ?_⟩
  · show val (l.take (k + 1)) < _
    rw [htake, val_append, hlen]
    have hv := val_lt (l.take k)
    rw [hlen] at hv
    have h1' : val [l[k]] = l[k].toNat := by simp only [val]; have := hc.lo; omega
    rw [h1']
    by_cases h9 : k = 9
    · have hle : l[k].toNat ≤ 1 := by
        have h3' : ¬ 1 < (l.getD k 0).toNat := fun h => h3 ⟨h9, by rw [← h9]; exact h⟩
        rw [hg k hlt] at h3'
        omega
      have e : (128 : Nat) ^ 9 = 9223372036854775808 := by decide
      have hv9 : val (l.take k) < 9223372036854775808 := by rw [← e, ← h9]; exact hv
      have h9' : 128 ^ k * l[k].toNat ≤ 9223372036854775808 := by
        have h := Nat.mul_le_mul_left (128 ^ k) hle
        have ek : (128 : Nat) ^ k = 9223372036854775808 := by rw [h9, e]
        omega
      omega
    · have hlo := hc.lo
      have hk8 : k ≤ 8 := by omega
      have e : (128 : Nat) ^ (k + 1) ≤ 128 ^ 9 := Nat.pow_le_pow_right (by decide) (by omega)
      have hv2 := val_lt (l.take (k + 1))
      rw [htake, val_append, hlen, h1'] at hv2
      have hlen2 : (l.take k ++ [l[k]]).length = k + 1 := by simp; omega
      rw [hlen2] at hv2
      have e9 : (128 : Nat) ^ 9 = 9223372036854775808 := by decide
      omega
  · show uvarint (val (l.take (k + 1))) = l.take (k + 1)
    rw [htake]
    exact uvarint_val hc

/-- A NUMBER IS READ BACK, whatever stands behind -/
theorem vget_enc {n : Int} (h0 : -9223372036854775808 ≤ n) (h1 : n ≤ 9223372036854775807) (p r : List UInt8) :
    vget (p ++ enc n ++ r) p.length = (n, ((p.length + (enc n).length : Nat) : Int), 0) := by
  have hz := zigzag_lt h0 h1
  unfold vget
  have hlen : (p ++ enc n ++ r).length = p.length + (enc n).length + r.length := by simp only [List.length_append]
  rw [if_neg (by rw [hlen]; omega)]
  have hd : (p ++ enc n ++ r).drop ((p.length : Int)).toNat = enc n ++ r := by
    rw [Int.toNat_natCast, List.append_assoc, List.drop_left]
  have hm : meas (enc n ++ r) = ((enc n).length, 0) := meas_enc hz r
  rw [hd, hm]
  rw [if_pos rfl]
  have ht : (enc n ++ r).take ((enc n).length, (0 : Int)).1 = enc n := List.take_left
  rw [ht]
  unfold enc
  rw [val_uvarint, unzig_zigzag]
  simp

/-- NO OTHER BYTES are read as a number -/
theorem vget_ok {l : List UInt8} {at_ : Int} (h : (vget l at_).2.2 = 0) : 0 ≤ at_ ∧ at_ ≤ l.length ∧ ∃ k : Nat, 1 ≤ k ∧ k ≤ 10 ∧ at_ + k ≤ l.length ∧
    (vget l at_).2.1 = at_ + k ∧ -9223372036854775808 ≤ (vget l at_).1 ∧ (vget l at_).1 ≤ 9223372036854775807 ∧ enc (vget l at_).1 = (l.drop at_.toNat).take k := by
  unfold vget at h ⊢
  by_cases h1 : at_ < 0 ∨ (l.length : Int) < at_
  · rw [if_pos h1] at h; simp at h
  rw [if_neg h1] at h ⊢
  by_cases h2 : (meas (l.drop at_.toNat)).2 = 0
  · rw [if_pos h2]
    obtain ⟨a, b, c, d, e, f⟩ := meas_ok h2
    rw [List.length_drop] at c
    have hr := unzig_range e
    refine ⟨by omega, by omega, (meas (l.drop at_.toNat)).1, a, b, by omega, rfl, hr.1, hr.2, ?_⟩
    show enc (unzig _) = _
    unfold enc
    rw [zigzag_unzig, f]
  · rw [if_neg h2] at h; exact absurd h h2

/-- the length of a number's bytes -/
theorem enc_len {n : Int} (h0 : -9223372036854775808 ≤ n) (h1 : n ≤ 9223372036854775807) : 1 ≤ (enc n).length ∧ (enc n).length ≤ 10 :=
  ⟨uvarint_pos _, uvarint_length64 (zigzag_lt h0 h1)⟩

end Go.Proofs.YtjkofciohehgfaaGreatDoor.L7.VM


/- The bits of layer 1's turned numbers, as the code computes them. No program here. -/
namespace Go.Proofs.YtjkofciohehgfaaGreatDoor.L7.VM
open Go.Lib Go.RowKit

theorem u64_xor_zero (a : Nat) (ha : a < 18446744073709551616) : bits .xor .u64 (a : Int) 0 = a := by
  have h := bits_xor_u64_nat a 0 ha (by decide)
  simpa using h

theorem u64_xor_comm (a b : Int) : bits .xor .u64 a b = bits .xor .u64 b a := by
  show IntKind.u64.wrap ((BitVec.ofInt 64 a ^^^ BitVec.ofInt 64 b).toNat : Int) = IntKind.u64.wrap ((BitVec.ofInt 64 b ^^^ BitVec.ofInt 64 a).toNat : Int)
  rw [BitVec.xor_comm]

theorem i64_xor_comm (a b : Int) : bits .xor .i64 a b = bits .xor .i64 b a := by
  show IntKind.i64.wrap ((BitVec.ofInt 64 a ^^^ BitVec.ofInt 64 b).toNat : Int) = IntKind.i64.wrap ((BitVec.ofInt 64 b ^^^ BitVec.ofInt 64 a).toNat : Int)
  rw [BitVec.xor_comm]

theorem i64_xor_zero (a : Nat) (ha : a < 9223372036854775808) : bits .xor .i64 (a : Int) 0 = a := by
  show IntKind.i64.wrap ((BitVec.ofInt 64 a ^^^ BitVec.ofInt 64 0).toNat : Int) = _
  have h0 : BitVec.ofInt 64 0 = 0#64 := by decide
  rw [h0, BitVec.xor_zero]
  have h2 : (BitVec.ofInt 64 (a : Int)).toNat = a := by
    rw [BitVec.ofInt_natCast, BitVec.toNat_ofNat]; exact Nat.mod_eq_of_lt (by omega)
  rw [h2, IntKind.wrap_i64]
  omega

theorem turn_pos {n : Int} (h0 : 0 ≤ n) (h1 : n ≤ 9223372036854775807) : bits .xor .u64 (n * 2) (n / 9223372036854775808) = zigzag n := by
  have e : n / 9223372036854775808 = 0 := by omega
  have e2 : n * 2 = ((zigzag n : Nat) : Int) := (zigzag_nonneg h0).symm
  rw [e, e2, u64_xor_zero _ (zigzag_lt (by omega) h1)]

theorem turn_neg {n : Int} (h0 : -9223372036854775808 ≤ n) (h1 : n < 0) :
    bits .xor .u64 (IntKind.u64.wrap (IntKind.u64.wrap n * 2)) (IntKind.u64.wrap (n / 9223372036854775808)) = zigzag n := by
  have e : n / 9223372036854775808 = -1 := by omega
  have e2 : IntKind.u64.wrap (-1) = IntKind.u64.max := by decide
  rw [e, e2, u64_xor_comm, zigzag_neg h0 h1]

theorem turn_back {v : Nat} (h : v < 18446744073709551616) : bits .xor .i64 ((v : Int) / 2) (wrap64 (-wrap64 (bits .and .u64 (v : Int) 1))) = unzig v := by
  rw [u64_and1 _ (by omega) (by omega)]
  have e : wrap64 ((v : Int) % 2) = (v : Int) % 2 := by unfold wrap64; omega
  have e2 : wrap64 (-((v : Int) % 2)) = -((v : Int) % 2) := by unfold wrap64; omega
  rw [e, e2]
  have e3 : (v : Int) / 2 = ((v / 2 : Nat) : Int) := by omega
  unfold unzig
  by_cases hv : v % 2 = 0
  · have e4 : -((v : Int) % 2) = 0 := by omega
    rw [if_pos hv, e4, e3, i64_xor_zero _ (by omega)]
  · have e4 : -((v : Int) % 2) = -1 := by omega
    rw [if_neg hv, e4, e3, i64_xor_comm, i64_not _ (by omega)]
set_option maxRecDepth 100000 in
theorem andNot128_fin : ∀ a : Fin 256, bits .andNot .u8 (a.val : Int) 128 = ((a.val % 128 : Nat) : Int) := by decide +kernel

theorem andNot128 (c : UInt8) : bits .andNot .u8 (c.toNat : Int) 128 = ((c.toNat % 128 : Nat) : Int) := andNot128_fin ⟨c.toNat, c.toNat_lt⟩

/-- seven bits more, above those that are there -/
theorem or_step {u k m : Nat} (hu : u < 128 ^ k) (hs : u + 128 ^ k * m < 18446744073709551616) :
    bits .or .u64 (u : Int) (IntKind.u64.wrap ((m : Int) * 2 ^ (7 * k))) = ((u + 128 ^ k * m : Nat) : Int) := by
  have e : (128 : Nat) ^ k = 2 ^ (7 * k) := by rw [Nat.pow_mul]
  have e2 : ((m : Int) * 2 ^ (7 * k)) = ((128 ^ k * m : Nat) : Int) := by
    rw [e, Int.natCast_mul, Int.mul_comm]; simp
  have hw : IntKind.u64.wrap ((m : Int) * 2 ^ (7 * k)) = ((128 ^ k * m : Nat) : Int) := by
    rw [e2, IntKind.wrap_u64]; omega
  rw [hw]
  have hmod : ((128 ^ k * m : Nat) : Int) % 2 ^ (7 * k) = 0 := by
    rw [e]
    exact Int.emod_eq_zero_of_dvd ⟨(m : Int), by simp⟩
  have hlt : (u : Int) < 2 ^ (7 * k) := by
    rw [e] at hu
    exact_mod_cast hu
  have h := bits_join_low .u64 64 (by decide) wraps_u64 (7 * k) (u : Int) ((128 ^ k * m : Nat) : Int) (by omega) hlt (by omega) (by omega) hmod (by omega)
  rw [h]
  simp
end Go.Proofs.YtjkofciohehgfaaGreatDoor.L7.VM


/- The walks of layer 1's small functions: turn, turnBack. -/
namespace Go.Proofs.YtjkofciohehgfaaGreatDoor.L7
open Go.RowKit
open Go.Lib (zigzag zigzag_lt uvarint uvarint_small uvarint_big u8_or128_any)

theorem turn_any (n : Int) (w : World) (h0 : -9223372036854775808 ≤ n) (h1 : n ≤ 9223372036854775807) :
    Calls Tryz.prog 109 #[.int .i64 n] w fun e w' => e = .returned (.int .u64 (zigzag n)) ∧ w = w' := by
  by_cases hn : 0 ≤ n
  · go_enter Tryz.func109, Tryz.ntmps109
    go_wp2
    go_ret
    exact ⟨ret_int (VM.turn_pos hn h1), rfl⟩
  · go_enter Tryz.func109, Tryz.ntmps109
    go_wp2
    go_ret
    exact ⟨ret_int (VM.turn_neg h0 (by omega)), rfl⟩

theorem turnBack_any (v : Nat) (w : World) (h1 : v < 18446744073709551616) :
    Calls Tryz.prog 147 #[.int .u64 v] w fun e w' => e = .returned (.int .i64 (VM.unzig v)) ∧ w = w' := by
  go_enter Tryz.func147, Tryz.ntmps147
  go_wp2
  go_ret
  exact ⟨ret_int (VM.turn_back h1), rfl⟩

/-- the array that holds a number's bytes -/
def rowOf (l : List UInt8) : Array Value := List.toArray ((l.map fun (c : UInt8) => Value.int .u8 (c.toNat : Int)) ++ List.replicate (10 - l.length) (Value.int .u8 0))

theorem rowOf_size (l : List UInt8) (h : l.length ≤ 10) : (rowOf l).size = 10 := by
  simp [rowOf]; omega

theorem rowOf_lo (l : List UInt8) (j : Nat) (h : j < l.length) : (rowOf l)[j]? = some (.int .u8 (l[j].toNat : Int)) := by
  simp [rowOf, List.getElem?_append, h]

theorem rowOf_hi (l : List UInt8) (j : Nat) (h : l.length ≤ j) (hj : j < 10) : (rowOf l)[j]? = some (.int .u8 0) := by
  simp [rowOf, List.getElem?_append, show ¬ j < l.length by omega, show j - l.length < 10 - l.length by omega]

theorem rowOf_set (l : List UInt8) (c : UInt8) (h : l.length < 10) : (rowOf l).setIfInBounds l.length (.int .u8 (c.toNat : Int)) = rowOf (l ++ [c]) := by
  apply Array.toList_inj.1
  simp only [rowOf, Array.toList_setIfInBounds]
  rw [List.set_append_right _ _ (by simp)]
  simp only [List.length_map, Nat.sub_self, List.map_append, List.append_assoc, List.length_append, List.length_singleton]
  congr 1
  rw [show 10 - l.length = (10 - (l.length + 1)) + 1 by omega, List.replicate_succ]
  simp

theorem rowOf_nil : rowOf [] = #[.int .u8 0, .int .u8 0, .int .u8 0, .int .u8 0, .int .u8 0, .int .u8 0, .int .u8 0, .int .u8 0, .int .u8 0, .int .u8 0] := rfl

def PiecesRel (n : Int) (w : World) (j u : Value) (wr : World) : Prop :=
  ∃ (k v : Nat) (done : List UInt8), done.length = k ∧ k ≤ 9 ∧ v < 128 ^ (9 - k) * 2 ∧ v < 18446744073709551616 ∧ j = .int .i64 k ∧ u = .int .u64 v ∧ uvarint (zigzag n) = done ++ uvarint v ∧
    wr.heap[w.heap.size + 1]? = some (.cells (rowOf done) 121 (0, 0)) ∧ wr.heap[w.heap.size]? = some (.cells (rowOf []) 121 (0, 0)) ∧ Below w.heap.size w wr

theorem pieces_step {n : Int} {w wr : World} {k v : Nat} {done : List UInt8} (hk : done.length = k) (hk9 : k ≤ 9) (hv : v < 128 ^ (9 - k) * 2) (hlt : 128 ≤ v) (hv2 : v < 18446744073709551616)
    (hu : uvarint (zigzag n) = done ++ uvarint v) (hb1 : wr.heap[w.heap.size + 1]? = some (.cells (rowOf done) 121 (0, 0))) (hb0 : wr.heap[w.heap.size]? = some (.cells (rowOf []) 121 (0, 0))) (hB : Below w.heap.size w wr) :
    PiecesRel n w (.int .i64 ((k : Int) + 1)) (.int .u64 ((v : Int) / 128)) (wr.setCell ⟨w.heap.size + 1, k, none⟩ (.int .u8 (bits .or .u8 ((v : Int) % 256) 128))) := by
  have hk8 : k ≤ 8 := by
    by_cases h : k = 9
    · rw [h] at hv; simp at hv; omega
    · omega
  have e : bits .or .u8 ((v : Int) % 256) 128 = (((v % 128 + 128).toUInt8).toNat : Int) := by
    rw [u8_or128_any _ (by omega) (by omega), byte_toNat _ (by omega)]; omega
  refine ⟨k + 1, v / 128, done ++ [(v % 128 + 128).toUInt8], by simp [hk], by omega, ?_, by omega, by simp, by simp, ?_, ?_, ?_, ?_⟩
  · have hp : (128 : Nat) ^ (9 - k) = 128 * 128 ^ (9 - (k + 1)) := by
      rw [show 9 - k = (9 - (k + 1)) + 1 by omega, Nat.pow_succ, Nat.mul_comm]
    rw [hp] at hv
    omega
  · rw [hu, uvarint_big hlt]; simp
  · rw [heap_setCell_same _ _ _ _ _ _ hb1, e, ← hk, rowOf_set _ _ (by omega)]
  · rw [heap_setCell_other _ _ _ _ (by simp)]; exact hb0
  · exact hB.setCell (by simp) _

theorem pieces_last {n : Int} {w wr : World} {k v : Nat} {done : List UInt8} (hk : done.length = k) (hk9 : k ≤ 9) (hlt : ¬ 128 ≤ v)
    (hu : uvarint (zigzag n) = done ++ uvarint v) (hb1 : wr.heap[w.heap.size + 1]? = some (.cells (rowOf done) 121 (0, 0))) (hb0 : wr.heap[w.heap.size]? = some (.cells (rowOf []) 121 (0, 0))) :
    (VM.enc n).length = k + 1 ∧ (wr.setCell ⟨w.heap.size + 1, k, none⟩ (.int .u8 (v : Int))).heap[w.heap.size + 1]? = some (.cells (rowOf (VM.enc n)) 121 (0, 0)) ∧
      (wr.setCell ⟨w.heap.size + 1, k, none⟩ (.int .u8 (v : Int))).heap[w.heap.size]? = some (.cells (rowOf []) 121 (0, 0)) := by
  have he : VM.enc n = done ++ [v.toUInt8] := by
    unfold VM.enc; rw [hu, uvarint_small (by omega)]
  refine ⟨by rw [he]; simp [hk], ?_, ?_⟩
  · rw [heap_setCell_same _ _ _ _ _ _ hb1, he, ← hk, ← byte_toNat v (by omega), rowOf_set _ _ (by omega)]
  · rw [heap_setCell_other _ _ _ _ (by simp)]; exact hb0

theorem rowOf_one (l : List UInt8) : (rowOf l).all (·.oneCell') = true := by
  rw [Array.all_eq_true_iff_forall_mem]
  intro x hx
  simp only [rowOf, List.mem_toArray, List.mem_append, List.mem_map, List.mem_replicate] at hx
  rcases hx with ⟨c, _, rfl⟩ | ⟨_, rfl⟩ <;> rfl

theorem run_storeCells_new {P : Program} {W : World} {g : Nat} {t : TypeId} {l : List UInt8} (hg : W.heap[g]? = some (.cells (rowOf []) t (0, 0))) (hs : (rowOf l).size = 10) :
    (storeCells ⟨g, 0, none⟩ (rowOf l).toList).run P W = .ok () (W.setRow g (rowOf l)) := by
  have h := run_storeCells_from (P := P) g t (rowOf l).toList 0 (rowOf []) W hg (by simp [hs, rowOf_nil]) (fun v hv => (Array.all_eq_true_iff_forall_mem.1 (rowOf_one l)) v (by simpa using hv))
  simpa using h

theorem rowOf_info (l : List UInt8) (h : l.length ≤ 10) : (Tryz.prog.info? 121).map (·.size) = some (rowOf l).size := by
  rw [rowOf_size l h]; kernel_rfl

set_option maxRecDepth 100000 in
theorem pieces_any (n : Int) (w : World) (h0 : -9223372036854775808 ≤ n) (h1 : n ≤ 9223372036854775807) :
    Calls Tryz.prog 73 #[.int .i64 n] w fun e w' => e = .returned (.tuple #[.agg (rowOf (VM.enc n)), .int .i64 (VM.enc n).length]) ∧ Below w.heap.size w w' := by
  have hz := zigzag_lt h0 h1
  go_enter Tryz.func73, Tryz.ntmps73
  go_wp2_with (go_at_call 109; refine (turn_any _ _ h0 h1).mono ?_; rintro e w' ⟨rfl, rfl⟩)
  go_loopw [5, 6] (fun j u wr => PiecesRel n w j u wr) (fun _ u _ => (intOf u).toNat)
  case atStart =>
    refine ⟨0, zigzag n, [], rfl, by omega, by simpa using hz, hz, rfl, rfl, rfl, ?_, ?_, ?_⟩
    · rw [heap_alloc2_new]; rfl
    · rw [heap_alloc2_old]; rfl
    · exact ((Below.refl _ _).alloc (Nat.le_refl _) _).alloc (by simp) _
  case round =>
    obtain ⟨k, v, done, hk, hk9, hv, hv2, rfl, rfl, hu, hb1, hb0, hB⟩ := hrel
    have hcell : wr.cell? ⟨w.heap.size + 1, k, none⟩ = some (.int .u8 0) := by
      rw [cell_of_row _ _ _ _ _ _ hb1, rowOf_hi _ _ (by omega) (by omega)]
    have hfz : wr.frozen? ⟨w.heap.size + 1, k, none⟩ = false := frozen_of_row _ _ _ _ _ hb1
    have HU := Lib.hid hu
    have HB1 := Lib.hid hb1
    have HB0 := Lib.hid hb0
    have HK := Lib.hid hk
    have HV := Lib.hid hv
    clear hu hb1 hb0 hk hv
    by_cases hlt : 128 ≤ v
    · have hr := pieces_step HK.out hk9 HV.out hlt hv2 HU.out HB1.out HB0.out hB
      have HR := Lib.hid hr
      clear hr
      go_wp2
      go_roundw
      case rel => exact HR.out
      case measure => simp [intOf]; omega
    · obtain ⟨hl, hc1, hc0⟩ := pieces_last HK.out hk9 hlt HU.out HB1.out HB0.out
      have hen := VM.enc_len h0 h1
      have HL := Lib.hid hl
      have HC1 := Lib.hid hc1
      have HC0 := Lib.hid hc0
      clear hl hc1 hc0
      have hsz := rowOf_size _ hen.2
      have hst := run_storeCells_new (P := Tryz.prog) HC0.out hsz
      go_wp2_with (refine wpList_load_row rfl 121 (.tmp 4) rfl (w.heap.size + 1) rfl 121 (rowOf (VM.enc n)) (0, 0) _ ?c1 Tryz.underlying121 rfl ?c2 ?_)
      case c1 => exact HC1.out
      case c2 => exact rowOf_info _ hen.2
      go_wp2
      have hld := run_loadVar_row (P := Tryz.prog) _ w.heap.size 121 121 (rowOf (VM.enc n)) (0, 0) _ (setRow_heap _ w.heap.size (rowOf []) (rowOf (VM.enc n)) 121 (0, 0) HC0.out) Tryz.underlying121 rfl (rowOf_info _ hen.2)
      refine bodyPost_ret (v := .tuple #[.agg (rowOf (VM.enc n)), .int .i64 ((k : Int) + 1)]) ?_ rfl ⟨?_, ?_⟩
      · rw [results_cell_tmp rfl]; simp [asAddr, Result.andThen, hld]
      · rw [HL.out]; simp
      · exact below_setRow (hB.setCell (by simp) _) (Nat.le_refl _)

theorem rowOf_bytes (w : World) (g : Nat) (t : TypeId) (fr : Nat × Nat) (l : List UInt8) (h : w.heap[g]? = some (.cells (rowOf l) t fr)) : Lib.Bytes w g 0 ⟨l.toArray⟩ := by
  intro i hi
  have hi' : i < l.length := by simpa [ByteArray.size] using hi
  rw [Nat.zero_add, cell_of_row _ _ _ _ _ _ h, rowOf_lo _ _ hi']
  rfl

theorem arr_slice (W : World) (g n : Nat) (h : n ≤ 10) : (Instr.sliceAt 121 (.pointer (some ⟨g, 0, none⟩)) none (some (.int .i64 (n : Int))) none).run Tryz.prog W = .ok (.slice (some ⟨g, 0, none⟩) n 10) W := by
  have hal : Tryz.prog.arrayLen 121 = 10 := by kernel_rfl
  have hs : ∀ w, (sizeOf (Tryz.prog.elem 121)).run Tryz.prog w = .ok 1 w := fun w => by kernel_rfl
  rw [run_sliceAt_array_h W 121 ⟨g, 0, none⟩ (by kernel_rfl) .i64 (n : Int) (by omega) (by rw [hal]; omega), hs, hal]
  simp [Result.andThen, slicedAt, Int.toNat_natCast, Addr.add]

/-- a new array that a number's bytes were stored into -/
def rowWorld (w : World) (l : List UInt8) : World := (w.alloc (.cells (rowOf []) 121)).setRow w.heap.size (rowOf l)

theorem rowWorld_row (w : World) (l : List UInt8) : (rowWorld w l).heap[w.heap.size]? = some (.cells (rowOf l) 121 (0, 0)) :=
  setRow_heap _ _ _ _ _ _ (heap_alloc_new w (.cells (rowOf []) 121))

theorem rowWorld_below (w : World) (l : List UInt8) : Below w.heap.size w (rowWorld w l) :=
  below_setRow ((Below.refl _ _).alloc (Nat.le_refl _) _) (Nat.le_refl _)

theorem row_string (w : World) (l : List UInt8) (cap : Nat) : (convert 68 9 (.slice (some ⟨w.heap.size, 0, none⟩) l.length cap)).run Tryz.prog (rowWorld w l) = .ok (.string ⟨l.toArray⟩) (rowWorld w l) :=
  Lib.run_convert_whole (rowWorld w l) 68 5 9 Tryz.underlying68 Tryz.underlying5 Tryz.underlying9 w.heap.size 0 ⟨l.toArray⟩ (rowOf_bytes _ _ _ _ _ (rowWorld_row w l)) cap

set_option maxRecDepth 100000 in
theorem put_any (n : Int) (w : World) (h0 : -9223372036854775808 ≤ n) (h1 : n ≤ 9223372036854775807) :
    Calls Tryz.prog 28 #[.int .i64 n] w fun e w' => e = .returned (.string ⟨(VM.enc n).toArray⟩) ∧ Below w.heap.size w w' := by
  have hen := VM.enc_len h0 h1
  have hsz := rowOf_size _ hen.2
  go_enter Tryz.func28, Tryz.ntmps28
  go_wp2_with fail
  refine (pieces_any _ _ h0 h1).mono ?_
  rintro e w1 ⟨rfl, hB⟩
  have hst : (storeCells ⟨w1.heap.size, 0, none⟩ (rowOf (VM.enc n)).toList).run Tryz.prog (w1.alloc (.cells (rowOf []) 121)) = .ok () (rowWorld w1 (VM.enc n)) := run_storeCells_new (heap_alloc_new w1 (.cells (rowOf []) 121)) hsz
  have hsl := fun W => arr_slice W w1.heap.size (VM.enc n).length hen.2
  have hcv := row_string w1 (VM.enc n) 10
  rw [rowOf_nil] at hst
  go_wp2
  go_ret
  exact ⟨rfl, hB.trans ((rowWorld_below w1 _).mono hB.size)⟩
end Go.Proofs.YtjkofciohehgfaaGreatDoor.L7


/- The walks of measure, join and Get. -/
namespace Go.Proofs.YtjkofciohehgfaaGreatDoor.L7
open Go.RowKit
open Go.Lib (zigzag zigzag_lt uvarint uvarint_small uvarint_big u8_or128_any)

theorem meas_if10 {l : List UInt8} (h : VM.lead 10 l = 10) : VM.meas l = (0, 4) := by unfold VM.meas; rw [if_pos h]
theorem meas_iflen {l : List UInt8} {k : Nat} (h : VM.lead 10 l = k) (h10 : k ≠ 10) (hl : k = l.length) : VM.meas l = (0, 3) := by
  unfold VM.meas; rw [if_neg (by omega), if_pos (by omega)]
theorem meas_if9 {l : List UInt8} {k : Nat} (h : VM.lead 10 l = k) (h9 : k = 9) (hl : k < l.length) (hc : 1 < l[k].toNat) : VM.meas l = (0, 4) := by
  subst h9
  have hg : l.getD 9 0 = l[9] := by simp [List.getD, hl]
  unfold VM.meas; rw [if_neg (by omega), if_neg (by omega), if_pos ⟨h, by rw [hg]; exact hc⟩]
theorem meas_if0 {l : List UInt8} {k : Nat} (h : VM.lead 10 l = k) (h10 : k < 10) (hl : k < l.length) (h9 : ¬(k = 9 ∧ 1 < l[k].toNat)) (h0 : 0 < k) (hc : l[k].toNat = 0) : VM.meas l = (0, 4) := by
  have hg : l.getD k 0 = l[k] := by simp [List.getD, hl]
  unfold VM.meas
  rw [if_neg (by omega), if_neg (by omega), if_neg (by rintro ⟨a, b⟩; rw [h] at a; subst a; rw [hg] at b; exact h9 ⟨rfl, b⟩), if_pos ⟨by omega, by rw [h, hg]; exact hc⟩]
theorem meas_else {l : List UInt8} {k : Nat} (h : VM.lead 10 l = k) (h10 : k < 10) (hl : k < l.length) (h9 : ¬(k = 9 ∧ 1 < l[k].toNat)) (h0 : ¬(0 < k ∧ l[k].toNat = 0)) : VM.meas l = (k + 1, 0) := by
  have hg : l.getD k 0 = l[k] := by simp [List.getD, hl]
  unfold VM.meas
  rw [if_neg (by omega), if_neg (by omega), if_neg (by rintro ⟨a, b⟩; rw [h] at a; subst a; rw [hg] at b; exact h9 ⟨rfl, b⟩), if_neg (by rw [h, hg]; exact h0), h]

def MeasOut (s : ByteArray) (e : Ending) : Prop := e = .returned (.tuple #[.int .i64 (VM.meas s.data.toList).1, .int .i64 (VM.meas s.data.toList).2])

theorem measOut {s : ByteArray} {a : Nat} {b : Int} (h : VM.meas s.data.toList = (a, b)) : MeasOut s (.returned (.tuple #[.int .i64 (a : Int), .int .i64 b])) := by
  unfold MeasOut; rw [h]

set_option maxRecDepth 100000 in
theorem measure_any (s : ByteArray) (w : World) (hs : s.size ≤ 9223372036854775807) :
    Calls Tryz.prog 139 #[.string s] w fun e w' => MeasOut s e ∧ w = w' := by
  have hsl := size_list s
  have HSL := Lib.hid hsl
  clear hsl
  go_enter Tryz.func139, Tryz.ntmps139
  go_wp2
  go_loop [4] (fun i => ∃ k : Nat, k ≤ 10 ∧ k ≤ s.size ∧ i = .int .i64 k ∧ VM.lead 10 s.data.toList = k + VM.lead (10 - k) (s.data.toList.drop k)) (fun i => 10 - (intOf i).toNat)
  case atStart => exact ⟨0, by omega, by omega, rfl, by simp⟩
  case round =>
    obtain ⟨k, hk10, hks, rfl, hl⟩ := hrel
    have HL := Lib.hid hl
    clear hl
    by_cases h10 : k = 10
    · have HO := Lib.hid (measOut (s := s) (meas_if10 (by rw [VM.lead_stop (Or.inl h10) HL.out, h10])))
      obtain rfl : 10 = k := h10.symm
      clear HL
      by_cases hlt : 10 < s.size
      all_goals
        go_wp2
        go_ret2
        exact ⟨HO.out, rfl⟩
    have t10 : ((k : Int) == 10) = false := beq_eq_false_iff_ne.2 (by omega)
    by_cases hlen : k = s.size
    · have HO := Lib.hid (measOut (s := s) (meas_iflen (VM.lead_stop (Or.inr (Or.inl (by rw [HSL.out]; exact hlen))) HL.out) h10 (by rw [HSL.out]; exact hlen)))
      have tlen : ((k : Int) == (s.size : Int)) = true := beq_iff_eq.2 (by omega)
      have hge : s.size ≤ k := by omega
      clear hlen HL
      go_wp2
      go_ret2
      exact ⟨HO.out, rfl⟩
    have tlen : ((k : Int) == (s.size : Int)) = false := beq_eq_false_iff_ne.2 (by omega)
    have hlt : k < s.size := by omega
    have hk9 : k ≤ 9 := by omega
    clear hlen h10
    by_cases hc : 128 ≤ s[k].toNat
    · have HR := Lib.hid (VM.lead_step (l := s.data.toList) (by rw [HSL.out]; exact hlt) (by omega) hc HL.out)
      go_wp2
      go_round
      case rel => exact ⟨k + 1, by omega, by omega, by go_num, HR.out⟩
      case measure => simp [intOf]; omega
    have HS := Lib.hid (VM.lead_stop (Or.inr (Or.inr ⟨by rw [HSL.out]; exact hlt, by rw [byte_of s k hlt]; omega⟩)) HL.out)
    have HLL := Lib.hid (show k < s.data.toList.length by rw [HSL.out]; exact hlt)
    by_cases h9 : k = 9 ∧ 1 < s[k].toNat
    · have HO := Lib.hid (measOut (s := s) (meas_if9 HS.out h9.1 HLL.out h9.2))
      obtain ⟨h9', h9c⟩ := h9
      obtain rfl : 9 = k := h9'.symm
      clear HL HS
      go_wp2
      go_ret2
      exact ⟨HO.out, rfl⟩
    by_cases h0 : 0 < k ∧ s[k].toNat = 0
    · have HO := Lib.hid (measOut (s := s) (meas_if0 HS.out (by omega) HLL.out h9 h0.1 h0.2))
      obtain ⟨h0', h0c⟩ := h0
      have tz : ((s[k].toNat : Int) == 0) = true := beq_iff_eq.2 (by omega)
      have hz : s[k].toNat ≤ 0 := by omega
      by_cases h9' : k = 9
      · obtain rfl : 9 = k := h9'.symm
        clear HL HS h9 h0c
        go_wp2
        go_ret2
        exact ⟨HO.out, rfl⟩
      · have t9 : ((k : Int) == 9) = false := beq_eq_false_iff_ne.2 (by omega)
        clear HL HS h9 h0c h9'
        go_wp2
        go_ret2
        exact ⟨HO.out, rfl⟩
    have HO := Lib.hid (measOut (s := s) (meas_else HS.out (by omega) HLL.out h9 h0))
    by_cases h9' : k = 9
    · obtain rfl : 9 = k := h9'.symm
      have h1 : s[9].toNat ≤ 1 := by omega
      have tz : ((s[9].toNat : Int) == 0) = false := beq_eq_false_iff_ne.2 (by omega)
      clear HL HS h9 h0 h9'
      go_wp2
      go_ret2
      exact ⟨HO.out, rfl⟩
    · have t9 : ((k : Int) == 9) = false := beq_eq_false_iff_ne.2 (by omega)
      by_cases hk0 : k = 0
      · obtain rfl : 0 = k := hk0.symm
        clear HL HS h9 h0 h9'
        go_wp2
        go_ret2
        exact ⟨HO.out, rfl⟩
      · have tz : ((s[k].toNat : Int) == 0) = false := beq_eq_false_iff_ne.2 (by omega)
        have hkp : 0 < k := by omega
        clear HL HS h9 h0 h9' hk0
        go_wp2
        go_ret2
        exact ⟨HO.out, rfl⟩

theorem join_step (s : ByteArray) (k : Nat) (hlt : k < s.size) (hv : VM.val s.data.toList < 18446744073709551616) :
    bits .or .u64 ((VM.val (s.data.toList.take k) : Nat) : Int) (IntKind.u64.wrap ((s[k].toNat : Int) % 128 * 2 ^ (7 * k))) = ((VM.val (s.data.toList.take (k + 1)) : Nat) : Int) := by
  have hl : k < s.data.toList.length := by rw [size_list]; exact hlt
  have hle := VM.val_take_le s.data.toList (k + 1)
  have hb := VM.val_lt (s.data.toList.take k)
  have hlen : (s.data.toList.take k).length = k := by rw [List.length_take]; omega
  rw [hlen] at hb
  have hsucc := VM.val_take_succ hl
  rw [byte_of s k hlt] at hsucc
  have h := VM.or_step (u := VM.val (s.data.toList.take k)) (k := k) (m := s[k].toNat % 128) hb (by omega)
  rw [hsucc]
  exact h

theorem join_any (s : ByteArray) (w : World) (hs : s.size ≤ 10) (hv : VM.val s.data.toList < 18446744073709551616) :
    Calls Tryz.prog 140 #[.string s] w fun e w' => e = .returned (.int .i64 (VM.unzig (VM.val s.data.toList))) ∧ w = w' := by
  have HSL := Lib.hid (size_list s)
  go_enter Tryz.func140, Tryz.ntmps140
  go_wp2
  go_loop [3, 7] (fun u i => ∃ k : Nat, k ≤ s.size ∧ i = .int .i64 k ∧ u = .int .u64 (VM.val (s.data.toList.take k) : Nat)) (fun _ i => s.size - (intOf i).toNat)
  case atStart => exact ⟨0, by omega, rfl, rfl⟩
  case round =>
    obtain ⟨k, hk, rfl, rfl⟩ := hrel
    by_cases hlt : k < s.size
    · have HR := Lib.hid (join_step s k hlt hv)
      have hand := VM.andNot128 s[k]
      go_wp2
      go_round
      case rel => exact ⟨k + 1, by omega, by go_num, by rw [HR.out]⟩
      case measure => simp [intOf]; omega
    · have htk : s.data.toList.take k = s.data.toList := List.take_of_length_le (by rw [HSL.out]; omega)
      rw [htk]
      go_wp2_with (go_at_call 147; refine (turnBack_any _ _ hv).mono ?_; rintro e w' ⟨rfl, rfl⟩)
      go_ret
      exact ⟨rfl, rfl⟩
end Go.Proofs.YtjkofciohehgfaaGreatDoor.L7


/- The walk of Get. -/
namespace Go.Proofs.YtjkofciohehgfaaGreatDoor.L7
open Go.RowKit

theorem extract_rest (s : ByteArray) (a : Nat) : (s.extract a s.size).data.toList = s.data.toList.drop a := by
  rw [Lib.extract_data, List.take_of_length_le (by rw [List.length_drop, size_list]; omega)]

/-- 's[a:b]' of a text -/
theorem str_slice (W : World) (s : ByteArray) (a b : Nat) (x : Int) (hx : x = b) (h1 : a ≤ b) (h2 : b ≤ s.size) :
    (Instr.slice 9 (.string s) (some (.int .i64 (a : Int))) (some (.int .i64 x)) none).run Tryz.prog W = .ok (.string (s.extract a b)) W := by
  subst hx
  have i1 : (0 : Int) ≤ (a : Int) := by omega
  have i2 : (0 : Int) ≤ (b : Int) := by omega
  have i3 : (a : Int) ≤ (b : Int) := by omega
  have i4 : (b : Int) ≤ (s.size : Int) := by omega
  simp [Instr.slice, run_underlying Tryz.underlying9, Instr.sliceBounds, run_sliceBound, i1, i2, i3, i4]

def GetOut (s : ByteArray) (p : Int) (e : Ending) : Prop :=
  e = .returned (.tuple #[.int .i64 (VM.vget s.data.toList p).1, .int .i64 (VM.vget s.data.toList p).2.1, .int .i64 (VM.vget s.data.toList p).2.2])

theorem getOut {s : ByteArray} {p a b c : Int} (h : VM.vget s.data.toList p = (a, b, c)) : GetOut s p (.returned (.tuple #[.int .i64 a, .int .i64 b, .int .i64 c])) := by
  unfold GetOut; rw [h]

theorem vget_out {l : List UInt8} {p : Int} (h : p < 0 ∨ (l.length : Int) < p) : VM.vget l p = (0, 0, 2) := by unfold VM.vget; rw [if_pos h]
theorem vget_fault {l : List UInt8} {p : Nat} (h : p ≤ l.length) (hm : (VM.meas (l.drop p)).2 ≠ 0) : VM.vget l p = (0, 0, (VM.meas (l.drop p)).2) := by
  unfold VM.vget; rw [if_neg (by omega), Int.toNat_natCast, if_neg hm]
theorem vget_good {l : List UInt8} {p : Nat} (h : p ≤ l.length) (hm : (VM.meas (l.drop p)).2 = 0) : VM.vget l p = (VM.unzig (VM.val ((l.drop p).take (VM.meas (l.drop p)).1)), (p : Int) + (VM.meas (l.drop p)).1, 0) := by
  unfold VM.vget; rw [if_neg (by omega), Int.toNat_natCast, if_pos hm]

set_option maxRecDepth 100000 in
theorem get_any (s : ByteArray) (p : Int) (w : World) (hs : s.size ≤ 9223372036854775807) (hp0 : -9223372036854775808 ≤ p) (hp1 : p ≤ 9223372036854775807) :
    Calls Tryz.prog 129 #[.string s, .int .i64 p] w fun e w' => GetOut s p e ∧ w = w' := by
  have HSL := Lib.hid (size_list s)
  by_cases hneg : p < 0
  · have HO := Lib.hid (getOut (s := s) (vget_out (Or.inl hneg)))
    go_enter Tryz.func129, Tryz.ntmps129
    go_wp2
    go_ret3
    exact ⟨HO.out, rfl⟩
  by_cases hgt : (s.size : Int) < p
  · have HO := Lib.hid (getOut (s := s) (vget_out (Or.inr (by rw [HSL.out]; exact hgt))))
    have hge : 0 ≤ p := by omega
    go_enter Tryz.func129, Tryz.ntmps129
    go_wp2
    go_ret3
    exact ⟨HO.out, rfl⟩
  obtain ⟨a, rfl⟩ := Int.eq_ofNat_of_zero_le (show 0 ≤ p by omega)
  have ha : a ≤ s.size := by omega
  clear hneg hgt hp0 hp1
  have hsz : (s.extract a s.size).size ≤ 9223372036854775807 := by rw [ByteArray.size_extract]; omega
  have HE := Lib.hid (extract_rest s a)
  have hal : a ≤ s.data.toList.length := by rw [HSL.out]; exact ha
  have HAL := Lib.hid hal
  obtain ⟨m1, m2, hm⟩ : ∃ m1 m2, VM.meas (s.data.toList.drop a) = (m1, m2) := ⟨_, _, rfl⟩
  have HMc := Lib.hid (measure_any (s.extract a s.size) w hsz)
  clear hal
  by_cases h2 : m2 = 0
  · have hok := VM.meas_ok (l := s.data.toList.drop a) (by rw [hm]; exact h2)
    rw [hm, List.length_drop, HSL.out] at hok
    obtain ⟨k1, k10, kle, -, kv, -⟩ := hok
    have HO := Lib.hid (getOut (s := s) (vget_good HAL.out (by rw [hm]; exact h2)))
    rw [hm] at HO
    have hle : a + m1 ≤ s.size := by have : m1 ≤ s.size - a := kle; omega
    have hm1 : m1 ≤ 10 := k10
    have HEX : Hid ((s.extract a (a + m1)).data.toList = (s.data.toList.drop a).take m1) := by
      have h := Lib.extract_data s a (a + m1)
      rw [show a + m1 - a = m1 by omega] at h
      exact h
    have hjs : (s.extract a (a + m1)).size ≤ 10 := by rw [ByteArray.size_extract]; omega
    have hjv : VM.val (s.extract a (a + m1)).data.toList < 18446744073709551616 := by rw [HEX.out]; exact kv
    have HJ := Lib.hid (fun W => join_any (s.extract a (a + m1)) W hjs hjv)
    have hsl := fun W => str_slice W s a (a + m1) ((a : Int) + m1) (by omega) (by omega) hle
    have HM := Lib.hid hm
    clear hm kle k10 kv k1 hjs hjv
    subst h2
    go_enter Tryz.func129, Tryz.ntmps129
    go_wp2_with fail
    refine HMc.out.mono ?_
    rintro e w1 ⟨he, rfl⟩
    unfold MeasOut at he
    rw [HE.out, HM.out] at he
    subst he
    go_wp2_with fail
    refine (HJ.out _).mono ?_
    rintro e w1 ⟨rfl, rfl⟩
    rw [HEX.out]
    go_wp2
    go_ret3
    exact ⟨HO.out, rfl⟩
  · have HO := Lib.hid (getOut (s := s) (vget_fault HAL.out (by rw [hm]; exact h2)))
    rw [hm] at HO
    have HM := Lib.hid hm
    have t2 : (m2 == 0) = false := beq_eq_false_iff_ne.2 h2
    have t2' : (m2 != 0) = true := by rw [bne_iff_ne]; exact h2
    clear hm
    go_enter Tryz.func129, Tryz.ntmps129
    go_wp2_with fail
    refine HMc.out.mono ?_
    rintro e w1 ⟨he, rfl⟩
    unfold MeasOut at he
    rw [HE.out, HM.out] at he
    subst he
    go_wp2
    go_ret3
    exact ⟨HO.out, rfl⟩
end Go.Proofs.YtjkofciohehgfaaGreatDoor.L7


/- The walk of strings.Clone. -/
namespace Go.Proofs.YtjkofciohehgfaaGreatDoor.L7
open Go.RowKit

/-- a new row of noughts, and then a text's bytes in it -/
def byteWorld (w : World) (n : Nat) : World := w.alloc (.cells (madeCells #[.int .u8 0] n) 5)
def textWorld (w : World) (s : ByteArray) : World := (byteWorld w s.size).setRow w.heap.size (Lib.byteCells s.data.toList).toArray

theorem byteWorld_row (w : World) (n : Nat) : (byteWorld w n).heap[w.heap.size]? = some (.cells (madeCells #[.int .u8 0] n) 5 (0, 0)) := heap_alloc_new w _

theorem textWorld_row (w : World) (s : ByteArray) : (textWorld w s).heap[w.heap.size]? = some (.cells (Lib.byteCells s.data.toList).toArray 5 (0, 0)) :=
  setRow_heap _ _ _ _ _ _ (byteWorld_row w s.size)

theorem textWorld_below (w : World) (s : ByteArray) : Below w.heap.size w (textWorld w s) :=
  below_setRow ((Below.refl _ _).alloc (Nat.le_refl _) _) (Nat.le_refl _)

theorem make_bytes (w : World) (n : Nat) (h : n ≤ 281474976710656) : (Instr.makeSlice 68 (.int .i64 (n : Int)) (.int .i64 (n : Int))).run Tryz.prog w = .ok (.slice (some ⟨w.heap.size, 0, none⟩) n n) (byteWorld w n) := by
  obtain ⟨i0, hi, hz0, hz1, hz2⟩ := info_parts info_u8
  have h := run_make (P := Tryz.prog) w 68 5 i0 (.int .u8 0) Tryz.underlying68 hi hz0 .i64 .i64 (n : Int) (n : Int) (by omega) (Int.le_refl _) (by rw [hz2]; omega) (by omega)
  rw [Int.toNat_natCast] at h
  simpa [hz1, Value.cells, byteWorld] using h

theorem copy_text (w : World) (s : ByteArray) (ty : TypeId) : (Builtin.copy_ #[68, 9] ty #[.slice (some ⟨w.heap.size, 0, none⟩) s.size s.size, .string s]).run Tryz.prog (byteWorld w s.size) = .ok (goInt s.size) (textWorld w s) := by
  have h := Lib.run_copy_row_string (P := Tryz.prog) (byteWorld w s.size) 68 9 ty 5 w.heap.size 0 s.size s.size s (madeCells #[.int .u8 0] s.size) 5 Tryz.underlying68 (by kernel_rfl) (byteWorld_row w s.size) (Nat.le_refl _) (by rw [size_madeCells]; omega)
  rw [h]
  have hd : (madeCells #[Value.int .u8 0] s.size).toList.drop (0 + s.size) = [] := List.drop_eq_nil_of_le (by simp [size_madeCells])
  rw [hd]
  simp [textWorld]

theorem text_string (w : World) (s : ByteArray) (h0 : 0 < s.size) (h1 : s.size ≤ 281474976710656) (ty : TypeId) :
    (Builtin.unsafeString_ #[124, 3] ty #[.pointer (some ⟨w.heap.size, 0, none⟩), .int .i64 (s.size : Int)]).run Tryz.prog (textWorld w s) = .ok (.string s) ((textWorld w s).freeze ⟨w.heap.size, 0, none⟩ s.size) := by
  have hl := size_list s
  have hrow := textWorld_row w s
  have h := Lib.run_unsafeString_row (P := Tryz.prog) (textWorld w s) 124 3 ty 5 Tryz.underlying124 (by kernel_rfl) w.heap.size s.size
    (by simp [World.shape?, hrow, Lib.byteCells_length, hl]) s.data.toList (by intro h; rw [h] at hl; simp at hl; omega) (by rw [hl]; exact Nat.le_refl _) (by rw [hl]; omega) (by
      intro j x hj
      have hadd : (⟨w.heap.size, 0, none⟩ : Addr).add j = ⟨w.heap.size, j, none⟩ := by unfold Addr.add; split <;> simp_all
      rw [hadd, cell_of_row _ _ _ _ _ _ hrow]
      simp [Lib.byteCells, hj])
  rw [hl] at h
  simpa using h

theorem cloneIn_any (s : ByteArray) (w : World) (hs : s.size ≤ 281474976710656) :
    Calls Tryz.prog 98 #[.string s] w fun e w' => e = .returned (.string s) ∧ Below w.heap.size w w' := by
  by_cases h0 : s.size = 0
  · have hs0 : s = ⟨#[]⟩ := by
      apply ByteArray.ext
      exact Array.eq_empty_of_size_eq_zero h0
    subst hs0
    clear h0 hs
    go_enter Tryz.func98, Tryz.ntmps98
    go_wp2
    go_ret
    exact ⟨rfl, Below.refl _ _⟩
  · have h1 : 0 < s.size := by omega
    have hne : ((s.size : Int) == 0) = false := beq_eq_false_iff_ne.2 (by omega)
    have hmk := make_bytes w s.size hs
    have hcp := copy_text w s
    have hus := text_string w s h1 hs
    have hB := Lib.below_freeze (textWorld_below w s) (p := ⟨w.heap.size, 0, none⟩) (Nat.le_refl _) s.size
    go_enter Tryz.func98, Tryz.ntmps98
    go_wp2
    go_ret
    exact ⟨rfl, hB⟩

theorem clone_any (s : ByteArray) (w : World) (hs : s.size ≤ 281474976710656) :
    Calls Tryz.prog 49 #[.string s] w fun e w' => e = .returned (.string s) ∧ Below w.heap.size w w' := by
  go_enter Tryz.func49, Tryz.ntmps49
  go_wp2_with fail
  refine (cloneIn_any s _ hs).mono ?_
  rintro e w1 ⟨rfl, hB⟩
  go_wp2
  go_ret
  exact ⟨rfl, hB⟩
end Go.Proofs.YtjkofciohehgfaaGreatDoor.L7


/- The walks of Clone, PutText, GetText. -/
namespace Go.Proofs.YtjkofciohehgfaaGreatDoor.L7
open Go.RowKit

/-- the bytes of a text -/
def textEnc (s : ByteArray) : ByteArray := ⟨(VM.enc s.size ++ s.data.toList).toArray⟩

theorem putText_any (s : ByteArray) (w : World) (hs : s.size ≤ 9223372036854775000) :
    Calls Tryz.prog 74 #[.string s] w fun e w' => e = .returned (.string (textEnc s)) ∧ Below w.heap.size w w' := by
  have hen := VM.enc_len (n := (s.size : Int)) (by omega) (by omega)
  have he : (⟨(VM.enc s.size).toArray⟩ : ByteArray) ++ s = textEnc s := by
    apply ByteArray.ext
    apply Array.toList_inj.1
    simp [textEnc]
  have HE := Lib.hid he
  obtain ⟨l, hl⟩ : ∃ l : List UInt8, VM.enc (s.size : Int) = l := ⟨_, rfl⟩
  have HP := Lib.hid (fun W => put_any (s.size : Int) W (by omega) (by omega))
  rw [hl] at hen HE HP
  obtain ⟨hen1, hen2⟩ := hen
  clear he hl
  go_enter Tryz.func74, Tryz.ntmps74
  go_wp2_with fail
  refine (HP.out _).mono ?_
  rintro e w1 ⟨rfl, hB⟩
  go_wp2
  go_ret
  exact ⟨by rw [HE.out]; rfl, hB⟩

/-- the text that stands at a place -/
def vtext (l : List UInt8) (p : Int) : List UInt8 × Int × Int :=
  if (VM.vget l p).2.2 ≠ 0 then ([], 0, (VM.vget l p).2.2)
  else if (VM.vget l p).1 < 0 then ([], 0, 4)
  else if 65535 < (VM.vget l p).1 then ([], 0, 5)
  else if (l.length : Int) - (VM.vget l p).2.1 < (VM.vget l p).1 then ([], 0, 3)
  else ((l.drop (VM.vget l p).2.1.toNat).take (VM.vget l p).1.toNat, (VM.vget l p).2.1 + (VM.vget l p).1, 0)

def TextOut (s : ByteArray) (p : Int) (e : Ending) : Prop :=
  e = .returned (.tuple #[.string ⟨(vtext s.data.toList p).1.toArray⟩, .int .i64 (vtext s.data.toList p).2.1, .int .i64 (vtext s.data.toList p).2.2])

theorem textOut {s : ByteArray} {p b c : Int} {a : List UInt8} (h : vtext s.data.toList p = (a, b, c)) : TextOut s p (.returned (.tuple #[.string ⟨a.toArray⟩, .int .i64 b, .int .i64 c])) := by
  unfold TextOut; rw [h]

/-- what GetText comes to, by cases on what Get told -/
theorem vtext_cases {l : List UInt8} {p n b c : Int} (hv : VM.vget l p = (n, b, c)) : vtext l p =
    if c ≠ 0 then ([], 0, c) else if n < 0 then ([], 0, 4) else if 65535 < n then ([], 0, 5) else if (l.length : Int) - b < n then ([], 0, 3) else ((l.drop b.toNat).take n.toNat, b + n, 0) := by
  unfold vtext; rw [hv]

set_option maxRecDepth 100000 in
theorem getText_any (s : ByteArray) (p : Int) (w : World) (hs : s.size ≤ 9223372036854775807) (hp0 : -9223372036854775808 ≤ p) (hp1 : p ≤ 9223372036854775807) :
    Calls Tryz.prog 130 #[.string s, .int .i64 p] w fun e w' => TextOut s p e ∧ Below w.heap.size w w' := by
  have HG := Lib.hid (fun W => get_any s p W hs hp0 hp1)
  obtain ⟨n, b, c, hv⟩ : ∃ n b c, VM.vget s.data.toList p = (n, b, c) := ⟨_, _, _, rfl⟩
  have hc := vtext_cases hv
  have hsl := size_list s
  have hok := VM.vget_ok (l := s.data.toList) (at_ := p)
  rw [hv] at hok
  have HV := Lib.hid hv
  clear hv
  by_cases h0 : c = 0
  · obtain ⟨hp, -, k, -, -, kle, hb, hn0, hn1, -⟩ := hok h0
    rw [hsl] at kle hc
    have hb' : b = p + (k : Int) := hb
    have hn0' : -9223372036854775808 ≤ n := hn0
    have hn1' : n ≤ 9223372036854775807 := hn1
    clear hb hn0 hn1 hok
    rw [if_neg (by omega)] at hc
    have hb0 : 0 ≤ b := by omega
    have hb1 : b ≤ (s.size : Int) := by omega
    clear hb' kle
    have C0 := Lib.hid h0
    clear h0 hsl
    by_cases h1 : n < 0
    · rw [if_pos h1] at hc
      have HO := Lib.hid (textOut hc)
      clear hc
      go_enter Tryz.func130, Tryz.ntmps130
      go_wp2_with fail
      refine (HG.out _).mono ?_
      rintro e w1 ⟨he, rfl⟩
      unfold GetOut at he
      rw [HV.out, C0.out] at he
      subst he
      go_wp2
      go_ret3
      exact ⟨HO.out, Below.refl _ _⟩
    rw [if_neg h1] at hc
    by_cases h2 : 65535 < n
    · rw [if_pos h2] at hc
      have HO := Lib.hid (textOut hc)
      clear hc
      go_enter Tryz.func130, Tryz.ntmps130
      go_wp2_with fail
      refine (HG.out _).mono ?_
      rintro e w1 ⟨he, rfl⟩
      unfold GetOut at he
      rw [HV.out, C0.out] at he
      subst he
      go_wp2
      go_ret3
      exact ⟨HO.out, Below.refl _ _⟩
    rw [if_neg h2] at hc
    by_cases h3 : (s.size : Int) - b < n
    · rw [if_pos h3] at hc
      have HO := Lib.hid (textOut hc)
      clear hc
      go_enter Tryz.func130, Tryz.ntmps130
      go_wp2_with fail
      refine (HG.out _).mono ?_
      rintro e w1 ⟨he, rfl⟩
      unfold GetOut at he
      rw [HV.out, C0.out] at he
      subst he
      go_wp2
      go_ret3
      exact ⟨HO.out, Below.refl _ _⟩
    rw [if_neg h3] at hc
    obtain ⟨q, rfl⟩ := Int.eq_ofNat_of_zero_le hb0
    obtain ⟨m, rfl⟩ := Int.eq_ofNat_of_zero_le (show 0 ≤ n by omega)
    have HO := Lib.hid (textOut hc)
    have hex : (s.extract q (q + m)).data.toList = (s.data.toList.drop q).take m := by
      rw [Lib.extract_data, show q + m - q = m by omega]
    have hsl := fun W => str_slice W s q (q + m) ((q : Int) + m) (by omega) (by omega) (by omega)
    have HX : Hid (s.extract q (q + m) = ⟨((s.data.toList.drop q).take m).toArray⟩) := by
      apply ByteArray.ext
      apply Array.toList_inj.1
      rw [hex]
    have HC := Lib.hid (fun W => clone_any (s.extract q (q + m)) W (by rw [ByteArray.size_extract]; omega))
    clear hc hex
    go_enter Tryz.func130, Tryz.ntmps130
    go_wp2_with fail
    refine (HG.out _).mono ?_
    rintro e w1 ⟨he, rfl⟩
    unfold GetOut at he
    rw [HV.out, C0.out] at he
    subst he
    go_wp2_with fail
    refine (HC.out _).mono ?_
    rintro e w1 ⟨rfl, hB⟩
    rw [HX.out]
    go_wp2
    go_ret3
    exact ⟨HO.out, hB⟩
  · rw [if_pos h0] at hc
    have HO := Lib.hid (textOut hc)
    have t2 : (c == 0) = false := beq_eq_false_iff_ne.2 h0
    have t2' : (c != 0) = true := by rw [bne_iff_ne]; exact h0
    clear hc hok hsl h0
    go_enter Tryz.func130, Tryz.ntmps130
    go_wp2_with fail
    refine (HG.out _).mono ?_
    rintro e w1 ⟨he, rfl⟩
    unfold GetOut at he
    rw [HV.out] at he
    subst he
    go_wp2
    go_ret3
    exact ⟨HO.out, Below.refl _ _⟩
end Go.Proofs.YtjkofciohehgfaaGreatDoor.L7


/- Plain mathematics of batches: their bytes, and what is read of bytes. No function of the program. -/
namespace Go.Proofs.YtjkofciohehgfaaGreatDoor.L7
namespace BK
open SK
open VM

def one (e : E) : E := { e with seq := 1 }
/-- the error of an item that is put -/
def bad1 (e : E) : Int := if good (one e) ≠ 0 then good (one e) else if e.til = 9223372036854775807 then 2 else 0
def textB (s : ByteArray) : List UInt8 := enc s.size ++ s.data.toList
def itemB (e : E) : List UInt8 := textB e.key ++ (if e.gone = true then enc 0 else enc (e.til + 1) ++ textB e.value)
/-- the first error -/
def bad : List E → Int
  | [] => 0
  | e :: r => if bad1 e ≠ 0 then bad1 e else bad r
def allB (l : List E) : List UInt8 := l.flatMap itemB
def putB (l : List E) : List UInt8 := enc l.length ++ allB l
def putOut (l : List E) : List UInt8 × Int := if 64 < l.length then ([], 5) else if bad l ≠ 0 then ([], bad l) else (putB l, 0)
def z (e : E) : E := { e with seq := 0 }

theorem textEnc_eq (s : ByteArray) : textEnc s = ⟨(textB s).toArray⟩ := rfl
theorem bad1_z (e : E) : bad1 (z e) = bad1 e := rfl
theorem good_one_zero {e : E} (h : good (one e) = 0) : 0 < e.key.size ∧ e.key.size ≤ 64 ∧ e.value.size ≤ 512 ∧ 0 ≤ e.til ∧ (e.gone = true → e.value.size = 0 ∧ e.til = 0) := by
  unfold good one at h
  simp only at h
  split at h
  · simp at h
  · split at h
    · simp at h
    · split at h
      · simp at h
      · rename_i h1 h2 h3
        refine ⟨by omega, by omega, by omega, by omega, fun hg => ?_⟩
        have : ¬ (0 < e.value.size ∨ 0 < e.til) := fun h => h3 ⟨hg, h⟩
        omega

theorem bad1_zero {e : E} (h : bad1 e = 0) : good (one e) = 0 ∧ e.til ≠ 9223372036854775807 := by
  unfold bad1 at h
  split at h
  · rename_i h1; exact absurd h h1
  · split at h
    · simp at h
    · rename_i h1 h2
      exact ⟨by simpa using h1, h2⟩

theorem bad1_of {e : E} (h : good (one e) = 0) (ht : e.til ≠ 9223372036854775807) : bad1 e = 0 := by
  unfold bad1; rw [if_neg (by simp [h]), if_neg ht]

theorem bad_cons_ok {e : E} {r : List E} (h : bad1 e = 0) : bad (e :: r) = bad r := by simp [bad, h]
theorem bad_cons_no {e : E} {r : List E} (h : bad1 e ≠ 0) : bad (e :: r) = bad1 e := by simp [bad, h]
theorem bad_zero : ∀ {l : List E}, bad l = 0 → ∀ e ∈ l, bad1 e = 0
  | [], _ => by simp
  | x :: r, h => by
    by_cases hx : bad1 x = 0
    · rw [bad_cons_ok hx] at h
      intro e he
      rcases List.mem_cons.1 he with rfl | he
      · exact hx
      · exact bad_zero h e he
    · rw [bad_cons_no hx] at h
      exact absurd h hx
theorem bad_all : ∀ {l : List E}, (∀ e ∈ l, bad1 e = 0) → bad l = 0
  | [], _ => rfl
  | x :: r, h => by
    rw [bad_cons_ok (h x (List.mem_cons_self ..))]
    exact bad_all fun e he => h e (List.mem_cons_of_mem _ he)

theorem textB_len (s : ByteArray) (h : s.size ≤ 9223372036854775807) : (textB s).length ≤ 10 + s.size := by
  have := (enc_len (n := (s.size : Int)) (by omega) (by omega)).2
  simp only [textB, List.length_append, size_list]
  omega

theorem itemB_len {e : E} (h : bad1 e = 0) (hw : e.til ≤ 9223372036854775807) : (itemB e).length ≤ 606 := by
  obtain ⟨hg, ht⟩ := bad1_zero h
  obtain ⟨h1, h2, h3, h4, -⟩ := good_one_zero hg
  have hk := textB_len e.key (by omega)
  have hv := textB_len e.value (by omega)
  unfold itemB
  rw [List.length_append]
  split
  · have := (enc_len (n := 0) (by omega) (by omega)).2
    omega
  · have := (enc_len (n := e.til + 1) (by omega) (by omega)).2
    rw [List.length_append]
    omega

theorem allB_snoc (l : List E) (e : E) : allB (l ++ [e]) = allB l ++ itemB e := by simp [allB]

/-! ### reading -/

def rNum (l : List UInt8) (p : Nat) : Except Int (Int × Nat) :=
  if (vget l p).2.2 = 0 then .ok ((vget l p).1, (vget l p).2.1.toNat) else .error (vget l p).2.2
def rText (l : List UInt8) (p : Nat) : Except Int (ByteArray × Nat) :=
  if (vtext l p).2.2 = 0 then .ok (⟨(vtext l p).1.toArray⟩, (vtext l p).2.1.toNat) else .error (vtext l p).2.2
def rFin (e : E) (p : Nat) : Except Int (E × Nat) := if good (one e) = 0 then .ok (e, p) else .error (good (one e))
def rTail (l : List UInt8) (k : ByteArray) (n : Int) (p : Nat) : Except Int (E × Nat) :=
  if n < 0 then .error 4 else if n = 0 then rFin ⟨k, 0, true, ⟨#[]⟩, 0⟩ p else
    match rText l p with
    | .error c => .error c
    | .ok (v, q) => rFin ⟨k, 0, false, v, n - 1⟩ q
def rItem (l : List UInt8) (p : Nat) : Except Int (E × Nat) :=
  match rText l p with
  | .error c => .error c
  | .ok (k, p1) =>
    match rNum l p1 with
    | .error c => .error c
    | .ok (n, p2) => rTail l k n p2
def rItems (l : List UInt8) : Nat → Nat → List E → Except Int (List E × Nat)
  | 0, p, acc => .ok (acc, p)
  | k + 1, p, acc =>
    match rItem l p with
    | .error c => .error c
    | .ok (e, q) => rItems l k q (acc ++ [e])
def rEnd (l : List UInt8) : Except Int (List E × Nat) → Except Int (List E)
  | .error c => .error c
  | .ok (es, p) => if p < l.length then .error 4 else .ok es
def getOut (l : List UInt8) : Except Int (List E) :=
  match rNum l 0 with
  | .error c => .error c
  | .ok (n, p) => if 64 < n then .error 5 else if n < 0 then .error 4 else rEnd l (rItems l n.toNat p [])

theorem num_ok {l : List UInt8} {p q : Nat} {n : Int} (h : rNum l p = .ok (n, q)) :
    -9223372036854775808 ≤ n ∧ n ≤ 9223372036854775807 ∧ q ≤ l.length ∧ ∃ a r, l = a ++ (enc n ++ r) ∧ a.length = p ∧ q = p + (enc n).length := by
  unfold rNum at h
  split at h
  · rename_i h0
    obtain ⟨-, hp, k, hk1, hk10, hle, hb, hn0, hn1, he⟩ := vget_ok h0
    simp only [Except.ok.injEq, Prod.mk.injEq] at h
    obtain ⟨rfl, rfl⟩ := h
    rw [hb]
    have hlen : (enc (vget l p).1).length = k := by
      rw [he, List.length_take, List.length_drop, Int.toNat_natCast]; omega
    refine ⟨hn0, hn1, by omega, l.take p, (l.drop p).drop k, ?_, by rw [List.length_take]; omega, by rw [hlen]; omega⟩
    rw [he, Int.toNat_natCast, List.take_append_drop, List.take_append_drop]
  · cases h

theorem num_enc {n : Int} (h0 : -9223372036854775808 ≤ n) (h1 : n ≤ 9223372036854775807) (a r : List UInt8) : rNum (a ++ (enc n ++ r)) a.length = .ok (n, a.length + (enc n).length) := by
  have h := vget_enc h0 h1 a r
  rw [List.append_assoc] at h
  unfold rNum
  rw [h, if_pos rfl, Int.toNat_natCast]

theorem num_le {l : List UInt8} {p q : Nat} {n : Int} (h : rNum l p = .ok (n, q)) : q ≤ l.length := (num_ok h).2.2.1

/-- vtext, said by rNum -/
theorem text_num (l : List UInt8) (p : Nat) : rText l p =
    match rNum l p with
    | .error c => .error c
    | .ok (n, q) => if n < 0 then .error 4 else if 65535 < n then .error 5 else if (l.length : Int) - q < n then .error 3 else .ok (⟨((l.drop q).take n.toNat).toArray⟩, q + n.toNat) := by
  unfold rText rNum vtext
  by_cases h0 : (vget l p).2.2 = 0
  · obtain ⟨-, hp, k, hk1, hk10, hle, hb, hn0, hn1, he⟩ := vget_ok h0
    have hq : ((vget l p).2.1.toNat : Int) = (vget l p).2.1 := by omega
    simp only [h0, ne_eq, not_true_eq_false, if_false, if_true]
    rw [hq]
    split
    · rw [if_neg (by decide)]
    · split
      · rw [if_neg (by decide)]
      · split
        · rw [if_neg (by decide)]
        · rw [if_pos rfl]
          simp only [Except.ok.injEq, Prod.mk.injEq, true_and]
          omega
  · simp only [h0, ne_eq, not_false_eq_true, if_true, if_false]

theorem str_bytes (s : ByteArray) (r : List UInt8) (a : List UInt8) : (((a ++ (s.data.toList ++ r)).drop a.length).take s.size) = s.data.toList := by
  rw [List.drop_left, List.take_append_of_le_length (by rw [size_list]; exact Nat.le_refl _), List.take_of_length_le (by rw [size_list]; exact Nat.le_refl _)]

theorem text_ok {l : List UInt8} {p q : Nat} {s : ByteArray} (h : rText l p = .ok (s, q)) :
    s.size ≤ 65535 ∧ q ≤ l.length ∧ ∃ a r, l = a ++ (textB s ++ r) ∧ a.length = p ∧ q = p + (textB s).length := by
  rw [text_num] at h
  cases hn : rNum l p with
  | error c => rw [hn] at h; cases h
  | ok x =>
    obtain ⟨n, b⟩ := x
    rw [hn] at h
    simp only at h
    obtain ⟨-, -, hbl, a, r, hl, ha, hb⟩ := num_ok hn
    split at h
    · cases h
    · split at h
      · cases h
      · split at h
        · cases h
        · rename_i h1 h2 h3
          simp only [Except.ok.injEq, Prod.mk.injEq] at h
          obtain ⟨rfl, rfl⟩ := h
          have hlr : l.length = b + r.length := by rw [hl, hb, ← ha]; simp; omega
          have hd : l.drop b = r := by
            rw [hl, hb, ← ha, ← List.append_assoc, ← List.length_append, List.drop_left]
          rw [hd]
          have hs : (⟨(r.take n.toNat).toArray⟩ : ByteArray).size = n.toNat := by
            show (r.take n.toNat).toArray.size = _
            rw [List.size_toArray, List.length_take]; omega
          have hsi : (((⟨(r.take n.toNat).toArray⟩ : ByteArray).size : Nat) : Int) = n := by rw [hs]; omega
          refine ⟨by rw [hs]; omega, by omega, a, r.drop n.toNat, ?_, ha, ?_⟩
          · unfold textB
            rw [hsi, hl]
            simp
          · unfold textB
            rw [hsi, List.length_append, size_list, hs]
            omega

theorem text_enc (s : ByteArray) (hs : s.size ≤ 65535) (a r : List UInt8) : rText (a ++ (textB s ++ r)) a.length = .ok (s, a.length + (textB s).length) := by
  have h := num_enc (n := (s.size : Int)) (by omega) (by omega) a (s.data.toList ++ r)
  rw [text_num]
  unfold textB
  rw [List.append_assoc, h]
  simp only
  rw [if_neg (by omega), if_neg (by omega), if_neg (by simp; omega)]
  have hsb := str_bytes s r (a ++ enc (s.size : Int))
  rw [List.append_assoc, List.length_append] at hsb
  rw [Int.toNat_natCast, hsb]
  simp only [Except.ok.injEq, Prod.mk.injEq, List.length_append, size_list]
  exact ⟨trivial, by omega⟩

theorem fin_enc {e : E} (h : bad1 e = 0) (p : Nat) : rFin e p = .ok (e, p) := by unfold rFin; rw [if_pos (bad1_zero h).1]

theorem gone_eq {e : E} (h : bad1 e = 0) (hs : e.seq = 0) (hg : e.gone = true) : e = ⟨e.key, 0, true, ⟨#[]⟩, 0⟩ := by
  obtain ⟨h1, h2⟩ := (good_one_zero (bad1_zero h).1).2.2.2.2 hg
  have h3 : e.value = ⟨#[]⟩ := by
    apply str_ext
    rw [← size_list, List.length_eq_zero_iff] at h1
    rw [h1]
  obtain ⟨k, q, g, v, t⟩ := e
  simp only at hs hg h2 h3
  subst hs hg h2 h3
  rfl

theorem item_enc {e : E} (h : bad1 e = 0) (hs : e.seq = 0) (hw : e.til ≤ 9223372036854775807) (a r : List UInt8) :
    rItem (a ++ (itemB e ++ r)) a.length = .ok (e, a.length + (itemB e).length) := by
  obtain ⟨hg1, ht⟩ := bad1_zero h
  obtain ⟨h1, h2, h3, h4, h5⟩ := good_one_zero hg1
  unfold rItem
  by_cases hg : e.gone = true
  · have hB : itemB e = textB e.key ++ enc 0 := by unfold itemB; rw [if_pos hg]
    rw [hB]
    have e1 := text_enc e.key (by omega) a (enc 0 ++ r)
    have e2 := num_enc (n := 0) (by omega) (by omega) (a ++ textB e.key) r
    simp only [List.append_assoc, List.length_append] at e1 e2 ⊢
    rw [e1]
    simp only
    rw [e2]
    simp only [rTail, if_true]
    rw [if_neg (by omega), ← gone_eq h hs hg, fin_enc h]
    simp only [Except.ok.injEq, Prod.mk.injEq, true_and]
    omega
  · have hB : itemB e = textB e.key ++ (enc (e.til + 1) ++ textB e.value) := by unfold itemB; rw [if_neg hg]
    have hgf : e.gone = false := by simpa using hg
    have he : (⟨e.key, 0, false, e.value, e.til + 1 - 1⟩ : E) = e := by
      obtain ⟨k, q, g, v, t⟩ := e
      simp only at hs hgf
      subst hs hgf
      simp
    rw [hB]
    have e1 := text_enc e.key (by omega) a (enc (e.til + 1) ++ (textB e.value ++ r))
    have e2 := num_enc (n := e.til + 1) (by omega) (by omega) (a ++ textB e.key) (textB e.value ++ r)
    have e3 := text_enc e.value (by omega) (a ++ (textB e.key ++ enc (e.til + 1))) r
    simp only [List.append_assoc, List.length_append] at e1 e2 e3 ⊢
    rw [e1]
    simp only
    rw [e2]
    simp only [rTail]
    rw [if_neg (by omega), if_neg (by omega), show a.length + (textB e.key).length + (enc (e.til + 1)).length = a.length + ((textB e.key).length + (enc (e.til + 1)).length) by omega, e3]
    simp only
    rw [he, fin_enc h]
    simp only [Except.ok.injEq, Prod.mk.injEq, true_and]
    omega

theorem item_ok {l : List UInt8} {p q : Nat} {e : E} (h : rItem l p = .ok (e, q)) :
    bad1 e = 0 ∧ e.seq = 0 ∧ e.til ≤ 9223372036854775807 ∧ q ≤ l.length ∧ ∃ a r, l = a ++ (itemB e ++ r) ∧ a.length = p ∧ q = p + (itemB e).length := by
  unfold rItem at h
  cases hk : rText l p with
  | error c => rw [hk] at h; cases h
  | ok x =>
    obtain ⟨k, p1⟩ := x
    rw [hk] at h
    simp only at h
    obtain ⟨hks, -, a, r, hl, ha, hp1⟩ := text_ok hk
    cases hn : rNum l p1 with
    | error c => rw [hn] at h; cases h
    | ok x =>
      obtain ⟨n, p2⟩ := x
      rw [hn] at h
      simp only [rTail] at h
      obtain ⟨hn0, hn1, hp2l, a2, r2, hl2, ha2, hp2⟩ := num_ok hn
      have hc2 : a2 = a ++ textB k ∧ r = enc n ++ r2 := by
        rw [← List.append_assoc] at hl
        exact List.append_inj (hl2.symm.trans hl) (by rw [ha2, hp1, List.length_append, ha]) |>.imp id (fun h => h.symm)
      obtain ⟨rfl, rfl⟩ := hc2
      split at h
      · cases h
      · split at h
        · rename_i h1 h2
          unfold rFin at h
          split at h
          · rename_i hg
            simp only [Except.ok.injEq, Prod.mk.injEq] at h
            obtain ⟨rfl, rfl⟩ := h
            refine ⟨bad1_of hg (by simp), rfl, by simp, hp2l, a, r2, ?_, ha, ?_⟩
            · rw [hl, h2]; simp [itemB]
            · rw [hp2, hp1, h2]; simp [itemB]; omega
          · cases h
        · rename_i h1 h2
          cases hv : rText l p2 with
          | error c => rw [hv] at h; cases h
          | ok x =>
            obtain ⟨v, p3⟩ := x
            rw [hv] at h
            simp only at h
            obtain ⟨hvs, hp3l, a3, r3, hl3, ha3, hp3⟩ := text_ok hv
            have hc3 : a3 = a ++ textB k ++ enc n ∧ r2 = textB v ++ r3 := by
              rw [← List.append_assoc] at hl2
              exact List.append_inj (hl3.symm.trans hl2) (by rw [ha3, hp2, List.length_append, ha2]) |>.imp id (fun h => h.symm)
            obtain ⟨rfl, rfl⟩ := hc3
            unfold rFin at h
            split at h
            · rename_i hg
              simp only [Except.ok.injEq, Prod.mk.injEq] at h
              obtain ⟨rfl, rfl⟩ := h
              refine ⟨bad1_of hg (by simp only; omega), rfl, by simp only; omega, hp3l, a, r3, ?_, ha, ?_⟩
              · rw [hl]; simp [itemB]
              · rw [hp3, hp2, hp1]; simp [itemB]; omega
            · cases h

theorem items_enc : ∀ (es : List E), bad es = 0 → (∀ e ∈ es, e.seq = 0 ∧ e.til ≤ 9223372036854775807) → ∀ (a r : List UInt8) (acc : List E),
    rItems (a ++ (allB es ++ r)) es.length a.length acc = .ok (acc ++ es, a.length + (allB es).length)
  | [], _, _, a, r, acc => by simp [rItems, allB]
  | e :: es, h, hw, a, r, acc => by
    have he := bad_zero h e (List.mem_cons_self ..)
    have hi := item_enc he (hw e (List.mem_cons_self ..)).1 (hw e (List.mem_cons_self ..)).2 a (allB es ++ r)
    have hr := items_enc es (by rw [← bad_cons_ok he]; exact h) (fun x hx => hw x (List.mem_cons_of_mem _ hx)) (a ++ itemB e) r (acc ++ [e])
    have hA : allB (e :: es) = itemB e ++ allB es := rfl
    rw [hA]
    simp only [List.append_assoc, List.length_append, List.length_cons] at hi hr ⊢
    simp only [rItems]
    rw [hi]
    simp only
    rw [hr]
    simp only [List.cons_append, List.nil_append, Except.ok.injEq, Prod.mk.injEq, true_and]
    omega

theorem get_put {es : List E} (hn : es.length ≤ 64) (hb : bad es = 0) (hw : ∀ e ∈ es, e.til ≤ 9223372036854775807) (r : List UInt8) :
    getOut (putB es ++ r) = if r = [] then .ok (es.map z) else .error 4 := by
  have hB : putB es = enc es.length ++ allB (es.map z) := by
    unfold putB allB
    rw [List.flatMap_map]
    rfl
  have e1 := num_enc (n := (es.length : Int)) (by omega) (by omega) [] (allB (es.map z) ++ r)
  have hbz : bad (es.map z) = 0 := bad_all fun e he => by
    obtain ⟨x, hx, rfl⟩ := List.mem_map.1 he
    rw [bad1_z]; exact bad_zero hb x hx
  have e2 := items_enc (es.map z) hbz (fun e he => by
    obtain ⟨x, hx, rfl⟩ := List.mem_map.1 he
    exact ⟨rfl, hw x hx⟩) (enc es.length) r []
  rw [List.length_map] at e2
  unfold getOut
  rw [hB]
  simp only [List.nil_append, List.length_nil, Nat.zero_add, List.append_assoc] at e1 e2 ⊢
  rw [e1]
  simp only
  rw [if_neg (by omega), if_neg (by omega), Int.toNat_natCast, e2]
  simp only [rEnd, List.length_append]
  by_cases hr : r = []
  · subst hr
    rw [if_neg (by simp), if_pos rfl]
  · have := List.length_pos_iff.2 hr
    rw [if_pos (by omega), if_neg hr]

theorem putB_pos (es : List E) : 0 < (putB es).length := by
  have := Go.Lib.uvarint_pos (Go.Lib.zigzag (es.length : Int))
  unfold putB enc
  rw [List.length_append]; omega
end BK
end Go.Proofs.YtjkofciohehgfaaGreatDoor.L7


/- Good, and what one item comes to: the walks of Good (three of them), bytesOf, text. -/
namespace Go.Proofs.YtjkofciohehgfaaGreatDoor.L7
open Go.RowKit
open SK

theorem text_none (a : ByteArray) : (a.toList == ([] : List UInt8)) = decide (a.size = 0) := by
  rw [Bool.eq_iff_iff, beq_iff_eq, decide_eq_true_eq, ByteArray.toList_eq, ← size_list, List.length_eq_zero_iff]

set_option maxRecDepth 100000 in
set_option maxHeartbeats 1000000 in
theorem good_any (a : E) (w : World) (ha : a.wf) :
    Calls Tryz.prog 26 #[a.val] w fun e w' => e = .returned (.int .i64 (good a)) ∧ Below w.heap.size w w' := by
  obtain ⟨k, q, g, v, t⟩ := a
  have hk0 := text_none k
  have hv0 := text_none v
  have hks := ha.key
  have hvs := ha.value
  simp only at hks hvs
  clear ha
  obtain ⟨G, hG⟩ : ∃ G, good ⟨k, q, g, v, t⟩ = G := ⟨_, rfl⟩
  rw [hG]
  unfold good at hG
  simp only at hG
  simp only [E.val]
  have hik : ((64 : Int) < (k.size : Int)) ↔ 64 < k.size := by omega
  have hiv : ((512 : Int) < (v.size : Int)) ↔ 512 < v.size := by omega
  by_cases h1 : 64 < k.size ∨ 512 < v.size
  · rw [if_pos h1] at hG
    subst hG
    go_enter Tryz.func26, Tryz.ntmps26
    rcases Decidable.em (64 < k.size) with hx | hx
    · have hxi : (64 : Int) < (k.size : Int) := by omega
      go_wp2
      go_ret
      exact ⟨rfl, (Below.refl _ _).alloc (Nat.le_refl _) _⟩
    · have hy : 512 < v.size := by omega
      have hxi : ¬ (64 : Int) < (k.size : Int) := by omega
      have hyi : (512 : Int) < (v.size : Int) := by omega
      go_wp2
      go_ret
      exact ⟨rfl, (Below.refl _ _).alloc (Nat.le_refl _) _⟩
  · rw [if_neg h1] at hG
    have hxi : ¬ (64 : Int) < (k.size : Int) := by omega
    have hyi : ¬ (512 : Int) < (v.size : Int) := by omega
    by_cases h2 : k.size = 0 ∨ q < 1 ∨ t < 0
    · rw [if_pos h2] at hG
      subst hG
      rcases Decidable.em (k.size = 0) with hx | hx
      · have hk00 : (k.toList == ([] : List UInt8)) = true := by rw [hk0]; simp [hx]
        have hxi0 : (k.size : Int) = 0 := by omega
        have hxb : ((k.size : Int) == 0) = true := by rw [beq_iff_eq]; omega
        clear hk0 hik hiv h1 h2 hx
        go_enter Tryz.func26, Tryz.ntmps26
        go_wp2
        go_ret
        exact ⟨rfl, (Below.refl _ _).alloc (Nat.le_refl _) _⟩
      · have hk00 : (k.toList == ([] : List UInt8)) = false := by rw [hk0]; simp [hx]
        have hxi0 : ¬ (k.size : Int) = 0 := by omega
        have hxb : ((k.size : Int) == 0) = false := beq_eq_false_iff_ne.2 (by omega)
        rcases Decidable.em (q < 1) with hq | hq
        · have hq0 : q ≤ 0 := by omega
          clear hk0 hik hiv h1 h2 hx
          go_enter Tryz.func26, Tryz.ntmps26
          go_wp2
          go_ret
          exact ⟨rfl, (Below.refl _ _).alloc (Nat.le_refl _) _⟩
        · have ht : t < 0 := by omega
          have hq0 : ¬ q ≤ 0 := by omega
          clear hk0 hik hiv h1 h2 hx
          go_enter Tryz.func26, Tryz.ntmps26
          go_wp2
          go_ret
          exact ⟨rfl, (Below.refl _ _).alloc (Nat.le_refl _) _⟩
    · rw [if_neg h2] at hG
      have hk00 : (k.toList == ([] : List UInt8)) = false := by rw [hk0]; exact decide_eq_false (by omega)
      have hxi0 : ¬ (k.size : Int) = 0 := by omega
      have hxb : ((k.size : Int) == 0) = false := beq_eq_false_iff_ne.2 (by omega)
      have hq : ¬ q < 1 := by omega
      have hq0 : ¬ q ≤ 0 := by omega
      have ht : ¬ t < 0 := by omega
      cases g with
      | false =>
        simp only [Bool.false_eq_true, false_and, if_false] at hG
        subst hG
        clear hk0 hik hiv h1 h2 hv0
        go_enter Tryz.func26, Tryz.ntmps26
        go_wp2
        go_ret
        exact ⟨rfl, (Below.refl _ _).alloc (Nat.le_refl _) _⟩
      | true =>
        by_cases h3 : 0 < v.size ∨ 0 < t
        · rw [if_pos ⟨rfl, h3⟩] at hG
          subst hG
          rcases Decidable.em (v.size = 0) with hx | hx
          · have hv00 : (v.toList == ([] : List UInt8)) = true := by rw [hv0]; simp [hx]
            have hvi : decide (0 < v.size) = false := decide_eq_false (by omega)
            have ht1 : 0 < t := by omega
            have ht2 : ¬ t = 0 := by omega
            have ht3 : (t == 0) = false := by simp; omega
            clear hk0 hik hiv h1 h2 hv0 h3 hx
            go_enter Tryz.func26, Tryz.ntmps26
            go_wp2
            go_ret
            exact ⟨rfl, (Below.refl _ _).alloc (Nat.le_refl _) _⟩
          · have hv00 : (v.toList == ([] : List UInt8)) = false := by rw [hv0]; simp [hx]
            have hvi : decide (0 < v.size) = true := decide_eq_true (by omega)
            clear hk0 hik hiv h1 h2 hv0 h3 hx
            go_enter Tryz.func26, Tryz.ntmps26
            go_wp2
            go_ret
            exact ⟨rfl, (Below.refl _ _).alloc (Nat.le_refl _) _⟩
        · rw [if_neg (fun h => h3 h.2)] at hG
          subst hG
          have hv00 : (v.toList == ([] : List UInt8)) = true := by rw [hv0]; exact decide_eq_true (by omega)
          have hvi : decide (0 < v.size) = false := decide_eq_false (by omega)
          have ht1 : ¬ 0 < t := by omega
          obtain rfl : t = 0 := by omega
          clear hk0 hik hiv h1 h2 hv0 h3
          go_enter Tryz.func26, Tryz.ntmps26
          go_wp2
          go_ret
          exact ⟨rfl, (Below.refl _ _).alloc (Nat.le_refl _) _⟩

/-- batch.good: of the item with the Seq 1 -/
theorem bgood_any (a : E) (w : World) (ha : a.wf) :
    Calls Tryz.prog 29 #[a.val] w fun e w' => e = .returned (.int .i64 (good (BK.one a))) ∧ Below w.heap.size w w' := by
  have HG : Hid (∀ W, Calls Tryz.prog 26 #[(BK.one a).val] W fun r w' => r = .returned (.int .i64 (good (BK.one a))) ∧ Below W.heap.size W w') := fun W => good_any (BK.one a) W ⟨ha.key, ha.value, ⟨by simp [BK.one], by simp [BK.one]⟩, ha.til⟩
  obtain ⟨G, hG⟩ : ∃ G, good (BK.one a) = G := ⟨_, rfl⟩
  rw [hG] at HG ⊢
  clear hG
  obtain ⟨k, q, g, v, t⟩ := a
  simp only [E.val, BK.one] at HG ⊢
  clear ha
  go_enter Tryz.func29, Tryz.ntmps29
  go_wp2_with fail
  refine (HG.out _).mono ?_
  rintro e w1 ⟨rfl, hb1⟩
  go_wp2
  go_ret
  exact ⟨rfl, ((Below.refl _ w).alloc (Nat.le_refl _) _).trans (hb1.mono (by simp))⟩
end Go.Proofs.YtjkofciohehgfaaGreatDoor.L7


/- bytesOf, the document's Good and text: the walks. -/
namespace Go.Proofs.YtjkofciohehgfaaGreatDoor.L7
open Go.RowKit
open SK

set_option maxRecDepth 100000 in
set_option maxHeartbeats 1000000 in
/-- an item's bytes -/
theorem bytesOf_any (a : E) (w : World) (hw : a.wf) (hb : BK.bad1 a = 0) :
    Calls Tryz.prog 30 #[a.val] w fun e w' => e = .returned (.string ⟨(BK.itemB a).toArray⟩) ∧ Below w.heap.size w w' := by
  obtain ⟨hg1, ht⟩ := BK.bad1_zero hb
  obtain ⟨h1, h2, h3, h4, -⟩ := BK.good_one_zero hg1
  have hti := hw.til
  have lk := BK.textB_len a.key (by omega)
  have lv := BK.textB_len a.value (by omega)
  have HK := Lib.hid (fun W => putText_any a.key W (by omega))
  have HV := Lib.hid (fun W => putText_any a.value W (by omega))
  simp only [BK.textEnc_eq] at HK HV
  obtain ⟨TK, hTK⟩ : ∃ TK : ByteArray, TK = ⟨(BK.textB a.key).toArray⟩ := ⟨_, rfl⟩
  obtain ⟨TV, hTV⟩ : ∃ TV : ByteArray, TV = ⟨(BK.textB a.value).toArray⟩ := ⟨_, rfl⟩
  have sk : TK.size ≤ 74 := by
    rw [hTK]; show (BK.textB a.key).toArray.size ≤ 74; rw [List.size_toArray]; omega
  have sv : TV.size ≤ 522 := by
    rw [hTV]; show (BK.textB a.value).toArray.size ≤ 522; rw [List.size_toArray]; omega
  rw [← hTK] at HK
  rw [← hTV] at HV
  by_cases hg : a.gone = true
  · have HE : Hid ((TK ++ ⟨(VM.enc 0).toArray⟩ : ByteArray) = ⟨(BK.itemB a).toArray⟩) := Lib.hid (by
      apply ByteArray.ext
      apply Array.toList_inj.1
      rw [hTK]
      simp [BK.itemB, hg])
    have HN := Lib.hid (fun W => put_any 0 W (by omega) (by omega))
    have hn0 := (VM.enc_len (n := 0) (by omega) (by omega)).2
    obtain ⟨N, hN⟩ : ∃ N : ByteArray, N = ⟨(VM.enc 0).toArray⟩ := ⟨_, rfl⟩
    have sn : N.size ≤ 10 := by rw [hN]; show (VM.enc 0).toArray.size ≤ 10; rw [List.size_toArray]; omega
    rw [← hN] at HN HE
    obtain ⟨R, hR⟩ : ∃ R : ByteArray, ⟨(BK.itemB a).toArray⟩ = R := ⟨_, rfl⟩
    rw [hR] at HE ⊢
    clear hR hN hTK hTV lk lv hw hb hg1 ht h1 h2 h3 h4 hti hn0
    obtain ⟨k, q, g, v, t⟩ := a
    simp only [E.val] at HK HV hg ⊢
    subst hg
    go_enter Tryz.func30, Tryz.ntmps30
    go_wp2_with fail
    refine (HK.out _).mono ?_
    rintro e w1 ⟨rfl, hb1⟩
    go_wp2_with fail
    refine (HN.out _).mono ?_
    rintro e w2 ⟨rfl, hb2⟩
    go_wp2
    go_ret
    exact ⟨by rw [HE.out]; rfl, (((Below.refl _ w).alloc (Nat.le_refl _) _).trans (hb1.mono (by simp))).trans (hb2.mono (by have := hb1.size; simp at this; omega))⟩
  · have hgf : a.gone = false := by simpa using hg
    have HN := Lib.hid (fun W => put_any (a.til + 1) W (by omega) (by omega))
    have hn0 := (VM.enc_len (n := a.til + 1) (by omega) (by omega)).2
    obtain ⟨N, hN⟩ : ∃ N : ByteArray, N = ⟨(VM.enc (a.til + 1)).toArray⟩ := ⟨_, rfl⟩
    have HE : Hid ((TK ++ N ++ TV : ByteArray) = ⟨(BK.itemB a).toArray⟩) := Lib.hid (by
      apply ByteArray.ext
      apply Array.toList_inj.1
      rw [hTK, hTV, hN]
      simp [BK.itemB, hgf])
    have sn : N.size ≤ 10 := by rw [hN]; show (VM.enc (a.til + 1)).toArray.size ≤ 10; rw [List.size_toArray]; omega
    rw [← hN] at HN
    obtain ⟨R, hR⟩ : ∃ R : ByteArray, ⟨(BK.itemB a).toArray⟩ = R := ⟨_, rfl⟩
    rw [hR] at HE ⊢
    have htl : a.til < 9223372036854775807 := by omega
    clear hR hN hTK hTV lk lv hw hb hg1 ht h1 h2 h3 hti hn0 hg
    obtain ⟨k, q, g, v, t⟩ := a
    simp only [E.val] at HK HV HN HE hgf htl h4 ⊢
    subst hgf
    have hwr : IntKind.i64.wrap (t + 1) = t + 1 := IntWalk.i64_in _ ⟨by omega, by omega⟩
    have k1 : ¬ 9223372036854775807 < TK.size + N.size := by omega
    have k2 : ¬ 9223372036854775807 < TK.size + N.size + TV.size := by omega
    have hrow : (w.alloc (.cells #[.string k, .int .i64 q, .bool false, .string v, .int .i64 t] 45)).heap[w.heap.size]? = some (.cells #[.string k, .int .i64 q, .bool false, .string v, .int .i64 t] 45 (0, 0)) := heap_alloc_new w _
    have hk0 : Below w.heap.size w (w.alloc (.cells #[.string k, .int .i64 q, .bool false, .string v, .int .i64 t] 45)) := (Below.refl _ w).alloc (Nat.le_refl _) _
    go_enter Tryz.func30, Tryz.ntmps30
    go_wp2_with fail
    generalize w.alloc (.cells #[.string k, .int .i64 q, .bool false, .string v, .int .i64 t] 45) = w0 at hrow hk0 ⊢
    obtain ⟨x, hx⟩ : ∃ x, w.heap.size = x := ⟨_, rfl⟩
    rw [hx] at hrow hk0 ⊢
    have hlt := (Array.getElem?_eq_some_iff.1 hrow).1
    have HX := Lib.hid hx
    have HR0 := Lib.hid hrow
    have HK0 := Lib.hid hk0
    have HZ0 : Hid (x < w0.heap.size) := Lib.hid hlt
    obtain ⟨e0, e1, e2⟩ : w0.cell? ⟨x, 0, none⟩ = some (.string k) ∧ w0.cell? ⟨x, 3, none⟩ = some (.string v) ∧ w0.cell? ⟨x, 4, none⟩ = some (.int .i64 t) := ⟨cell_of_row _ _ _ _ _ _ HR0.out, cell_of_row _ _ _ _ _ _ HR0.out, cell_of_row _ _ _ _ _ _ HR0.out⟩
    clear hrow hk0 hlt hx
    go_region_held3 (fun w' => w'.cell? ⟨x, 0, none⟩ = some (.string k) ∧ w'.cell? ⟨x, 3, none⟩ = some (.string v) ∧ w'.cell? ⟨x, 4, none⟩ = some (.int .i64 t))
      (first | go_keep | exact HS1.out | exact HS2.out | exact HS3.out | fail)
      (first
        | (go_at_call 74; refine (HK.out _).mono ?_; rintro r w1 ⟨rfl, hb⟩
           have HR1 := Lib.hid ((hb.block x (by have := HZ0.out; simp; omega)).trans HR0.out)
           have HZ1 : Hid (x < w1.heap.size) := Lib.hid (Array.getElem?_eq_some_iff.1 HR1.out).1
           have HS1 : Hid (w1.cell? ⟨x, 0, none⟩ = some (.string k) ∧ w1.cell? ⟨x, 3, none⟩ = some (.string v) ∧ w1.cell? ⟨x, 4, none⟩ = some (.int .i64 t)) := Lib.hid ⟨cell_of_row _ _ _ _ _ _ HR1.out, cell_of_row _ _ _ _ _ _ HR1.out, cell_of_row _ _ _ _ _ _ HR1.out⟩
           have HK1 : Hid (Below x w w1) := Lib.hid (Below.trans (Below.drew HK0.out) (hb.mono (by have := HZ0.out; simp; omega)))
           clear hb)
        | (go_at_call 28; refine (HN.out _).mono ?_; rintro r w2 ⟨rfl, hb⟩
           have HR2 := Lib.hid ((hb.block x (by have := HZ1.out; simp; omega)).trans HR1.out)
           have HZ2 : Hid (x < w2.heap.size) := Lib.hid (Array.getElem?_eq_some_iff.1 HR2.out).1
           have HS2 : Hid (w2.cell? ⟨x, 0, none⟩ = some (.string k) ∧ w2.cell? ⟨x, 3, none⟩ = some (.string v) ∧ w2.cell? ⟨x, 4, none⟩ = some (.int .i64 t)) := Lib.hid ⟨cell_of_row _ _ _ _ _ _ HR2.out, cell_of_row _ _ _ _ _ _ HR2.out, cell_of_row _ _ _ _ _ _ HR2.out⟩
           have HK2 : Hid (Below x w w2) := Lib.hid (Below.trans HK1.out (hb.mono (by have := HZ1.out; simp; omega)))
           clear hb)
        | (go_at_call 74; refine (HV.out _).mono ?_; rintro r w3 ⟨rfl, hb⟩
           have HR3 := Lib.hid ((hb.block x (by have := HZ2.out; simp; omega)).trans HR2.out)
           have HS3 : Hid (w3.cell? ⟨x, 0, none⟩ = some (.string k) ∧ w3.cell? ⟨x, 3, none⟩ = some (.string v) ∧ w3.cell? ⟨x, 4, none⟩ = some (.int .i64 t)) := Lib.hid ⟨cell_of_row _ _ _ _ _ _ HR3.out, cell_of_row _ _ _ _ _ _ HR3.out, cell_of_row _ _ _ _ _ _ HR3.out⟩
           have HK3 : Hid (Below x w w3) := Lib.hid (Below.trans HK2.out (hb.mono (by have := HZ2.out; simp; omega)))
           clear hb)
        | fail)
    all_goals
      clear HS1 HS2 HS3
      go_wp2
      go_ret
      exact ⟨by rw [HE.out]; rfl, by rw [HX.out]; exact HK3.out⟩
end Go.Proofs.YtjkofciohehgfaaGreatDoor.L7


/- A strings.Builder that a call has made itself: copyCheck, WriteString, String. -/
namespace Go.Proofs.YtjkofciohehgfaaGreatDoor.L7
open Go.RowKit

/-- the builder in block b, all it has at or above B, holds these bytes -/
abbrev Bld (B b : Nat) (l : List UInt8) (w : World) : Prop := Lib.IsBuilder 70 5 B b (Lib.byteCells l) w

theorem bld_size : (Tryz.prog.info? 70).map (·.size) = some 2 := by kernel_rfl
theorem bld_lies : liesAt Tryz.prog Tryz.prog.depth 70 (2 / Tryz.prog.cellsOf 70) 0 70 1 = true := by kernel_rfl

theorem bld_same (w : World) (b : Nat) : (binOp .neq 67 (.pointer (some ⟨b, 0, none⟩)) (.pointer (some ⟨b, 0, none⟩))).run Tryz.prog w = .ok (.bool false) w := by
  obtain ⟨j, hj, -⟩ := Option.map_eq_some_iff.1 bld_size
  exact Lib.run_neq_ptr_same w _ Tryz.underlying67 hj

set_option maxRecDepth 100000 in
theorem copyCheck_any (B b : Nat) (bs : List Value) (w : World) (h : Lib.IsBuilder 70 5 B b bs w) :
    Calls Tryz.prog 72 #[.pointer (some ⟨b, 0, none⟩)] w fun e w' => e = .returned (.tuple #[]) ∧ Lib.BuilderAt 70 5 B b (.pointer (some ⟨b, 0, none⟩)) bs w' ∧ Below B w w' := by
  have hsm := bld_same w b
  rcases h with h | h
  · obtain ⟨j, hj, hjs⟩ := Option.map_eq_some_iff.1 bld_size
    have hc := h.cell0
    have hz := h.frozen0
    have hv1 : (convert 67 165 (.pointer (some ⟨b, 0, none⟩))).run Tryz.prog w = .ok (.pointer (some ⟨b, 0, none⟩)) w :=
      Lib.run_to_unsafe w ⟨b, 0, none⟩ Tryz.underlying67 Tryz.underlying165 hj (by rw [hjs]; decide) h.shape (Nat.zero_lt_succ 1)
    have hv2 : (convert 165 67 (.pointer (some ⟨b, 0, none⟩))).run Tryz.prog w = .ok (.pointer (some ⟨b, 0, none⟩)) w :=
      Lib.run_from_unsafe w ⟨b, 0, none⟩ Tryz.underlying165 Tryz.underlying67 hj h.shape bld_lies
    have hne : (callFunc 108 #[.pointer (some ⟨b, 0, none⟩)]).run Tryz.prog w = .ok (.value (.pointer (some ⟨b, 0, none⟩))) w := by
      rw [run_callFunc_extern Tryz.func108 (by kernel_rfl) (by kernel_rfl) (by kernel_rfl) (e := Extern.AbiNoEscape.same) (by kernel_rfl), Lib.run_noEscape]
      rfl
    go_enter Tryz.func72, Tryz.ntmps72
    go_wp2
    go_end0
    exact ⟨rfl, h.used _, (Below.refl B w).setCell (p := ⟨b, 0, none⟩) h.1 _⟩
  · have hc := h.cell0
    go_enter Tryz.func72, Tryz.ntmps72
    go_wp2
    go_end0
    exact ⟨rfl, h, Below.refl B _⟩

theorem str_cells (l : List UInt8) : Lib.strCells ⟨l.toArray⟩ = Lib.byteCells l := by simp [Lib.strCells, Lib.byteCells]
theorem cells_app (a b : List UInt8) : Lib.byteCells a ++ Lib.byteCells b = Lib.byteCells (a ++ b) := by simp [Lib.byteCells]

set_option maxRecDepth 100000 in
set_option maxHeartbeats 1000000 in
theorem write_any (B b : Nat) (l m : List UInt8) (w : World) (h : Bld B b l w) (hm : l.length + m.length ≤ 1000000) (hB : B ≤ w.heap.size) :
    Calls Tryz.prog 27 #[.pointer (some ⟨b, 0, none⟩), .string ⟨m.toArray⟩] w fun e w' => e = .returned (.tuple #[.int .i64 m.length, .nilIface]) ∧ Bld B b (l ++ m) w' ∧ Below B w w' := by
  have HC := Lib.hid (copyCheck_any B b (Lib.byteCells l) w h)
  obtain ⟨i0, hi, hz0, hz1, hz2⟩ := info_parts info_u8
  have hms : (⟨m.toArray⟩ : ByteArray).size = m.length := by show m.toArray.size = _; rw [List.size_toArray]
  obtain ⟨S, hS⟩ : ∃ S : ByteArray, (⟨m.toArray⟩ : ByteArray) = S := ⟨_, rfl⟩
  have HSC : Hid (Lib.byteCells l ++ Lib.strCells S = Lib.byteCells (l ++ m)) := Lib.hid (by rw [← hS, str_cells, cells_app])
  rw [hS] at hms ⊢
  rw [← hms]
  rw [← hms] at hm
  have HMS := Lib.hid hms
  have hll := Lib.byteCells_length l
  obtain ⟨bs, hbs⟩ : ∃ bs, Lib.byteCells l = bs := ⟨_, rfl⟩
  rw [hbs] at HC hll HSC
  have HLL := Lib.hid hll
  clear hbs hS hms h
  go_enter Tryz.func27, Tryz.ntmps27
  go_wp2_with fail
  refine HC.out.mono ?_
  rintro e w1 ⟨rfl, h1, hb1⟩
  obtain ⟨hBb, v, hbk, hown, hne⟩ := h1
  have c0 : w1.cell? ⟨b, 0, none⟩ = some (.pointer (some ⟨b, 0, none⟩)) := by rw [Lib.cell_of_heap hbk]; rfl
  have c1 : w1.cell? ⟨b, 1, none⟩ = some v := by rw [Lib.cell_of_heap hbk]; rfl
  clear hll HC
  go_wp2_with (at_builtin; refine Lib.wpList_append_own_string _ rfl _ _ 68 9 rfl B 5 i0 Tryz.underlying68 Tryz.underlying9 hi hz0 hz1 hz2 _ _ _ rfl hown S rfl ?c3 ?c4 ?c5 ?_)
  case c3 => have := HLL.out; unfold maxLen; omega
  case c4 => have := HLL.out; omega
  case c5 => have := hb1.size; omega
  intro v' w2 hown' hgrow _
  have hlt : b < w1.heap.size := (Array.getElem?_eq_some_iff.1 hbk).1
  have hb2 : w2.heap[b]? = some (.cells #[.pointer (some ⟨b, 0, none⟩), v] 70 (0, 0)) := by
    rw [hgrow.block b hlt (fun e => hne e.symm)]
    exact hbk
  have d1 : w2.cell? ⟨b, 1, none⟩ = some v := by rw [Lib.cell_of_heap hb2]; rfl
  have f1 : w2.frozen? ⟨b, 1, none⟩ = false := Lib.frozen_of_heap hb2 1
  have hbel : Below B w w2 := hb1.grown hgrow (by have := hb1.size; omega) (fun k hk => (hown.lt k hk).1)
  have hput : Lib.BuilderAt 70 5 B b (.pointer (some ⟨b, 0, none⟩)) (Lib.byteCells (l ++ m)) (w2.setCell ⟨b, 1, none⟩ v') := by
    rw [← HSC.out]
    exact Lib.BuilderAt.put (T := 70) (e := 5) hBb hb2 (bs' := bs ++ Lib.strCells S) (by simpa [Lib.strCells_length] using hown') (by decide)
  obtain ⟨ao, n', cap, rfl⟩ : ∃ ao n' cap, v' = .slice ao n' cap := by
    rcases hown'.2 with ⟨hv, _⟩ | ⟨g, cap, cur, hv, _⟩
    · exact ⟨_, _, _, hv⟩
    · exact ⟨_, _, _, hv⟩
  clear hgrow hown hown'
  go_wp2
  go_ret2
  exact ⟨rfl, Or.inr hput, hbel.setCell (p := ⟨b, 1, none⟩) hBb _⟩

set_option maxRecDepth 100000 in
set_option maxHeartbeats 1000000 in
theorem bstring_any (B b : Nat) (l : List UInt8) (w : World) (h : Bld B b l w) (h0 : l ≠ []) :
    Calls Tryz.prog 31 #[.pointer (some ⟨b, 0, none⟩)] w fun e w' => e = .returned (.string ⟨l.toArray⟩) ∧ Below B w w' := by
  obtain ⟨p, hBb, v, hbk, hown, hne⟩ : ∃ p, Lib.BuilderAt 70 5 B b p (Lib.byteCells l) w := by
    rcases h with h | h
    · exact ⟨_, h⟩
    · exact ⟨_, h⟩
  have hl0 : l.length ≠ 0 := by simpa using h0
  rw [Lib.byteCells_length] at hown
  rcases hown.2 with ⟨-, hz⟩ | ⟨g, cap, cur, rfl, hbg, hg, hnc, hcm, hcs, htk⟩
  · exact absurd hz hl0
  have hSD : (Builtin.unsafeSliceData_ #[68] 124 #[.slice (some ⟨g, 0, none⟩) l.length cap]).run Tryz.prog w.drew = .ok (.pointer (some ⟨g, 0, none⟩)) w.drew :=
    Lib.run_unsafeSliceData_row _ _ _ _ _ _ (by omega)
  have hUS : (Builtin.unsafeString_ #[124, 3] 9 #[.pointer (some ⟨g, 0, none⟩), .int .i64 l.length]).run Tryz.prog w.drew = .ok (.string ⟨l.toArray⟩) (w.drew.freeze ⟨g, 0, none⟩ l.length) := by
    refine Lib.run_unsafeString_row w.drew 124 3 9 5 Tryz.underlying124 (by kernel_rfl) g cur.size (by have hg' : w.drew.heap[g]? = some (.cells cur 5 (0, 0)) := hg; simp [World.shape?, hg']) l h0 (by omega) (by unfold maxLen at hcm; omega) ?_
    intro j x hx
    exact hown.cells (g := g) rfl j (.int .u8 x.toNat) (by simp [Lib.byteCells, hx])
  have c1 : w.drew.cell? ⟨b, 1, none⟩ = some (.slice (some ⟨g, 0, none⟩) l.length cap) := by
    have h' : w.drew.heap[b]? = some (.cells #[p, .slice (some ⟨g, 0, none⟩) l.length cap] 70 (0, 0)) := hbk
    rw [Lib.cell_of_heap h']; rfl
  clear hown hcs htk hl0 hne
  go_enter Tryz.func31, Tryz.ntmps31
  go_wp2
  go_region
  all_goals (go_wp2; go_ret; exact ⟨rfl, Lib.below_freeze (Below.drew (Below.refl B w)) (p := ⟨g, 0, none⟩) hbg _⟩)

theorem bld_new (w : World) : Bld w.heap.size w.heap.size [] (w.alloc (.cells #[.pointer none, .slice none 0 0] 70)) := Lib.fresh_isBuilder _ _ w
end Go.Proofs.YtjkofciohehgfaaGreatDoor.L7


/- Plain mathematics of layer 1: the bytes of a number are read back, and no other bytes are read. No program here. -/
namespace Go.Proofs.YtjkofciohehgfaaGreatDoor.L11.VM
open Go.Lib

/-- the bytes of a number -/
def enc (n : Int) : List UInt8 := uvarint (zigzag n)

/-- the length of a number's bytes -/
theorem enc_len {n : Int} (h0 : -9223372036854775808 ≤ n) (h1 : n ≤ 9223372036854775807) : 1 ≤ (enc n).length ∧ (enc n).length ≤ 10 :=
  ⟨uvarint_pos _, uvarint_length64 (zigzag_lt h0 h1)⟩

end Go.Proofs.YtjkofciohehgfaaGreatDoor.L11.VM


/- The bits of layer 1's turned numbers, as the code computes them. No program here. -/
namespace Go.Proofs.YtjkofciohehgfaaGreatDoor.L11.VM
open Go.Lib Go.RowKit

theorem u64_xor_zero (a : Nat) (ha : a < 18446744073709551616) : bits .xor .u64 (a : Int) 0 = a := by
  have h := bits_xor_u64_nat a 0 ha (by decide)
  simpa using h

theorem u64_xor_comm (a b : Int) : bits .xor .u64 a b = bits .xor .u64 b a := by
  show IntKind.u64.wrap ((BitVec.ofInt 64 a ^^^ BitVec.ofInt 64 b).toNat : Int) = IntKind.u64.wrap ((BitVec.ofInt 64 b ^^^ BitVec.ofInt 64 a).toNat : Int)
  rw [BitVec.xor_comm]

theorem turn_pos {n : Int} (h0 : 0 ≤ n) (h1 : n ≤ 9223372036854775807) : bits .xor .u64 (n * 2) (n / 9223372036854775808) = zigzag n := by
  have e : n / 9223372036854775808 = 0 := by omega
  have e2 : n * 2 = ((zigzag n : Nat) : Int) := (zigzag_nonneg h0).symm
  rw [e, e2, u64_xor_zero _ (zigzag_lt (by omega) h1)]

theorem turn_neg {n : Int} (h0 : -9223372036854775808 ≤ n) (h1 : n < 0) :
    bits .xor .u64 (IntKind.u64.wrap (IntKind.u64.wrap n * 2)) (IntKind.u64.wrap (n / 9223372036854775808)) = zigzag n := by
  have e : n / 9223372036854775808 = -1 := by omega
  have e2 : IntKind.u64.wrap (-1) = IntKind.u64.max := by decide
  rw [e, e2, u64_xor_comm, zigzag_neg h0 h1]

end Go.Proofs.YtjkofciohehgfaaGreatDoor.L11.VM


