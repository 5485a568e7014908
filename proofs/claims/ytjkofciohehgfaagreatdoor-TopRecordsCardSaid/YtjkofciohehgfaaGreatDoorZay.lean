/- Texts joined by bundle.py: YTKit, YTSm, YTClone, YTOp, YTNOp, YTTwo, YTLs. -/
import Derived.Test.YtjkofciohehgfaaGreatDoorRows
import Derived.WalkKit
import Derived.IntWalk
import Derived.Laws.Rows
import Derived.Lib.Hide
import Derived.Lib.SlBytesRow
import Derived.Lib.BufferWrite
import Derived.Lib.BufferRead
import Derived.Lib.UnsafeStr
import Derived.Laws.MakeOwn
import Derived.OwnWalk
import Derived.WalkSmall
import Derived.WalkLawsBesides
import Derived.Deep.AppendLies
import Derived.Deep.RegionHeld3
import Derived.BigQuiet
import Derived.Laws.StructEq
import Derived.WideAt
import Derived.WideShapes
import Derived.ProofKit
import Derived.OpenShut
import Derived.JoinedCond
import Derived.Deep.Slices
import Derived.Deep.Fields
import Derived.ChangeSame
import Derived.SizedLaws
import Derived.Lib.SmallJoins
import Derived.Deep.Strs
import Derived.Deep.CondSized
import Derived.Deep.QuietTactic
import Derived.Deep.DrawnRows

/- Small words for memory: bytes, texts, rows. No function of the program. -/
namespace Go.Proofs.YtjkofciohehgfaaGreatDoor.L11
open Go.RowKit

theorem ret_int {k : IntKind} {a b : Int} (h : a = b) : Ending.returned (.int k a) = .returned (.int k b) := by rw [h]

theorem below_drewN {B : Nat} {a w : World} (h : Below B a w) (n : Nat) : Below B a (w.drewN n) := ⟨h.os, h.tape, h.output, h.size, h.block⟩

theorem byte_of (s : ByteArray) (k : Nat) (h : k < s.size) : s.data.toList[k]'(by simpa using h) = s[k] := by
  rfl

theorem size_list (s : ByteArray) : s.data.toList.length = s.size := by simp

theorem info_u8 : (Tryz.prog.info? 5).map (fun i => (i.zero, i.size, i.bytes)) = some (some (.int .u8 0), 1, 1) := by kernel_rfl

theorem str_ext {a b : ByteArray} (h : a.data.toList = b.data.toList) : a = b := by
  apply ByteArray.ext
  exact Array.toList_inj.1 h

theorem str_app (a b : ByteArray) : (a ++ b).data.toList = a.data.toList ++ b.data.toList := by
  simp

theorem below_setRow {B : Nat} {w w1 : World} {g : Nat} {cs : Array Value} (h : Below B w w1) (hB : B ≤ g) : Below B w (w1.setRow g cs) :=
  h.trans ⟨rfl, rfl, rfl, by simp, fun k hk => setRow_other _ _ _ _ (by omega)⟩

theorem own_below {w w' : World} {base : Nat} {e : TypeId} {size : Nat} {v : Value} {n : Nat} {xs : List Value} (h : w.ownsRow base e size v n xs) (hb : Below w.heap.size w w') : w'.ownsRow base e size v n xs :=
  h.kept (row := none) ⟨hb.os, hb.tape, hb.output, hb.size, fun k hk _ => hb.block k hk⟩ (by cases v.ownBlock <;> simp)

theorem byte_toNat (m : Nat) (h : m < 256) : ((m.toUInt8).toNat : Int) = m := by
  simp only [Nat.toUInt8, UInt8.toNat_ofNat']; omega

theorem addr_add0 (g j : Nat) : (⟨g, 0, none⟩ : Addr).add j = ⟨g, j, none⟩ := by unfold Addr.add; split <;> simp_all

theorem heap_set_fr {w : World} {g : Nat} {cs : Array Value} {t : TypeId} {fr : Nat × Nat} (h : w.heap[g]? = some (.cells cs t fr)) (j : Nat) (u : Value) :
    (w.setCell ⟨g, j, none⟩ u).heap[g]? = some (.cells (cs.setIfInBounds j u) t fr) := by
  simp [World.setCell, Array.getElem?_modify, h]

theorem byteCells_len (l : List UInt8) : (Lib.byteCells l).length = l.length := Lib.byteCells_length l
theorem frozen_of_row (w : World) (g j : Nat) (cs : Array Value) (t : TypeId) (hg : w.heap[g]? = some (.cells cs t (0, 0))) : w.frozen? ⟨g, j, none⟩ = false := by
  simp [World.frozen?, hg]

theorem setCell_size (w : World) (p : Addr) (u : Value) : (w.setCell p u).heap.size = w.heap.size := by simp [World.setCell]

theorem grownBy_setCell (w : World) (p : Addr) (u : Value) : w.grownBy (w.setCell p u) (some p.block) :=
  ⟨rfl, rfl, rfl, by simp [World.setCell], fun k _ hk => Below.heap_setCell _ _ _ _ (fun e => hk (by rw [e]))⟩
theorem grown_refl (w : World) (r : Option Nat) : w.grownBy w r := ⟨rfl, rfl, rfl, Nat.le_refl _, fun _ _ _ => rfl⟩
theorem grown_trans {a b c : World} {r : Option Nat} (h : a.grownBy b r) (k : b.grownBy c r) : a.grownBy c r :=
  ⟨k.os.trans h.os, k.tape.trans h.tape, k.output.trans h.output, Nat.le_trans h.size k.size, fun x hx hr => (k.block x (by have := h.size; omega) hr).trans (h.block x hx hr)⟩
theorem grown_drewN {a b : World} {r : Option Nat} (h : a.grownBy b r) (n : Nat) : a.grownBy (b.drewN n) r := ⟨h.os, h.tape, h.output, h.size, h.block⟩
theorem grown_set {a b : World} {r : Nat} (h : a.grownBy b (some r)) (j : Nat) (u : Value) : a.grownBy (b.setCell ⟨r, j, none⟩ u) (some r) := grown_trans h (grownBy_setCell _ _ _)
theorem grown_below {a b : World} {r : Option Nat} (h : Below a.heap.size a b) : a.grownBy b r := ⟨h.os, h.tape, h.output, h.size, fun k hk _ => h.block k hk⟩
/-- 'string(b)' of a row that the call owns -/
theorem own_string {w : World} {base : Nat} {v : Value} {l : List UInt8} (h : w.ownsRow base 5 1 v l.length (Lib.byteCells l)) : (convert 68 9 v).run Tryz.prog w = .ok (.string ⟨l.toArray⟩) w := by
  rcases h.2 with ⟨rfl, h0⟩ | ⟨g, cap, cur, rfl, _, hg, _, _, _, htk⟩
  · have hl : l = [] := List.length_eq_zero_iff.1 h0
    subst hl
    exact Lib.run_convert_nil_bytes w 68 9 5 0 Tryz.underlying68 Tryz.underlying5 Tryz.underlying9
  · have hb := Lib.bytes_of_row hg (l := l) (by simpa using htk)
    have h := Lib.run_convert_whole (P := Tryz.prog) w 68 5 9 Tryz.underlying68 Tryz.underlying5 Tryz.underlying9 g 0 ⟨l.toArray⟩ (fun i hi => by
      have hi' : i < l.length := by simpa [ByteArray.size] using hi
      have h1 := hb i hi'
      rw [addr_add0] at h1
      rw [Nat.zero_add, h1]
      rfl) cap
    exact h

end Go.Proofs.YtjkofciohehgfaaGreatDoor.L11


/- Plain mathematics of entries in order. No function of the program. -/
namespace Go.Proofs.YtjkofciohehgfaaGreatDoor.L11
namespace SK

structure E where
  key : ByteArray
  seq : Int
  gone : Bool
  value : ByteArray
  til : Int
deriving DecidableEq

def E.cells (e : E) : List Value := [.string e.key, .int .i64 e.seq, .bool e.gone, .string e.value, .int .i64 e.til]
def E.val (e : E) : Value := .agg #[.string e.key, .int .i64 e.seq, .bool e.gone, .string e.value, .int .i64 e.til]
def E.zero : E := ⟨⟨#[]⟩, 0, false, ⟨#[]⟩, 0⟩

/-- sizes that a machine has, numbers of 64 bits -/
structure E.wf (e : E) : Prop where
  key : e.key.size ≤ 140737488351232
  value : e.value.size ≤ 140737488351232
  seq : -9223372036854775808 ≤ e.seq ∧ e.seq ≤ 9223372036854775807
  til : -9223372036854775808 ≤ e.til ∧ e.til ≤ 9223372036854775807

/-- does a stand ahead of b? -/
def less (a b : E) : Bool := if a.key = b.key then decide (b.seq < a.seq) else Go.bytesBefore a.key.data.toList b.key.data.toList
def good (e : E) : Int :=
  if 64 < e.key.size ∨ 512 < e.value.size then 5
  else if e.key.size = 0 ∨ e.seq < 1 ∨ e.til < 0 then 2
  else if e.gone = true ∧ (0 < e.value.size ∨ 0 < e.til) then 2
  else 0

theorem good_zero {e : E} (h : good e = 0) : 0 < e.key.size ∧ e.key.size ≤ 64 ∧ e.value.size ≤ 512 ∧ 1 ≤ e.seq ∧ 0 ≤ e.til := by
  unfold good at h
  split at h
  · simp at h
  · split at h
    · simp at h
    · rename_i h1 h2
      omega

def rest (e : E) (l : List E) : List E := l.dropWhile (fun x => less x e)
end SK
end Go.Proofs.YtjkofciohehgfaaGreatDoor.L11


/- The walk of strings.Clone. -/
namespace Go.Proofs.YtjkofciohehgfaaGreatDoor.L11
open Go.RowKit

/-- a new row of noughts, and then a text's bytes in it -/
def byteWorld (w : World) (n : Nat) : World := w.alloc (.cells (madeCells #[.int .u8 0] n) 5)
theorem make_bytes (w : World) (n : Nat) (h : n ≤ 281474976710656) : (Instr.makeSlice 68 (.int .i64 (n : Int)) (.int .i64 (n : Int))).run Tryz.prog w = .ok (.slice (some ⟨w.heap.size, 0, none⟩) n n) (byteWorld w n) := by
  obtain ⟨i0, hi, hz0, hz1, hz2⟩ := info_parts info_u8
  have h := run_make (P := Tryz.prog) w 68 5 i0 (.int .u8 0) Tryz.underlying68 hi hz0 .i64 .i64 (n : Int) (n : Int) (by omega) (Int.le_refl _) (by rw [hz2]; omega) (by omega)
  rw [Int.toNat_natCast] at h
  simpa [hz1, Value.cells, byteWorld] using h

end Go.Proofs.YtjkofciohehgfaaGreatDoor.L11


/- Entries that come in, opened; their sizes; and those that a call has made. -/
namespace Go.Proofs.YtjkofciohehgfaaGreatDoor.L11
open Go.ChangeShapes Go.WideShapes Go.ChangeAt Go.RowKit Go.Deep
open SK

instance : Inhabited E := ⟨E.zero⟩

/-- entries that come in: nil and empty ones too -/
structure EntsIn (w : World) (A : Option Addr) (l : List E) : Prop where
  wf : ∀ e ∈ l, e.wf
  at_ : 0 < l.length → ∃ b off, A = some ⟨b, off, none⟩ ∧ b < w.heap.size ∧ ∀ j, (h : j < l.length) →
    w.cell? ⟨b, off + j * 5, none⟩ = some (.string l[j].key) ∧ w.cell? ⟨b, off + j * 5 + 1, none⟩ = some (.int .i64 l[j].seq) ∧ w.cell? ⟨b, off + j * 5 + 2, none⟩ = some (.bool l[j].gone) ∧
      w.cell? ⟨b, off + j * 5 + 3, none⟩ = some (.string l[j].value) ∧ w.cell? ⟨b, off + j * 5 + 4, none⟩ = some (.int .i64 l[j].til)

theorem EntsIn.below {w w' : World} {A : Option Addr} {l : List E} (h : EntsIn w A l) (hb : Below w.heap.size w w') : EntsIn w' A l :=
  ⟨h.wf, fun hn => by
    obtain ⟨b, off, hA, hlt, hc⟩ := h.at_ hn
    refine ⟨b, off, hA, Nat.lt_of_lt_of_le hlt hb.size, fun j hj => ?_⟩
    obtain ⟨c0, c1, c2, c3, c4⟩ := hc j hj
    exact ⟨(hb.cell (p := ⟨b, off + j * 5, none⟩) hlt).trans c0, (hb.cell (p := ⟨b, off + j * 5 + 1, none⟩) hlt).trans c1, (hb.cell (p := ⟨b, off + j * 5 + 2, none⟩) hlt).trans c2, (hb.cell (p := ⟨b, off + j * 5 + 3, none⟩) hlt).trans c3, (hb.cell (p := ⟨b, off + j * 5 + 4, none⟩) hlt).trans c4⟩⟩

theorem EntsIn.take {w : World} {A : Option Addr} {l : List E} (h : EntsIn w A l) (n : Nat) : EntsIn w A (l.take n) :=
  ⟨fun e he => h.wf e (List.mem_of_mem_take he), fun hn => by
    rw [List.length_take] at hn
    obtain ⟨b, off, hA, hlt, hc⟩ := h.at_ (by omega)
    refine ⟨b, off, hA, hlt, fun j hj => ?_⟩
    rw [List.length_take] at hj
    rw [List.getElem_take]
    exact hc j (by omega)⟩

section
variable {H : Type} {enc : TypeId × Value → H} {P : Program} {w : World} {base : Nat} {spare : Nat → Bool} {held : Bool}
end

theorem add_off (b off k : Nat) : (⟨b, off, none⟩ : Addr).add k = ⟨b, off + k, none⟩ := by unfold Addr.add; split <;> simp_all


section
variable {H : Type} {enc : TypeId × Value → H} {w : World}

end

/-! ### entries that a call has made -/

def fb (A : Option Addr) : List Nat := match A with | some a => [a.block] | none => []
end Go.Proofs.YtjkofciohehgfaaGreatDoor.L11


/- Slices of texts that come in, opened, nil and empty ones too; their sizes. Slices of numbers. -/
namespace Go.Proofs.YtjkofciohehgfaaGreatDoor.L11.B9
open Go.ChangeShapes Go.WideShapes Go.ChangeAt Go.RowKit Go.Deep

/-- a slice of texts that lies below block B: nil and empty ones too -/
def StrsIn (w : World) (B : Nat) (A : Option Addr) (l : List ByteArray) : Prop :=
  0 < l.length → ∃ b off, A = some ⟨b, off, none⟩ ∧ b < B ∧ ∀ j, (h : j < l.length) → w.cell? ⟨b, off + j, none⟩ = some (.string l[j])

theorem StrsIn.below {w w' : World} {B : Nat} {A : Option Addr} {l : List ByteArray} (h : StrsIn w B A l) (hb : Below B w w') : StrsIn w' B A l := by
  intro hn
  obtain ⟨b, off, hA, hlt, hc⟩ := h hn
  exact ⟨b, off, hA, hlt, fun j hj => (hb.cell (p := ⟨b, off + j, none⟩) hlt).trans (hc j hj)⟩

theorem own_slice {w : World} {base : Nat} {e : TypeId} {size : Nat} {v : Value} {n : Nat} {xs : List Value} (h : w.ownsRow base e size v n xs) : ∃ A c, v = .slice A n c := by
  rcases h.2 with ⟨rfl, h0⟩ | ⟨g, cap, cur, rfl, _⟩
  · exact ⟨none, 0, by rw [h0]⟩
  · exact ⟨_, _, rfl⟩

/-- a slice of one-cell elements that lies below block B -/
def CellsIn (w : World) (B : Nat) (A : Option Addr) (n : Nat) (xs : List Value) : Prop :=
  0 < n → ∃ b off, A = some ⟨b, off, none⟩ ∧ b < B ∧ ∀ j x, xs[j]? = some x → w.cell? ⟨b, off + j, none⟩ = some x

theorem CellsIn.below {w w' : World} {B : Nat} {A : Option Addr} {n : Nat} {xs : List Value} (h : CellsIn w B A n xs) (hb : Below B w w') : CellsIn w' B A n xs := by
  intro hn
  obtain ⟨b, off, hA, hlt, hc⟩ := h hn
  exact ⟨b, off, hA, hlt, fun j x hj => (hb.cell (p := ⟨b, off + j, none⟩) hlt).trans (hc j x hj)⟩

theorem add_off (b off k : Nat) : (⟨b, off, none⟩ : Addr).add k = ⟨b, off + k, none⟩ := by unfold Addr.add; split <;> simp_all
end Go.Proofs.YtjkofciohehgfaaGreatDoor.L11.B9


/- Two rows of unlike elements, each appended to: general. -/
namespace Go.Proofs.YtjkofciohehgfaaGreatDoor.L11
open Go.RowKit
attribute [local go_sem ↓] Go.wp_at_zero Go.wp_at_succ

section
variable {w w' : World} {b1 b2 : Nat} {e1 e2 : TypeId} {s1 s2 : Nat} {v1 v2 : Value} {n1 n2 : Nat} {xs1 xs2 : List Value}

end

section
variable {base : Nat} {e1 e2 : TypeId} {s1 s2 : Nat} {v1 v2 : Value} {n1 n2 : Nat} {xs1 xs2 : List Value} {W w w' : World}
end

end Go.Proofs.YtjkofciohehgfaaGreatDoor.L11


/- What entries' rows are made of. -/
namespace Go.Proofs.YtjkofciohehgfaaGreatDoor.L11
open Go.RowKit
open SK
attribute [local go_sem ↓] Go.wp_at_zero Go.wp_at_succ

end Go.Proofs.YtjkofciohehgfaaGreatDoor.L11


