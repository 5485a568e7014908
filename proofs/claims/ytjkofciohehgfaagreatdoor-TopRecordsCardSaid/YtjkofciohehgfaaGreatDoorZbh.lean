/- Texts joined by bundle.py: YSKit, YSSm, YSClone, YSSa, YSSb, YSSr, YSSs. -/
import Derived.Test.YtjkofciohehgfaaGreatDoorRows
import Derived.WalkKit
import Derived.IntWalk
import Derived.Laws.Rows
import Derived.Lib.Hide
import Derived.Lib.SlBytesRow
import Derived.Lib.BufferWrite
import Derived.Lib.BufferRead
import Derived.Lib.UnsafeStr
import Derived.Laws.MakeOwn
import Derived.OwnWalk
import Derived.WalkSmall
import Derived.WalkLawsBesides
import Derived.Deep.AppendLies
import Derived.Deep.RegionHeld3
import Derived.BigQuiet
import Derived.Laws.StructEq
import Derived.WideAt
import Derived.WideShapes
import Derived.Outline

/- Small words for memory: bytes, texts, rows. No function of the program. -/
namespace Go.Proofs.YtjkofciohehgfaaGreatDoor.L6
open Go.RowKit

theorem below_drewN {B : Nat} {a w : World} (h : Below B a w) (n : Nat) : Below B a (w.drewN n) := ⟨h.os, h.tape, h.output, h.size, h.block⟩

theorem size_list (s : ByteArray) : s.data.toList.length = s.size := by simp

theorem info_u8 : (Tryz.prog.info? 5).map (fun i => (i.zero, i.size, i.bytes)) = some (some (.int .u8 0), 1, 1) := by kernel_rfl

theorem str_ext {a b : ByteArray} (h : a.data.toList = b.data.toList) : a = b := by
  apply ByteArray.ext
  exact Array.toList_inj.1 h

theorem below_setRow {B : Nat} {w w1 : World} {g : Nat} {cs : Array Value} (h : Below B w w1) (hB : B ≤ g) : Below B w (w1.setRow g cs) :=
  h.trans ⟨rfl, rfl, rfl, by simp, fun k hk => setRow_other _ _ _ _ (by omega)⟩

theorem heap_set_fr {w : World} {g : Nat} {cs : Array Value} {t : TypeId} {fr : Nat × Nat} (h : w.heap[g]? = some (.cells cs t fr)) (j : Nat) (u : Value) :
    (w.setCell ⟨g, j, none⟩ u).heap[g]? = some (.cells (cs.setIfInBounds j u) t fr) := by
  simp [World.setCell, Array.getElem?_modify, h]

theorem frozen_of_row (w : World) (g j : Nat) (cs : Array Value) (t : TypeId) (hg : w.heap[g]? = some (.cells cs t (0, 0))) : w.frozen? ⟨g, j, none⟩ = false := by
  simp [World.frozen?, hg]

theorem setCell_size (w : World) (p : Addr) (u : Value) : (w.setCell p u).heap.size = w.heap.size := by simp [World.setCell]

end Go.Proofs.YtjkofciohehgfaaGreatDoor.L6


/- Plain mathematics of entries in order. No function of the program. -/
namespace Go.Proofs.YtjkofciohehgfaaGreatDoor.L6
namespace SK

structure E where
  key : ByteArray
  seq : Int
  gone : Bool
  value : ByteArray
  til : Int
deriving DecidableEq

def E.cells (e : E) : List Value := [.string e.key, .int .i64 e.seq, .bool e.gone, .string e.value, .int .i64 e.til]
def E.val (e : E) : Value := .agg #[.string e.key, .int .i64 e.seq, .bool e.gone, .string e.value, .int .i64 e.til]
/-- sizes that a machine has, numbers of 64 bits -/
structure E.wf (e : E) : Prop where
  key : e.key.size ≤ 140737488351232
  value : e.value.size ≤ 140737488351232
  seq : -9223372036854775808 ≤ e.seq ∧ e.seq ≤ 9223372036854775807
  til : -9223372036854775808 ≤ e.til ∧ e.til ≤ 9223372036854775807

/-- does a stand ahead of b? -/
def less (a b : E) : Bool := if a.key = b.key then decide (b.seq < a.seq) else Go.bytesBefore a.key.data.toList b.key.data.toList
/-- are they of one key and number? -/
def same (a b : E) : Bool := decide (a.key = b.key ∧ a.seq = b.seq)

def good (e : E) : Int :=
  if 64 < e.key.size ∨ 512 < e.value.size then 5
  else if e.key.size = 0 ∨ e.seq < 1 ∨ e.til < 0 then 2
  else if e.gone = true ∧ (0 < e.value.size ∨ 0 < e.til) then 2
  else 0

theorem good_zero {e : E} (h : good e = 0) : 0 < e.key.size ∧ e.key.size ≤ 64 ∧ e.value.size ≤ 512 ∧ 1 ≤ e.seq ∧ 0 ≤ e.til := by
  unfold good at h
  split at h
  · simp at h
  · split at h
    · simp at h
    · rename_i h1 h2
      omega

theorem less_irrefl (a : E) : less a a = false := by simp [less]

theorem less_trans {a b c : E} (h1 : less a b = true) (h2 : less b c = true) : less a c = true := by
  unfold less at *
  by_cases hab : a.key = b.key
  · rw [if_pos hab] at h1
    by_cases hbc : b.key = c.key
    · rw [if_pos hbc] at h2
      rw [if_pos (hab.trans hbc)]
      simp at *; omega
    · rw [if_neg hbc] at h2
      rw [if_neg (by rw [hab]; exact hbc), hab]
      exact h2
  · rw [if_neg hab] at h1
    by_cases hbc : b.key = c.key
    · rw [if_pos hbc] at h2
      rw [if_neg (by rw [← hbc]; exact hab), ← hbc]
      exact h1
    · rw [if_neg hbc] at h2
      have h3 := Go.WideShapes.bytes_trans _ _ _ h1 h2
      by_cases hac : a.key = c.key
      · rw [hac, Go.WideAt.bytes_irrefl] at h3
        cases h3
      · rw [if_neg hac]
        exact h3

theorem less_total (a b : E) : same a b = true ∨ less a b = true ∨ less b a = true := by
  by_cases hk : a.key = b.key
  · by_cases hs : a.seq = b.seq
    · left; simp [same, hk, hs]
    · right
      simp only [less, hk, if_true, decide_eq_true_eq]
      omega
  · right
    have hk' : a.key.data.toList ≠ b.key.data.toList := fun h => hk (str_ext h)
    rcases Go.WideAt.bytes_total _ _ hk' with h | h
    · left; rw [less, if_neg hk]; exact h
    · right; rw [less, if_neg (Ne.symm hk)]; exact h

theorem same_less {a b : E} (h : same a b = true) (c : E) : less a c = less b c ∧ less c a = less c b := by
  simp only [same, decide_eq_true_eq] at h
  obtain ⟨h1, h2⟩ := h
  simp [less, h1, h2]

theorem same_not {a b : E} (h : same a b = true) : less a b = false := by
  rw [(same_less h b).1]; exact less_irrefl b

/-- in order -/
def Sorted (l : List E) : Prop := l.Pairwise (fun a b => less a b = true)

/-- those that stand ahead of e, and the others -/
def front (e : E) (l : List E) : List E := l.takeWhile (fun x => less x e)
def rest (e : E) (l : List E) : List E := l.dropWhile (fun x => less x e)
theorem front_rest (e : E) (l : List E) : front e l ++ rest e l = l := List.takeWhile_append_dropWhile ..

theorem front_less {e : E} {l : List E} : ∀ x ∈ front e l, less x e = true := by
  induction l with
  | nil => intro x hx; simp [front] at hx
  | cons y l ih =>
    intro x hx
    simp only [front, List.takeWhile_cons] at hx
    split at hx
    · rename_i h
      rcases List.mem_cons.1 hx with rfl | hx
      · exact h
      · exact ih x hx
    · simp at hx

theorem rest_not {e : E} : ∀ {l : List E}, Sorted l → ∀ x ∈ rest e l, less x e = false := by
  intro l
  induction l with
  | nil => intro _ x hx; simp [rest] at hx
  | cons y l ih =>
    intro hs x hx
    obtain ⟨h1, h2⟩ := List.pairwise_cons.1 hs
    cases hy : less y e with
    | true =>
      rw [rest, List.dropWhile_cons, hy] at hx
      exact ih h2 x hx
    | false =>
      rw [rest, List.dropWhile_cons, hy] at hx
      simp only [Bool.false_eq_true, if_false] at hx
      rcases List.mem_cons.1 hx with rfl | hx
      · exact hy
      · cases hx2 : less x e with
        | false => rfl
        | true =>
          have := less_trans (h1 x hx) hx2
          rw [hy] at this; cases this

def there (e : E) (l : List E) : Bool := l.any (fun x => same x e)

/-- what stands first among the others tells whether it is there -/
theorem there_iff {e : E} {l : List E} (hs : Sorted l) : there e l = (match rest e l with | [] => false | y :: _ => !(less e y)) := by
  have hf := front_rest e l
  have hfl := front_less (e := e) (l := l)
  have hrn := rest_not (e := e) hs
  have h1 : (front e l).any (fun x => same x e) = false := by
    rw [List.any_eq_false]
    intro x hx h
    have := hfl x hx
    rw [same_not h] at this; cases this
  have h2 : there e l = (rest e l).any (fun x => same x e) := by
    unfold there
    conv => lhs; rw [← hf]
    rw [List.any_append, h1, Bool.false_or]
  rw [h2]
  cases hr : rest e l with
  | nil => rfl
  | cons y r =>
    rw [hr] at hrn
    have hsr : Sorted (y :: r) := by
      rw [← hr]
      unfold Sorted at *
      rw [← hf] at hs
      exact (List.pairwise_append.1 hs).2.1
    obtain ⟨hy1, -⟩ := List.pairwise_cons.1 hsr
    have hy := hrn y (by simp)
    cases hey : less e y with
    | false =>
      have : same y e = true := by
        rcases less_total y e with h | h | h
        · exact h
        · rw [hy] at h; cases h
        · rw [hey] at h; cases h
      simp [this, hey]
    | true =>
      rw [List.any_eq_false.2]
      · simp [hey]
      · intro x hx h
        rcases List.mem_cons.1 hx with rfl | hx
        · have h' : same e x = true := by simp [same] at *; simp [h]
          rw [same_not h'] at hey; cases hey
        · have h3 := less_trans hey (hy1 x hx)
          have h' : same e x = true := by simp [same] at *; simp [h]
          rw [same_not h'] at h3; cases h3

/-- the height of a coin's tower -/
def coin (c : Int) : Int := 1 + (if c < 0 then -(c + 1) else c) % 8
theorem coin_range (c : Int) : 1 ≤ coin c ∧ coin c ≤ 8 := by
  unfold coin
  split <;> omega

/-- the height of the tower of entry i -/
def height (cs : List Int) (i : Nat) : Nat := if cs.length = 0 then 1 else (coin (cs.getD (i % cs.length) 0)).toNat
theorem height_range (cs : List Int) (i : Nat) : 1 ≤ height cs i ∧ height cs i ≤ 8 := by
  unfold height
  split
  · omega
  · have := coin_range (cs.getD (i % cs.length) 0); omega

def cost (cs : List Int) (i : Nat) (e : E) : Int := 40 + 8 * (height cs i : Int) + e.key.size + e.value.size

/-- the list's state: its entries, and what they hold -/
structure St where
  l : List E
  size : Int
deriving DecidableEq

def St.new : St := ⟨[], 0⟩
def St.step (cs : List Int) (s : St) (e : E) : Int × St :=
  if good e ≠ 0 then (good e, s)
  else if there e s.l = true then (11, s)
  else (0, ⟨front e s.l ++ e :: rest e s.l, s.size + cost cs s.l.length e⟩)

/-- what every list is -/
structure Ok (s : St) : Prop where
  sorted : Sorted s.l
  good : ∀ x ∈ s.l, SK.good x = 0
  wf : ∀ x ∈ s.l, x.wf
  size : 0 ≤ s.size ∧ s.size ≤ 1000 * (s.l.length : Int)

theorem ok_new : Ok St.new := ⟨List.Pairwise.nil, by simp [St.new], by simp [St.new], by simp [St.new]⟩
end SK
end Go.Proofs.YtjkofciohehgfaaGreatDoor.L6


/- The walk of strings.Clone. -/
namespace Go.Proofs.YtjkofciohehgfaaGreatDoor.L6
open Go.RowKit

/-- a new row of noughts, and then a text's bytes in it -/
def byteWorld (w : World) (n : Nat) : World := w.alloc (.cells (madeCells #[.int .u8 0] n) 5)
def textWorld (w : World) (s : ByteArray) : World := (byteWorld w s.size).setRow w.heap.size (Lib.byteCells s.data.toList).toArray

theorem byteWorld_row (w : World) (n : Nat) : (byteWorld w n).heap[w.heap.size]? = some (.cells (madeCells #[.int .u8 0] n) 5 (0, 0)) := heap_alloc_new w _

theorem textWorld_row (w : World) (s : ByteArray) : (textWorld w s).heap[w.heap.size]? = some (.cells (Lib.byteCells s.data.toList).toArray 5 (0, 0)) :=
  setRow_heap _ _ _ _ _ _ (byteWorld_row w s.size)

theorem textWorld_below (w : World) (s : ByteArray) : Below w.heap.size w (textWorld w s) :=
  below_setRow ((Below.refl _ _).alloc (Nat.le_refl _) _) (Nat.le_refl _)

theorem make_bytes (w : World) (n : Nat) (h : n ≤ 281474976710656) : (Instr.makeSlice 68 (.int .i64 (n : Int)) (.int .i64 (n : Int))).run Tryz.prog w = .ok (.slice (some ⟨w.heap.size, 0, none⟩) n n) (byteWorld w n) := by
  obtain ⟨i0, hi, hz0, hz1, hz2⟩ := info_parts info_u8
  have h := run_make (P := Tryz.prog) w 68 5 i0 (.int .u8 0) Tryz.underlying68 hi hz0 .i64 .i64 (n : Int) (n : Int) (by omega) (Int.le_refl _) (by rw [hz2]; omega) (by omega)
  rw [Int.toNat_natCast] at h
  simpa [hz1, Value.cells, byteWorld] using h

theorem copy_text (w : World) (s : ByteArray) (ty : TypeId) : (Builtin.copy_ #[68, 9] ty #[.slice (some ⟨w.heap.size, 0, none⟩) s.size s.size, .string s]).run Tryz.prog (byteWorld w s.size) = .ok (goInt s.size) (textWorld w s) := by
  have h := Lib.run_copy_row_string (P := Tryz.prog) (byteWorld w s.size) 68 9 ty 5 w.heap.size 0 s.size s.size s (madeCells #[.int .u8 0] s.size) 5 Tryz.underlying68 (by kernel_rfl) (byteWorld_row w s.size) (Nat.le_refl _) (by rw [size_madeCells]; omega)
  rw [h]
  have hd : (madeCells #[Value.int .u8 0] s.size).toList.drop (0 + s.size) = [] := List.drop_eq_nil_of_le (by simp [size_madeCells])
  rw [hd]
  simp [textWorld]

theorem text_string (w : World) (s : ByteArray) (h0 : 0 < s.size) (h1 : s.size ≤ 281474976710656) (ty : TypeId) :
    (Builtin.unsafeString_ #[124, 3] ty #[.pointer (some ⟨w.heap.size, 0, none⟩), .int .i64 (s.size : Int)]).run Tryz.prog (textWorld w s) = .ok (.string s) ((textWorld w s).freeze ⟨w.heap.size, 0, none⟩ s.size) := by
  have hl := size_list s
  have hrow := textWorld_row w s
  have h := Lib.run_unsafeString_row (P := Tryz.prog) (textWorld w s) 124 3 ty 5 Tryz.underlying124 (by kernel_rfl) w.heap.size s.size
    (by simp [World.shape?, hrow, Lib.byteCells_length, hl]) s.data.toList (by intro h; rw [h] at hl; simp at hl; omega) (by rw [hl]; exact Nat.le_refl _) (by rw [hl]; omega) (by
      intro j x hj
      have hadd : (⟨w.heap.size, 0, none⟩ : Addr).add j = ⟨w.heap.size, j, none⟩ := by unfold Addr.add; split <;> simp_all
      rw [hadd, cell_of_row _ _ _ _ _ _ hrow]
      simp [Lib.byteCells, hj])
  rw [hl] at h
  simpa using h

theorem cloneIn_any (s : ByteArray) (w : World) (hs : s.size ≤ 281474976710656) :
    Calls Tryz.prog 98 #[.string s] w fun e w' => e = .returned (.string s) ∧ Below w.heap.size w w' := by
  by_cases h0 : s.size = 0
  · have hs0 : s = ⟨#[]⟩ := by
      apply ByteArray.ext
      exact Array.eq_empty_of_size_eq_zero h0
    subst hs0
    clear h0 hs
    go_enter Tryz.func98, Tryz.ntmps98
    go_wp2
    go_ret
    exact ⟨rfl, Below.refl _ _⟩
  · have h1 : 0 < s.size := by omega
    have hne : ((s.size : Int) == 0) = false := beq_eq_false_iff_ne.2 (by omega)
    have hmk := make_bytes w s.size hs
    have hcp := copy_text w s
    have hus := text_string w s h1 hs
    have hB := Lib.below_freeze (textWorld_below w s) (p := ⟨w.heap.size, 0, none⟩) (Nat.le_refl _) s.size
    go_enter Tryz.func98, Tryz.ntmps98
    go_wp2
    go_ret
    exact ⟨rfl, hB⟩

theorem clone_any (s : ByteArray) (w : World) (hs : s.size ≤ 281474976710656) :
    Calls Tryz.prog 49 #[.string s] w fun e w' => e = .returned (.string s) ∧ Below w.heap.size w w' := by
  go_enter Tryz.func49, Tryz.ntmps49
  go_wp2_with fail
  refine (cloneIn_any s _ hs).mono ?_
  rintro e w1 ⟨rfl, hB⟩
  go_wp2
  go_ret
  exact ⟨rfl, hB⟩
end Go.Proofs.YtjkofciohehgfaaGreatDoor.L6


/- Less, Good, newest, height, clone: of single entries. -/
namespace Go.Proofs.YtjkofciohehgfaaGreatDoor.L6
open Go.RowKit
open SK

theorem less_before : ∀ (a b : List UInt8), Op.bytesLess a b = bytesBefore a b
  | [], [] => by simp [Op.bytesLess, bytesBefore]
  | [], _ :: _ => by simp [Op.bytesLess, bytesBefore]
  | _ :: _, [] => by simp [Op.bytesLess, bytesBefore]
  | x :: r, y :: t => by simp [Op.bytesLess, bytesBefore, less_before r t]

theorem text_less (a b : ByteArray) : Op.bytesLess a.toList b.toList = bytesBefore a.data.toList b.data.toList := by
  rw [ByteArray.toList_eq, ByteArray.toList_eq, less_before]
theorem text_eq (a b : ByteArray) : (a.toList == b.toList) = decide (a = b) := by
  rw [Bool.eq_iff_iff, beq_iff_eq, decide_eq_true_eq, ByteArray.toList_eq, ByteArray.toList_eq]
  exact ⟨str_ext, fun h => by rw [h]⟩
theorem text_none (a : ByteArray) : (a.toList == ([] : List UInt8)) = decide (a.size = 0) := by
  rw [Bool.eq_iff_iff, beq_iff_eq, decide_eq_true_eq, ByteArray.toList_eq, ← size_list, List.length_eq_zero_iff]

set_option maxRecDepth 100000 in
theorem less_any (a b : E) (w : World) :
    Calls Tryz.prog 56 #[a.val, b.val] w fun e w' => e = .returned (.bool (less a b)) ∧ Below w.heap.size w w' := by
  obtain ⟨k1, q1, g1, v1, t1⟩ := a
  obtain ⟨k2, q2, g2, v2, t2⟩ := b
  have HTE := Lib.hid (text_eq k1 k2)
  by_cases hk : k1 = k2
  · subst hk
    have hte : (k1.toList == k1.toList) = true := by simp
    have HL : Hid (less ⟨k1, q1, g1, v1, t1⟩ ⟨k1, q2, g2, v2, t2⟩ = decide (q2 < q1)) := by simp [less, Hid]
    simp only [E.val]
    go_enter Tryz.func56, Tryz.ntmps56
    go_wp2
    go_ret
    exact ⟨by rw [HL.out]; rfl, ((Below.refl _ w).alloc (Nat.le_refl _) _).alloc (by simp) _⟩
  · have hte : (k1.toList == k2.toList) = false := by rw [HTE.out]; simp [hk]
    have HL : Hid (less ⟨k1, q1, g1, v1, t1⟩ ⟨k2, q2, g2, v2, t2⟩ = Op.bytesLess k1.toList k2.toList) := by
      unfold Hid
      rw [text_less]; simp [less, hk]
    simp only [E.val]
    go_enter Tryz.func56, Tryz.ntmps56
    go_wp2
    go_ret
    exact ⟨by rw [HL.out]; rfl, ((Below.refl _ w).alloc (Nat.le_refl _) _).alloc (by simp) _⟩

set_option maxRecDepth 100000 in
set_option maxHeartbeats 1000000 in
theorem good_any (a : E) (w : World) (ha : a.wf) :
    Calls Tryz.prog 26 #[a.val] w fun e w' => e = .returned (.int .i64 (good a)) ∧ Below w.heap.size w w' := by
  obtain ⟨k, q, g, v, t⟩ := a
  have hk0 := text_none k
  have hv0 := text_none v
  have hks := ha.key
  have hvs := ha.value
  simp only at hks hvs
  clear ha
  obtain ⟨G, hG⟩ : ∃ G, good ⟨k, q, g, v, t⟩ = G := ⟨_, rfl⟩
  rw [hG]
  unfold good at hG
  simp only at hG
  simp only [E.val]
  have hik : ((64 : Int) < (k.size : Int)) ↔ 64 < k.size := by omega
  have hiv : ((512 : Int) < (v.size : Int)) ↔ 512 < v.size := by omega
  by_cases h1 : 64 < k.size ∨ 512 < v.size
  · rw [if_pos h1] at hG
    subst hG
    go_enter Tryz.func26, Tryz.ntmps26
    rcases Decidable.em (64 < k.size) with hx | hx
    · have hxi : (64 : Int) < (k.size : Int) := by omega
      go_wp2
      go_ret
      exact ⟨rfl, (Below.refl _ _).alloc (Nat.le_refl _) _⟩
    · have hy : 512 < v.size := by omega
      have hxi : ¬ (64 : Int) < (k.size : Int) := by omega
      have hyi : (512 : Int) < (v.size : Int) := by omega
      go_wp2
      go_ret
      exact ⟨rfl, (Below.refl _ _).alloc (Nat.le_refl _) _⟩
  · rw [if_neg h1] at hG
    have hxi : ¬ (64 : Int) < (k.size : Int) := by omega
    have hyi : ¬ (512 : Int) < (v.size : Int) := by omega
    by_cases h2 : k.size = 0 ∨ q < 1 ∨ t < 0
    · rw [if_pos h2] at hG
      subst hG
      rcases Decidable.em (k.size = 0) with hx | hx
      · have hk00 : (k.toList == ([] : List UInt8)) = true := by rw [hk0]; simp [hx]
        have hxi0 : (k.size : Int) = 0 := by omega
        have hxb : ((k.size : Int) == 0) = true := by rw [beq_iff_eq]; omega
        clear hk0 hik hiv h1 h2 hx
        go_enter Tryz.func26, Tryz.ntmps26
        go_wp2
        go_ret
        exact ⟨rfl, (Below.refl _ _).alloc (Nat.le_refl _) _⟩
      · have hk00 : (k.toList == ([] : List UInt8)) = false := by rw [hk0]; simp [hx]
        have hxi0 : ¬ (k.size : Int) = 0 := by omega
        have hxb : ((k.size : Int) == 0) = false := beq_eq_false_iff_ne.2 (by omega)
        rcases Decidable.em (q < 1) with hq | hq
        · have hq0 : q ≤ 0 := by omega
          clear hk0 hik hiv h1 h2 hx
          go_enter Tryz.func26, Tryz.ntmps26
          go_wp2
          go_ret
          exact ⟨rfl, (Below.refl _ _).alloc (Nat.le_refl _) _⟩
        · have ht : t < 0 := by omega
          have hq0 : ¬ q ≤ 0 := by omega
          clear hk0 hik hiv h1 h2 hx
          go_enter Tryz.func26, Tryz.ntmps26
          go_wp2
          go_ret
          exact ⟨rfl, (Below.refl _ _).alloc (Nat.le_refl _) _⟩
    · rw [if_neg h2] at hG
      have hk00 : (k.toList == ([] : List UInt8)) = false := by rw [hk0]; exact decide_eq_false (by omega)
      have hxi0 : ¬ (k.size : Int) = 0 := by omega
      have hxb : ((k.size : Int) == 0) = false := beq_eq_false_iff_ne.2 (by omega)
      have hq : ¬ q < 1 := by omega
      have hq0 : ¬ q ≤ 0 := by omega
      have ht : ¬ t < 0 := by omega
      cases g with
      | false =>
        simp only [Bool.false_eq_true, false_and, if_false] at hG
        subst hG
        clear hk0 hik hiv h1 h2 hv0
        go_enter Tryz.func26, Tryz.ntmps26
        go_wp2
        go_ret
        exact ⟨rfl, (Below.refl _ _).alloc (Nat.le_refl _) _⟩
      | true =>
        by_cases h3 : 0 < v.size ∨ 0 < t
        · rw [if_pos ⟨rfl, h3⟩] at hG
          subst hG
          rcases Decidable.em (v.size = 0) with hx | hx
          · have hv00 : (v.toList == ([] : List UInt8)) = true := by rw [hv0]; simp [hx]
            have hvi : decide (0 < v.size) = false := decide_eq_false (by omega)
            have ht1 : 0 < t := by omega
            have ht2 : ¬ t = 0 := by omega
            have ht3 : (t == 0) = false := by simp; omega
            clear hk0 hik hiv h1 h2 hv0 h3 hx
            go_enter Tryz.func26, Tryz.ntmps26
            go_wp2
            go_ret
            exact ⟨rfl, (Below.refl _ _).alloc (Nat.le_refl _) _⟩
          · have hv00 : (v.toList == ([] : List UInt8)) = false := by rw [hv0]; simp [hx]
            have hvi : decide (0 < v.size) = true := decide_eq_true (by omega)
            clear hk0 hik hiv h1 h2 hv0 h3 hx
            go_enter Tryz.func26, Tryz.ntmps26
            go_wp2
            go_ret
            exact ⟨rfl, (Below.refl _ _).alloc (Nat.le_refl _) _⟩
        · rw [if_neg (fun h => h3 h.2)] at hG
          subst hG
          have hv00 : (v.toList == ([] : List UInt8)) = true := by rw [hv0]; exact decide_eq_true (by omega)
          have hvi : decide (0 < v.size) = false := decide_eq_false (by omega)
          have ht1 : ¬ 0 < t := by omega
          obtain rfl : t = 0 := by omega
          clear hk0 hik hiv h1 h2 hv0 h3
          go_enter Tryz.func26, Tryz.ntmps26
          go_wp2
          go_ret
          exact ⟨rfl, (Below.refl _ _).alloc (Nat.le_refl _) _⟩

theorem height_any (c : Int) (w : World) (hc : -9223372036854775808 ≤ c ∧ c ≤ 9223372036854775807) :
    Calls Tryz.prog 48 #[.int .i64 c] w fun e w' => e = .returned (.int .i64 (coin c)) ∧ w = w' := by
  have hr := coin_range c
  unfold coin at hr ⊢
  by_cases h : c < 0
  · simp only [h, if_true] at hr ⊢
    have hm : -(c + 1).tmod 8 = (-(c + 1)) % 8 := by rw [← Int.neg_tmod, Int.tmod_eq_emod_of_nonneg (by omega)]
    go_enter Tryz.func48, Tryz.ntmps48
    go_wp2
    go_ret
    exact ⟨rfl, rfl⟩
  · simp only [h, if_false] at hr ⊢
    go_enter Tryz.func48, Tryz.ntmps48
    go_wp2
    go_ret
    exact ⟨rfl, rfl⟩
end Go.Proofs.YtjkofciohehgfaaGreatDoor.L6


/- clone: an entry whose texts are memory of their own. -/
namespace Go.Proofs.YtjkofciohehgfaaGreatDoor.L6
open Go.RowKit
open SK

/-- a store of what is there leaves the world -/
theorem set_same {w : World} {b j : Nat} {u : Value} (h : w.cell? ⟨b, j, none⟩ = some u) : w.setCell ⟨b, j, none⟩ u = w := by
  obtain ⟨cs, ty, fr, hb, hj⟩ : ∃ cs ty fr, w.heap[b]? = some (.cells cs ty fr) ∧ cs[j]? = some u := by
    unfold World.cell? at h
    cases hh : w.heap[b]? with
    | none => simp [hh] at h
    | some o =>
      cases o with
      | cells cs ty fr => exact ⟨cs, ty, fr, rfl, by simpa [hh] using h⟩
      | _ => simp [hh] at h
  obtain ⟨heap, tape, drawn, os, output⟩ := w
  simp only [World.setCell, World.mk.injEq, and_true]
  simp only at hb
  apply Array.ext_getElem?
  intro i
  rw [Array.getElem?_modify]
  split
  · rename_i hi
    subst hi
    rw [hb]
    simp only [Option.map_some, Option.isSome_none, Bool.false_eq_true, if_false, Option.some.injEq, Obj.cells.injEq, and_true]
    apply Array.ext_getElem?
    intro i
    rw [Array.getElem?_setIfInBounds]
    split
    · rename_i hi
      subst hi
      rw [hj]
      split
      · rfl
      · rename_i hlt
        rw [Array.getElem?_eq_some_iff] at hj
        exact absurd hj.1 hlt
    · rfl
  · rfl

set_option maxRecDepth 100000 in
set_option maxHeartbeats 2000000 in
theorem eclone_any (a : E) (w : World) (ha : a.key.size ≤ 281474976710656 ∧ a.value.size ≤ 281474976710656) :
    Calls Tryz.prog 53 #[a.val] w fun e w' => e = .returned a.val ∧ Below w.heap.size w w' := by
  obtain ⟨k, q, g, v, t⟩ := a
  obtain ⟨h1, h2⟩ := ha
  simp only at h1 h2
  have H1 : Hid (∀ W, Calls Tryz.prog 49 #[.string k] W fun e w' => e = .returned (.string k) ∧ Below W.heap.size W w') := fun W => clone_any k W h1
  have H2 : Hid (∀ W, Calls Tryz.prog 49 #[.string v] W fun e w' => e = .returned (.string v) ∧ Below W.heap.size W w') := fun W => clone_any v W h2
  clear h1 h2
  simp only [E.val]
  obtain ⟨x, hx⟩ : ∃ x, w.heap.size = x := ⟨_, rfl⟩
  go_enter Tryz.func53, Tryz.ntmps53
  go_wp2_with fail
  have hrow : ((w.alloc (.cells #[.string k, .int .i64 q, .bool g, .string v, .int .i64 t] 45)).alloc (.cells #[.string ⟨#[]⟩, .int .i64 0, .bool false, .string ⟨#[]⟩, .int .i64 0] 45)).heap[x]? = some (.cells #[.string k, .int .i64 q, .bool g, .string v, .int .i64 t] 45 (0, 0)) := by
    subst hx
    rw [Below.heap_alloc _ _ _ (by simp)]; exact heap_alloc_new w _
  have hrow2 : ((w.alloc (.cells #[.string k, .int .i64 q, .bool g, .string v, .int .i64 t] 45)).alloc (.cells #[.string ⟨#[]⟩, .int .i64 0, .bool false, .string ⟨#[]⟩, .int .i64 0] 45)).heap[x + 1]? = some (.cells #[.string ⟨#[]⟩, .int .i64 0, .bool false, .string ⟨#[]⟩, .int .i64 0] 45 (0, 0)) := by
    subst hx
    have := heap_alloc_new (w.alloc (.cells #[.string k, .int .i64 q, .bool g, .string v, .int .i64 t] 45)) (.cells #[.string ⟨#[]⟩, .int .i64 0, .bool false, .string ⟨#[]⟩, .int .i64 0] 45)
    simpa using this
  have hbel : Below x w ((w.alloc (.cells #[.string k, .int .i64 q, .bool g, .string v, .int .i64 t] 45)).alloc (.cells #[.string ⟨#[]⟩, .int .i64 0, .bool false, .string ⟨#[]⟩, .int .i64 0] 45)) := by
    subst hx
    exact ((Below.refl _ w).alloc (Nat.le_refl _) _).alloc (by simp) _
  have hsz : ((w.alloc (.cells #[.string k, .int .i64 q, .bool g, .string v, .int .i64 t] 45)).alloc (.cells #[.string ⟨#[]⟩, .int .i64 0, .bool false, .string ⟨#[]⟩, .int .i64 0] 45)).heap.size = x + 2 := by
    subst hx; simp
  generalize (w.alloc (.cells #[.string k, .int .i64 q, .bool g, .string v, .int .i64 t] 45)).alloc (.cells #[.string ⟨#[]⟩, .int .i64 0, .bool false, .string ⟨#[]⟩, .int .i64 0] 45) = W0 at hrow hrow2 hbel hsz ⊢
  have z0 : W0.cell? ⟨x, 0, none⟩ = some (.string k) := cell_of_row _ _ _ _ _ _ hrow
  have z3 : W0.cell? ⟨x, 3, none⟩ = some (.string v) := cell_of_row _ _ _ _ _ _ hrow
  have f0 : W0.frozen? ⟨x, 0, none⟩ = false := frozen_of_row _ _ _ _ _ hrow
  have f3 : W0.frozen? ⟨x, 3, none⟩ = false := frozen_of_row _ _ _ _ _ hrow
  have HR := Lib.hid hrow
  have HR2 := Lib.hid hrow2
  have HBL := Lib.hid hbel
  have HSZ := Lib.hid hsz
  have HX := Lib.hid hx
  clear hrow hrow2 hbel hsz hx
  have HB1 : Hid (Below W0.heap.size W0 W0) := Below.refl _ _
  go_region_held3 (fun w' => w'.cell? ⟨x, 0, none⟩ = some (.string k) ∧ w'.cell? ⟨x, 3, none⟩ = some (.string v) ∧ w'.frozen? ⟨x, 0, none⟩ = false ∧ w'.frozen? ⟨x, 3, none⟩ = false)
    (first | go_keep | exact ⟨d0, d3, e0, e3⟩ | exact ⟨i0, i3, j0, j3⟩ | (refine ⟨?_, ?_, ?_, ?_⟩ <;> simp [*]) | fail)
    (first
      | (go_at_call 49
         refine (H1.out _).mono ?_
         rintro e w1 ⟨rfl, hb⟩
         have d0 : w1.cell? ⟨x, 0, none⟩ = some (.string k) := (hb.cell (p := ⟨x, 0, none⟩) (by have := HSZ.out; simp; omega)).trans z0
         have d3 : w1.cell? ⟨x, 3, none⟩ = some (.string v) := (hb.cell (p := ⟨x, 3, none⟩) (by have := HSZ.out; simp; omega)).trans z3
         have e0 : w1.frozen? ⟨x, 0, none⟩ = false := (hb.frozen (p := ⟨x, 0, none⟩) (by have := HSZ.out; simp; omega)).trans f0
         have e3 : w1.frozen? ⟨x, 3, none⟩ = false := (hb.frozen (p := ⟨x, 3, none⟩) (by have := HSZ.out; simp; omega)).trans f3
         have HC1 : Hid (Below W0.heap.size W0 w1) := Lib.hid (Below.trans ((Below.refl _ W0).drew) hb)
         clear hb)
      | (go_at_call 49
         refine (H2.out _).mono ?_
         rintro e w2 ⟨rfl, hb⟩
         have hlt1 : x + 2 ≤ w1.heap.size := by have := HSZ.out; have := HC1.out.size; omega
         have i0 : w2.cell? ⟨x, 0, none⟩ = some (.string k) := (hb.cell (p := ⟨x, 0, none⟩) (by simp; omega)).trans d0
         have i3 : w2.cell? ⟨x, 3, none⟩ = some (.string v) := (hb.cell (p := ⟨x, 3, none⟩) (by simp; omega)).trans d3
         have j0 : w2.frozen? ⟨x, 0, none⟩ = false := (hb.frozen (p := ⟨x, 0, none⟩) (by simp; omega)).trans e0
         have j3 : w2.frozen? ⟨x, 3, none⟩ = false := (hb.frozen (p := ⟨x, 3, none⟩) (by simp; omega)).trans e3
         have hs0 : w2.setCell ⟨x, 0, none⟩ (.string k) = w2 := set_same i0
         have hs3 : w2.setCell ⟨x, 3, none⟩ (.string v) = w2 := set_same i3
         have HC2 : Hid (Below W0.heap.size W0 w2) := Lib.hid (HC1.out.trans (hb.mono HC1.out.size))
         clear hb)
      | fail)
  all_goals
    have hr : w2.heap[x]? = some (.cells #[.string k, .int .i64 q, .bool g, .string v, .int .i64 t] 45 (0, 0)) := (HC2.out.block x (by have := HSZ.out; omega)).trans HR.out
    have hr2 : w2.heap[x + 1]? = some (.cells #[.string ⟨#[]⟩, .int .i64 0, .bool false, .string ⟨#[]⟩, .int .i64 0] 45 (0, 0)) := (HC2.out.block (x + 1) (by have := HSZ.out; omega)).trans HR2.out
    have hend : Below w.heap.size w w2 := by
      rw [HX.out]
      exact HBL.out.trans (HC2.out.mono (by have := HSZ.out; omega))
    have HEND := Lib.hid hend
    have y0 : w2.cell? ⟨x, 0, none⟩ = some (.string k) := cell_of_row _ _ _ _ _ _ hr
    have y1 : w2.cell? ⟨x, 1, none⟩ = some (.int .i64 q) := cell_of_row _ _ _ _ _ _ hr
    have y2 : w2.cell? ⟨x, 2, none⟩ = some (.bool g) := cell_of_row _ _ _ _ _ _ hr
    have y3 : w2.cell? ⟨x, 3, none⟩ = some (.string v) := cell_of_row _ _ _ _ _ _ hr
    have y4 : w2.cell? ⟨x, 4, none⟩ = some (.int .i64 t) := cell_of_row _ _ _ _ _ _ hr
    have n0 : w2.cell? ⟨x + 1, 0, none⟩ = some (.string ⟨#[]⟩) := cell_of_row _ _ _ _ _ _ hr2
    have n1 : w2.cell? ⟨x + 1, 1, none⟩ = some (.int .i64 0) := cell_of_row _ _ _ _ _ _ hr2
    have n2 : w2.cell? ⟨x + 1, 2, none⟩ = some (.bool false) := cell_of_row _ _ _ _ _ _ hr2
    have n3 : w2.cell? ⟨x + 1, 3, none⟩ = some (.string ⟨#[]⟩) := cell_of_row _ _ _ _ _ _ hr2
    have n4 : w2.cell? ⟨x + 1, 4, none⟩ = some (.int .i64 0) := cell_of_row _ _ _ _ _ _ hr2
    have g0 : w2.frozen? ⟨x + 1, 0, none⟩ = false := frozen_of_row _ _ _ _ _ hr2
    have g1 : w2.frozen? ⟨x + 1, 1, none⟩ = false := frozen_of_row _ _ _ _ _ hr2
    have g2 : w2.frozen? ⟨x + 1, 2, none⟩ = false := frozen_of_row _ _ _ _ _ hr2
    have g3 : w2.frozen? ⟨x + 1, 3, none⟩ = false := frozen_of_row _ _ _ _ _ hr2
    have g4 : w2.frozen? ⟨x + 1, 4, none⟩ = false := frozen_of_row _ _ _ _ _ hr2
    have HEND2 : Hid (∀ v0 v1 v2 v3 v4, Below w.heap.size w (((((w2.setCell ⟨x + 1, 0, none⟩ v0).setCell ⟨x + 1, 1, none⟩ v1).setCell ⟨x + 1, 2, none⟩ v2).setCell ⟨x + 1, 3, none⟩ v3).setCell ⟨x + 1, 4, none⟩ v4)) := fun v0 v1 v2 v3 v4 => by
      have hle : w.heap.size ≤ x + 1 := by rw [HX.out]; omega
      exact ((((hend.setCell (p := ⟨x + 1, 0, none⟩) hle v0).setCell (p := ⟨x + 1, 1, none⟩) hle v1).setCell (p := ⟨x + 1, 2, none⟩) hle v2).setCell (p := ⟨x + 1, 3, none⟩) hle v3).setCell (p := ⟨x + 1, 4, none⟩) hle v4
    clear hr hr2 hend hs0 hs3 hlt1 d0 d3 e0 e3 i0 i3 j0 j3 z0 z3 f0 f3
    go_wp2
    exact bodyPost_ret (v := .agg #[.string k, .int .i64 q, .bool g, .string v, .int .i64 t]) (by simp [results, Tryz.results53, go_sem, *]) rfl ⟨rfl, HEND2.out _ _ _ _ _⟩
end Go.Proofs.YtjkofciohehgfaaGreatDoor.L6


/- The representation of a list: nodes with towers. No walk. -/
namespace Go.Proofs.YtjkofciohehgfaaGreatDoor.L6
open Go.RowKit
open SK

/-- a node: its block, its tower's, how many floors are linked, how many it has, its entry -/
structure ND where
  b : Nat
  t : Nat
  h : Nat
  c : Nat
  e : E

def pv (o : Option Nat) : Value := .pointer (o.map fun b => ⟨b, 0, none⟩)
def nx (f : Nat) : List ND → Option Nat
  | [] => none
  | d :: r => if f < d.h then some d.b else nx f r
def lst (f : Nat) : List ND → Option ND
  | [] => none
  | d :: r => match lst f r with | some x => some x | none => if f < d.h then some d else none

theorem all_cons {p : ND → Prop} {d : ND} {r : List ND} (h : p d) (h2 : ∀ x ∈ r, p x) : ∀ x ∈ d :: r, p x := fun x hx => by
  rcases List.mem_cons.1 hx with rfl | hx
  · exact h
  · exact h2 x hx

theorem nx_cases (f : Nat) : ∀ l : List ND, (nx f l = none ∧ ∀ d ∈ l, ¬ f < d.h) ∨ ∃ p d r, l = p ++ d :: r ∧ nx f l = some d.b ∧ f < d.h ∧ ∀ x ∈ p, ¬ f < x.h
  | [] => .inl ⟨rfl, by simp⟩
  | d :: r => by
    by_cases h : f < d.h
    · exact .inr ⟨[], d, r, rfl, by simp [nx, h], h, by simp⟩
    · rcases nx_cases f r with ⟨h1, h2⟩ | ⟨p, x, q, h1, h2, h3, h4⟩
      · exact .inl ⟨by simp [nx, h, h1], all_cons h h2⟩
      · exact .inr ⟨d :: p, x, q, by simp [h1], by simp [nx, h, h2], h3, all_cons h h4⟩

theorem nx_app_none {f : Nat} : ∀ {p r : List ND}, (∀ x ∈ p, ¬ f < x.h) → nx f (p ++ r) = nx f r
  | [], _, _ => rfl
  | d :: p, r, h => by
    have h1 := h d (by simp)
    simp only [List.cons_append, nx, h1, if_false]
    exact nx_app_none (fun x hx => h x (by simp [hx]))

theorem lst_none {f : Nat} : ∀ {p : List ND}, (∀ x ∈ p, ¬ f < x.h) → lst f p = none
  | [], _ => rfl
  | d :: p, h => by
    have h1 := h d (by simp)
    rw [lst, lst_none (fun x hx => h x (by simp [hx]))]
    simp [h1]

theorem lst_app {f : Nat} : ∀ {p r : List ND}, (∀ x ∈ r, ¬ f < x.h) → lst f (p ++ r) = lst f p
  | [], r, h => by simpa [lst] using lst_none h
  | d :: p, r, h => by
    rw [List.cons_append, lst, lst, lst_app h]

theorem lst_snoc {f : Nat} {d : ND} (h : f < d.h) : ∀ {p : List ND}, lst f (p ++ [d]) = some d
  | [] => by simp [lst, h]
  | x :: p => by rw [List.cons_append, lst, lst_snoc h]

theorem lst_cases (f : Nat) : ∀ l : List ND, (lst f l = none ∧ ∀ d ∈ l, ¬ f < d.h) ∨ ∃ p d r, l = p ++ d :: r ∧ lst f l = some d ∧ f < d.h ∧ ∀ x ∈ r, ¬ f < x.h
  | [] => .inl ⟨rfl, by simp⟩
  | d :: r => by
    rcases lst_cases f r with ⟨h1, h2⟩ | ⟨p, x, q, h1, h2, h3, h4⟩
    · by_cases h : f < d.h
      · exact .inr ⟨[], d, r, rfl, by simp [lst, h1, h], h, h2⟩
      · exact .inl ⟨by simp [lst, h1, h], all_cons h h2⟩
    · exact .inr ⟨d :: p, x, q, by simp [h1], by simp [lst, h2], h3, h4⟩

def ncells (d : ND) : Array Value := #[.string d.e.key, .int .i64 d.e.seq, .bool d.e.gone, .string d.e.value, .int .i64 d.e.til, .slice (some ⟨d.t, 0, none⟩) d.c d.c]

/-- a node in memory; g: what is next on a floor -/
structure NodeAt (w : World) (d : ND) (g : Nat → Option Nat) : Prop where
  node : w.heap[d.b]? = some (.cells (ncells d) 100 (0, 0))
  le : d.h ≤ d.c
  tower : ∃ cs, w.heap[d.t]? = some (.cells cs 89 (0, 0)) ∧ cs.size = d.c ∧ ∀ f, f < d.h → cs[f]? = some (pv (g f))

def Chain (w : World) : List ND → Prop
  | [] => True
  | d :: r => NodeAt w d (fun f => nx f r) ∧ Chain w r

def blks (l : List ND) : List Nat := l.flatMap fun d => [d.b, d.t]

theorem NodeAt.stays {w w' : World} {d : ND} {g g' : Nat → Option Nat} (h : NodeAt w d g) (hb : w'.heap[d.b]? = w.heap[d.b]?) (ht : w'.heap[d.t]? = w.heap[d.t]?) (hg : ∀ f, f < d.h → g' f = g f) : NodeAt w' d g' := by
  obtain ⟨cs, h1, h2, h3⟩ := h.tower
  exact ⟨hb.trans h.node, h.le, cs, ht.trans h1, h2, fun f hf => by rw [hg f hf]; exact h3 f hf⟩

theorem Chain.stays {w w' : World} : ∀ {l : List ND}, Chain w l → (∀ x ∈ blks l, w'.heap[x]? = w.heap[x]?) → Chain w' l
  | [], _, _ => trivial
  | d :: r, h, hs => ⟨h.1.stays (hs _ (by simp [blks])) (hs _ (by simp [blks])) (fun _ _ => rfl), h.2.stays fun x hx => hs x (by simp [blks] at *; exact .inr (.inr hx))⟩

theorem Chain.at_ {w : World} : ∀ {p : List ND} {d : ND} {r : List ND}, Chain w (p ++ d :: r) → NodeAt w d (fun f => nx f r)
  | [], _, _, h => h.1
  | _ :: _, _, _, h => h.2.at_

theorem blks_app (p r : List ND) : blks (p ++ r) = blks p ++ blks r := by simp [blks]
theorem blks_cons (d : ND) (r : List ND) : blks (d :: r) = d.b :: d.t :: blks r := by simp [blks]

/-- a new node that is linked on no floor yet -/
theorem Chain.fresh {w : World} {p r : List ND} {n : ND} (h : Chain w (p ++ r)) (hn : n.h = 0) (hN : NodeAt w n (fun _ => none)) : Chain w (p ++ n :: r) := by
  have key : ∀ (q : List ND) (f : Nat), nx f (q ++ n :: r) = nx f (q ++ r) := by
    intro q f
    induction q with
    | nil => simp [nx, hn]
    | cons x q ih => simp only [List.cons_append, nx, ih]
  induction p with
  | nil => exact ⟨hN.stays rfl rfl (fun f hf => by omega), h⟩
  | cons x p ih =>
    refine ⟨h.1.stays rfl rfl fun f _ => key p f, ih h.2⟩

/-- the block of a node's tower, and its size; of none that of the first ones -/
def towerB (a : Nat) (q : Option ND) : Nat := match q with | some d => d.t | none => a
def towerO (q : Option ND) : Nat := match q with | some _ => 0 | none => 1
def towerN (q : Option ND) : Nat := match q with | some d => d.c | none => 8
def towerV (a : Nat) (q : Option ND) : Value := .slice (some ⟨towerB a q, towerO q, none⟩) (towerN q) (towerN q)

/-- one floor more of a new node is linked -/
theorem Chain.link {w : World} {k : Nat} {n : ND} (hk : n.h = k) (hkc : k < n.c) : ∀ {p r : List ND}, Chain w (p ++ n :: r) → (blks (p ++ n :: r)).Nodup →
    ∀ (u : Nat), u = (match lst k p with | some d => d.t | none => u) → u ≠ n.t → (lst k p = none → u ∉ blks (p ++ n :: r)) → ∀ (j : Nat), (lst k p ≠ none → j = k) →
    Chain ((w.setCell ⟨n.t, k, none⟩ (pv (nx k r))).setCell ⟨u, j, none⟩ (pv (some n.b))) (p ++ { n with h := k + 1 } :: r) := by
  intro p
  have hnx : ∀ (q r : List ND) (f : Nat), f ≠ k → nx f (q ++ { n with h := k + 1 } :: r) = nx f (q ++ n :: r) := by
    intro q r f hf
    induction q with
    | nil =>
      simp only [List.nil_append, nx, hk]
      by_cases h : f < k
      · rw [if_pos h, if_pos (by omega)]
      · rw [if_neg h, if_neg (by omega)]
    | cons x q ih => simp only [List.cons_append, nx, ih]
  have hnk : ∀ (q r : List ND), (∀ x ∈ q, ¬ k < x.h) → nx k (q ++ { n with h := k + 1 } :: r) = some n.b := by
    intro q r hq
    rw [nx_app_none hq, nx, if_pos (Nat.lt_succ_self _)]
  have hnk2 : ∀ (q r : List ND), (∃ x ∈ q, k < x.h) → nx k (q ++ { n with h := k + 1 } :: r) = nx k (q ++ n :: r) := by
    intro q r hq
    induction q with
    | nil => obtain ⟨x, hx, -⟩ := hq; simp at hx
    | cons y q ih =>
      simp only [List.cons_append, nx]
      by_cases hy : k < y.h
      · rw [if_pos hy, if_pos hy]
      · rw [if_neg hy, if_neg hy]
        refine ih ?_
        obtain ⟨x, hx, hh⟩ := hq
        rcases List.mem_cons.1 hx with rfl | hx
        · exact absurd hh hy
        · exact ⟨x, hx, hh⟩
  induction p with
  | nil =>
    intro r h hnd u _ hun hu j _
    have hu' := hu rfl
    simp only [List.nil_append, blks_cons, List.nodup_cons, List.mem_cons, not_or] at hnd hu'
    obtain ⟨⟨hbt, hbr⟩, htr, -⟩ := hnd
    obtain ⟨cs, h1, h2, h3⟩ := h.1.tower
    have hne : ∀ x, x ≠ u → x ≠ n.t → ((w.setCell ⟨n.t, k, none⟩ (pv (nx k r))).setCell ⟨u, j, none⟩ (pv (some n.b))).heap[x]? = w.heap[x]? := fun x e1 e2 =>
      (Below.heap_setCell _ _ _ _ e1).trans (Below.heap_setCell _ _ _ _ e2)
    refine ⟨⟨(hne _ (Ne.symm hu'.1) hbt).trans h.1.node, hkc, cs.setIfInBounds k (pv (nx k r)), ?_, by simpa using h2, fun f hf => ?_⟩, h.2.stays fun x hx => hne x (fun e => hu'.2.2 (e ▸ hx)) (fun e => htr (e ▸ hx))⟩
    · exact (Below.heap_setCell _ _ _ _ (Ne.symm hun)).trans (heap_set_fr h1 k _)
    · rw [Array.getElem?_setIfInBounds]
      by_cases e : k = f
      · subst e
        rw [if_pos rfl, if_pos (by omega)]
      · rw [if_neg e]
        exact h3 f (by simp only at hf; omega)
  | cons x p ih =>
    intro r h hnd u hu hun hu0 j hj
    have hnd' := hnd
    simp only [List.cons_append, blks_cons, List.nodup_cons, List.mem_cons, not_or] at hnd'
    obtain ⟨⟨hxbt, hxb⟩, hxt, hndr⟩ := hnd'
    have hnt : n.t ∈ blks (p ++ n :: r) := by rw [blks_app, blks_cons]; simp
    rcases lst_cases k p with ⟨hl0, hall⟩ | ⟨p1, d, q, hp, hl0, hd, hq⟩
    · by_cases hx : k < x.h
      · -- x is the one
        have hlx : lst k (x :: p) = some x := by rw [lst, hl0]; simp [hx]
        rw [hlx] at hu
        simp only at hu
        subst hu
        obtain rfl : j = k := hj (by rw [hlx]; simp)
        have hrest := ih h.2 hndr x.t (by rw [hl0]) hun (fun _ => hxt) j (fun hc => absurd hl0 hc)
        obtain ⟨cs, h1, h2, h3⟩ := h.1.tower
        refine ⟨⟨?_, h.1.le, cs.setIfInBounds j (pv (some n.b)), ?_, by simpa using h2, fun f hf => ?_⟩, hrest⟩
        · exact ((Below.heap_setCell _ _ _ _ hxbt).trans (Below.heap_setCell _ _ _ _ (fun e => hxb (by have e' : x.b = n.t := e; rw [e']; exact hnt)))).trans h.1.node
        · refine heap_set_fr ?_ j _
          exact (Below.heap_setCell _ _ _ _ hun).trans h1
        · rw [Array.getElem?_setIfInBounds]
          by_cases e : j = f
          · subst e
            rw [if_pos rfl, if_pos (by have := h.1.le; omega)]
            show _ = some (pv (nx j (p ++ { n with h := j + 1 } :: r)))
            rw [hnk p r hall]
          · rw [if_neg e]
            show _ = some (pv (nx f (p ++ { n with h := j + 1 } :: r)))
            rw [hnx p r f (Ne.symm e)]
            exact h3 f hf
      · have hlx : lst k (x :: p) = none := by rw [lst, hl0]; simp [hx]
        have hu' := hu0 hlx
        rw [List.cons_append, blks_cons, List.mem_cons, List.mem_cons, not_or, not_or] at hu'
        have hrest := ih h.2 hndr u (by rw [hl0]) hun (fun _ => hu'.2.2) j (fun hc => absurd hl0 hc)
        refine ⟨h.1.stays ?_ ?_ fun f hf => ?_, hrest⟩
        · exact (Below.heap_setCell _ _ _ _ (Ne.symm hu'.1)).trans (Below.heap_setCell _ _ _ _ (fun e => hxb (by have e' : x.b = n.t := e; rw [e']; exact hnt)))
        · exact (Below.heap_setCell _ _ _ _ (Ne.symm hu'.2.1)).trans (Below.heap_setCell _ _ _ _ (fun e => hxt (by have e' : x.t = n.t := e; rw [e']; exact hnt)))
        · exact hnx p r f (by omega)
    · have hlx : lst k (x :: p) = some d := by rw [lst, hl0]
      rw [hlx] at hu
      simp only at hu
      have hdm : d.t ∈ blks (p ++ n :: r) := by rw [hp]; simp [blks]
      have hrest := ih h.2 hndr u (by rw [hl0]; exact hu) hun (fun hc => by rw [hl0] at hc; cases hc) j (fun _ => hj (by rw [hlx]; simp))
      refine ⟨h.1.stays ?_ ?_ fun f hf => ?_, hrest⟩
      · exact (Below.heap_setCell _ _ _ _ (fun e => hxb (by rw [e, hu]; exact hdm))).trans (Below.heap_setCell _ _ _ _ (fun e => hxb (by have e' : x.b = n.t := e; rw [e']; exact hnt)))
      · exact (Below.heap_setCell _ _ _ _ (fun e => hxt (by rw [e, hu]; exact hdm))).trans (Below.heap_setCell _ _ _ _ (fun e => hxt (by have e' : x.t = n.t := e; rw [e']; exact hnt)))
      · by_cases e : f = k
        · subst e
          exact hnk2 p r ⟨d, by rw [hp]; simp, hd⟩
        · exact hnx p r f e

/-- the same, of the first ones -/
theorem nx_link {k : Nat} {n : ND} (hk : n.h = k) (p r : List ND) (f : Nat) : nx f (p ++ { n with h := k + 1 } :: r) = if f = k ∧ lst k p = none then some n.b else nx f (p ++ n :: r) := by
  induction p with
  | nil =>
    simp only [List.nil_append, nx, lst, hk, and_true]
    by_cases h : f = k
    · subst h; simp
    · rw [if_neg h]
      by_cases h2 : f < k
      · rw [if_pos h2, if_pos (by omega)]
      · rw [if_neg h2, if_neg (by omega)]
  | cons x p ih =>
    simp only [List.cons_append, nx, lst]
    by_cases hx : f < x.h
    · rw [if_pos hx, if_pos hx]
      cases hl : lst k p with
      | some d => simp
      | none =>
        rw [if_neg]
        rintro ⟨rfl, h2⟩
        simp [hx] at h2
    · rw [if_neg hx, if_neg hx, ih]
      cases hl : lst k p with
      | some d => simp
      | none =>
        by_cases hf : f = k
        · subst hf; simp [hx]
        · simp [hf]
end Go.Proofs.YtjkofciohehgfaaGreatDoor.L6


/- A list in memory; Len, Size, next, nextHeight, Cost. -/
namespace Go.Proofs.YtjkofciohehgfaaGreatDoor.L6
open Go.RowKit
open SK

theorem wrap_in (n : Int) (h : -9223372036854775808 ≤ n ∧ n ≤ 9223372036854775807) : IntKind.i64.wrap n = n := by
  simp [IntKind.wrap, IntKind.signed, IntKind.bits]; omega

def hcells (hb n : Nat) (g : Nat → Option Nat) (c : Nat) (z : Int) : Array Value :=
  #[.slice (some ⟨hb, 0, none⟩) n n, pv (g 0), pv (g 1), pv (g 2), pv (g 3), pv (g 4), pv (g 5), pv (g 6), pv (g 7), .int .i64 c, .int .i64 z]

theorem hcells_floor (hb n : Nat) (g : Nat → Option Nat) (c : Nat) (z : Int) (f : Nat) (hf : f < 8) : (hcells hb n g c z)[1 + f]? = some (pv (g f)) := by
  match f, hf with
  | 0, _ => rfl
  | 1, _ => rfl
  | 2, _ => rfl
  | 3, _ => rfl
  | 4, _ => rfl
  | 5, _ => rfl
  | 6, _ => rfl
  | 7, _ => rfl

/-- a list that lies at block a (its heights at hb): all of it from block B on -/
structure Rep (B : Nat) (w : World) (a hb : Nat) (cs : List Int) (l : List ND) (s : St) : Prop where
  head : w.heap[a]? = some (.cells (hcells hb cs.length (fun f => nx f l) s.l.length s.size) 92 (0, 0))
  coins : ∃ hc, w.heap[hb]? = some (.cells hc 5 (0, 0)) ∧ hc.size = cs.length ∧ ∀ j, (h : j < cs.length) → hc[j]? = some (.int .u8 (coin cs[j]))
  chain : Chain w l
  ents : l.map (·.e) = s.l
  full : ∀ d ∈ l, d.h = d.c ∧ 1 ≤ d.h ∧ d.h ≤ 8
  nodup : (a :: hb :: blks l).Nodup
  lo : ∀ x ∈ a :: hb :: blks l, B ≤ x ∧ x < w.heap.size

section
variable {B : Nat} {w : World} {a hb : Nat} {cs : List Int} {l : List ND} {s : St}
theorem Rep.same (h : Rep B w a hb cs l s) {w' : World} (hs : ∀ x ∈ a :: hb :: blks l, w'.heap[x]? = w.heap[x]?) (hz : w.heap.size ≤ w'.heap.size) : Rep B w' a hb cs l s := by
  obtain ⟨hc, h1, h2, h3⟩ := h.coins
  exact ⟨(hs a (by simp)).trans h.head, ⟨hc, (hs hb (by simp)).trans h1, h2, h3⟩, h.chain.stays fun x hx => hs x (by simp [hx]), h.ents, h.full, h.nodup, fun x hx => ⟨(h.lo x hx).1, Nat.lt_of_lt_of_le (h.lo x hx).2 hz⟩⟩
theorem Rep.below (h : Rep B w a hb cs l s) {w' : World} (hb' : Below w.heap.size w w') : Rep B w' a hb cs l s :=
  h.same (fun x hx => hb'.block x (h.lo x hx).2) hb'.size
theorem Rep.below' (h : Rep B w a hb cs l s) {w' : World} {N : Nat} (hN : ∀ x ∈ a :: hb :: blks l, x < N) (hb' : Below N w w') : Rep B w' a hb cs l s :=
  h.same (fun x hx => hb'.block x (hN x hx)) hb'.size
theorem Rep.cells (h : Rep B w a hb cs l s) (j : Nat) : w.cell? ⟨a, j, none⟩ = (hcells hb cs.length (fun f => nx f l) s.l.length s.size)[j]? := cell_of_row _ _ _ _ _ _ h.head
theorem Rep.frozen (h : Rep B w a hb cs l s) (j : Nat) : w.frozen? ⟨a, j, none⟩ = false := frozen_of_row _ _ _ _ _ h.head
end

theorem len_any {B : Nat} {w : World} {a hb : Nat} {cs : List Int} {l : List ND} {s : St} (h : Rep B w a hb cs l s) :
    Calls Tryz.prog 18 #[.pointer (some ⟨a, 0, none⟩)] w fun e w' => e = .returned (.int .i64 s.l.length) ∧ w = w' := by
  have z : w.cell? ⟨a, 9, none⟩ = some (.int .i64 s.l.length) := h.cells 9
  obtain ⟨n, hn⟩ : ∃ n, s.l.length = n := ⟨_, rfl⟩
  rw [hn] at z ⊢
  clear h hn
  go_enter Tryz.func18, Tryz.ntmps18
  go_wp2
  go_ret
  exact ⟨rfl, rfl⟩
theorem arr_slice (W : World) (a : Nat) : (Instr.sliceAt 90 (.pointer (some ⟨a, 1, none⟩)) none none none).run Tryz.prog W = .ok (.slice (some ⟨a, 1, none⟩) 8 8) W := by
  have hal : Tryz.prog.arrayLen 90 = 8 := by kernel_rfl
  have hs : ∀ w, (sizeOf (Tryz.prog.elem 90)).run Tryz.prog w = .ok 1 w := fun w => by kernel_rfl
  rw [run_sliceAt_array_all W 90 ⟨a, 1, none⟩ (by kernel_rfl), hs, hal]
  simp [Result.andThen, slicedAt, Addr.add]

theorem next_any (a : Nat) (q : Option ND) (w : World) (h : ∀ d, q = some d → w.heap[d.b]? = some (.cells (ncells d) 100 (0, 0))) :
    Calls Tryz.prog 55 #[.pointer (some ⟨a, 0, none⟩), pv (q.map (·.b))] w fun e w' => e = .returned (towerV a q) ∧ w = w' := by
  cases q with
  | none =>
    have hsl := arr_slice w a
    simp only [Option.map_none, pv, towerV, towerB, towerO, towerN]
    clear h
    go_enter Tryz.func55, Tryz.ntmps55
    go_wp2
    go_ret
    exact ⟨rfl, rfl⟩
  | some d =>
    have hd := h d rfl
    have z : w.cell? ⟨d.b, 5, none⟩ = some (.slice (some ⟨d.t, 0, none⟩) d.c d.c) := cell_of_row _ _ _ _ _ _ hd
    simp only [Option.map_some, pv, towerV, towerB, towerO, towerN]
    clear h hd
    go_enter Tryz.func55, Tryz.ntmps55
    go_wp2
    go_ret
    exact ⟨rfl, rfl⟩

theorem nextHeight_at {w : World} {a hb : Nat} {cs : List Int} {n : Nat} (z0 : w.cell? ⟨a, 0, none⟩ = some (.slice (some ⟨hb, 0, none⟩) cs.length cs.length)) (z9 : w.cell? ⟨a, 9, none⟩ = some (.int .i64 n))
    (coins : ∃ hc, w.heap[hb]? = some (.cells hc 5 (0, 0)) ∧ hc.size = cs.length ∧ ∀ j, (h : j < cs.length) → hc[j]? = some (.int .u8 (coin cs[j]))) :
    Calls Tryz.prog 59 #[.pointer (some ⟨a, 0, none⟩)] w fun e w' => e = .returned (.int .i64 (height cs n)) ∧ Below w.heap.size w w' := by
  obtain ⟨hc, h1, h2, h3⟩ := coins
  obtain ⟨m, hm⟩ : ∃ m, cs.length = m := ⟨_, rfl⟩
  rw [hm] at z0
  by_cases hm0 : m = 0
  · have hh : height cs n = 1 := by unfold height; rw [if_pos (by omega)]
    rw [hh]
    subst hm0
    clear h1 h2 h3 hm hh
    go_enter Tryz.func59, Tryz.ntmps59
    go_wp2
    go_ret
    exact ⟨rfl, Below.refl _ _⟩
  · have hlt : n % m < m := Nat.mod_lt _ (by omega)
    have hcoin := h3 (n % m) (by omega)
    have hcr := coin_range (cs[n % m]'(by omega))
    have hh : (height cs n : Int) = coin (cs[n % m]'(by omega)) := by
      have hg : cs.getD (n % cs.length) 0 = cs[n % m]'(by omega) := by
        subst hm
        rw [List.getD_eq_getElem?_getD, List.getElem?_eq_getElem hlt]
        rfl
      unfold height
      rw [if_neg (by omega), hg]
      omega
    rw [hh]
    obtain ⟨c, hc'⟩ : ∃ c, coin (cs[n % m]'(by omega)) = c := ⟨_, rfl⟩
    rw [hc'] at hcoin hcr ⊢
    obtain ⟨r, hr⟩ : ∃ r, n % m = r := ⟨_, rfl⟩
    rw [hr] at hlt hcoin
    have hri : (n : Int) % (m : Int) = (r : Int) := by rw [← hr]; rfl
    have hrt : (n : Int).tmod (m : Int) = (r : Int) := by rw [Int.tmod_eq_emod_of_nonneg (by omega)]; exact hri
    have zc : w.cell? ⟨hb, r, none⟩ = some (.int .u8 c) := (cell_of_row _ _ _ _ _ _ h1).trans hcoin
    have hm1 : ((m : Int) == 0) = false := beq_eq_false_iff_ne.2 (by omega)
    have hm2 : ¬ (m : Int) = 0 := by omega
    have hr0 : (0 : Int) ≤ (r : Int) := by omega
    have hr1 : (r : Int) < (m : Int) := by omega
    have hwr : IntKind.i64.wrap c = c := by simp [IntKind.wrap, IntKind.signed, IntKind.bits]; omega
    have HD : Hid (∀ q, Below w.heap.size w (w.drewN q)) := fun q => below_drewN (Below.refl _ _) q
    clear h1 h2 h3 hm hh hc' hr hcoin hlt hm0
    go_enter Tryz.func59, Tryz.ntmps59
    go_wp2_with fail
    go_quiet (fail)
    go_wp2
    go_ret
    exact ⟨rfl, HD.out _⟩

theorem nextHeight_any {B : Nat} {w : World} {a hb : Nat} {cs : List Int} {l : List ND} {s : St} (h : Rep B w a hb cs l s) :
    Calls Tryz.prog 59 #[.pointer (some ⟨a, 0, none⟩)] w fun e w' => e = .returned (.int .i64 (height cs s.l.length)) ∧ Below w.heap.size w w' :=
  nextHeight_at (h.cells 0) (h.cells 9) h.coins

set_option maxRecDepth 100000 in
theorem cost_any {B : Nat} {w : World} {a hb : Nat} {cs : List Int} {l : List ND} {s : St} (h : Rep B w a hb cs l s) (e : E) (he : e.wf) :
    Calls Tryz.prog 57 #[.pointer (some ⟨a, 0, none⟩), e.val] w fun r w' => r = .returned (.int .i64 (cost cs s.l.length e)) ∧ Below w.heap.size w w' := by
  obtain ⟨k, q, g, v, t⟩ := e
  have hk := he.key
  have hv := he.value
  simp only at hk hv
  have hh := height_range cs s.l.length
  have HN : Hid (∀ W, Below w.heap.size w W → Calls Tryz.prog 59 #[.pointer (some ⟨a, 0, none⟩)] W fun e w' => e = .returned (.int .i64 (height cs s.l.length)) ∧ Below W.heap.size W w') := fun W hB => nextHeight_any (h.below hB)
  unfold cost
  obtain ⟨H, hH⟩ : ∃ H, height cs s.l.length = H := ⟨_, rfl⟩
  rw [hH] at hh HN ⊢
  simp only [E.val]
  have hrow := heap_alloc_new w (.cells #[.string k, .int .i64 q, .bool g, .string v, .int .i64 t] 45)
  have hbel := (Below.refl w.heap.size w).alloc (Nat.le_refl _) (.cells #[.string k, .int .i64 q, .bool g, .string v, .int .i64 t] 45)
  have hsz : (w.alloc (.cells #[.string k, .int .i64 q, .bool g, .string v, .int .i64 t] 45)).heap.size = w.heap.size + 1 := by simp
  clear h he hH
  go_enter Tryz.func57, Tryz.ntmps57
  go_wp2_with fail
  generalize w.alloc (.cells #[.string k, .int .i64 q, .bool g, .string v, .int .i64 t] 45) = W0 at hrow hbel hsz ⊢
  obtain ⟨x, hx⟩ : ∃ x, w.heap.size = x := ⟨_, rfl⟩
  rw [hx] at hrow HN hbel hsz ⊢
  have z0 : W0.cell? ⟨x, 0, none⟩ = some (.string k) := cell_of_row _ _ _ _ _ _ hrow
  have z3 : W0.cell? ⟨x, 3, none⟩ = some (.string v) := cell_of_row _ _ _ _ _ _ hrow
  have HBL := Lib.hid hbel
  have HSZ := Lib.hid hsz
  have HX := Lib.hid hx
  clear hrow hbel hsz hx
  go_region_held3 (fun w' => w'.cell? ⟨x, 0, none⟩ = some (.string k) ∧ w'.cell? ⟨x, 3, none⟩ = some (.string v))
    (first | go_keep | exact ⟨d0, d3⟩ | fail)
    (first
      | (go_at_call 59
         refine (HN.out _ (below_drewN HBL.out 1)).mono ?_
         rintro e w1 ⟨rfl, hb⟩
         have d0 : w1.cell? ⟨x, 0, none⟩ = some (.string k) := (hb.cell (p := ⟨x, 0, none⟩) (by have := HSZ.out; simp; omega)).trans z0
         have d3 : w1.cell? ⟨x, 3, none⟩ = some (.string v) := (hb.cell (p := ⟨x, 3, none⟩) (by have := HSZ.out; simp; omega)).trans z3
         have HC1 : Hid (Below x w w1) := Lib.hid (HBL.out.trans (Below.trans ((Below.refl x W0).drew) (hb.mono (by have := HSZ.out; simp; omega))))
         clear hb)
      | fail)
  all_goals
    rw [wrap_in (8 * (H : Int)) (by omega), wrap_in (40 + 8 * (H : Int)) (by omega), wrap_in (40 + 8 * (H : Int) + k.size) (by omega), wrap_in (40 + 8 * (H : Int) + k.size + v.size) (by omega)]
    go_wp2
    go_ret
    rw [HX.out]
    exact ⟨rfl, HC1.out⟩
end Go.Proofs.YtjkofciohehgfaaGreatDoor.L6


