/- Texts joined by bundle.py: Kit, Wn. -/
import Derived.Test.YtgknkldhjejjmaaGreatDoorRows
import Derived.WalkKit
import Derived.IntWalk
import Derived.Laws.Rows
import Derived.Lib.Hide
import Derived.Lib.SlBytesRow
import Derived.Lib.BufferWrite
import Derived.Lib.BufferRead
import Derived.Lib.UnsafeStr
import Derived.Laws.MakeOwn
import Derived.OwnWalk
import Derived.WalkSmall
import Derived.WalkLawsBesides
import Derived.Deep.AppendLies

/- Small words for memory: bytes, texts, rows. No function of the program. -/
namespace Go.Proofs.YtgknkldhjejjmaaGreatDoor
open Go.RowKit

theorem ret_int {k : IntKind} {a b : Int} (h : a = b) : Ending.returned (.int k a) = .returned (.int k b) := by rw [h]

theorem below_drewN {B : Nat} {a w : World} (h : Below B a w) (n : Nat) : Below B a (w.drewN n) := ⟨h.os, h.tape, h.output, h.size, h.block⟩

theorem byte_of (s : ByteArray) (k : Nat) (h : k < s.size) : s.data.toList[k]'(by simpa using h) = s[k] := by
  rfl

theorem size_list (s : ByteArray) : s.data.toList.length = s.size := by simp

theorem info_u8 : (Tryz.prog.info? 5).map (fun i => (i.zero, i.size, i.bytes)) = some (some (.int .u8 0), 1, 1) := by kernel_rfl

theorem str_ext {a b : ByteArray} (h : a.data.toList = b.data.toList) : a = b := by
  apply ByteArray.ext
  exact Array.toList_inj.1 h

theorem str_mk (s : ByteArray) : (⟨s.data.toList.toArray⟩ : ByteArray) = s := str_ext (by simp)

theorem str_app (a b : ByteArray) : (a ++ b).data.toList = a.data.toList ++ b.data.toList := by
  simp

theorem below_setRow {B : Nat} {w w1 : World} {g : Nat} {cs : Array Value} (h : Below B w w1) (hB : B ≤ g) : Below B w (w1.setRow g cs) :=
  h.trans ⟨rfl, rfl, rfl, by simp, fun k hk => setRow_other _ _ _ _ (by omega)⟩

theorem own_below {w w' : World} {base : Nat} {e : TypeId} {size : Nat} {v : Value} {n : Nat} {xs : List Value} (h : w.ownsRow base e size v n xs) (hb : Below w.heap.size w w') : w'.ownsRow base e size v n xs :=
  h.kept (row := none) ⟨hb.os, hb.tape, hb.output, hb.size, fun k hk _ => hb.block k hk⟩ (by cases v.ownBlock <;> simp)

theorem byte_toNat (m : Nat) (h : m < 256) : ((m.toUInt8).toNat : Int) = m := by
  simp only [Nat.toUInt8, UInt8.toNat_ofNat']; omega

theorem addr_add0 (g j : Nat) : (⟨g, 0, none⟩ : Addr).add j = ⟨g, j, none⟩ := by unfold Addr.add; split <;> simp_all

theorem heap_set_fr {w : World} {g : Nat} {cs : Array Value} {t : TypeId} {fr : Nat × Nat} (h : w.heap[g]? = some (.cells cs t fr)) (j : Nat) (u : Value) :
    (w.setCell ⟨g, j, none⟩ u).heap[g]? = some (.cells (cs.setIfInBounds j u) t fr) := by
  simp [World.setCell, Array.getElem?_modify, h]

theorem extract_at (s : ByteArray) (a b j : Nat) (h : j < (s.extract a b).size) : (s.extract a b)[j] = s[a + j]'(by rw [ByteArray.size_extract] at h; omega) := by
  exact ByteArray.getElem_extract ..

/-- 'string(b)' of a row that the call owns -/
theorem own_string {w : World} {base : Nat} {v : Value} {l : List UInt8} (h : w.ownsRow base 5 1 v l.length (Lib.byteCells l)) : (convert 97 9 v).run Tryz.prog w = .ok (.string ⟨l.toArray⟩) w := by
  rcases h.2 with ⟨rfl, h0⟩ | ⟨g, cap, cur, rfl, _, hg, _, _, _, htk⟩
  · have hl : l = [] := List.length_eq_zero_iff.1 h0
    subst hl
    exact Lib.run_convert_nil_bytes w 97 9 5 0 Tryz.underlying97 Tryz.underlying5 Tryz.underlying9
  · have hb := Lib.bytes_of_row hg (l := l) (by simpa using htk)
    have h := Lib.run_convert_whole (P := Tryz.prog) w 97 5 9 Tryz.underlying97 Tryz.underlying5 Tryz.underlying9 g 0 ⟨l.toArray⟩ (fun i hi => by
      have hi' : i < l.length := by simpa [ByteArray.size] using hi
      have h1 := hb i hi'
      rw [addr_add0] at h1
      rw [Nat.zero_add, h1]
      rfl) cap
    exact h

/-- a new row of bytes of a literal -/
theorem bytes_lit (w : World) (l : List UInt8) (cs : Array Value) (h : cs.toList = Lib.byteCells l) : ∀ j u, (Lib.byteCells l)[j]? = some u → (w.alloc (.cells cs 5)).cell? ((⟨w.heap.size, 0, none⟩ : Addr).add j) = some u := by
  intro j u hj
  rw [addr_add0, cell_of_row _ _ _ _ _ _ (heap_alloc_new w _), ← hj, ← h]
  simp

theorem byteCells_len (l : List UInt8) : (Lib.byteCells l).length = l.length := Lib.byteCells_length l

/-- '[]byte(s)': a new row with the text's bytes -/
theorem bytes_of_text (w : World) (s : ByteArray) : ∃ (G : Nat) (W1 : World) (cs : Array Value) (fr : Nat × Nat), (convert 9 97 (.string s)).run Tryz.prog w = .ok (.slice (some ⟨w.heap.size, 0, none⟩) s.size G) W1 ∧
    W1.heap[w.heap.size]? = some (.cells cs 5 fr) ∧ (∀ j, (h : j < s.size) → cs[j]? = some (.int .u8 (s[j].toNat : Int)) ∧ W1.frozen? ⟨w.heap.size, j, none⟩ = false) ∧ Below w.heap.size w W1 := by
  have h := run_bytes_of_string (P := Tryz.prog) w 9 97 5 s Tryz.underlying9 Tryz.underlying97 Tryz.underlying5
  refine ⟨_, _, _, _, h, heap_alloc_new w.drew _, fun j hj => ?_, ((Below.refl _ _).drew).alloc (Nat.le_refl _) _⟩
  have hj' : j < s.data.size := hj
  refine ⟨bytesRow_at s _ j hj', ?_⟩
  have hlt : j < (bytesRow s (grownCap w s.size 0 5)).size := by
    have := bytesRow_at s (grownCap w s.size 0 5) j hj'
    exact (Array.getElem?_eq_some_iff.1 this).1
  generalize bytesRow s (grownCap w s.size 0 5) = C at hlt
  have hh : ((w.drew.alloc (.cells C 5 (C.size, C.size + 1))).heap[w.heap.size]?) = some (.cells C 5 (C.size, C.size + 1)) := heap_alloc_new w.drew _
  simp only [World.frozen?, hh]
  simp
  omega
end Go.Proofs.YtgknkldhjejjmaaGreatDoor

/- Plain mathematics of a log's names: eight decimal digits. No function of the program. -/
namespace Go.Proofs.YtgknkldhjejjmaaGreatDoor
namespace WN

abbrev Bs := List UInt8
def dig (n : Nat) : UInt8 := (48 + n % 10).toUInt8
/-- the last k decimal digits of a number -/
def digs : Nat → Nat → Bs
  | 0, _ => []
  | k + 1, n => digs k (n / 10) ++ [dig n]
def goodKind (k : Bs) : Bool := !k.isEmpty && k.all (fun c => decide (97 ≤ c.toNat) && decide (c.toNat ≤ 122))
/-- the name of a file of a kind and a number; the empty text, if there is none -/
def file (k : Bs) (n : Int) : Bs := if goodKind k = true ∧ 0 ≤ n ∧ n < 100000000 then k ++ 45 :: digs 8 n.toNat else []
def isDig (c : UInt8) : Bool := decide (48 ≤ c.toNat) && decide (c.toNat ≤ 57)
def val (l : Bs) : Nat := l.foldl (fun a c => 10 * a + (c.toNat - 48)) 0
/-- the number of which a name is that of a file of the kind -/
def number (k name : Bs) : Int × Bool :=
  if name.length ≠ k.length + 9 then (0, false)
  else if (name.drop (k.length + 1)).all isDig = false then (0, false)
  else if file k (val (name.drop (k.length + 1)) : Nat) = name then ((val (name.drop (k.length + 1)) : Nat), true) else (0, false)

theorem digs_len : ∀ k n, (digs k n).length = k
  | 0, _ => rfl
  | k + 1, n => by simp [digs, digs_len k]

theorem digs_cons : ∀ k n, digs (k + 1) n = dig (n / 10 ^ k) :: digs k n
  | 0, n => by simp [digs]
  | k + 1, n => by
    have h : digs (k + 2) n = digs (k + 1) (n / 10) ++ [dig n] := rfl
    rw [h, digs_cons k (n / 10), Nat.div_div_eq_div_mul, Nat.pow_succ, Nat.mul_comm (10 ^ k) 10]
    rfl

theorem dig_nat (n : Nat) : (dig n).toNat = 48 + n % 10 := by
  unfold dig
  rw [Nat.toUInt8, UInt8.toNat_ofNat']
  have := Nat.mod_lt n (show 0 < 10 by decide)
  omega
theorem dig_is (n : Nat) : isDig (dig n) = true := by
  unfold isDig
  rw [dig_nat]
  have := Nat.mod_lt n (show 0 < 10 by decide)
  simp; omega
theorem digs_all : ∀ k n, (digs k n).all isDig = true
  | 0, _ => rfl
  | k + 1, n => by simp [digs, digs_all k, dig_is]

theorem val_snoc (l : Bs) (c : UInt8) : val (l ++ [c]) = 10 * val l + (c.toNat - 48) := by simp [val]
theorem val_digs : ∀ k n, val (digs k n) = n % 10 ^ k
  | 0, n => by simp [digs, val, Nat.mod_one]
  | k + 1, n => by
    have h : digs (k + 1) n = digs k (n / 10) ++ [dig n] := rfl
    rw [h, val_snoc, val_digs k, dig_nat, Nat.pow_succ, Nat.mul_comm (10 ^ k) 10, Nat.mod_mul]
    omega
theorem fold_lt : ∀ (l : Bs) (a b : Nat), l.all isDig = true → a < b → l.foldl (fun a c => 10 * a + (c.toNat - 48)) a < b * 10 ^ l.length
  | [], a, b, _, h => by simpa using h
  | c :: l, a, b, hl, h => by
    simp only [List.all_cons, Bool.and_eq_true] at hl
    have hc := hl.1
    unfold isDig at hc
    simp only [Bool.and_eq_true, decide_eq_true_eq] at hc
    have h2 := fold_lt l (10 * a + (c.toNat - 48)) (10 * b) hl.2 (by omega)
    have e : b * 10 ^ (c :: l).length = 10 * b * 10 ^ l.length := by rw [List.length_cons, Nat.pow_succ, Nat.mul_comm 10 b, Nat.mul_assoc, Nat.mul_comm 10]
    rw [List.foldl_cons, e]
    exact h2
theorem val_lt (l : Bs) (h : l.all isDig = true) : val l < 10 ^ l.length := by
  have := fold_lt l 0 1 h (by decide)
  simpa [val] using this

theorem file_number (k : Bs) (n : Int) (hg : goodKind k = true) (h0 : 0 ≤ n) (h1 : n < 100000000) : number k (file k n) = (n, true) := by
  have hf : file k n = k ++ 45 :: digs 8 n.toNat := by unfold file; rw [if_pos ⟨hg, h0, h1⟩]
  have hd : (file k n).drop (k.length + 1) = digs 8 n.toNat := by rw [hf]; simp
  have hv : (val (digs 8 n.toNat) : Int) = n := by rw [val_digs]; omega
  unfold number
  rw [hd, digs_all, hv]
  rw [if_neg (by rw [hf]; simp [digs_len]), if_neg (by decide), if_pos rfl]
theorem file_len (k : Bs) (n : Int) : (file k n).length = 0 ∨ (file k n).length = k.length + 9 := by
  unfold file
  split
  · right; simp [digs_len]
  · left; rfl
theorem log7 : file [108, 111, 103] 7 = [108, 111, 103, 45, 48, 48, 48, 48, 48, 48, 48, 55] := by decide
theorem log1 : file [108, 111, 103] 1 = [108, 111, 103, 45, 48, 48, 48, 48, 48, 48, 48, 49] := by decide
theorem log2 : file [108, 111, 103] 2 = [108, 111, 103, 45, 48, 48, 48, 48, 48, 48, 48, 50] := by decide
end WN
end Go.Proofs.YtgknkldhjejjmaaGreatDoor

