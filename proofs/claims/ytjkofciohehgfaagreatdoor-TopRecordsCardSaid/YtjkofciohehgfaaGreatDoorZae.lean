/- Texts joined by bundle.py: YDKit, YDWn, YDWm, YDTwo. -/
import Derived.Test.YtjkofciohehgfaaGreatDoorRows
import Derived.WalkKit
import Derived.IntWalk
import Derived.Laws.Rows
import Derived.Lib.Hide
import Derived.Lib.SlBytesRow
import Derived.Lib.BufferWrite
import Derived.Lib.BufferRead
import Derived.Lib.UnsafeStr
import Derived.Laws.MakeOwn
import Derived.OwnWalk
import Derived.WalkSmall
import Derived.WalkLawsBesides
import Derived.Deep.AppendLies
import Derived.Lib.ItoaNum
import Derived.Lib.Repeat
import Derived.Lib.ParseIntBTie
import Derived.Deep.RegionHeld3
import Derived.Deep.DrawnRows

/- Small words for memory: bytes, texts, rows. No function of the program. -/
namespace Go.Proofs.YtjkofciohehgfaaGreatDoor.L8
open Go.RowKit

theorem ret_int {k : IntKind} {a b : Int} (h : a = b) : Ending.returned (.int k a) = .returned (.int k b) := by rw [h]

theorem below_drewN {B : Nat} {a w : World} (h : Below B a w) (n : Nat) : Below B a (w.drewN n) := ⟨h.os, h.tape, h.output, h.size, h.block⟩

theorem byte_of (s : ByteArray) (k : Nat) (h : k < s.size) : s.data.toList[k]'(by simpa using h) = s[k] := by
  rfl

theorem size_list (s : ByteArray) : s.data.toList.length = s.size := by simp

theorem info_u8 : (Tryz.prog.info? 5).map (fun i => (i.zero, i.size, i.bytes)) = some (some (.int .u8 0), 1, 1) := by kernel_rfl

theorem str_ext {a b : ByteArray} (h : a.data.toList = b.data.toList) : a = b := by
  apply ByteArray.ext
  exact Array.toList_inj.1 h

theorem str_mk (s : ByteArray) : (⟨s.data.toList.toArray⟩ : ByteArray) = s := str_ext (by simp)

theorem str_app (a b : ByteArray) : (a ++ b).data.toList = a.data.toList ++ b.data.toList := by
  simp

theorem below_setRow {B : Nat} {w w1 : World} {g : Nat} {cs : Array Value} (h : Below B w w1) (hB : B ≤ g) : Below B w (w1.setRow g cs) :=
  h.trans ⟨rfl, rfl, rfl, by simp, fun k hk => setRow_other _ _ _ _ (by omega)⟩

theorem own_below {w w' : World} {base : Nat} {e : TypeId} {size : Nat} {v : Value} {n : Nat} {xs : List Value} (h : w.ownsRow base e size v n xs) (hb : Below w.heap.size w w') : w'.ownsRow base e size v n xs :=
  h.kept (row := none) ⟨hb.os, hb.tape, hb.output, hb.size, fun k hk _ => hb.block k hk⟩ (by cases v.ownBlock <;> simp)

theorem byte_toNat (m : Nat) (h : m < 256) : ((m.toUInt8).toNat : Int) = m := by
  simp only [Nat.toUInt8, UInt8.toNat_ofNat']; omega

theorem addr_add0 (g j : Nat) : (⟨g, 0, none⟩ : Addr).add j = ⟨g, j, none⟩ := by unfold Addr.add; split <;> simp_all

theorem heap_set_fr {w : World} {g : Nat} {cs : Array Value} {t : TypeId} {fr : Nat × Nat} (h : w.heap[g]? = some (.cells cs t fr)) (j : Nat) (u : Value) :
    (w.setCell ⟨g, j, none⟩ u).heap[g]? = some (.cells (cs.setIfInBounds j u) t fr) := by
  simp [World.setCell, Array.getElem?_modify, h]

end Go.Proofs.YtjkofciohehgfaaGreatDoor.L8


/- Plain mathematics of a log's names: eight decimal digits. No function of the program. -/
namespace Go.Proofs.YtjkofciohehgfaaGreatDoor.L8
namespace WN

abbrev Bs := List UInt8
def dig (n : Nat) : UInt8 := (48 + n % 10).toUInt8
/-- the last k decimal digits of a number -/
def digs : Nat → Nat → Bs
  | 0, _ => []
  | k + 1, n => digs k (n / 10) ++ [dig n]
def goodKind (k : Bs) : Bool := !k.isEmpty && k.all (fun c => decide (97 ≤ c.toNat) && decide (c.toNat ≤ 122))
/-- the name of a file of a kind and a number; the empty text, if there is none -/
def file (k : Bs) (n : Int) : Bs := if goodKind k = true ∧ 0 ≤ n ∧ n < 100000000 then k ++ 45 :: digs 8 n.toNat else []
theorem digs_len : ∀ k n, (digs k n).length = k
  | 0, _ => rfl
  | k + 1, n => by simp [digs, digs_len k]

theorem file_len (k : Bs) (n : Int) : (file k n).length = 0 ∨ (file k n).length = k.length + 9 := by
  unfold file
  split
  · right; simp [digs_len]
  · left; rfl
theorem log1 : file [108, 111, 103] 1 = [108, 111, 103, 45, 48, 48, 48, 48, 48, 48, 48, 49] := by decide
end WN
end Go.Proofs.YtjkofciohehgfaaGreatDoor.L8


/- Plain mathematics of a log's names, second part: numerals with zeros ahead, and what is read of them. No function of the program. -/
namespace Go.Proofs.YtjkofciohehgfaaGreatDoor.L8
namespace WN
open Go.Lib

theorem digs_zero : ∀ k, digs k 0 = List.replicate k 48
  | 0 => rfl
  | k + 1 => by
    have h : digs (k + 1) 0 = digs k (0 / 10) ++ [dig 0] := rfl
    rw [h, Nat.zero_div, digs_zero k, List.replicate_succ']
    rfl

theorem pad : ∀ (k n : Nat), nDigits n ≤ k → List.replicate (k - nDigits n) 48 ++ decDigits n = digs k n
  | 0, n, h => by have := nDigits_pos n; omega
  | k + 1, n, h => by
    have hd : digs (k + 1) n = digs k (n / 10) ++ [dig n] := rfl
    by_cases hn : n < 10
    · rw [nDigits_small hn, hd, Nat.div_eq_of_lt hn, digs_zero, decDigits_one hn]
      unfold dig
      rw [Nat.mod_eq_of_lt hn]
      rfl
    · rw [nDigits_big hn] at h ⊢
      rw [hd, ← pad k (n / 10) (by omega), show k + 1 - (nDigits (n / 10) + 1) = k - nDigits (n / 10) by omega, List.append_assoc]
      congr 1
      rw [decDigits, dif_neg hn]
      rfl

theorem nDigits_le : ∀ (k n : Nat), 1 ≤ k → n < 10 ^ k → nDigits n ≤ k
  | 0, n, h, _ => by omega
  | k + 1, n, _, h => by
    by_cases hn : n < 10
    · rw [nDigits_small hn]; omega
    · rw [nDigits_big hn]
      have hk : 1 ≤ k := by
        rcases Nat.eq_zero_or_pos k with e | e
        · subst e; simp at h; omega
        · exact e
      have := nDigits_le k (n / 10) hk (by rw [Nat.pow_succ] at h; omega)
      omega

theorem repeat_one (c : UInt8) : ∀ k, repeatL [c] k = List.replicate k c
  | 0 => rfl
  | k + 1 => by
    show [c] ++ repeatL [c] k = _
    rw [repeat_one c k]
    rfl

theorem numeral (n : Nat) (h : n < 100000000) : (decDigits n).length ≤ 8 ∧ repeatL [48] (8 - (decDigits n).length) ++ decDigits n = digs 8 n := by
  have h8 := nDigits_le 8 n (by decide) (by omega)
  rw [decDigits_length]
  exact ⟨h8, by rw [repeat_one]; exact pad 8 n h8⟩

theorem file_none {k : Bs} {n : Int} (h : goodKind k = false ∨ n < 0 ∨ 100000000 ≤ n) : file k n = [] := by
  unfold file
  rw [if_neg]
  rintro ⟨h1, h2, h3⟩
  rcases h with h | h | h
  · rw [h] at h1; cases h1
  · omega
  · omega
theorem file_some {k : Bs} {n : Int} (h : goodKind k = true) (h0 : 0 ≤ n) (h1 : n < 100000000) : file k n = k ++ 45 :: digs 8 n.toNat := by
  unfold file
  rw [if_pos ⟨h, h0, h1⟩]
end WN
end Go.Proofs.YtjkofciohehgfaaGreatDoor.L8


/- Two rows of unlike elements, each appended to. -/
namespace Go.Proofs.YtjkofciohehgfaaGreatDoor.L8
open Go.RowKit
attribute [local go_sem ↓] Go.wp_at_zero Go.wp_at_succ

section
variable {w w' : World} {b1 b2 : Nat} {e1 e2 : TypeId} {s1 s2 : Nat} {v1 v2 : Value} {n1 n2 : Nat} {xs1 xs2 : List Value}

/-- two rows whose elements' types differ never share a block -/
theorem own_apart (h1 : w.ownsRow b1 e1 s1 v1 n1 xs1) (h2 : w.ownsRow b2 e2 s2 v2 n2 xs2) (hne : e1 ≠ e2) : v1.ownBlock = none ∨ v1.ownBlock ≠ v2.ownBlock := by
  rcases h1.2 with ⟨rfl, _⟩ | ⟨g, cap, cur, rfl, _, hg, _⟩
  · left; rfl
  · right
    intro he
    rcases h2.2 with ⟨rfl, _⟩ | ⟨g', cap', cur', rfl, _, hg', _⟩
    · simp [Value.ownBlock] at he
    · have : g = g' := by simpa [Value.ownBlock] using he
      subst this
      rw [hg] at hg'
      injection hg' with hg'
      injection hg' with _ ht
      exact hne ht

theorem own_drew (h : w.ownsRow b1 e1 s1 v1 n1 xs1) : w.drew.ownsRow b1 e1 s1 v1 n1 xs1 := h

end

theorem alloc_at (w : World) (o : Obj) (B : Nat) (h : w.heap.size = B) : (w.alloc o).heap[B]? = some o := by subst h; exact heap_alloc_new w o
theorem alloc_old (w : World) (o x : Obj) (B : Nat) (h : w.heap[B]? = some x) : (w.alloc o).heap[B]? = some x := by
  have hlt : B < w.heap.size := (Array.getElem?_eq_some_iff.1 h).1
  exact (Below.heap_alloc w o B hlt).trans h
theorem drew_at (w : World) (x : Obj) (B : Nat) (h : w.heap[B]? = some x) : w.drew.heap[B]? = some x := h

section
variable {base : Nat} {e1 e2 : TypeId} {s1 s2 : Nat} {v1 v2 : Value} {n1 n2 : Nat} {xs1 xs2 : List Value} {W w w' : World}
end
end Go.Proofs.YtjkofciohehgfaaGreatDoor.L8


