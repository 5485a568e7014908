/- Texts joined by bundle.py: Kit, Vm. -/
import Derived.Test.YtffdiiolgflbkaaRows
import Derived.WalkKit
import Derived.IntWalk
import Derived.Laws.Rows
import Derived.Lib.Hide
import Derived.Lib.SlBytesRow
import Derived.Lib.BufferWrite
import Derived.Lib.BufferRead
import Derived.Lib.UnsafeStr
import Derived.Laws.MakeOwn
import Derived.OwnWalk
import Derived.WalkSmall
import Derived.WalkLawsBesides
import Derived.Deep.AppendLies
import Derived.Deep.RegionHeld3
import Derived.BigQuiet
import Derived.Laws.StructEq
import Derived.WideAt
import Derived.WideShapes

/- Small words for memory: bytes, texts, rows. No function of the program. -/
namespace Go.Proofs.Ytffdiiolgflbkaa
open Go.RowKit

theorem ret_int {k : IntKind} {a b : Int} (h : a = b) : Ending.returned (.int k a) = .returned (.int k b) := by rw [h]

theorem ret_bool {a b : Bool} (h : a = b) : Ending.returned (.bool a) = .returned (.bool b) := by rw [h]
theorem below_drewN {B : Nat} {a w : World} (h : Below B a w) (n : Nat) : Below B a (w.drewN n) := ⟨h.os, h.tape, h.output, h.size, h.block⟩

theorem byte_of (s : ByteArray) (k : Nat) (h : k < s.size) : s.data.toList[k]'(by simpa using h) = s[k] := by
  rfl

theorem size_list (s : ByteArray) : s.data.toList.length = s.size := by simp

theorem info_u8 : (Try.prog.info? 5).map (fun i => (i.zero, i.size, i.bytes)) = some (some (.int .u8 0), 1, 1) := by kernel_rfl

theorem str_ext {a b : ByteArray} (h : a.data.toList = b.data.toList) : a = b := by
  apply ByteArray.ext
  exact Array.toList_inj.1 h

theorem str_mk (s : ByteArray) : (⟨s.data.toList.toArray⟩ : ByteArray) = s := str_ext (by simp)

theorem str_app (a b : ByteArray) : (a ++ b).data.toList = a.data.toList ++ b.data.toList := by
  simp

theorem below_setRow {B : Nat} {w w1 : World} {g : Nat} {cs : Array Value} (h : Below B w w1) (hB : B ≤ g) : Below B w (w1.setRow g cs) :=
  h.trans ⟨rfl, rfl, rfl, by simp, fun k hk => setRow_other _ _ _ _ (by omega)⟩

theorem own_below {w w' : World} {base : Nat} {e : TypeId} {size : Nat} {v : Value} {n : Nat} {xs : List Value} (h : w.ownsRow base e size v n xs) (hb : Below w.heap.size w w') : w'.ownsRow base e size v n xs :=
  h.kept (row := none) ⟨hb.os, hb.tape, hb.output, hb.size, fun k hk _ => hb.block k hk⟩ (by cases v.ownBlock <;> simp)

theorem byte_toNat (m : Nat) (h : m < 256) : ((m.toUInt8).toNat : Int) = m := by
  simp only [Nat.toUInt8, UInt8.toNat_ofNat']; omega

theorem addr_add0 (g j : Nat) : (⟨g, 0, none⟩ : Addr).add j = ⟨g, j, none⟩ := by unfold Addr.add; split <;> simp_all

theorem heap_set_fr {w : World} {g : Nat} {cs : Array Value} {t : TypeId} {fr : Nat × Nat} (h : w.heap[g]? = some (.cells cs t fr)) (j : Nat) (u : Value) :
    (w.setCell ⟨g, j, none⟩ u).heap[g]? = some (.cells (cs.setIfInBounds j u) t fr) := by
  simp [World.setCell, Array.getElem?_modify, h]

theorem extract_at (s : ByteArray) (a b j : Nat) (h : j < (s.extract a b).size) : (s.extract a b)[j] = s[a + j]'(by rw [ByteArray.size_extract] at h; omega) := by
  exact ByteArray.getElem_extract ..

theorem byteCells_len (l : List UInt8) : (Lib.byteCells l).length = l.length := Lib.byteCells_length l
theorem frozen_of_row (w : World) (g j : Nat) (cs : Array Value) (t : TypeId) (hg : w.heap[g]? = some (.cells cs t (0, 0))) : w.frozen? ⟨g, j, none⟩ = false := by
  simp [World.frozen?, hg]

theorem setCell_size (w : World) (p : Addr) (u : Value) : (w.setCell p u).heap.size = w.heap.size := by simp [World.setCell]

theorem grownBy_setCell (w : World) (p : Addr) (u : Value) : w.grownBy (w.setCell p u) (some p.block) :=
  ⟨rfl, rfl, rfl, by simp [World.setCell], fun k _ hk => Below.heap_setCell _ _ _ _ (fun e => hk (by rw [e]))⟩
theorem grown_refl (w : World) (r : Option Nat) : w.grownBy w r := ⟨rfl, rfl, rfl, Nat.le_refl _, fun _ _ _ => rfl⟩
theorem grown_trans {a b c : World} {r : Option Nat} (h : a.grownBy b r) (k : b.grownBy c r) : a.grownBy c r :=
  ⟨k.os.trans h.os, k.tape.trans h.tape, k.output.trans h.output, Nat.le_trans h.size k.size, fun x hx hr => (k.block x (by have := h.size; omega) hr).trans (h.block x hx hr)⟩
theorem grown_drewN {a b : World} {r : Option Nat} (h : a.grownBy b r) (n : Nat) : a.grownBy (b.drewN n) r := ⟨h.os, h.tape, h.output, h.size, h.block⟩
theorem grown_set {a b : World} {r : Nat} (h : a.grownBy b (some r)) (j : Nat) (u : Value) : a.grownBy (b.setCell ⟨r, j, none⟩ u) (some r) := grown_trans h (grownBy_setCell _ _ _)
theorem grown_below {a b : World} {r : Option Nat} (h : Below a.heap.size a b) : a.grownBy b r := ⟨h.os, h.tape, h.output, h.size, fun k hk _ => h.block k hk⟩
/-- 'string(b)' of a row that the call owns -/
theorem own_string {w : World} {base : Nat} {v : Value} {l : List UInt8} (h : w.ownsRow base 5 1 v l.length (Lib.byteCells l)) : (convert 102 9 v).run Try.prog w = .ok (.string ⟨l.toArray⟩) w := by
  rcases h.2 with ⟨rfl, h0⟩ | ⟨g, cap, cur, rfl, _, hg, _, _, _, htk⟩
  · have hl : l = [] := List.length_eq_zero_iff.1 h0
    subst hl
    exact Lib.run_convert_nil_bytes w 102 9 5 0 Try.underlying102 Try.underlying5 Try.underlying9
  · have hb := Lib.bytes_of_row hg (l := l) (by simpa using htk)
    have h := Lib.run_convert_whole (P := Try.prog) w 102 5 9 Try.underlying102 Try.underlying5 Try.underlying9 g 0 ⟨l.toArray⟩ (fun i hi => by
      have hi' : i < l.length := by simpa [ByteArray.size] using hi
      have h1 := hb i hi'
      rw [addr_add0] at h1
      rw [Nat.zero_add, h1]
      rfl) cap
    exact h

/-- a new row of bytes of a literal -/
theorem bytes_lit (w : World) (l : List UInt8) (cs : Array Value) (h : cs.toList = Lib.byteCells l) : ∀ j u, (Lib.byteCells l)[j]? = some u → (w.alloc (.cells cs 5)).cell? ((⟨w.heap.size, 0, none⟩ : Addr).add j) = some u := by
  intro j u hj
  rw [addr_add0, cell_of_row _ _ _ _ _ _ (heap_alloc_new w _), ← hj, ← h]
  simp

/-- '[]byte(s)': a new row with the text's bytes -/
theorem bytes_of_text (w : World) (s : ByteArray) : ∃ (G : Nat) (W1 : World) (cs : Array Value) (fr : Nat × Nat), (convert 9 102 (.string s)).run Try.prog w = .ok (.slice (some ⟨w.heap.size, 0, none⟩) s.size G) W1 ∧
    W1.heap[w.heap.size]? = some (.cells cs 5 fr) ∧ (∀ j, (h : j < s.size) → cs[j]? = some (.int .u8 (s[j].toNat : Int)) ∧ W1.frozen? ⟨w.heap.size, j, none⟩ = false) ∧ Below w.heap.size w W1 := by
  have h := run_bytes_of_string (P := Try.prog) w 9 102 5 s Try.underlying9 Try.underlying102 Try.underlying5
  refine ⟨_, _, _, _, h, heap_alloc_new w.drew _, fun j hj => ?_, ((Below.refl _ _).drew).alloc (Nat.le_refl _) _⟩
  have hj' : j < s.data.size := hj
  refine ⟨bytesRow_at s _ j hj', ?_⟩
  have hlt : j < (bytesRow s (grownCap w s.size 0 5)).size := by
    have := bytesRow_at s (grownCap w s.size 0 5) j hj'
    exact (Array.getElem?_eq_some_iff.1 this).1
  generalize bytesRow s (grownCap w s.size 0 5) = C at hlt
  have hh : ((w.drew.alloc (.cells C 5 (C.size, C.size + 1))).heap[w.heap.size]?) = some (.cells C 5 (C.size, C.size + 1)) := heap_alloc_new w.drew _
  simp only [World.frozen?, hh]
  simp
  omega
end Go.Proofs.Ytffdiiolgflbkaa

/- Plain mathematics of versions: tables of levels, edits, what becomes of a version. No function of the program. -/
namespace Go.Proofs.Ytffdiiolgflbkaa
namespace VS

/-- a table and its level -/
structure M where
  lvl : Int
  file : Int
  size : Int
  lo : ByteArray
  hi : ByteArray
deriving DecidableEq

structure Ed where
  add : List M
  drop : List Int
  log : Int
  next : Int
  seq : Int

/-- all tables, level by level, each level in its order -/
structure V where
  L : List M
  log : Int
  next : Int
  seq : Int

def V.none : V := ⟨[], 0, 0, 0⟩

/-- does text a stand below text b? -/
def lt (a b : ByteArray) : Bool := Go.bytesBefore a.data.toList b.data.toList
theorem lt_irrefl (a : ByteArray) : lt a a = false := Go.WideAt.bytes_irrefl _
theorem lt_trans {a b c : ByteArray} (h1 : lt a b = true) (h2 : lt b c = true) : lt a c = true := Go.WideShapes.bytes_trans _ _ _ h1 h2
theorem lt_total {a b : ByteArray} (h : a ≠ b) : lt a b = true ∨ lt b a = true := Go.WideAt.bytes_total _ _ fun e => h (str_ext e)
theorem lt_asymm {a b : ByteArray} (h : lt a b = true) : lt b a = false := by
  cases h2 : lt b a with
  | false => rfl
  | true => have := lt_trans h h2; rw [lt_irrefl] at this; cases this
theorem lt_of_le_lt {a b c : ByteArray} (h1 : lt b a = false) (h2 : lt b c = true) : lt a c = true := by
  by_cases h : a = b
  · rw [h]; exact h2
  · rcases lt_total h with h | h
    · exact lt_trans h h2
    · rw [h1] at h; cases h
theorem lt_of_lt_le {a b c : ByteArray} (h1 : lt a b = true) (h2 : lt c b = false) : lt a c = true := by
  by_cases h : b = c
  · rw [← h]; exact h1
  · rcases lt_total h with h | h
    · exact lt_trans h1 h
    · rw [h2] at h; cases h
theorem le_trans {a b c : ByteArray} (h1 : lt b a = false) (h2 : lt c b = false) : lt c a = false := by
  cases h : lt c a with
  | false => rfl
  | true => have := lt_of_lt_le h h1; rw [h2] at this; cases this

/-- does one table stand ahead of another? -/
def ahead (a b : M) : Bool := if a.lvl = b.lvl then (if a.lvl = 0 then decide (b.file < a.file) else lt a.lo b.lo) else decide (a.lvl < b.lvl)

theorem ahead_irrefl (a : M) : ahead a a = false := by
  unfold ahead; rw [if_pos rfl]; split
  · simp
  · exact lt_irrefl _

theorem ahead_trans {a b c : M} (h1 : ahead a b = true) (h2 : ahead b c = true) : ahead a c = true := by
  unfold ahead at *
  by_cases hab : a.lvl = b.lvl
  · rw [if_pos hab] at h1
    by_cases hbc : b.lvl = c.lvl
    · rw [if_pos hbc] at h2
      rw [if_pos (hab.trans hbc)]
      by_cases h0 : a.lvl = 0
      · rw [if_pos h0] at h1 ⊢
        rw [if_pos (by omega)] at h2
        simp at *; omega
      · rw [if_neg h0] at h1 ⊢
        rw [if_neg (by omega)] at h2
        exact lt_trans h1 h2
    · rw [if_neg hbc] at h2
      rw [if_neg (by omega)]
      simp at *; omega
  · rw [if_neg hab] at h1
    by_cases hbc : b.lvl = c.lvl
    · rw [if_neg (by omega)]
      simp at *; omega
    · rw [if_neg hbc] at h2
      simp at h1 h2
      rw [if_neg (by omega)]
      simp; omega

/-- have two tables of one level from 1 on a key in common? -/
def ov (a b : M) : Bool := decide (0 < a.lvl ∧ a.lvl = b.lvl) && (!(lt b.hi a.lo) && !(lt a.hi b.lo))
theorem ov_symm {a b : M} (h : ov a b = false) : ov b a = false := by
  unfold ov at *
  have e : decide (0 < b.lvl ∧ b.lvl = a.lvl) = decide (0 < a.lvl ∧ a.lvl = b.lvl) := decide_eq_decide.2 (by omega)
  rw [e, Bool.and_comm (!(lt a.hi b.lo))]
  exact h

/-- may this table be, with this next number? -/
def fine (next : Int) (m : M) : Bool := decide (0 ≤ m.lvl ∧ m.lvl < 4 ∧ 0 ≤ m.file ∧ m.file < next ∧ 0 ≤ m.size) && !(lt m.hi m.lo)

/-- the list with one table more -/
def with_ (l : List M) (m : M) : List M := l.takeWhile (fun x => !(ahead m x)) ++ m :: l.dropWhile (fun x => !(ahead m x))

def headOk (v : V) (e : Ed) : Bool := decide (v.log ≤ e.log ∧ v.next ≤ e.next ∧ v.seq ≤ e.seq ∧ (e.log < e.next ∨ e.log = 0 ∧ e.next = 0))
/-- may these files be dropped, one behind the other? -/
def dropOk (old : List Int) : List Int → List Int → Bool
  | _, [] => true
  | pre, n :: l => decide (n ∈ old ∧ n ∉ pre) && dropOk old (pre ++ [n]) l
def addOk (next : Int) (old : List Int) : List Int → List M → Bool
  | _, [] => true
  | pre, m :: l => fine next m && decide (m.file ∉ old ∧ m.file ∉ pre) && addOk next old (pre ++ [m.file]) l
def files (l : List M) : List Int := l.map (·.file)
def kept (v : V) (e : Ed) : List M := v.L.filter (fun m => decide (m.file ∉ e.drop))
def behind (v : V) (e : Ed) : List M := e.add.foldl with_ (kept v e)
def apart (l : List M) : Prop := l.Pairwise (fun a b => ov a b = false)
instance (l : List M) : Decidable (apart l) := by unfold apart; infer_instance

def good (v : V) (e : Ed) : Bool := headOk v e && dropOk (files v.L) [] e.drop && addOk e.next (files v.L) [] e.add && decide (apart (behind v e))
def apply (v : V) (e : Ed) : V × Int := if good v e = true then (⟨behind v e, e.log, e.next, e.seq⟩, 0) else (V.none, 17)

/-- what every version is -/
structure Ok (v : V) : Prop where
  uniq : (files v.L).Nodup
  fine : ∀ m ∈ v.L, VS.fine v.next m = true
  order : v.L.Pairwise (fun a b => ahead a b = true)
  apart : VS.apart v.L
  head : v.log < v.next ∨ v.log = 0 ∧ v.next = 0

theorem ok_none : Ok V.none := ⟨List.Pairwise.nil, by simp [V.none], List.Pairwise.nil, List.Pairwise.nil, Or.inr ⟨rfl, rfl⟩⟩

/-- weakly in order -/
def weak (l : List M) : Prop := l.Pairwise (fun a b => ahead b a = false)

theorem weak_of_strict {l : List M} (h : l.Pairwise (fun a b => ahead a b = true)) : weak l := h.imp fun {a b} h => by
  cases h2 : ahead b a with
  | false => rfl
  | true => have := ahead_trans h h2; rw [ahead_irrefl] at this; cases this

theorem take_not {l : List M} {m : M} : ∀ x ∈ l.takeWhile (fun x => !(ahead m x)), ahead m x = false := by
  induction l with
  | nil => simp
  | cons y l ih =>
    intro x hx
    rw [List.takeWhile_cons] at hx
    split at hx
    · rcases List.mem_cons.1 hx with rfl | hx
      · rename_i h; simpa using h
      · exact ih x hx
    · simp at hx

theorem drop_head {l : List M} {m : M} : l.dropWhile (fun x => !(ahead m x)) = [] ∨ ∃ y r, l.dropWhile (fun x => !(ahead m x)) = y :: r ∧ ahead m y = true := by
  induction l with
  | nil => left; rfl
  | cons y l ih =>
    rw [List.dropWhile_cons]
    split
    · exact ih
    · rename_i h; right; exact ⟨y, l, rfl, by simpa using h⟩

theorem with_perm (l : List M) (m : M) : (with_ l m).Perm (l ++ [m]) := by
  unfold with_
  refine List.perm_middle.trans ?_
  rw [List.takeWhile_append_dropWhile]
  exact (List.perm_append_singleton m l).symm

theorem with_weak {l : List M} (h : weak l) (m : M) : weak (with_ l m) := by
  have hl := List.takeWhile_append_dropWhile (p := fun x => !(ahead m x)) (l := l)
  have h' := h
  unfold weak at h'
  rw [← hl] at h'
  obtain ⟨h1, h2, h3⟩ := List.pairwise_append.1 h'
  have hrest : ∀ z ∈ l.dropWhile (fun x => !(ahead m x)), ahead z m = false := by
    intro z hz
    rcases drop_head (l := l) (m := m) with he | ⟨y, r, he, hy⟩
    · rw [he] at hz; simp at hz
    · cases hzm : ahead z m with
      | false => rfl
      | true =>
        have hzy := ahead_trans hzm hy
        rw [he] at hz h2
        rcases List.mem_cons.1 hz with rfl | hz
        · rw [ahead_irrefl] at hzy; cases hzy
        · have := (List.pairwise_cons.1 h2).1 z hz
          rw [hzy] at this; cases this
  unfold weak with_
  refine List.pairwise_append.2 ⟨h1, List.pairwise_cons.2 ⟨hrest, h2⟩, fun x hx y hy => ?_⟩
  rcases List.mem_cons.1 hy with rfl | hy
  · exact take_not x hx
  · exact h3 x hx y hy

theorem fold_weak : ∀ (a : List M) {l : List M}, weak l → weak (a.foldl with_ l)
  | [], _, h => h
  | m :: a, _, h => fold_weak a (with_weak h m)

theorem fold_perm : ∀ (a l : List M), (a.foldl with_ l).Perm (l ++ a)
  | [], l => by simp
  | m :: a, l => by
    refine (fold_perm a (with_ l m)).trans ?_
    have h := (with_perm l m).append_right a
    rw [List.append_assoc] at h
    exact h

theorem behind_perm (v : V) (e : Ed) : (behind v e).Perm (kept v e ++ e.add) := fold_perm _ _
theorem behind_weak {v : V} (h : Ok v) (e : Ed) : weak (behind v e) := fold_weak _ ((weak_of_strict h.order).sublist List.filter_sublist)

/-- of two of a list that are not one: what is so of all pairs -/
theorem pair_of {α : Type} {R : α → α → Prop} (hs : ∀ {a b}, R a b → R b a) : ∀ {l : List α}, l.Pairwise R → ∀ a ∈ l, ∀ b ∈ l, a ≠ b → R a b
  | x :: l, h, a, ha, b, hb, hn => by
    obtain ⟨h1, h2⟩ := List.pairwise_cons.1 h
    rcases List.mem_cons.1 ha with ea | ka
    · rcases List.mem_cons.1 hb with eb | kb
      · exact absurd (ea.trans eb.symm) hn
      · rw [ea]; exact h1 b kb
    · rcases List.mem_cons.1 hb with eb | kb
      · rw [eb]; exact hs (h1 a ka)
      · exact pair_of hs h2 a ka b kb hn

theorem uniq_of : ∀ {l : List M}, (files l).Nodup → ∀ a ∈ l, ∀ b ∈ l, a.file = b.file → a = b
  | x :: l, h, a, ha, b, hb, he => by
    simp only [files, List.map_cons] at h
    obtain ⟨h1, h2⟩ := List.nodup_cons.1 h
    rcases List.mem_cons.1 ha with ea | ka
    · rcases List.mem_cons.1 hb with eb | kb
      · exact ea.trans eb.symm
      · rw [← ea] at h1; exact absurd (List.mem_map.2 ⟨b, kb, he.symm⟩) h1
    · rcases List.mem_cons.1 hb with eb | kb
      · rw [← eb] at h1; exact absurd (List.mem_map.2 ⟨a, ka, he⟩) h1
      · exact uniq_of h2 a ka b kb he

theorem fine_lo {next : Int} {m : M} (h : fine next m = true) : lt m.hi m.lo = false := by
  simp only [fine, Bool.and_eq_true, Bool.not_eq_true'] at h
  exact h.2
theorem fine_num {next : Int} {m : M} (h : fine next m = true) : 0 ≤ m.lvl ∧ m.lvl < 4 ∧ 0 ≤ m.file ∧ m.file < next ∧ 0 ≤ m.size := by
  simp only [fine, Bool.and_eq_true, decide_eq_true_eq] at h
  exact h.1
theorem fine_mono {n k : Int} {m : M} (h : fine n m = true) (hk : n ≤ k) : fine k m = true := by
  have h1 := fine_num h
  simp only [fine, Bool.and_eq_true, decide_eq_true_eq, Bool.not_eq_true']
  exact ⟨by omega, fine_lo h⟩

/-- tables of files apart, Lo not above Hi, without a key in common: of any two one stands ahead -/
theorem total_of {l : List M} (hu : (files l).Nodup) (hf : ∀ m ∈ l, lt m.hi m.lo = false ∧ 0 ≤ m.lvl) (ha : apart l) : ∀ a ∈ l, ∀ b ∈ l, ahead b a = false → ahead a b = false → a = b := by
  intro a hal b hbl h1 h2
  by_cases hab : a = b
  · exact hab
  exfalso
  have hov := pair_of (fun h => ov_symm h) ha a hal b hbl hab
  unfold ahead at h1 h2
  by_cases hl : a.lvl = b.lvl
  · rw [if_pos hl.symm] at h1
    rw [if_pos hl] at h2
    by_cases h0 : a.lvl = 0
    · rw [if_pos (by omega)] at h1
      rw [if_pos h0] at h2
      simp at h1 h2
      exact hab (uniq_of hu a hal b hbl (by omega))
    · rw [if_neg (by omega)] at h1
      rw [if_neg h0] at h2
      have hpos : 0 < a.lvl ∧ a.lvl = b.lvl := ⟨by have := (hf a hal).2; omega, hl⟩
      have e1 : lt b.hi a.lo = false := le_trans h1 (hf b hbl).1
      have e2 : lt a.hi b.lo = false := le_trans h2 (hf a hal).1
      unfold ov at hov
      rw [decide_eq_true hpos, e1, e2] at hov
      simp at hov
  · rw [if_neg (Ne.symm hl)] at h1
    rw [if_neg hl] at h2
    simp at h1 h2
    omega

theorem apart_perm {l k : List M} (h : l.Perm k) : apart l ↔ apart k := h.pairwise_iff fun h => ov_symm h

/-- two weakly ordered rows of the same tables, without a key in common: one row -/
theorem unique {l k : List M} (hp : l.Perm k) (hl : weak l) (hk : weak k) (hu : (files l).Nodup) (hf : ∀ m ∈ l, lt m.hi m.lo = false ∧ 0 ≤ m.lvl) (ha : apart l) : l = k :=
  hp.eq_of_pairwise (le := fun a b => ahead b a = false) (fun a b hal hbk h1 h2 => total_of hu hf ha a hal b (hp.symm.subset hbk) h1 h2) hl hk

theorem dropOk_iff (old : List Int) : ∀ (l pre : List Int), dropOk old pre l = true ↔ (∀ n ∈ l, n ∈ old ∧ n ∉ pre) ∧ l.Nodup
  | [], pre => by simp [dropOk]
  | n :: l, pre => by
    simp only [dropOk, Bool.and_eq_true, decide_eq_true_eq, dropOk_iff old l, List.mem_append, List.mem_cons, List.not_mem_nil, or_false, List.nodup_cons]
    constructor
    · rintro ⟨⟨h1, h2⟩, h3, h4⟩
      refine ⟨fun k hk => ?_, fun hn => (h3 n hn).2 (.inr rfl), h4⟩
      rcases hk with rfl | hk
      · exact ⟨h1, h2⟩
      · exact ⟨(h3 k hk).1, fun h => (h3 k hk).2 (.inl h)⟩
    · rintro ⟨h1, h2, h3⟩
      exact ⟨h1 n (.inl rfl), fun k hk => ⟨(h1 k (.inr hk)).1, fun h => h.elim (h1 k (.inr hk)).2 fun e => h2 (e ▸ hk)⟩, h3⟩

theorem addOk_iff (next : Int) (old : List Int) : ∀ (l : List M) (pre : List Int), addOk next old pre l = true ↔ (∀ m ∈ l, fine next m = true ∧ m.file ∉ old ∧ m.file ∉ pre) ∧ (files l).Nodup
  | [], pre => by simp [addOk, files]
  | m :: l, pre => by
    simp only [addOk, Bool.and_eq_true, decide_eq_true_eq, addOk_iff next old l, List.mem_append, List.mem_cons, List.not_mem_nil, or_false, files, List.map_cons, List.nodup_cons]
    constructor
    · rintro ⟨⟨h0, h1, h2⟩, h3, h4⟩
      refine ⟨fun k hk => ?_, fun hn => ?_, h4⟩
      · rcases hk with rfl | hk
        · exact ⟨h0, h1, h2⟩
        · exact ⟨(h3 k hk).1, (h3 k hk).2.1, fun h => (h3 k hk).2.2 (.inl h)⟩
      · obtain ⟨k, hk, he⟩ := List.mem_map.1 hn
        exact (h3 k hk).2.2 (.inr he)
    · rintro ⟨h1, h2, h3⟩
      refine ⟨h1 m (.inl rfl), fun k hk => ⟨(h1 k (.inr hk)).1, (h1 k (.inr hk)).2.1, fun h => h.elim (h1 k (.inr hk)).2.2 fun e => h2 (List.mem_map.2 ⟨k, hk, e⟩)⟩, h3⟩

theorem files_perm {l k : List M} (h : l.Perm k) : (files l).Perm (files k) := h.map _
theorem files_append (l k : List M) : files (l ++ k) = files l ++ files k := by simp [files]

/-- what is kept and what comes: files apart, each fine -/
theorem made_uniq {v : V} (hv : Ok v) {e : Ed} (h : addOk e.next (files v.L) [] e.add = true) : (files (kept v e ++ e.add)).Nodup := by
  obtain ⟨h1, h2⟩ := (addOk_iff _ _ _ _).1 h
  rw [files_append]
  refine List.nodup_append.2 ⟨hv.uniq.sublist (List.filter_sublist.map _), h2, fun x hx y hy he => ?_⟩
  subst he
  obtain ⟨m, hm, rfl⟩ := List.mem_map.1 hx
  obtain ⟨k, hk, he⟩ := List.mem_map.1 hy
  refine (h1 k hk).2.1 ?_
  rw [he]
  exact List.mem_map.2 ⟨m, (List.mem_filter.1 hm).1, rfl⟩
theorem made_fine {v : V} (hv : Ok v) {e : Ed} (hn : v.next ≤ e.next) (h : addOk e.next (files v.L) [] e.add = true) : ∀ m ∈ kept v e ++ e.add, fine e.next m = true := by
  obtain ⟨h1, h2⟩ := (addOk_iff _ _ _ _).1 h
  intro m hm
  rcases List.mem_append.1 hm with hm | hm
  · exact fine_mono (hv.fine m (List.mem_filter.1 hm).1) hn
  · exact (h1 m hm).1

theorem headOk_num {v : V} {e : Ed} (h : headOk v e = true) : v.log ≤ e.log ∧ v.next ≤ e.next ∧ v.seq ≤ e.seq ∧ (e.log < e.next ∨ e.log = 0 ∧ e.next = 0) := by
  simpa [headOk] using h

theorem good_parts {v : V} {e : Ed} (h : good v e = true) : headOk v e = true ∧ dropOk (files v.L) [] e.drop = true ∧ addOk e.next (files v.L) [] e.add = true ∧ apart (behind v e) := by
  simp only [good, Bool.and_eq_true, decide_eq_true_eq] at h
  exact ⟨h.1.1.1, h.1.1.2, h.1.2, h.2⟩

theorem apply_ok {v : V} (hv : Ok v) (e : Ed) (h : good v e = true) : Ok ⟨behind v e, e.log, e.next, e.seq⟩ := by
  obtain ⟨h1, h2, h3, h4⟩ := good_parts h
  have hn := headOk_num h1
  have hp := behind_perm v e
  have hu : (files (behind v e)).Nodup := (files_perm hp).symm.nodup (made_uniq hv h3)
  have hf : ∀ m ∈ behind v e, fine e.next m = true := fun m hm => made_fine hv hn.2.1 h3 m (hp.subset hm)
  refine ⟨hu, hf, ?_, h4, hn.2.2.2⟩
  have hw := behind_weak hv e
  have hT := total_of hu (fun m hm => ⟨fine_lo (hf m hm), (fine_num (hf m hm)).1⟩) h4
  have hne : (behind v e).Pairwise (fun a b => a ≠ b) := by
    exact List.Pairwise.of_map _ (fun a b h e => h (by rw [e])) hu
  refine (List.Pairwise.and hw hne).imp_of_mem fun {a b} ha hb hab => ?_
  obtain ⟨h1, h2⟩ := hab
  cases h3 : ahead a b with
  | true => rfl
  | false => exact absurd (hT a ha b hb h1 h3) h2

/-- what the program's own rows come to: weakly ordered, the same tables -/
theorem prog_doc {v : V} (hv : Ok v) {e : Ed} (hn : v.next ≤ e.next) (h3 : addOk e.next (files v.L) [] e.add = true) {S : List M} (hp : S.Perm (kept v e ++ e.add)) (hw : weak S) : (apart S ↔ apart (behind v e)) ∧ (apart S → S = behind v e) := by
  have hpp : S.Perm (behind v e) := hp.trans (behind_perm v e).symm
  refine ⟨apart_perm hpp, fun ha => ?_⟩
  refine unique hpp hw (behind_weak hv e) ((files_perm hp).symm.nodup (made_uniq hv h3)) (fun m hm => ?_) ha
  have := made_fine hv hn h3 m (hp.subset hm)
  exact ⟨fine_lo this, (fine_num this).1⟩

/-- the tables of a level -/
def lev (i : Int) (l : List M) : List M := l.filter (fun m => decide (m.lvl = i))
theorem lev_append (i : Int) (l k : List M) : lev i (l ++ k) = lev i l ++ lev i k := by simp [lev]
theorem lev_mem {i : Int} {l : List M} {m : M} (h : m ∈ lev i l) : m.lvl = i ∧ m ∈ l := by
  have := List.mem_filter.1 h
  simpa [and_comm] using this

/-- the levels one behind the other are all -/
theorem levs_perm : ∀ {l : List M}, (∀ m ∈ l, 0 ≤ m.lvl ∧ m.lvl < 4) → (lev 0 l ++ lev 1 l ++ lev 2 l ++ lev 3 l).Perm l
  | [], _ => by simp [lev]
  | m :: l, h => by
    have ih := levs_perm (l := l) fun x hx => h x (List.mem_cons_of_mem _ hx)
    have hm := h m (List.mem_cons_self ..)
    have hc : m.lvl = 0 ∨ m.lvl = 1 ∨ m.lvl = 2 ∨ m.lvl = 3 := by omega
    rcases hc with hc | hc | hc | hc <;> simp only [lev, List.filter_cons, hc, decide_true, if_true, show decide ((0:Int) = 1) = false by decide, show decide ((0:Int) = 2) = false by decide, show decide ((0:Int) = 3) = false by decide, show decide ((1:Int) = 0) = false by decide, show decide ((1:Int) = 2) = false by decide, show decide ((1:Int) = 3) = false by decide, show decide ((2:Int) = 0) = false by decide, show decide ((2:Int) = 1) = false by decide, show decide ((2:Int) = 3) = false by decide, show decide ((3:Int) = 0) = false by decide, show decide ((3:Int) = 1) = false by decide, show decide ((3:Int) = 2) = false by decide, Bool.false_eq_true, if_false]
    · exact (List.Perm.cons m ih)
    · refine List.Perm.trans ?_ (List.Perm.cons m ih)
      simp only [List.append_assoc, List.cons_append]
      exact List.perm_middle
    · refine List.Perm.trans ?_ (List.Perm.cons m ih)
      have := List.perm_middle (a := m) (l₁ := lev 0 l ++ lev 1 l) (l₂ := lev 2 l ++ lev 3 l)
      simpa [lev] using this
    · refine List.Perm.trans ?_ (List.Perm.cons m ih)
      have := List.perm_middle (a := m) (l₁ := lev 0 l ++ lev 1 l ++ lev 2 l) (l₂ := lev 3 l)
      simpa [lev] using this

/-- rows of levels, each weakly ordered: weakly ordered one behind the other -/
theorem levs_weak {S0 S1 S2 S3 : List M} (h0 : ∀ m ∈ S0, m.lvl = 0) (h1 : ∀ m ∈ S1, m.lvl = 1) (h2 : ∀ m ∈ S2, m.lvl = 2) (h3 : ∀ m ∈ S3, m.lvl = 3) (w0 : weak S0) (w1 : weak S1) (w2 : weak S2) (w3 : weak S3) : weak (S0 ++ S1 ++ S2 ++ S3) := by
  have hx : ∀ a b : M, a.lvl < b.lvl → ahead b a = false := fun a b h => by
    unfold ahead; rw [if_neg (by omega)]; simp; omega
  unfold weak at *
  simp only [List.pairwise_append, List.mem_append]
  refine ⟨⟨⟨w0, w1, fun a ha b hb => hx a b (by rw [h0 a ha, h1 b hb]; omega)⟩, w2, ?_⟩, w3, ?_⟩
  · rintro a (ha | ha) b hb
    · exact hx a b (by rw [h0 a ha, h2 b hb]; omega)
    · exact hx a b (by rw [h1 a ha, h2 b hb]; omega)
  · rintro a ((ha | ha) | ha) b hb
    · exact hx a b (by rw [h0 a ha, h3 b hb]; omega)
    · exact hx a b (by rw [h1 a ha, h3 b hb]; omega)
    · exact hx a b (by rw [h2 a ha, h3 b hb]; omega)

/-- a row that lies level by level is its levels one behind the other -/
theorem levs_eq {l : List M} (hf : ∀ m ∈ l, 0 ≤ m.lvl ∧ m.lvl < 4) (ho : l.Pairwise (fun a b => ahead a b = true)) (hu : (files l).Nodup) (hlo : ∀ m ∈ l, lt m.hi m.lo = false) (ha : apart l) : lev 0 l ++ lev 1 l ++ lev 2 l ++ lev 3 l = l := by
  have hp := levs_perm hf
  have hw : ∀ i, weak (lev i l) := fun i => (weak_of_strict ho).sublist List.filter_sublist
  refine (unique hp.symm (weak_of_strict ho) (levs_weak (fun m hm => (lev_mem hm).1) (fun m hm => (lev_mem hm).1) (fun m hm => (lev_mem hm).1) (fun m hm => (lev_mem hm).1) (hw 0) (hw 1) (hw 2) (hw 3)) hu (fun m hm => ⟨hlo m hm, (hf m hm).1⟩) ha).symm

theorem Ok.levs {v : V} (h : Ok v) : lev 0 v.L ++ lev 1 v.L ++ lev 2 v.L ++ lev 3 v.L = v.L :=
  levs_eq (fun m hm => ⟨(fine_num (h.fine m hm)).1, (fine_num (h.fine m hm)).2.1⟩) h.order h.uniq (fun m hm => fine_lo (h.fine m hm)) h.apart

/-- does each table of a row end below the next one's beginning? -/
def steps : List M → Bool
  | a :: b :: l => lt a.hi b.lo && steps (b :: l)
  | _ => true

theorem steps_pairwise : ∀ {l : List M}, (∀ m ∈ l, lt m.hi m.lo = false) → steps l = true → l.Pairwise (fun a b => lt a.hi b.lo = true)
  | [], _, _ => List.Pairwise.nil
  | [a], _, _ => List.pairwise_singleton _ _
  | a :: b :: l, h, hs => by
    simp only [steps, Bool.and_eq_true] at hs
    have ih := steps_pairwise (l := b :: l) (fun m hm => h m (List.mem_cons_of_mem _ hm)) hs.2
    refine List.pairwise_cons.2 ⟨fun x hx => ?_, ih⟩
    rcases List.mem_cons.1 hx with rfl | hx
    · exact hs.1
    · have h1 := (List.pairwise_cons.1 ih).1 x hx
      have h2 := h b (by simp)
      have h3 : lt a.hi b.hi = true := lt_of_lt_le hs.1 h2
      exact lt_trans h3 h1

theorem steps_apart {i : Int} (hi : 0 < i) {l : List M} (hl : ∀ m ∈ l, m.lvl = i ∧ lt m.hi m.lo = false) (hw : weak l) : steps l = true ↔ apart l := by
  constructor
  · intro h
    refine (steps_pairwise (fun m hm => (hl m hm).2) h).imp fun {a b} hab => ?_
    unfold ov; simp [hab]
  · intro h
    induction l with
    | nil => rfl
    | cons a l ih =>
      cases l with
      | nil => rfl
      | cons b l =>
        obtain ⟨h1, h2⟩ := List.pairwise_cons.1 h
        obtain ⟨k1, k2⟩ := List.pairwise_cons.1 hw
        have hr := ih (fun m hm => hl m (List.mem_cons_of_mem _ hm)) k2 h2
        have ho := h1 b (by simp)
        have hk := k1 b (by simp)
        have ea := hl a (by simp)
        have eb := hl b (by simp)
        unfold ahead at hk
        rw [if_pos (by rw [ea.1, eb.1]), if_neg (by rw [eb.1]; omega)] at hk
        have e1 : lt b.hi a.lo = false := le_trans hk eb.2
        have e0 : (0 < a.lvl ∧ a.lvl = b.lvl) := by rw [ea.1, eb.1]; exact ⟨hi, rfl⟩
        unfold ov at ho
        rw [decide_eq_true e0, Bool.true_and, e1] at ho
        simp only [steps, hr, Bool.and_true]
        simpa using ho

theorem apart_zero {l : List M} (h : ∀ m ∈ l, m.lvl = 0) : apart l := by
  unfold apart
  rw [List.pairwise_iff_forall_sublist]
  intro a b hab
  have := h a (hab.subset (by simp))
  unfold ov
  simp [this]

theorem apart_cross {a b : M} (h : a.lvl ≠ b.lvl) : ov a b = false := by unfold ov; simp [h]

/-- levels apart, one by one: all apart -/
theorem levs_apart {S0 S1 S2 S3 : List M} (h0 : ∀ m ∈ S0, m.lvl = 0) (h1 : ∀ m ∈ S1, m.lvl = 1) (h2 : ∀ m ∈ S2, m.lvl = 2) (h3 : ∀ m ∈ S3, m.lvl = 3) : apart (S0 ++ S1 ++ S2 ++ S3) ↔ apart S1 ∧ apart S2 ∧ apart S3 := by
  have hz := apart_zero h0
  unfold apart at *
  simp only [List.pairwise_append, List.mem_append]
  constructor
  · rintro ⟨⟨⟨-, a1, -⟩, a2, -⟩, a3, -⟩
    exact ⟨a1, a2, a3⟩
  · rintro ⟨a1, a2, a3⟩
    refine ⟨⟨⟨hz, a1, fun a ha b hb => apart_cross (by rw [h0 a ha, h1 b hb]; omega)⟩, a2, ?_⟩, a3, ?_⟩
    · rintro a (ha | ha) b hb
      · exact apart_cross (by rw [h0 a ha, h2 b hb]; omega)
      · exact apart_cross (by rw [h1 a ha, h2 b hb]; omega)
    · rintro a ((ha | ha) | ha) b hb
      · exact apart_cross (by rw [h0 a ha, h3 b hb]; omega)
      · exact apart_cross (by rw [h1 a ha, h3 b hb]; omega)
      · exact apart_cross (by rw [h2 a ha, h3 b hb]; omega)
end VS
end Go.Proofs.Ytffdiiolgflbkaa

