/- Texts joined by bundle.py: Kit, Sm. -/
import Derived.Test.YtnglaolbfpdgoaaGreatRows
import Derived.WalkKit
import Derived.IntWalk
import Derived.Laws.Rows
import Derived.Lib.Hide
import Derived.Lib.SlBytesRow
import Derived.Lib.BufferWrite
import Derived.Lib.BufferRead
import Derived.Lib.UnsafeStr
import Derived.Laws.MakeOwn
import Derived.OwnWalk
import Derived.WalkSmall
import Derived.WalkLawsBesides
import Derived.Deep.AppendLies
import Derived.Deep.RegionHeld3
import Derived.BigQuiet
import Derived.Laws.StructEq
import Derived.WideAt
import Derived.WideShapes

/- Small words for memory: bytes, texts, rows. No function of the program. -/
namespace Go.Proofs.YtnglaolbfpdgoaaGreat
open Go.RowKit

theorem ret_int {k : IntKind} {a b : Int} (h : a = b) : Ending.returned (.int k a) = .returned (.int k b) := by rw [h]

theorem ret_bool {a b : Bool} (h : a = b) : Ending.returned (.bool a) = .returned (.bool b) := by rw [h]
theorem below_drewN {B : Nat} {a w : World} (h : Below B a w) (n : Nat) : Below B a (w.drewN n) := ⟨h.os, h.tape, h.output, h.size, h.block⟩

theorem byte_of (s : ByteArray) (k : Nat) (h : k < s.size) : s.data.toList[k]'(by simpa using h) = s[k] := by
  rfl

theorem size_list (s : ByteArray) : s.data.toList.length = s.size := by simp

theorem info_u8 : (Tryz.prog.info? 5).map (fun i => (i.zero, i.size, i.bytes)) = some (some (.int .u8 0), 1, 1) := by kernel_rfl

theorem str_ext {a b : ByteArray} (h : a.data.toList = b.data.toList) : a = b := by
  apply ByteArray.ext
  exact Array.toList_inj.1 h

theorem str_mk (s : ByteArray) : (⟨s.data.toList.toArray⟩ : ByteArray) = s := str_ext (by simp)

theorem str_app (a b : ByteArray) : (a ++ b).data.toList = a.data.toList ++ b.data.toList := by
  simp

theorem below_setRow {B : Nat} {w w1 : World} {g : Nat} {cs : Array Value} (h : Below B w w1) (hB : B ≤ g) : Below B w (w1.setRow g cs) :=
  h.trans ⟨rfl, rfl, rfl, by simp, fun k hk => setRow_other _ _ _ _ (by omega)⟩

theorem own_below {w w' : World} {base : Nat} {e : TypeId} {size : Nat} {v : Value} {n : Nat} {xs : List Value} (h : w.ownsRow base e size v n xs) (hb : Below w.heap.size w w') : w'.ownsRow base e size v n xs :=
  h.kept (row := none) ⟨hb.os, hb.tape, hb.output, hb.size, fun k hk _ => hb.block k hk⟩ (by cases v.ownBlock <;> simp)

theorem byte_toNat (m : Nat) (h : m < 256) : ((m.toUInt8).toNat : Int) = m := by
  simp only [Nat.toUInt8, UInt8.toNat_ofNat']; omega

theorem addr_add0 (g j : Nat) : (⟨g, 0, none⟩ : Addr).add j = ⟨g, j, none⟩ := by unfold Addr.add; split <;> simp_all

theorem heap_set_fr {w : World} {g : Nat} {cs : Array Value} {t : TypeId} {fr : Nat × Nat} (h : w.heap[g]? = some (.cells cs t fr)) (j : Nat) (u : Value) :
    (w.setCell ⟨g, j, none⟩ u).heap[g]? = some (.cells (cs.setIfInBounds j u) t fr) := by
  simp [World.setCell, Array.getElem?_modify, h]

theorem extract_at (s : ByteArray) (a b j : Nat) (h : j < (s.extract a b).size) : (s.extract a b)[j] = s[a + j]'(by rw [ByteArray.size_extract] at h; omega) := by
  exact ByteArray.getElem_extract ..

theorem byteCells_len (l : List UInt8) : (Lib.byteCells l).length = l.length := Lib.byteCells_length l
theorem frozen_of_row (w : World) (g j : Nat) (cs : Array Value) (t : TypeId) (hg : w.heap[g]? = some (.cells cs t (0, 0))) : w.frozen? ⟨g, j, none⟩ = false := by
  simp [World.frozen?, hg]

theorem setCell_size (w : World) (p : Addr) (u : Value) : (w.setCell p u).heap.size = w.heap.size := by simp [World.setCell]

theorem grownBy_setCell (w : World) (p : Addr) (u : Value) : w.grownBy (w.setCell p u) (some p.block) :=
  ⟨rfl, rfl, rfl, by simp [World.setCell], fun k _ hk => Below.heap_setCell _ _ _ _ (fun e => hk (by rw [e]))⟩
theorem grown_refl (w : World) (r : Option Nat) : w.grownBy w r := ⟨rfl, rfl, rfl, Nat.le_refl _, fun _ _ _ => rfl⟩
theorem grown_trans {a b c : World} {r : Option Nat} (h : a.grownBy b r) (k : b.grownBy c r) : a.grownBy c r :=
  ⟨k.os.trans h.os, k.tape.trans h.tape, k.output.trans h.output, Nat.le_trans h.size k.size, fun x hx hr => (k.block x (by have := h.size; omega) hr).trans (h.block x hx hr)⟩
theorem grown_drewN {a b : World} {r : Option Nat} (h : a.grownBy b r) (n : Nat) : a.grownBy (b.drewN n) r := ⟨h.os, h.tape, h.output, h.size, h.block⟩
theorem grown_set {a b : World} {r : Nat} (h : a.grownBy b (some r)) (j : Nat) (u : Value) : a.grownBy (b.setCell ⟨r, j, none⟩ u) (some r) := grown_trans h (grownBy_setCell _ _ _)
theorem grown_below {a b : World} {r : Option Nat} (h : Below a.heap.size a b) : a.grownBy b r := ⟨h.os, h.tape, h.output, h.size, fun k hk _ => h.block k hk⟩
/-- 'string(b)' of a row that the call owns -/
theorem own_string {w : World} {base : Nat} {v : Value} {l : List UInt8} (h : w.ownsRow base 5 1 v l.length (Lib.byteCells l)) : (convert 98 9 v).run Tryz.prog w = .ok (.string ⟨l.toArray⟩) w := by
  rcases h.2 with ⟨rfl, h0⟩ | ⟨g, cap, cur, rfl, _, hg, _, _, _, htk⟩
  · have hl : l = [] := List.length_eq_zero_iff.1 h0
    subst hl
    exact Lib.run_convert_nil_bytes w 98 9 5 0 Tryz.underlying98 Tryz.underlying5 Tryz.underlying9
  · have hb := Lib.bytes_of_row hg (l := l) (by simpa using htk)
    have h := Lib.run_convert_whole (P := Tryz.prog) w 98 5 9 Tryz.underlying98 Tryz.underlying5 Tryz.underlying9 g 0 ⟨l.toArray⟩ (fun i hi => by
      have hi' : i < l.length := by simpa [ByteArray.size] using hi
      have h1 := hb i hi'
      rw [addr_add0] at h1
      rw [Nat.zero_add, h1]
      rfl) cap
    exact h

/-- a new row of bytes of a literal -/
theorem bytes_lit (w : World) (l : List UInt8) (cs : Array Value) (h : cs.toList = Lib.byteCells l) : ∀ j u, (Lib.byteCells l)[j]? = some u → (w.alloc (.cells cs 5)).cell? ((⟨w.heap.size, 0, none⟩ : Addr).add j) = some u := by
  intro j u hj
  rw [addr_add0, cell_of_row _ _ _ _ _ _ (heap_alloc_new w _), ← hj, ← h]
  simp

/-- '[]byte(s)': a new row with the text's bytes -/
theorem bytes_of_text (w : World) (s : ByteArray) : ∃ (G : Nat) (W1 : World) (cs : Array Value) (fr : Nat × Nat), (convert 9 98 (.string s)).run Tryz.prog w = .ok (.slice (some ⟨w.heap.size, 0, none⟩) s.size G) W1 ∧
    W1.heap[w.heap.size]? = some (.cells cs 5 fr) ∧ (∀ j, (h : j < s.size) → cs[j]? = some (.int .u8 (s[j].toNat : Int)) ∧ W1.frozen? ⟨w.heap.size, j, none⟩ = false) ∧ Below w.heap.size w W1 := by
  have h := run_bytes_of_string (P := Tryz.prog) w 9 98 5 s Tryz.underlying9 Tryz.underlying98 Tryz.underlying5
  refine ⟨_, _, _, _, h, heap_alloc_new w.drew _, fun j hj => ?_, ((Below.refl _ _).drew).alloc (Nat.le_refl _) _⟩
  have hj' : j < s.data.size := hj
  refine ⟨bytesRow_at s _ j hj', ?_⟩
  have hlt : j < (bytesRow s (grownCap w s.size 0 5)).size := by
    have := bytesRow_at s (grownCap w s.size 0 5) j hj'
    exact (Array.getElem?_eq_some_iff.1 this).1
  generalize bytesRow s (grownCap w s.size 0 5) = C at hlt
  have hh : ((w.drew.alloc (.cells C 5 (C.size, C.size + 1))).heap[w.heap.size]?) = some (.cells C 5 (C.size, C.size + 1)) := heap_alloc_new w.drew _
  simp only [World.frozen?, hh]
  simp
  omega
end Go.Proofs.YtnglaolbfpdgoaaGreat

/- Plain mathematics of entries in order. No function of the program. -/
namespace Go.Proofs.YtnglaolbfpdgoaaGreat
namespace SK

structure E where
  key : ByteArray
  seq : Int
  gone : Bool
  value : ByteArray
  til : Int
deriving DecidableEq

def E.cells (e : E) : List Value := [.string e.key, .int .i64 e.seq, .bool e.gone, .string e.value, .int .i64 e.til]
def E.val (e : E) : Value := .agg #[.string e.key, .int .i64 e.seq, .bool e.gone, .string e.value, .int .i64 e.til]
def E.zero : E := ⟨⟨#[]⟩, 0, false, ⟨#[]⟩, 0⟩

/-- sizes that a machine has, numbers of 64 bits -/
structure E.wf (e : E) : Prop where
  key : e.key.size ≤ 140737488351232
  value : e.value.size ≤ 140737488351232
  seq : -9223372036854775808 ≤ e.seq ∧ e.seq ≤ 9223372036854775807
  til : -9223372036854775808 ≤ e.til ∧ e.til ≤ 9223372036854775807

theorem E.ext' {a b : E} (h1 : a.key = b.key) (h2 : a.seq = b.seq) (h3 : a.gone = b.gone) (h4 : a.value = b.value) (h5 : a.til = b.til) : a = b := by
  cases a; cases b; simp_all

/-- does a stand ahead of b? -/
def less (a b : E) : Bool := if a.key = b.key then decide (b.seq < a.seq) else Go.bytesBefore a.key.data.toList b.key.data.toList
/-- are they of one key and number? -/
def same (a b : E) : Bool := decide (a.key = b.key ∧ a.seq = b.seq)

def good (e : E) : Int :=
  if 64 < e.key.size ∨ 512 < e.value.size then 5
  else if e.key.size = 0 ∨ e.seq < 1 ∨ e.til < 0 then 2
  else if e.gone = true ∧ (0 < e.value.size ∨ 0 < e.til) then 2
  else 0

theorem good_cases (e : E) : good e = 5 ∨ good e = 2 ∨ good e = 0 := by
  unfold good; split
  · simp
  · split
    · simp
    · split <;> simp

theorem good_zero {e : E} (h : good e = 0) : 0 < e.key.size ∧ e.key.size ≤ 64 ∧ e.value.size ≤ 512 ∧ 1 ≤ e.seq ∧ 0 ≤ e.til := by
  unfold good at h
  split at h
  · simp at h
  · split at h
    · simp at h
    · rename_i h1 h2
      omega

theorem less_irrefl (a : E) : less a a = false := by simp [less]

theorem less_trans {a b c : E} (h1 : less a b = true) (h2 : less b c = true) : less a c = true := by
  unfold less at *
  by_cases hab : a.key = b.key
  · rw [if_pos hab] at h1
    by_cases hbc : b.key = c.key
    · rw [if_pos hbc] at h2
      rw [if_pos (hab.trans hbc)]
      simp at *; omega
    · rw [if_neg hbc] at h2
      rw [if_neg (by rw [hab]; exact hbc), hab]
      exact h2
  · rw [if_neg hab] at h1
    by_cases hbc : b.key = c.key
    · rw [if_pos hbc] at h2
      rw [if_neg (by rw [← hbc]; exact hab), ← hbc]
      exact h1
    · rw [if_neg hbc] at h2
      have h3 := Go.WideShapes.bytes_trans _ _ _ h1 h2
      by_cases hac : a.key = c.key
      · rw [hac, Go.WideAt.bytes_irrefl] at h3
        cases h3
      · rw [if_neg hac]
        exact h3

theorem less_total (a b : E) : same a b = true ∨ less a b = true ∨ less b a = true := by
  by_cases hk : a.key = b.key
  · by_cases hs : a.seq = b.seq
    · left; simp [same, hk, hs]
    · right
      simp only [less, hk, if_true, decide_eq_true_eq]
      omega
  · right
    have hk' : a.key.data.toList ≠ b.key.data.toList := fun h => hk (str_ext h)
    rcases Go.WideAt.bytes_total _ _ hk' with h | h
    · left; rw [less, if_neg hk]; exact h
    · right; rw [less, if_neg (Ne.symm hk)]; exact h

theorem less_asymm {a b : E} (h : less a b = true) : less b a = false := by
  cases h2 : less b a with
  | false => rfl
  | true => have := less_trans h h2; rw [less_irrefl] at this; cases this

theorem same_less {a b : E} (h : same a b = true) (c : E) : less a c = less b c ∧ less c a = less c b := by
  simp only [same, decide_eq_true_eq] at h
  obtain ⟨h1, h2⟩ := h
  simp [less, h1, h2]

theorem same_not {a b : E} (h : same a b = true) : less a b = false := by
  rw [(same_less h b).1]; exact less_irrefl b

/-- in order -/
def Sorted (l : List E) : Prop := l.Pairwise (fun a b => less a b = true)

/-- those that stand ahead of e, and the others -/
def front (e : E) (l : List E) : List E := l.takeWhile (fun x => less x e)
def rest (e : E) (l : List E) : List E := l.dropWhile (fun x => less x e)
theorem front_rest (e : E) (l : List E) : front e l ++ rest e l = l := List.takeWhile_append_dropWhile ..

theorem front_less {e : E} {l : List E} : ∀ x ∈ front e l, less x e = true := by
  induction l with
  | nil => intro x hx; simp [front] at hx
  | cons y l ih =>
    intro x hx
    simp only [front, List.takeWhile_cons] at hx
    split at hx
    · rename_i h
      rcases List.mem_cons.1 hx with rfl | hx
      · exact h
      · exact ih x hx
    · simp at hx

theorem rest_not {e : E} : ∀ {l : List E}, Sorted l → ∀ x ∈ rest e l, less x e = false := by
  intro l
  induction l with
  | nil => intro _ x hx; simp [rest] at hx
  | cons y l ih =>
    intro hs x hx
    obtain ⟨h1, h2⟩ := List.pairwise_cons.1 hs
    cases hy : less y e with
    | true =>
      rw [rest, List.dropWhile_cons, hy] at hx
      exact ih h2 x hx
    | false =>
      rw [rest, List.dropWhile_cons, hy] at hx
      simp only [Bool.false_eq_true, if_false] at hx
      rcases List.mem_cons.1 hx with rfl | hx
      · exact hy
      · cases hx2 : less x e with
        | false => rfl
        | true =>
          have := less_trans (h1 x hx) hx2
          rw [hy] at this; cases this

theorem split_unique {e : E} {p q : List E} (hp : ∀ x ∈ p, less x e = true) (hq : ∀ x ∈ q, less x e = false) : front e (p ++ q) = p ∧ rest e (p ++ q) = q := by
  induction p with
  | nil =>
    cases q with
    | nil => simp [front, rest]
    | cons y q =>
      have := hq y (by simp)
      simp [front, rest, this]
  | cons x p ih =>
    obtain ⟨h1, h2⟩ := ih (fun y hy => hp y (by simp [hy]))
    have := hp x (by simp)
    simp only [front, rest, List.cons_append] at *
    simp [this, h1, h2]

def there (e : E) (l : List E) : Bool := l.any (fun x => same x e)

/-- what stands first among the others tells whether it is there -/
theorem there_iff {e : E} {l : List E} (hs : Sorted l) : there e l = (match rest e l with | [] => false | y :: _ => !(less e y)) := by
  have hf := front_rest e l
  have hfl := front_less (e := e) (l := l)
  have hrn := rest_not (e := e) hs
  have h1 : (front e l).any (fun x => same x e) = false := by
    rw [List.any_eq_false]
    intro x hx h
    have := hfl x hx
    rw [same_not h] at this; cases this
  have h2 : there e l = (rest e l).any (fun x => same x e) := by
    unfold there
    conv => lhs; rw [← hf]
    rw [List.any_append, h1, Bool.false_or]
  rw [h2]
  cases hr : rest e l with
  | nil => rfl
  | cons y r =>
    rw [hr] at hrn
    have hsr : Sorted (y :: r) := by
      rw [← hr]
      unfold Sorted at *
      rw [← hf] at hs
      exact (List.pairwise_append.1 hs).2.1
    obtain ⟨hy1, -⟩ := List.pairwise_cons.1 hsr
    have hy := hrn y (by simp)
    cases hey : less e y with
    | false =>
      have : same y e = true := by
        rcases less_total y e with h | h | h
        · exact h
        · rw [hy] at h; cases h
        · rw [hey] at h; cases h
      simp [this, hey]
    | true =>
      rw [List.any_eq_false.2]
      · simp [hey]
      · intro x hx h
        rcases List.mem_cons.1 hx with rfl | hx
        · have h' : same e x = true := by simp [same] at *; simp [h]
          rw [same_not h'] at hey; cases hey
        · have h3 := less_trans hey (hy1 x hx)
          have h' : same e x = true := by simp [same] at *; simp [h]
          rw [same_not h'] at h3; cases h3

theorem sorted_put {e : E} {l : List E} (hs : Sorted l) (ht : there e l = false) : Sorted (front e l ++ e :: rest e l) := by
  have hf := front_rest e l
  unfold Sorted at *
  rw [← hf] at hs
  obtain ⟨h1, h2, h3⟩ := List.pairwise_append.1 hs
  refine List.pairwise_append.2 ⟨h1, List.pairwise_cons.2 ⟨fun y hy => ?_, h2⟩, fun x hx y hy => ?_⟩
  · have hn := rest_not (e := e) (l := l) (by unfold Sorted; rw [← hf]; exact hs) y hy
    rcases less_total e y with h | h | h
    · exfalso
      have : there e l = true := by
        unfold there
        rw [List.any_eq_true]
        refine ⟨y, by rw [← hf]; simp [hy], ?_⟩
        simp [same] at *; simp [h]
      rw [ht] at this; cases this
    · exact h
    · rw [hn] at h; cases h
  · rcases List.mem_cons.1 hy with rfl | hy
    · exact front_less x hx
    · exact h3 x hx y hy

/-- the height of a coin's tower -/
def coin (c : Int) : Int := 1 + (if c < 0 then -(c + 1) else c) % 8
theorem coin_range (c : Int) : 1 ≤ coin c ∧ coin c ≤ 8 := by
  unfold coin
  split <;> omega

/-- the height of the tower of entry i -/
def height (cs : List Int) (i : Nat) : Nat := if cs.length = 0 then 1 else (coin (cs.getD (i % cs.length) 0)).toNat
theorem height_range (cs : List Int) (i : Nat) : 1 ≤ height cs i ∧ height cs i ≤ 8 := by
  unfold height
  split
  · omega
  · have := coin_range (cs.getD (i % cs.length) 0); omega

def cost (cs : List Int) (i : Nat) (e : E) : Int := 40 + 8 * (height cs i : Int) + e.key.size + e.value.size

/-- the list's state: its entries, and what they hold -/
structure St where
  l : List E
  size : Int
deriving DecidableEq

def St.new : St := ⟨[], 0⟩
def St.step (cs : List Int) (s : St) (e : E) : Int × St :=
  if good e ≠ 0 then (good e, s)
  else if there e s.l = true then (11, s)
  else (0, ⟨front e s.l ++ e :: rest e s.l, s.size + cost cs s.l.length e⟩)

/-- what every list is -/
structure Ok (s : St) : Prop where
  sorted : Sorted s.l
  good : ∀ x ∈ s.l, SK.good x = 0
  wf : ∀ x ∈ s.l, x.wf
  size : 0 ≤ s.size ∧ s.size ≤ 1000 * (s.l.length : Int)

theorem ok_new : Ok St.new := ⟨List.Pairwise.nil, by simp [St.new], by simp [St.new], by simp [St.new]⟩
theorem ok_step {s : St} (h : Ok s) (cs : List Int) {e : E} (he : e.wf) : Ok (s.step cs e).2 ∧ (s.step cs e).2.l.length ≤ s.l.length + 1 := by
  unfold St.step
  split
  · exact ⟨h, by simp⟩
  · rename_i hg
    have hg' : SK.good e = 0 := by simpa using hg
    split
    · exact ⟨h, by simp⟩
    · rename_i ht
      have ht' : there e s.l = false := by simpa using ht
      have hlen : (front e s.l ++ e :: rest e s.l).length = s.l.length + 1 := by
        have := congrArg List.length (front_rest e s.l)
        simp at *; omega
      have hmem : ∀ x, x ∈ front e s.l ++ e :: rest e s.l → x = e ∨ x ∈ s.l := by
        intro x hx
        rw [← front_rest e s.l]
        simp at *
        rcases hx with h | h | h
        · exact .inr (.inl h)
        · exact .inl h
        · exact .inr (.inr h)
      refine ⟨⟨sorted_put h.sorted ht', fun x hx => ?_, fun x hx => ?_, ?_⟩, ?_⟩
      · rcases hmem x hx with rfl | hx
        · exact hg'
        · exact h.good x hx
      · rcases hmem x hx with rfl | hx
        · exact he
        · exact h.wf x hx
      · have := h.size
        have hgz := good_zero hg'
        have hh := height_range cs s.l.length
        simp only [hlen, cost]
        push_cast
        omega
      · exact Nat.le_of_eq hlen

/-- the newest entry of a key up to a number -/
def get (l : List E) (k : ByteArray) (q : Int) : E × Bool :=
  match l.find? (fun x => decide (x.key = k ∧ x.seq ≤ q)) with | some x => (x, true) | none => (E.zero, false)

/-- all from a key on -/
def from_ (l : List E) (k : ByteArray) : List E := l.filter (fun x => !(Go.bytesBefore x.key.data.toList k.data.toList))

def askE (k : ByteArray) (q : Int) : E := ⟨k, q, false, ⟨#[]⟩, 0⟩

theorem less_ask (x : E) (k : ByteArray) (q : Int) : less x (askE k q) = if x.key = k then decide (q < x.seq) else Go.bytesBefore x.key.data.toList k.data.toList := rfl

theorem get_rest {l : List E} (hs : Sorted l) (k : ByteArray) (q : Int) : get l k q = (match rest (askE k q) l with | [] => (E.zero, false) | y :: _ => if y.key = k then (y, true) else (E.zero, false)) := by
  have hf := front_rest (askE k q) l
  have hfl := front_less (e := askE k q) (l := l)
  have hrn := rest_not (e := askE k q) hs
  have h1 : (front (askE k q) l).find? (fun x => decide (x.key = k ∧ x.seq ≤ q)) = none := by
    rw [List.find?_eq_none]
    intro x hx h
    have h2 := hfl x hx
    simp only [decide_eq_true_eq] at h
    rw [less_ask, if_pos h.1, decide_eq_true_eq] at h2
    omega
  have h2 : get l k q = (match (rest (askE k q) l).find? (fun x => decide (x.key = k ∧ x.seq ≤ q)) with | some x => (x, true) | none => (E.zero, false)) := by
    unfold get
    conv => lhs; rw [← hf]
    rw [List.find?_append, h1, Option.none_or]
  rw [h2]
  cases hr : rest (askE k q) l with
  | nil => rfl
  | cons y r =>
    rw [hr] at hrn
    have hsr : Sorted (y :: r) := by
      rw [← hr]
      unfold Sorted at *
      rw [← hf] at hs
      exact (List.pairwise_append.1 hs).2.1
    obtain ⟨hy1, -⟩ := List.pairwise_cons.1 hsr
    have hy := hrn y (by simp)
    by_cases hk : y.key = k
    · have hq : y.seq ≤ q := by
        rw [less_ask, if_pos hk, decide_eq_false_iff_not] at hy
        omega
      simp [hk, hq]
    · simp only [hk, if_false]
      have : (y :: r).find? (fun x => decide (x.key = k ∧ x.seq ≤ q)) = none := by
        rw [List.find?_eq_none]
        intro x hx h
        simp only [decide_eq_true_eq] at h
        rcases List.mem_cons.1 hx with rfl | hx
        · exact hk h.1
        · have h3 := hy1 x hx
          rw [less, if_neg (by rw [h.1]; exact hk), h.1] at h3
          rw [less, if_neg (by simpa [askE] using hk)] at hy
          simp only [askE] at hy
          rw [h3] at hy
          cases hy
      rw [this]

theorem from_rest {l : List E} (hs : Sorted l) (hw : ∀ x ∈ l, x.seq ≤ 9223372036854775807) (k : ByteArray) : from_ l k = rest (askE k 9223372036854775807) l := by
  have hf := front_rest (askE k 9223372036854775807) l
  have hfl := front_less (e := askE k 9223372036854775807) (l := l)
  have hrn := rest_not (e := askE k 9223372036854775807) hs
  have h1 : from_ (front (askE k 9223372036854775807) l) k = [] := by
    unfold from_
    rw [List.filter_eq_nil_iff]
    intro x hx h
    have h2 := hfl x hx
    have hxl : x ∈ l := by rw [← hf]; simp [hx]
    have h3 := hw x hxl
    rw [less_ask] at h2
    split at h2
    · rw [decide_eq_true_eq] at h2; omega
    · rw [h2] at h; simp at h
  have h2 : from_ (rest (askE k 9223372036854775807) l) k = rest (askE k 9223372036854775807) l := by
    unfold from_
    rw [List.filter_eq_self]
    intro x hx
    have h2 := hrn x hx
    unfold less at h2
    split at h2
    · rename_i h
      rw [h]
      simp [askE, Go.WideAt.bytes_irrefl]
    · simp only [askE] at h2; rw [h2]; rfl
  conv => lhs; rw [← hf]
  show List.filter _ _ = _
  rw [List.filter_append]
  show from_ _ k ++ from_ _ k = _
  rw [h1, h2, List.nil_append]
end SK
end Go.Proofs.YtnglaolbfpdgoaaGreat

