/- Texts joined by bundle.py: YMKit, YMSm, YMMp, YMOp, YMTwo, YMLs, YMHm. -/
import Derived.Test.YtjkofciohehgfaaGreatDoorRows
import Derived.WalkKit
import Derived.IntWalk
import Derived.Laws.Rows
import Derived.Lib.Hide
import Derived.Lib.SlBytesRow
import Derived.Lib.BufferWrite
import Derived.Lib.BufferRead
import Derived.Lib.UnsafeStr
import Derived.Laws.MakeOwn
import Derived.OwnWalk
import Derived.WalkSmall
import Derived.WalkLawsBesides
import Derived.Deep.AppendLies
import Derived.Deep.RegionHeld3
import Derived.BigQuiet
import Derived.Laws.StructEq
import Derived.WideAt
import Derived.WideShapes
import Derived.ProofKit
import Derived.OpenShut
import Derived.JoinedCond
import Derived.Deep.Slices
import Derived.Deep.Fields
import Derived.ChangeSame
import Derived.SizedLaws
import Derived.Lib.SmallJoins
import Derived.Deep.DrawnRows

/- Small words for memory: bytes, texts, rows. No function of the program. -/
namespace Go.Proofs.YtjkofciohehgfaaGreatDoor.L13
open Go.RowKit

theorem below_drewN {B : Nat} {a w : World} (h : Below B a w) (n : Nat) : Below B a (w.drewN n) := ⟨h.os, h.tape, h.output, h.size, h.block⟩

theorem size_list (s : ByteArray) : s.data.toList.length = s.size := by simp

theorem info_u8 : (Tryz.prog.info? 5).map (fun i => (i.zero, i.size, i.bytes)) = some (some (.int .u8 0), 1, 1) := by kernel_rfl

theorem str_ext {a b : ByteArray} (h : a.data.toList = b.data.toList) : a = b := by
  apply ByteArray.ext
  exact Array.toList_inj.1 h

theorem below_setRow {B : Nat} {w w1 : World} {g : Nat} {cs : Array Value} (h : Below B w w1) (hB : B ≤ g) : Below B w (w1.setRow g cs) :=
  h.trans ⟨rfl, rfl, rfl, by simp, fun k hk => setRow_other _ _ _ _ (by omega)⟩

theorem own_below {w w' : World} {base : Nat} {e : TypeId} {size : Nat} {v : Value} {n : Nat} {xs : List Value} (h : w.ownsRow base e size v n xs) (hb : Below w.heap.size w w') : w'.ownsRow base e size v n xs :=
  h.kept (row := none) ⟨hb.os, hb.tape, hb.output, hb.size, fun k hk _ => hb.block k hk⟩ (by cases v.ownBlock <;> simp)

theorem addr_add0 (g j : Nat) : (⟨g, 0, none⟩ : Addr).add j = ⟨g, j, none⟩ := by unfold Addr.add; split <;> simp_all

theorem heap_set_fr {w : World} {g : Nat} {cs : Array Value} {t : TypeId} {fr : Nat × Nat} (h : w.heap[g]? = some (.cells cs t fr)) (j : Nat) (u : Value) :
    (w.setCell ⟨g, j, none⟩ u).heap[g]? = some (.cells (cs.setIfInBounds j u) t fr) := by
  simp [World.setCell, Array.getElem?_modify, h]

theorem frozen_of_row (w : World) (g j : Nat) (cs : Array Value) (t : TypeId) (hg : w.heap[g]? = some (.cells cs t (0, 0))) : w.frozen? ⟨g, j, none⟩ = false := by
  simp [World.frozen?, hg]

theorem setCell_size (w : World) (p : Addr) (u : Value) : (w.setCell p u).heap.size = w.heap.size := by simp [World.setCell]

theorem grownBy_setCell (w : World) (p : Addr) (u : Value) : w.grownBy (w.setCell p u) (some p.block) :=
  ⟨rfl, rfl, rfl, by simp [World.setCell], fun k _ hk => Below.heap_setCell _ _ _ _ (fun e => hk (by rw [e]))⟩
end Go.Proofs.YtjkofciohehgfaaGreatDoor.L13


/- Plain mathematics of entries in order. No function of the program. -/
namespace Go.Proofs.YtjkofciohehgfaaGreatDoor.L13
namespace SK

structure E where
  key : ByteArray
  seq : Int
  gone : Bool
  value : ByteArray
  til : Int
deriving DecidableEq

def E.cells (e : E) : List Value := [.string e.key, .int .i64 e.seq, .bool e.gone, .string e.value, .int .i64 e.til]
def E.val (e : E) : Value := .agg #[.string e.key, .int .i64 e.seq, .bool e.gone, .string e.value, .int .i64 e.til]
def E.zero : E := ⟨⟨#[]⟩, 0, false, ⟨#[]⟩, 0⟩

/-- sizes that a machine has, numbers of 64 bits -/
structure E.wf (e : E) : Prop where
  key : e.key.size ≤ 140737488351232
  value : e.value.size ≤ 140737488351232
  seq : -9223372036854775808 ≤ e.seq ∧ e.seq ≤ 9223372036854775807
  til : -9223372036854775808 ≤ e.til ∧ e.til ≤ 9223372036854775807

/-- does a stand ahead of b? -/
def less (a b : E) : Bool := if a.key = b.key then decide (b.seq < a.seq) else Go.bytesBefore a.key.data.toList b.key.data.toList
/-- are they of one key and number? -/
def same (a b : E) : Bool := decide (a.key = b.key ∧ a.seq = b.seq)

theorem less_irrefl (a : E) : less a a = false := by simp [less]

theorem less_trans {a b c : E} (h1 : less a b = true) (h2 : less b c = true) : less a c = true := by
  unfold less at *
  by_cases hab : a.key = b.key
  · rw [if_pos hab] at h1
    by_cases hbc : b.key = c.key
    · rw [if_pos hbc] at h2
      rw [if_pos (hab.trans hbc)]
      simp at *; omega
    · rw [if_neg hbc] at h2
      rw [if_neg (by rw [hab]; exact hbc), hab]
      exact h2
  · rw [if_neg hab] at h1
    by_cases hbc : b.key = c.key
    · rw [if_pos hbc] at h2
      rw [if_neg (by rw [← hbc]; exact hab), ← hbc]
      exact h1
    · rw [if_neg hbc] at h2
      have h3 := Go.WideShapes.bytes_trans _ _ _ h1 h2
      by_cases hac : a.key = c.key
      · rw [hac, Go.WideAt.bytes_irrefl] at h3
        cases h3
      · rw [if_neg hac]
        exact h3

theorem less_total (a b : E) : same a b = true ∨ less a b = true ∨ less b a = true := by
  by_cases hk : a.key = b.key
  · by_cases hs : a.seq = b.seq
    · left; simp [same, hk, hs]
    · right
      simp only [less, hk, if_true, decide_eq_true_eq]
      omega
  · right
    have hk' : a.key.data.toList ≠ b.key.data.toList := fun h => hk (str_ext h)
    rcases Go.WideAt.bytes_total _ _ hk' with h | h
    · left; rw [less, if_neg hk]; exact h
    · right; rw [less, if_neg (Ne.symm hk)]; exact h

theorem less_asymm {a b : E} (h : less a b = true) : less b a = false := by
  cases h2 : less b a with
  | false => rfl
  | true => have := less_trans h h2; rw [less_irrefl] at this; cases this

theorem same_less {a b : E} (h : same a b = true) (c : E) : less a c = less b c ∧ less c a = less c b := by
  simp only [same, decide_eq_true_eq] at h
  obtain ⟨h1, h2⟩ := h
  simp [less, h1, h2]

theorem same_not {a b : E} (h : same a b = true) : less a b = false := by
  rw [(same_less h b).1]; exact less_irrefl b

/-- in order -/
def Sorted (l : List E) : Prop := l.Pairwise (fun a b => less a b = true)

/-- those that stand ahead of e, and the others -/
def front (e : E) (l : List E) : List E := l.takeWhile (fun x => less x e)
def rest (e : E) (l : List E) : List E := l.dropWhile (fun x => less x e)
theorem front_rest (e : E) (l : List E) : front e l ++ rest e l = l := List.takeWhile_append_dropWhile ..

theorem front_less {e : E} {l : List E} : ∀ x ∈ front e l, less x e = true := by
  induction l with
  | nil => intro x hx; simp [front] at hx
  | cons y l ih =>
    intro x hx
    simp only [front, List.takeWhile_cons] at hx
    split at hx
    · rename_i h
      rcases List.mem_cons.1 hx with rfl | hx
      · exact h
      · exact ih x hx
    · simp at hx

theorem rest_not {e : E} : ∀ {l : List E}, Sorted l → ∀ x ∈ rest e l, less x e = false := by
  intro l
  induction l with
  | nil => intro _ x hx; simp [rest] at hx
  | cons y l ih =>
    intro hs x hx
    obtain ⟨h1, h2⟩ := List.pairwise_cons.1 hs
    cases hy : less y e with
    | true =>
      rw [rest, List.dropWhile_cons, hy] at hx
      exact ih h2 x hx
    | false =>
      rw [rest, List.dropWhile_cons, hy] at hx
      simp only [Bool.false_eq_true, if_false] at hx
      rcases List.mem_cons.1 hx with rfl | hx
      · exact hy
      · cases hx2 : less x e with
        | false => rfl
        | true =>
          have := less_trans (h1 x hx) hx2
          rw [hy] at this; cases this

theorem split_unique {e : E} {p q : List E} (hp : ∀ x ∈ p, less x e = true) (hq : ∀ x ∈ q, less x e = false) : front e (p ++ q) = p ∧ rest e (p ++ q) = q := by
  induction p with
  | nil =>
    cases q with
    | nil => simp [front, rest]
    | cons y q =>
      have := hq y (by simp)
      simp [front, rest, this]
  | cons x p ih =>
    obtain ⟨h1, h2⟩ := ih (fun y hy => hp y (by simp [hy]))
    have := hp x (by simp)
    simp only [front, rest, List.cons_append] at *
    simp [this, h1, h2]

def there (e : E) (l : List E) : Bool := l.any (fun x => same x e)

theorem sorted_put {e : E} {l : List E} (hs : Sorted l) (ht : there e l = false) : Sorted (front e l ++ e :: rest e l) := by
  have hf := front_rest e l
  unfold Sorted at *
  rw [← hf] at hs
  obtain ⟨h1, h2, h3⟩ := List.pairwise_append.1 hs
  refine List.pairwise_append.2 ⟨h1, List.pairwise_cons.2 ⟨fun y hy => ?_, h2⟩, fun x hx y hy => ?_⟩
  · have hn := rest_not (e := e) (l := l) (by unfold Sorted; rw [← hf]; exact hs) y hy
    rcases less_total e y with h | h | h
    · exfalso
      have : there e l = true := by
        unfold there
        rw [List.any_eq_true]
        refine ⟨y, by rw [← hf]; simp [hy], ?_⟩
        simp [same] at *; simp [h]
      rw [ht] at this; cases this
    · exact h
    · rw [hn] at h; cases h
  · rcases List.mem_cons.1 hy with rfl | hy
    · exact front_less x hx
    · exact h3 x hx y hy

/-- all from a key on -/
def from_ (l : List E) (k : ByteArray) : List E := l.filter (fun x => !(Go.bytesBefore x.key.data.toList k.data.toList))

end SK
end Go.Proofs.YtjkofciohehgfaaGreatDoor.L13


/- Plain mathematics: a heap of sources, and lists merged. No function of the program. -/
namespace Go.Proofs.YtjkofciohehgfaaGreatDoor.L13
open SK
namespace HP

section
variable {α : Type} {lt : α → α → Bool}

/-- an order in which 'not behind' is transitive -/
structure Ord (lt : α → α → Bool) : Prop where
  asymm : ∀ x y, lt x y = true → lt y x = false
  ntrans : ∀ x y z, lt x y = false → lt y z = false → lt x z = false

theorem Ord.irrefl (h : Ord lt) (x : α) : lt x x = false := by
  cases hx : lt x x with
  | false => rfl
  | true => have := h.asymm x x hx; rw [hx] at this; cases this

/-- from lo on, those below n stand in a heap's order -/
def From (lt : α → α → Bool) (lo n : Nat) (g : Nat → α) : Prop := ∀ k, 0 < k → k < n → lo ≤ (k - 1) / 2 → lt (g k) (g ((k - 1) / 2)) = false

/-- .. but for what is below i -/
structure Dn (lt : α → α → Bool) (lo n : Nat) (g : Nat → α) (i : Nat) : Prop where
  a : ∀ k, 0 < k → k < n → lo ≤ (k - 1) / 2 → (k - 1) / 2 ≠ i → lt (g k) (g ((k - 1) / 2)) = false
  b : 0 < i → lo ≤ (i - 1) / 2 → ∀ k, 0 < k → k < n → (k - 1) / 2 = i → lt (g k) (g ((i - 1) / 2)) = false

/-- .. but for what is above j -/
structure Up (lt : α → α → Bool) (n : Nat) (g : Nat → α) (j : Nat) : Prop where
  a : ∀ k, 0 < k → k < n → k ≠ j → lt (g k) (g ((k - 1) / 2)) = false
  b : 0 < j → ∀ k, 0 < k → k < n → (k - 1) / 2 = j → lt (g k) (g ((j - 1) / 2)) = false

def sw (g : Nat → α) (i j : Nat) : Nat → α := fun k => if k = i then g j else if k = j then g i else g k

theorem Dn.start {lo n : Nat} {g : Nat → α} (h : From lt (lo + 1) n g) : Dn lt lo n g lo :=
  ⟨fun k h0 h1 h2 h3 => h k h0 h1 (by omega), fun h0 h1 => by omega⟩

/-- behind the last one has come to the root -/
theorem Dn.root {n m : Nat} {g g' : Nat → α} (h : From lt 0 m g) (hn : n ≤ m) (hg : ∀ k, 0 < k → k < n → g' k = g k) : Dn lt 0 n g' 0 :=
  ⟨fun k h0 h1 _ h3 => by rw [hg k h0 h1, hg ((k - 1) / 2) (by omega) (by omega)]; exact h k h0 (by omega) (by omega), fun h0 => by omega⟩

/-- j: the lesser child of i -/
structure Kid (lt : α → α → Bool) (n : Nat) (g : Nat → α) (i j : Nat) : Prop where
  one : j = 2 * i + 1 ∨ j = 2 * i + 2
  into : j < n
  least : ∀ k, 0 < k → k < n → (k - 1) / 2 = i → lt (g k) (g j) = false

theorem Dn.step (ho : Ord lt) {lo n i j : Nat} {g : Nat → α} (h : Dn lt lo n g i) (hk : Kid lt n g i j) (hl : lt (g j) (g i) = true) : Dn lt lo n (sw g i j) j := by
  have hij : i < j := by rcases hk.one with h | h <;> omega
  have hp : (j - 1) / 2 = i := by rcases hk.one with h | h <;> omega
  refine ⟨fun k h0 h1 h2 h3 => ?_, fun h0 h1 k k0 k1 k2 => ?_⟩
  · by_cases hpi : (k - 1) / 2 = i
    · have e1 : sw g i j ((k - 1) / 2) = g j := by rw [hpi]; simp [sw]
      rw [e1]
      by_cases hkj : k = j
      · have e2 : sw g i j k = g i := by simp only [sw]; rw [if_neg (by omega), if_pos hkj]
        rw [e2]
        exact ho.asymm _ _ hl
      · have e2 : sw g i j k = g k := by simp only [sw]; rw [if_neg (by omega), if_neg hkj]
        rw [e2]
        exact hk.least k h0 h1 hpi
    · have hkj : k ≠ j := fun e => hpi (by rw [e, hp])
      have e1 : sw g i j ((k - 1) / 2) = g ((k - 1) / 2) := by simp only [sw]; rw [if_neg hpi, if_neg h3]
      rw [e1]
      by_cases hki : k = i
      · have e2 : sw g i j k = g j := by simp only [sw]; rw [if_pos hki]
        rw [e2]
        have := h.b (by omega) (by rw [← hki]; exact h2) j (by omega) hk.into hp
        rw [hki]
        exact this
      · have e2 : sw g i j k = g k := by simp only [sw]; rw [if_neg hki, if_neg hkj]
        rw [e2]
        exact h.a k h0 h1 h2 hpi
  · have e1 : sw g i j ((j - 1) / 2) = g j := by rw [hp]; simp [sw]
    have e2 : sw g i j k = g k := by simp only [sw]; rw [if_neg (by omega), if_neg (by omega)]
    rw [e1, e2, ← k2]
    exact h.a k k0 k1 (by omega) (by omega)

theorem Dn.stop (ho : Ord lt) {lo n i j : Nat} {g : Nat → α} (h : Dn lt lo n g i) (hk : Kid lt n g i j) (hl : lt (g j) (g i) = false) : From lt lo n g := by
  intro k h0 h1 h2
  by_cases hpi : (k - 1) / 2 = i
  · rw [hpi]
    exact ho.ntrans _ _ _ (hk.least k h0 h1 hpi) hl
  · exact h.a k h0 h1 h2 hpi

theorem Dn.none {lo n i : Nat} {g : Nat → α} (h : Dn lt lo n g i) (hi : n ≤ 2 * i + 1) : From lt lo n g := by
  intro k h0 h1 h2
  exact h.a k h0 h1 h2 (by omega)

theorem Kid.left {n i : Nat} {g : Nat → α} (ho : Ord lt) (h1 : 2 * i + 1 < n) (h2 : ¬ 2 * i + 2 < n) : Kid lt n g i (2 * i + 1) :=
  ⟨.inl rfl, h1, fun k h0 hk hp => by
    obtain rfl : k = 2 * i + 1 := by omega
    exact ho.irrefl _⟩
theorem Kid.left2 {n i : Nat} {g : Nat → α} (ho : Ord lt) (h2 : 2 * i + 2 < n) (hl : lt (g (2 * i + 2)) (g (2 * i + 1)) = false) : Kid lt n g i (2 * i + 1) :=
  ⟨.inl rfl, by omega, fun k h0 hk hp => by
    rcases (by omega : k = 2 * i + 1 ∨ k = 2 * i + 2) with rfl | rfl
    · exact ho.irrefl _
    · exact hl⟩
theorem Kid.right {n i : Nat} {g : Nat → α} (ho : Ord lt) (h2 : 2 * i + 2 < n) (hl : lt (g (2 * i + 2)) (g (2 * i + 1)) = true) : Kid lt n g i (2 * i + 2) :=
  ⟨.inr rfl, h2, fun k h0 hk hp => by
    rcases (by omega : k = 2 * i + 1 ∨ k = 2 * i + 2) with rfl | rfl
    · exact ho.asymm _ _ hl
    · exact ho.irrefl _⟩

theorem Up.start {n : Nat} {g g' : Nat → α} (h : From lt 0 n g) (hg : ∀ k, k < n → g' k = g k) : Up lt (n + 1) g' n :=
  ⟨fun k h0 h1 h2 => by rw [hg k (by omega), hg _ (by omega)]; exact h k h0 (by omega) (by omega), fun _ k h0 h1 h2 => by omega⟩

theorem Up.step (ho : Ord lt) {n j : Nat} {g : Nat → α} (h : Up lt n g j) (hj : 0 < j) (hn : j < n) (hl : lt (g j) (g ((j - 1) / 2)) = true) : Up lt n (sw g ((j - 1) / 2) j) ((j - 1) / 2) := by
  obtain ⟨i, hi⟩ : ∃ i, (j - 1) / 2 = i := ⟨_, rfl⟩
  have hij : i < j := by omega
  rw [hi] at hl ⊢
  have hgi := ho.asymm _ _ hl
  refine ⟨fun k h0 h1 h2 => ?_, fun h0 k k0 k1 k2 => ?_⟩
  · by_cases hkj : k = j
    · have e2 : sw g i j k = g i := by simp only [sw]; rw [if_neg h2, if_pos hkj]
      have e1 : sw g i j ((k - 1) / 2) = g j := by rw [hkj, hi]; simp [sw]
      rw [e1, e2]
      exact hgi
    · have e2 : sw g i j k = g k := by simp only [sw]; rw [if_neg h2, if_neg hkj]
      rw [e2]
      by_cases hpi : (k - 1) / 2 = i
      · have e1 : sw g i j ((k - 1) / 2) = g j := by rw [hpi]; simp [sw]
        rw [e1]
        have := h.a k h0 h1 hkj
        rw [hpi] at this
        exact ho.ntrans _ _ _ this hgi
      · by_cases hpj : (k - 1) / 2 = j
        · have e1 : sw g i j ((k - 1) / 2) = g i := by rw [hpj]; simp only [sw]; rw [if_neg (by omega)]; simp
          rw [e1, ← hi]
          exact h.b hj k h0 h1 hpj
        · have e1 : sw g i j ((k - 1) / 2) = g ((k - 1) / 2) := by simp only [sw]; rw [if_neg hpi, if_neg hpj]
          rw [e1]
          exact h.a k h0 h1 hkj
  · have e1 : sw g i j ((i - 1) / 2) = g ((i - 1) / 2) := by simp only [sw]; rw [if_neg (by omega), if_neg (by omega)]
    have hgp := h.a i h0 (by omega) (by omega)
    rw [e1]
    by_cases hkj : k = j
    · have e2 : sw g i j k = g i := by simp only [sw]; rw [if_neg (by omega), if_pos hkj]
      rw [e2]
      exact hgp
    · have e2 : sw g i j k = g k := by simp only [sw]; rw [if_neg (by omega), if_neg hkj]
      rw [e2]
      have := h.a k k0 k1 hkj
      rw [k2] at this
      exact ho.ntrans _ _ _ this hgp

theorem Up.stop {n j : Nat} {g : Nat → α} (h : Up lt n g j) (hl : j = 0 ∨ lt (g j) (g ((j - 1) / 2)) = false) : From lt 0 n g := by
  intro k h0 h1 _
  by_cases hkj : k = j
  · rcases hl with hl | hl
    · omega
    · rw [hkj]; exact hl
  · exact h.a k h0 h1 hkj

/-- the root is the least -/
theorem From.least (ho : Ord lt) {n : Nat} {g : Nat → α} (h : From lt 0 n g) : ∀ k, k < n → lt (g k) (g 0) = false := by
  intro k
  induction k using Nat.strongRecOn with
  | _ k ih =>
    intro hk
    by_cases h0 : k = 0
    · rw [h0]; exact ho.irrefl _
    · exact ho.ntrans _ _ _ (h k (by omega) hk (by omega)) (ih ((k - 1) / 2) (by omega) (by omega))

theorem From.less {lo n m : Nat} {g : Nat → α} (h : From lt lo n g) (hm : m ≤ n) : From lt lo m g := fun k h0 h1 h2 => h k h0 (by omega) h2
theorem From.congr {lo n : Nat} {g g' : Nat → α} (h : From lt lo n g) (hg : ∀ k, k < n → g' k = g k) : From lt lo n g' := fun k h0 h1 h2 => by
  rw [hg k h1, hg _ (by omega)]; exact h k h0 h1 h2
end

/-! ### sources -/

structure Src where
  b : Nat
  A : Option Addr
  c : Nat
  place : Nat
  left : List E

def Src.dft : Src := ⟨0, none, 0, 0, []⟩
instance : Inhabited Src := ⟨Src.dft⟩
def Src.hd (s : Src) : E := s.left.headD E.zero

def ltS (s t : Src) : Bool := less s.hd t.hd || (!less t.hd s.hd && decide (s.place < t.place))

theorem less_ntrans {a b c : E} (h1 : less a b = false) (h2 : less b c = false) : less a c = false := by
  cases h : less a c with
  | false => rfl
  | true =>
    exfalso
    rcases less_total a b with hs | hs | hs
    · rw [(same_less hs c).1, h2] at h; cases h
    · rw [h1] at hs; cases hs
    · rw [less_trans hs h] at h2; cases h2

theorem same_symm {a b : E} (h : same a b = true) : same b a = true := by
  simp only [same, decide_eq_true_eq] at *
  exact ⟨h.1.symm, h.2.symm⟩
theorem same_trans {a b c : E} (h : same a b = true) (h2 : same b c = true) : same a c = true := by
  simp only [same, decide_eq_true_eq] at *
  exact ⟨h.1.trans h2.1, h.2.trans h2.2⟩
theorem same_refl (a : E) : same a a = true := by simp [same]
theorem same_of {a b : E} (h1 : less a b = false) (h2 : less b a = false) : same a b = true := by
  rcases less_total a b with h | h | h
  · exact h
  · rw [h1] at h; cases h
  · rw [h2] at h; cases h

theorem ltS_ord : Ord ltS := by
  refine ⟨fun x y h => ?_, fun x y z h1 h2 => ?_⟩
  · simp only [ltS, Bool.or_eq_true, Bool.and_eq_true, Bool.not_eq_true', decide_eq_true_eq] at h
    rcases h with h | ⟨h, hp⟩
    · have h2 := less_asymm h
      simp [ltS, h, h2]
    · cases h3 : less x.hd y.hd with
      | true => simp [ltS, h, h3]
      | false => simp [ltS, h, h3]; omega
  · have a1 : less x.hd y.hd = false := by
      cases h : less x.hd y.hd with
      | false => rfl
      | true => rw [ltS, h] at h1; simp at h1
    have a2 : less y.hd z.hd = false := by
      cases h : less y.hd z.hd with
      | false => rfl
      | true => rw [ltS, h] at h2; simp at h2
    have a3 := less_ntrans a1 a2
    cases hz : less z.hd x.hd with
    | true => simp [ltS, a3, hz]
    | false =>
      have hzy : less z.hd y.hd = false := by
        cases h : less z.hd y.hd with
        | false => rfl
        | true =>
          exfalso
          rcases less_total x.hd y.hd with hs | hs | hs
          · rw [← (same_less hs z.hd).2, hz] at h; cases h
          · rw [a1] at hs; cases hs
          · rw [less_trans h hs] at hz; cases hz
      have hyx : less y.hd x.hd = false := by
        cases h : less y.hd x.hd with
        | false => rfl
        | true =>
          exfalso
          have hs := same_of a2 hzy
          rw [(same_less hs x.hd).1, hz] at h; cases h
      simp only [ltS, a1, hyx, a2, hzy, a3, hz, Bool.false_or, Bool.not_false, Bool.true_and, decide_eq_false_iff_not] at *
      omega

/-- who is the first of several that are the same -/
def Fst (S : List Src) (e : E) : Prop := ∃ s ∈ S, e ∈ s.left ∧ ∀ t ∈ S, ∀ f ∈ t.left, same f e = true → s.place ≤ t.place

structure Fine (S : List Src) : Prop where
  sorted : ∀ s ∈ S, Sorted s.left
  apart : ∀ s ∈ S, ∀ t ∈ S, s.place = t.place → s = t

structure Inv (R out : List E) (S : List Src) : Prop where
  sorted : Sorted out
  mem : ∀ e, e ∈ R ↔ e ∈ out ∨ (Fst S e ∧ ∀ o ∈ out, less o e = true)
  ahead : ∀ o ∈ out, ∀ s ∈ S, ∀ x ∈ s.left, less x o = false

theorem Fst.congr {S T : List Src} (h : ∀ x, x.left ≠ [] → (x ∈ S ↔ x ∈ T)) (e : E) : Fst S e ↔ Fst T e := by
  have hne : ∀ (x : Src) (f : E), f ∈ x.left → x.left ≠ [] := fun x f hf e => by rw [e] at hf; cases hf
  constructor
  · rintro ⟨s, hs, he, hm⟩
    exact ⟨s, (h s (hne s e he)).1 hs, he, fun t ht f hf => hm t ((h t (hne t f hf)).2 ht) f hf⟩
  · rintro ⟨s, hs, he, hm⟩
    exact ⟨s, (h s (hne s e he)).2 hs, he, fun t ht f hf => hm t ((h t (hne t f hf)).1 ht) f hf⟩

theorem Inv.congr {R out : List E} {S T : List Src} (h : Inv R out S) (hc : ∀ x, x.left ≠ [] → (x ∈ S ↔ x ∈ T)) : Inv R out T :=
  ⟨h.sorted, fun e => by rw [h.mem e, Fst.congr hc e], fun o ho s hs x hx => h.ahead o ho s ((hc s (fun e => by rw [e] at hx; cases hx)).2 hs) x hx⟩

theorem sorted_ext {a b : List E} (ha : Sorted a) (hb : Sorted b) (h : ∀ e, e ∈ a ↔ e ∈ b) : a = b := by
  induction a generalizing b with
  | nil =>
    cases b with
    | nil => rfl
    | cons y b => exact absurd ((h y).2 (by simp)) (by simp)
  | cons x a ih =>
    obtain ⟨hx, ha'⟩ := List.pairwise_cons.1 ha
    cases b with
    | nil => exact absurd ((h x).1 (by simp)) (by simp)
    | cons y b =>
      obtain ⟨hy, hb'⟩ := List.pairwise_cons.1 hb
      have hxy : x = y := by
        rcases List.mem_cons.1 ((h x).1 (by simp)) with e | hm
        · exact e
        · rcases List.mem_cons.1 ((h y).2 (by simp)) with e | hm2
          · exact e.symm
          · have h1 := hy x hm
            have h2 := hx y hm2
            rw [less_asymm h1] at h2; cases h2
      subst hxy
      congr 1
      refine ih ha' hb' fun e => ⟨fun he => ?_, fun he => ?_⟩
      · rcases List.mem_cons.1 ((h e).1 (by simp [he])) with e' | hm
        · subst e'; have := hx e he; rw [less_irrefl] at this; cases this
        · exact hm
      · rcases List.mem_cons.1 ((h e).2 (by simp [he])) with e' | hm
        · subst e'; have := hy e he; rw [less_irrefl] at this; cases this
        · exact hm

theorem Inv.done {R out : List E} (h : Inv R out []) (hR : Sorted R) : R = out :=
  sorted_ext hR h.sorted fun e => by
    rw [h.mem e]
    refine ⟨fun h => ?_, .inl⟩
    rcases h with h | ⟨⟨s, hs, _⟩, _⟩
    · exact h
    · cases hs

section
variable {R out : List E} {S : List Src} {s s2 : Src} {h : E} {t : List E}

theorem rest_same (hf : Fine (s :: S)) (hl : s.left = h :: t) (hmin : ∀ u ∈ S, ltS u s = false) (u : Src) (hu : u ∈ s :: S) (e : E) (he : e ∈ u.left) : less e h = false := by
  have hh : s.hd = h := by unfold Src.hd; rw [hl]; rfl
  have hhead : less u.hd h = false := by
    rcases List.mem_cons.1 hu with rfl | hu'
    · rw [hh]; exact less_irrefl h
    · have := hmin u hu'
      rw [← hh]
      cases hx : less u.hd s.hd with
      | false => rfl
      | true => rw [ltS, hx] at this; simp at this
  have hs := hf.sorted u hu
  cases hul : u.left with
  | nil => rw [hul] at he; cases he
  | cons y r =>
    have huh : u.hd = y := by unfold Src.hd; rw [hul]; rfl
    rw [hul] at he hs
    rw [huh] at hhead
    rcases List.mem_cons.1 he with rfl | hm
    · exact hhead
    · have h1 := (List.pairwise_cons.1 hs).1 e hm
      exact less_ntrans (less_asymm h1) hhead

theorem Inv.pop (hi : Inv R out (s :: S)) (hf : Fine (s :: S)) (hl : s.left = h :: t) (hl2 : s2.left = t) (hp2 : s2.place = s.place) (hmin : ∀ u ∈ S, ltS u s = false) :
    ((∀ o, out.getLast? = some o → less o h = true) → Inv R (out ++ [h]) (s2 :: S)) ∧ (∀ o, out.getLast? = some o → less o h = false → Inv R out (s2 :: S)) := by
  have hh : s.hd = h := by unfold Src.hd; rw [hl]; rfl
  have hbelow := rest_same hf hl hmin
  have hst : Sorted (h :: t) := by rw [← hl]; exact hf.sorted s (by simp)
  obtain ⟨ht1, ht2⟩ := List.pairwise_cons.1 hst
  have hmemh : ∀ u ∈ s :: S, ∀ e ∈ u.left, same e h = true → u.place = s.place → e = h := by
    intro u hu e he hse hpl
    have hus := hf.apart u hu s (by simp) hpl
    subst hus
    rw [hl] at he
    rcases List.mem_cons.1 he with rfl | hm
    · rfl
    · have := ht1 e hm
      rw [same_not (same_symm hse)] at this; cases this
  have hplace : ∀ u ∈ s :: S, ∀ e ∈ u.left, same e h = true → s.place ≤ u.place := by
    intro u hu e he hse
    rcases List.mem_cons.1 hu with rfl | hu'
    · exact Nat.le_refl _
    · cases hul : u.left with
      | nil => rw [hul] at he; cases he
      | cons y r =>
        have huh : u.hd = y := by unfold Src.hd; rw [hul]; rfl
        have hyh := hbelow u hu y (by rw [hul]; simp)
        have hys : Sorted (y :: r) := by rw [← hul]; exact hf.sorted u hu
        have hey : less e y = false := by
          rw [hul] at he
          rcases List.mem_cons.1 he with rfl | hm
          · exact less_irrefl _
          · exact less_asymm ((List.pairwise_cons.1 hys).1 e hm)
        have hhy : less h y = false := by
          rw [← (same_less hse y).1]; exact hey
        have := hmin u hu'
        simp only [ltS, huh, hh, hyh, hhy, Bool.false_or, Bool.not_false, Bool.true_and, decide_eq_false_iff_not] at this
        omega
  have hfh : Fst (s :: S) h := ⟨s, by simp, by rw [hl]; simp, fun u hu f hfu hsf => hplace u hu f hfu hsf⟩
  -- what is first among the rest
  have sub : ∀ u ∈ s2 :: S, ∃ u' ∈ s :: S, u'.place = u.place ∧ ∀ f ∈ u.left, f ∈ u'.left := by
    intro u hu
    rcases List.mem_cons.1 hu with rfl | hu'
    · exact ⟨s, by simp, hp2.symm, fun f hf => by rw [hl2] at hf; rw [hl]; simp [hf]⟩
    · exact ⟨u, by simp [hu'], rfl, fun f hf => hf⟩
  have sup : ∀ u ∈ s :: S, ∀ f ∈ u.left, f ≠ h ∨ u ≠ s → ∃ u' ∈ s2 :: S, u'.place = u.place ∧ f ∈ u'.left := by
    intro u hu f hfu hne
    rcases List.mem_cons.1 hu with rfl | hu'
    · refine ⟨s2, by simp, hp2, ?_⟩
      rw [hl] at hfu
      rcases List.mem_cons.1 hfu with rfl | hm
      · rcases hne with hne | hne <;> exact absurd rfl hne
      · rw [hl2]; exact hm
    · exact ⟨u, by simp [hu'], rfl, hfu⟩
  have down : ∀ e, less h e = true → (Fst (s :: S) e ↔ Fst (s2 :: S) e) := by
    intro e hhe
    have hne : ∀ f, same f e = true → f ≠ h := fun f hse he => by
      subst he
      rw [same_not hse] at hhe; cases hhe
    constructor
    · rintro ⟨u, hu, heu, hm⟩
      obtain ⟨u', hu', hp, he'⟩ := sup u hu e heu (.inl (hne e (same_refl e)))
      refine ⟨u', hu', he', fun v hv f hfv hsf => ?_⟩
      obtain ⟨v', hv', hpv, hsub⟩ := sub v hv
      rw [hp, ← hpv]
      exact hm v' hv' f (hsub f hfv) hsf
    · rintro ⟨u, hu, heu, hm⟩
      obtain ⟨u', hu', hp, hsub⟩ := sub u hu
      refine ⟨u', hu', hsub e heu, fun v hv f hfv hsf => ?_⟩
      obtain ⟨v', hv', hpv, hf'⟩ := sup v hv f hfv (.inl (hne f hsf))
      rw [hp, ← hpv]
      exact hm v' hv' f hf' hsf
  have ahead2 : ∀ o, (∀ u ∈ s :: S, ∀ x ∈ u.left, less x o = false) → ∀ u ∈ s2 :: S, ∀ x ∈ u.left, less x o = false := fun o ho u hu x hx => by
    obtain ⟨u', hu', _, hsub⟩ := sub u hu
    exact ho u' hu' x (hsub x hx)
  have hlast : ∀ o ∈ out, ∀ l, out.getLast? = some l → o = l ∨ less o l = true := by
    intro o ho l hlst
    obtain ⟨init, rfl⟩ : ∃ init, out = init ++ [l] := by
      obtain ⟨ys, hys⟩ := List.getLast?_eq_some_iff.1 hlst
      exact ⟨ys, hys⟩
    have hsrt := hi.sorted
    unfold Sorted at hsrt
    rw [List.pairwise_append] at hsrt
    rcases List.mem_append.1 ho with hm | hm
    · exact .inr (hsrt.2.2 o hm l (by simp))
    · exact .inl (by simpa using hm)
  constructor
  · intro hA
    have hall : ∀ o ∈ out, less o h = true := by
      intro o ho
      obtain ⟨l, hlst⟩ : ∃ l, out.getLast? = some l := by
        cases hq : out.getLast? with
        | none => rw [List.getLast?_eq_none_iff] at hq; rw [hq] at ho; cases ho
        | some l => exact ⟨l, rfl⟩
      rcases hlast o ho l hlst with rfl | hol
      · exact hA o hlst
      · exact less_trans hol (hA l hlst)
    refine ⟨List.pairwise_append.2 ⟨hi.sorted, List.pairwise_singleton _ _, fun a ha b hb => by rw [List.mem_singleton.1 hb]; exact hall a ha⟩, fun e => ?_, fun o ho => ?_⟩
    · rw [hi.mem e]
      constructor
      · rintro (h1 | ⟨h1, h2⟩)
        · exact .inl (by simp [h1])
        · obtain ⟨u, hu, heu, hm⟩ := h1
          have hle := hbelow u hu e heu
          cases hhe : less h e with
          | true => exact .inr ⟨(down e hhe).1 ⟨u, hu, heu, hm⟩, fun o ho => by
              rcases List.mem_append.1 ho with ho | ho
              · exact h2 o ho
              · rw [List.mem_singleton.1 ho]; exact hhe⟩
          | false =>
            have hse := same_of hle hhe
            have hp1 := hm s (by simp) h (by rw [hl]; simp) (same_symm hse)
            have hp2' := hplace u hu e heu hse
            have := hmemh u hu e heu hse (by omega)
            exact .inl (by simp [this])
      · rintro (h1 | ⟨h1, h2⟩)
        · rcases List.mem_append.1 h1 with h1 | h1
          · exact .inl h1
          · rw [List.mem_singleton.1 h1]
            exact .inr ⟨hfh, hall⟩
        · have hhe := h2 h (by simp)
          exact .inr ⟨(down e hhe).2 h1, fun o ho => h2 o (by simp [ho])⟩
    · rcases List.mem_append.1 ho with ho | ho
      · exact ahead2 o (hi.ahead o ho)
      · rw [List.mem_singleton.1 ho]
        exact ahead2 h hbelow
  · intro l hlst hB
    have hlm : l ∈ out := List.mem_of_getLast? hlst
    have hhl : less h l = false := hi.ahead l hlm s (by simp) h (by rw [hl]; simp)
    have hsl := same_of hB hhl
    refine ⟨hi.sorted, fun e => ?_, fun o ho => ahead2 o (hi.ahead o ho)⟩
    rw [hi.mem e]
    constructor
    · rintro (h1 | ⟨h1, h2⟩)
      · exact .inl h1
      · have hle := h2 l hlm
        rw [(same_less hsl e).1] at hle
        exact .inr ⟨(down e hle).1 h1, h2⟩
    · rintro (h1 | ⟨h1, h2⟩)
      · exact .inl h1
      · have hle := h2 l hlm
        rw [(same_less hsl e).1] at hle
        exact .inr ⟨(down e hle).2 h1, h2⟩
end

/-! ### the document's Merge -/

def ins (out : List E) (e : E) : List E := if there e out = true then out else front e out ++ e :: rest e out
def mrg (l : List E) : List E := l.foldl ins []

theorem ins_sorted {out : List E} (h : Sorted out) (e : E) : Sorted (ins out e) := by
  unfold ins
  split
  · exact h
  · rename_i ht
    exact sorted_put h (by simpa using ht)
theorem ins_mem (out : List E) (e x : E) : x ∈ ins out e ↔ x ∈ out ∨ (x = e ∧ there e out = false) := by
  unfold ins
  cases ht : there e out with
  | true => simp
  | false =>
    have hf := front_rest e out
    simp only [Bool.false_eq_true, if_false, and_true]
    conv => rhs; rw [← hf]
    simp only [List.mem_append, List.mem_cons]
    constructor
    · rintro (h | h | h)
      · exact .inl (.inl h)
      · exact .inr h
      · exact .inl (.inr h)
    · rintro ((h | h) | h)
      · exact .inl h
      · exact .inr (.inr h)
      · exact .inr (.inl h)
theorem mrg_snoc (l : List E) (e : E) : mrg (l ++ [e]) = ins (mrg l) e := by simp [mrg]

theorem snoc_ind {p : List E → Prop} (h0 : p []) (h1 : ∀ l e, p l → p (l ++ [e])) : ∀ l, p l := fun l => by
  rw [← List.reverse_reverse l]
  induction l.reverse with
  | nil => exact h0
  | cons e r ih => rw [List.reverse_cons]; exact h1 _ _ ih

theorem mrg_sorted (l : List E) : Sorted (mrg l) := by
  induction l using snoc_ind with
  | h0 => exact List.Pairwise.nil
  | h1 l e ih => rw [mrg_snoc]; exact ins_sorted ih e

theorem mrg_there (l : List E) (e : E) : there e (mrg l) = there e l := by
  induction l using snoc_ind with
  | h0 => rfl
  | h1 l x ih =>
    rw [mrg_snoc, Bool.eq_iff_iff]
    simp only [there, List.any_eq_true] at *
    have ih' : (∃ y, y ∈ mrg l ∧ same y e = true) ↔ (∃ y, y ∈ l ∧ same y e = true) := by
      rw [Bool.eq_iff_iff] at ih
      simpa [List.any_eq_true] using ih
    constructor
    · rintro ⟨y, hy, hs⟩
      rcases (ins_mem _ _ _).1 hy with h | ⟨rfl, _⟩
      · obtain ⟨z, hz, hzs⟩ := ih'.1 ⟨y, h, hs⟩
        exact ⟨z, by simp [hz], hzs⟩
      · exact ⟨y, by simp, hs⟩
    · rintro ⟨y, hy, hs⟩
      rcases List.mem_append.1 hy with h | h
      · obtain ⟨z, hz, hzs⟩ := ih'.2 ⟨y, h, hs⟩
        exact ⟨z, (ins_mem _ _ _).2 (.inl hz), hzs⟩
      · obtain rfl := List.mem_singleton.1 h
        cases ht : there y (mrg l) with
        | false => exact ⟨y, (ins_mem _ _ _).2 (.inr ⟨rfl, ht⟩), hs⟩
        | true =>
          obtain ⟨z, hz, hzs⟩ := List.any_eq_true.1 ht
          exact ⟨z, (ins_mem _ _ _).2 (.inl hz), same_trans hzs hs⟩

theorem mrg_append (a b : List E) (e : E) : e ∈ mrg (a ++ b) ↔ e ∈ mrg a ∨ (e ∈ mrg b ∧ there e a = false) := by
  induction b using snoc_ind with
  | h0 => simp [mrg]
  | h1 b x ih =>
    rw [← List.append_assoc, mrg_snoc, ins_mem, ih, mrg_snoc, ins_mem, mrg_there, mrg_there]
    have : there x (a ++ b) = (there x a || there x b) := by simp [there]
    rw [this]
    constructor
    · rintro ((h | h) | ⟨rfl, h⟩)
      · exact .inl h
      · exact .inr ⟨.inl h.1, h.2⟩
      · simp only [Bool.or_eq_false_iff] at h
        exact .inr ⟨.inr ⟨rfl, h.2⟩, h.1⟩
    · rintro (h | ⟨h | ⟨rfl, h⟩, h2⟩)
      · exact .inl (.inl h)
      · exact .inl (.inr ⟨h, h2⟩)
      · exact .inr ⟨rfl, by rw [h, h2]; rfl⟩

theorem there_of {l : List E} {e x : E} (hx : x ∈ l) (h : same x e = true) : there e l = true := List.any_eq_true.2 ⟨x, hx, h⟩

theorem mrg_self {l : List E} (h : Sorted l) : mrg l = l := by
  induction l using snoc_ind with
  | h0 => rfl
  | h1 l x ih =>
    have h' := List.pairwise_append.1 h
    have hl : Sorted l := h'.1
    have hx : ∀ y ∈ l, less y x = true := fun y hy => h'.2.2 y hy x (by simp)
    rw [mrg_snoc, ih hl]
    have ht : there x l = false := by
      cases ht : there x l with
      | false => rfl
      | true =>
        obtain ⟨z, hz, hzs⟩ := List.any_eq_true.1 ht
        have := hx z hz
        rw [same_not hzs] at this; cases this
    unfold ins
    rw [if_neg (by rw [ht]; simp)]
    have := split_unique (e := x) (p := l) (q := []) hx (by simp)
    rw [List.append_nil] at this
    rw [this.1, this.2]

theorem mem_flat (ls : List (List E)) (hs : ∀ l ∈ ls, Sorted l) (e : E) : e ∈ mrg ls.flatten ↔ ∃ (i : Nat) (l : List E), ls[i]? = some l ∧ e ∈ l ∧ ∀ (j : Nat) (m : List E), ls[j]? = some m → there e m = true → i ≤ j := by
  induction ls with
  | nil => simp [mrg]
  | cons l ls ih =>
    have hl := hs l (by simp)
    have ih' := ih (fun m hm => hs m (by simp [hm]))
    rw [List.flatten_cons, mrg_append, mrg_self hl, ih']
    constructor
    · rintro (h | ⟨⟨i, m, hi, hm, hle⟩, ht⟩)
      · exact ⟨0, l, rfl, h, fun j m _ _ => Nat.zero_le _⟩
      · refine ⟨i + 1, m, by simpa using hi, hm, fun j m' hj hth => ?_⟩
        cases j with
        | zero =>
          have e1 : l = m' := by simpa using hj
          rw [e1, hth] at ht; cases ht
        | succ j => have := hle j m' (by simpa using hj) hth; omega
    · rintro ⟨i, m, hi, hm, hle⟩
      cases i with
      | zero =>
        have e1 : l = m := by simpa using hi
        subst e1
        exact .inl hm
      | succ i =>
        refine .inr ⟨⟨i, m, by simpa using hi, hm, fun j m' hj hth => by have := hle (j + 1) m' (by simpa using hj) hth; omega⟩, ?_⟩
        cases ht : there e l with
        | false => rfl
        | true => have := hle 0 l rfl ht; omega

theorem fst_flat {ls : List (List E)} {S : List Src} (hs : ∀ l ∈ ls, Sorted l) (ho : ∀ s ∈ S, s.left ≠ [] ∧ ls[s.place]? = some s.left) (ho2 : ∀ (i : Nat) (l : List E), ls[i]? = some l → l ≠ [] → ∃ s ∈ S, s.place = i ∧ s.left = l) (e : E) :
    e ∈ mrg ls.flatten ↔ Fst S e := by
  rw [mem_flat ls hs e]
  constructor
  · rintro ⟨i, l, hi, he, hle⟩
    obtain ⟨s, hS, hp, hl⟩ := ho2 i l hi (fun h => by rw [h] at he; cases he)
    refine ⟨s, hS, by rw [hl]; exact he, fun t ht f hf hsf => ?_⟩
    rw [hp]
    exact hle t.place t.left (ho t ht).2 (there_of hf hsf)
  · rintro ⟨s, hS, he, hle⟩
    refine ⟨s.place, s.left, (ho s hS).2, he, fun j m hj hth => ?_⟩
    obtain ⟨f, hf, hsf⟩ := List.any_eq_true.1 hth
    obtain ⟨t, hT, hp, hl⟩ := ho2 j m hj (fun h => by rw [h] at hf; cases hf)
    rw [← hp]
    exact hle t hT f (by rw [hl]; exact hf) hsf

theorem inv_start {ls : List (List E)} {S : List Src} (hs : ∀ l ∈ ls, Sorted l) (ho : ∀ s ∈ S, s.left ≠ [] ∧ ls[s.place]? = some s.left) (ho2 : ∀ (i : Nat) (l : List E), ls[i]? = some l → l ≠ [] → ∃ s ∈ S, s.place = i ∧ s.left = l) : Inv (mrg ls.flatten) [] S :=
  ⟨List.Pairwise.nil, fun e => by rw [fst_flat hs ho ho2 e]; simp, by simp⟩
end HP
end Go.Proofs.YtjkofciohehgfaaGreatDoor.L13


/- Entries that come in, opened; their sizes; and those that a call has made. -/
namespace Go.Proofs.YtjkofciohehgfaaGreatDoor.L13
open Go.ChangeShapes Go.WideShapes Go.ChangeAt Go.RowKit Go.Deep
open SK

instance : Inhabited E := ⟨E.zero⟩

/-- entries that come in: nil and empty ones too -/
structure EntsIn (w : World) (A : Option Addr) (l : List E) : Prop where
  wf : ∀ e ∈ l, e.wf
  at_ : 0 < l.length → ∃ b off, A = some ⟨b, off, none⟩ ∧ b < w.heap.size ∧ ∀ j, (h : j < l.length) →
    w.cell? ⟨b, off + j * 5, none⟩ = some (.string l[j].key) ∧ w.cell? ⟨b, off + j * 5 + 1, none⟩ = some (.int .i64 l[j].seq) ∧ w.cell? ⟨b, off + j * 5 + 2, none⟩ = some (.bool l[j].gone) ∧
      w.cell? ⟨b, off + j * 5 + 3, none⟩ = some (.string l[j].value) ∧ w.cell? ⟨b, off + j * 5 + 4, none⟩ = some (.int .i64 l[j].til)

theorem EntsIn.below {w w' : World} {A : Option Addr} {l : List E} (h : EntsIn w A l) (hb : Below w.heap.size w w') : EntsIn w' A l :=
  ⟨h.wf, fun hn => by
    obtain ⟨b, off, hA, hlt, hc⟩ := h.at_ hn
    refine ⟨b, off, hA, Nat.lt_of_lt_of_le hlt hb.size, fun j hj => ?_⟩
    obtain ⟨c0, c1, c2, c3, c4⟩ := hc j hj
    exact ⟨(hb.cell (p := ⟨b, off + j * 5, none⟩) hlt).trans c0, (hb.cell (p := ⟨b, off + j * 5 + 1, none⟩) hlt).trans c1, (hb.cell (p := ⟨b, off + j * 5 + 2, none⟩) hlt).trans c2, (hb.cell (p := ⟨b, off + j * 5 + 3, none⟩) hlt).trans c3, (hb.cell (p := ⟨b, off + j * 5 + 4, none⟩) hlt).trans c4⟩⟩

section
variable {H : Type} {enc : TypeId × Value → H} {P : Program} {w : World} {base : Nat} {spare : Nat → Bool} {held : Bool}
end

section
variable {H : Type} {enc : TypeId × Value → H} {w : World}

end

/-! ### entries that a call has made -/

def fb (A : Option Addr) : List Nat := match A with | some a => [a.block] | none => []
def ecs (l : List E) : List Value := l.flatMap E.cells
theorem ecs_snoc (l : List E) (p : E) : ecs (l ++ [p]) = ecs l ++ p.cells := by simp [ecs]
theorem ecs_at : ∀ (l : List E) (j : Nat) (h : j < l.length) (i : Nat), i < 5 → (ecs l)[j * 5 + i]? = (l[j]).cells[i]?
  | p :: r, 0, _, i, hi => by
    show (p.cells ++ ecs r)[0 * 5 + i]? = _
    rw [List.getElem?_append_left (by simp [E.cells]; omega)]
    simp
  | p :: r, j + 1, h, i, hi => by
    have := ecs_at r j (by simpa using h) i hi
    show (p.cells ++ ecs r)[(j + 1) * 5 + i]? = _
    rw [List.getElem?_append_right (by simp [E.cells]; omega)]
    simp only [List.getElem_cons_succ]
    rw [← this]
    congr 1
    simp [E.cells]
    omega

theorem own_ents {w : World} {base : Nat} {e : TypeId} {v : Value} {n : Nat} {l : List E} (hw : ∀ x ∈ l, x.wf) (hn : l.length = n) (h : w.ownsRow base e 5 v n (ecs l)) :
    ∃ A c, v = .slice A n c ∧ EntsIn w A l ∧ (∀ x ∈ fb A, base ≤ x ∧ x < w.heap.size) ∧ n ≤ c := by
  subst hn
  have h' := h
  rcases h.2 with ⟨rfl, h0⟩ | ⟨g, cap, cur, rfl, hbg, hg, hnc, _, _, _⟩
  · exact ⟨none, 0, by rw [h0], ⟨hw, fun hn => by omega⟩, by simp [fb], by omega⟩
  · have hlt := (Array.getElem?_eq_some_iff.1 hg).1
    refine ⟨some ⟨g, 0, none⟩, cap, rfl, ⟨hw, fun _ => ⟨g, 0, rfl, hlt, fun j hj => ?_⟩⟩, by simp [fb]; exact ⟨hbg, hlt⟩, hnc⟩
    have hcell : ∀ i x, i < 5 → (l[j]).cells[i]? = some x → w.cell? ⟨g, 0 + j * 5 + i, none⟩ = some x := by
      intro i x hi hx
      have hc := h'.cells (g := g) rfl (j * 5 + i) x (by rw [ecs_at l j hj i hi]; exact hx)
      rw [addr_add0] at hc
      rw [Nat.zero_add]
      exact hc
    exact ⟨hcell 0 _ (by omega) rfl, hcell 1 _ (by omega) rfl, hcell 2 _ (by omega) rfl, hcell 3 _ (by omega) rfl, hcell 4 _ (by omega) rfl⟩

end Go.Proofs.YtjkofciohehgfaaGreatDoor.L13


/- Two rows of unlike elements, each appended to: general. -/
namespace Go.Proofs.YtjkofciohehgfaaGreatDoor.L13
open Go.RowKit
attribute [local go_sem ↓] Go.wp_at_zero Go.wp_at_succ

section
variable {w w' : World} {b1 b2 : Nat} {e1 e2 : TypeId} {s1 s2 : Nat} {v1 v2 : Value} {n1 n2 : Nat} {xs1 xs2 : List Value}

/-- a block that is not yet there is no row's own -/
theorem own_new (h : w.ownsRow b1 e1 s1 v1 n1 xs1) {B : Nat} (hB : w.heap.size ≤ B) : some B ≠ v1.ownBlock := fun he => by
  have := (h.lt B he.symm).2
  omega
end

section
variable {base : Nat} {e1 e2 : TypeId} {s1 s2 : Nat} {v1 v2 : Value} {n1 n2 : Nat} {xs1 xs2 : List Value} {W w w' : World}
end

end Go.Proofs.YtjkofciohehgfaaGreatDoor.L13


/- lists: the entries of both sides. -/
namespace Go.Proofs.YtjkofciohehgfaaGreatDoor.L13
open Go.RowKit
open SK
attribute [local go_sem ↓] Go.wp_at_zero Go.wp_at_succ

theorem info_ent : (Tryz.prog.info? 45).map (fun i => (i.zero, i.size, i.bytes)) = some (some (.agg #[.string ⟨#[]⟩, .int .i64 0, .bool false, .string ⟨#[]⟩, .int .i64 0]), 5, 56) := by kernel_rfl
end Go.Proofs.YtjkofciohehgfaaGreatDoor.L13


/- The methods of *sources, called through an interface. -/
namespace Go.Proofs.YtjkofciohehgfaaGreatDoor.L13
open Go.RowKit
open SK

theorem recv_at (w : World) (p : Nat) (v : Value) (s : String) (hc : w.cell? ⟨p, 0, none⟩ = some v) : (receiverAt 107 (.val (.pointer (some ⟨p, 0, none⟩))) false (some s)).run Tryz.prog w = .ok v w := by
  have ha : ∀ w, (isAgg 152).run Tryz.prog w = .ok false w := fun _ => by kernel_rfl
  have hs : ∀ w, (Builtin.ssaWrapNilChk_ #[107] 107 #[.pointer (some ⟨p, 0, none⟩), strVal "", strVal s]).run Tryz.prog w = .ok (.pointer (some ⟨p, 0, none⟩)) w := fun _ => by kernel_rfl
  unfold receiverAt
  simp only [Sem.run_bind, run_underlying Tryz.underlying107, Result.andThen_ok, Place.get, Sem.run_pure, hs, asAddr, loadVar, ha]
  simp [hc]

theorem m_len0 (w : World) (p : Nat) : (method 327 107 (.pointer (some ⟨p, 0, none⟩)) "Len").run Tryz.prog w = (receiverAt 107 (.val (.pointer (some ⟨p, 0, none⟩))) false (some "Len") >>= fun r => (pure (61, r) : Sem (FuncId × Value))).run Tryz.prog w := by
  kernel_rfl
theorem m_len (w : World) (p : Nat) (v : Value) (hc : w.cell? ⟨p, 0, none⟩ = some v) : (method 327 107 (.pointer (some ⟨p, 0, none⟩)) "Len").run Tryz.prog w = .ok (61, v) w := by
  rw [m_len0, Sem.run_bind, recv_at w p v _ hc]
  simp
theorem m_less0 (w : World) (p : Nat) : (method 327 107 (.pointer (some ⟨p, 0, none⟩)) "Less").run Tryz.prog w = (receiverAt 107 (.val (.pointer (some ⟨p, 0, none⟩))) false (some "Less") >>= fun r => (pure (168, r) : Sem (FuncId × Value))).run Tryz.prog w := by
  kernel_rfl
theorem m_less (w : World) (p : Nat) (v : Value) (hc : w.cell? ⟨p, 0, none⟩ = some v) : (method 327 107 (.pointer (some ⟨p, 0, none⟩)) "Less").run Tryz.prog w = .ok (168, v) w := by
  rw [m_less0, Sem.run_bind, recv_at w p v _ hc]
  simp
theorem m_swap0 (w : World) (p : Nat) : (method 327 107 (.pointer (some ⟨p, 0, none⟩)) "Swap").run Tryz.prog w = (receiverAt 107 (.val (.pointer (some ⟨p, 0, none⟩))) false (some "Swap") >>= fun r => (pure (171, r) : Sem (FuncId × Value))).run Tryz.prog w := by
  kernel_rfl
theorem m_swap (w : World) (p : Nat) (v : Value) (hc : w.cell? ⟨p, 0, none⟩ = some v) : (method 327 107 (.pointer (some ⟨p, 0, none⟩)) "Swap").run Tryz.prog w = .ok (171, v) w := by
  rw [m_swap0, Sem.run_bind, recv_at w p v _ hc]
  simp
theorem m_push (w : World) (p : Nat) : (method 327 107 (.pointer (some ⟨p, 0, none⟩)) "Push").run Tryz.prog w = .ok (170, .pointer (some ⟨p, 0, none⟩)) w := by kernel_rfl
theorem m_pop (w : World) (p : Nat) : (method 327 107 (.pointer (some ⟨p, 0, none⟩)) "Pop").run Tryz.prog w = .ok (169, .pointer (some ⟨p, 0, none⟩)) w := by kernel_rfl
end Go.Proofs.YtjkofciohehgfaaGreatDoor.L13


