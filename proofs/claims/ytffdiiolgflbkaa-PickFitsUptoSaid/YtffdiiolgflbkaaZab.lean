/- Texts joined by bundle.py: Sm. -/
import Derived.Test.YtffdiiolgflbkaaZaa
import Derived.WideAt
import Derived.WideShapes

/- Plain mathematics of entries in order. No function of the program. -/
namespace Go.Proofs.Ytffdiiolgflbkaa
namespace SK

structure E where
  key : ByteArray
  seq : Int
  gone : Bool
  value : ByteArray
  til : Int
deriving DecidableEq

def E.cells (e : E) : List Value := [.string e.key, .int .i64 e.seq, .bool e.gone, .string e.value, .int .i64 e.til]
def E.val (e : E) : Value := .agg #[.string e.key, .int .i64 e.seq, .bool e.gone, .string e.value, .int .i64 e.til]
def E.zero : E := ⟨⟨#[]⟩, 0, false, ⟨#[]⟩, 0⟩

/-- sizes that a machine has, numbers of 64 bits -/
structure E.wf (e : E) : Prop where
  key : e.key.size ≤ 140737488351232
  value : e.value.size ≤ 140737488351232
  seq : -9223372036854775808 ≤ e.seq ∧ e.seq ≤ 9223372036854775807
  til : -9223372036854775808 ≤ e.til ∧ e.til ≤ 9223372036854775807

theorem E.ext' {a b : E} (h1 : a.key = b.key) (h2 : a.seq = b.seq) (h3 : a.gone = b.gone) (h4 : a.value = b.value) (h5 : a.til = b.til) : a = b := by
  cases a; cases b; simp_all

/-- does a stand ahead of b? -/
def less (a b : E) : Bool := if a.key = b.key then decide (b.seq < a.seq) else Go.bytesBefore a.key.data.toList b.key.data.toList
/-- are they of one key and number? -/
def same (a b : E) : Bool := decide (a.key = b.key ∧ a.seq = b.seq)

def good (e : E) : Int :=
  if 64 < e.key.size ∨ 512 < e.value.size then 5
  else if e.key.size = 0 ∨ e.seq < 1 ∨ e.til < 0 then 2
  else if e.gone = true ∧ (0 < e.value.size ∨ 0 < e.til) then 2
  else 0

theorem good_cases (e : E) : good e = 5 ∨ good e = 2 ∨ good e = 0 := by
  unfold good; split
  · simp
  · split
    · simp
    · split <;> simp

theorem good_zero {e : E} (h : good e = 0) : 0 < e.key.size ∧ e.key.size ≤ 64 ∧ e.value.size ≤ 512 ∧ 1 ≤ e.seq ∧ 0 ≤ e.til := by
  unfold good at h
  split at h
  · simp at h
  · split at h
    · simp at h
    · rename_i h1 h2
      omega

theorem less_irrefl (a : E) : less a a = false := by simp [less]

theorem less_trans {a b c : E} (h1 : less a b = true) (h2 : less b c = true) : less a c = true := by
  unfold less at *
  by_cases hab : a.key = b.key
  · rw [if_pos hab] at h1
    by_cases hbc : b.key = c.key
    · rw [if_pos hbc] at h2
      rw [if_pos (hab.trans hbc)]
      simp at *; omega
    · rw [if_neg hbc] at h2
      rw [if_neg (by rw [hab]; exact hbc), hab]
      exact h2
  · rw [if_neg hab] at h1
    by_cases hbc : b.key = c.key
    · rw [if_pos hbc] at h2
      rw [if_neg (by rw [← hbc]; exact hab), ← hbc]
      exact h1
    · rw [if_neg hbc] at h2
      have h3 := Go.WideShapes.bytes_trans _ _ _ h1 h2
      by_cases hac : a.key = c.key
      · rw [hac, Go.WideAt.bytes_irrefl] at h3
        cases h3
      · rw [if_neg hac]
        exact h3

theorem less_total (a b : E) : same a b = true ∨ less a b = true ∨ less b a = true := by
  by_cases hk : a.key = b.key
  · by_cases hs : a.seq = b.seq
    · left; simp [same, hk, hs]
    · right
      simp only [less, hk, if_true, decide_eq_true_eq]
      omega
  · right
    have hk' : a.key.data.toList ≠ b.key.data.toList := fun h => hk (str_ext h)
    rcases Go.WideAt.bytes_total _ _ hk' with h | h
    · left; rw [less, if_neg hk]; exact h
    · right; rw [less, if_neg (Ne.symm hk)]; exact h

theorem less_asymm {a b : E} (h : less a b = true) : less b a = false := by
  cases h2 : less b a with
  | false => rfl
  | true => have := less_trans h h2; rw [less_irrefl] at this; cases this

theorem same_less {a b : E} (h : same a b = true) (c : E) : less a c = less b c ∧ less c a = less c b := by
  simp only [same, decide_eq_true_eq] at h
  obtain ⟨h1, h2⟩ := h
  simp [less, h1, h2]

theorem same_not {a b : E} (h : same a b = true) : less a b = false := by
  rw [(same_less h b).1]; exact less_irrefl b

/-- in order -/
def Sorted (l : List E) : Prop := l.Pairwise (fun a b => less a b = true)

/-- those that stand ahead of e, and the others -/
def front (e : E) (l : List E) : List E := l.takeWhile (fun x => less x e)
def rest (e : E) (l : List E) : List E := l.dropWhile (fun x => less x e)
theorem front_rest (e : E) (l : List E) : front e l ++ rest e l = l := List.takeWhile_append_dropWhile ..

theorem front_less {e : E} {l : List E} : ∀ x ∈ front e l, less x e = true := by
  induction l with
  | nil => intro x hx; simp [front] at hx
  | cons y l ih =>
    intro x hx
    simp only [front, List.takeWhile_cons] at hx
    split at hx
    · rename_i h
      rcases List.mem_cons.1 hx with rfl | hx
      · exact h
      · exact ih x hx
    · simp at hx

theorem rest_not {e : E} : ∀ {l : List E}, Sorted l → ∀ x ∈ rest e l, less x e = false := by
  intro l
  induction l with
  | nil => intro _ x hx; simp [rest] at hx
  | cons y l ih =>
    intro hs x hx
    obtain ⟨h1, h2⟩ := List.pairwise_cons.1 hs
    cases hy : less y e with
    | true =>
      rw [rest, List.dropWhile_cons, hy] at hx
      exact ih h2 x hx
    | false =>
      rw [rest, List.dropWhile_cons, hy] at hx
      simp only [Bool.false_eq_true, if_false] at hx
      rcases List.mem_cons.1 hx with rfl | hx
      · exact hy
      · cases hx2 : less x e with
        | false => rfl
        | true =>
          have := less_trans (h1 x hx) hx2
          rw [hy] at this; cases this

theorem split_unique {e : E} {p q : List E} (hp : ∀ x ∈ p, less x e = true) (hq : ∀ x ∈ q, less x e = false) : front e (p ++ q) = p ∧ rest e (p ++ q) = q := by
  induction p with
  | nil =>
    cases q with
    | nil => simp [front, rest]
    | cons y q =>
      have := hq y (by simp)
      simp [front, rest, this]
  | cons x p ih =>
    obtain ⟨h1, h2⟩ := ih (fun y hy => hp y (by simp [hy]))
    have := hp x (by simp)
    simp only [front, rest, List.cons_append] at *
    simp [this, h1, h2]

def there (e : E) (l : List E) : Bool := l.any (fun x => same x e)

/-- what stands first among the others tells whether it is there -/
theorem there_iff {e : E} {l : List E} (hs : Sorted l) : there e l = (match rest e l with | [] => false | y :: _ => !(less e y)) := by
  have hf := front_rest e l
  have hfl := front_less (e := e) (l := l)
  have hrn := rest_not (e := e) hs
  have h1 : (front e l).any (fun x => same x e) = false := by
    rw [List.any_eq_false]
    intro x hx h
    have := hfl x hx
    rw [same_not h] at this; cases this
  have h2 : there e l = (rest e l).any (fun x => same x e) := by
    unfold there
    conv => lhs; rw [← hf]
    rw [List.any_append, h1, Bool.false_or]
  rw [h2]
  cases hr : rest e l with
  | nil => rfl
  | cons y r =>
    rw [hr] at hrn
    have hsr : Sorted (y :: r) := by
      rw [← hr]
      unfold Sorted at *
      rw [← hf] at hs
      exact (List.pairwise_append.1 hs).2.1
    obtain ⟨hy1, -⟩ := List.pairwise_cons.1 hsr
    have hy := hrn y (by simp)
    cases hey : less e y with
    | false =>
      have : same y e = true := by
        rcases less_total y e with h | h | h
        · exact h
        · rw [hy] at h; cases h
        · rw [hey] at h; cases h
      simp [this, hey]
    | true =>
      rw [List.any_eq_false.2]
      · simp [hey]
      · intro x hx h
        rcases List.mem_cons.1 hx with rfl | hx
        · have h' : same e x = true := by simp [same] at *; simp [h]
          rw [same_not h'] at hey; cases hey
        · have h3 := less_trans hey (hy1 x hx)
          have h' : same e x = true := by simp [same] at *; simp [h]
          rw [same_not h'] at h3; cases h3

theorem sorted_put {e : E} {l : List E} (hs : Sorted l) (ht : there e l = false) : Sorted (front e l ++ e :: rest e l) := by
  have hf := front_rest e l
  unfold Sorted at *
  rw [← hf] at hs
  obtain ⟨h1, h2, h3⟩ := List.pairwise_append.1 hs
  refine List.pairwise_append.2 ⟨h1, List.pairwise_cons.2 ⟨fun y hy => ?_, h2⟩, fun x hx y hy => ?_⟩
  · have hn := rest_not (e := e) (l := l) (by unfold Sorted; rw [← hf]; exact hs) y hy
    rcases less_total e y with h | h | h
    · exfalso
      have : there e l = true := by
        unfold there
        rw [List.any_eq_true]
        refine ⟨y, by rw [← hf]; simp [hy], ?_⟩
        simp [same] at *; simp [h]
      rw [ht] at this; cases this
    · exact h
    · rw [hn] at h; cases h
  · rcases List.mem_cons.1 hy with rfl | hy
    · exact front_less x hx
    · exact h3 x hx y hy

/-- the height of a coin's tower -/
def coin (c : Int) : Int := 1 + (if c < 0 then -(c + 1) else c) % 8
theorem coin_range (c : Int) : 1 ≤ coin c ∧ coin c ≤ 8 := by
  unfold coin
  split <;> omega

/-- the height of the tower of entry i -/
def height (cs : List Int) (i : Nat) : Nat := if cs.length = 0 then 1 else (coin (cs.getD (i % cs.length) 0)).toNat
theorem height_range (cs : List Int) (i : Nat) : 1 ≤ height cs i ∧ height cs i ≤ 8 := by
  unfold height
  split
  · omega
  · have := coin_range (cs.getD (i % cs.length) 0); omega

def cost (cs : List Int) (i : Nat) (e : E) : Int := 40 + 8 * (height cs i : Int) + e.key.size + e.value.size

/-- the list's state: its entries, and what they hold -/
structure St where
  l : List E
  size : Int
deriving DecidableEq

def St.new : St := ⟨[], 0⟩
def St.step (cs : List Int) (s : St) (e : E) : Int × St :=
  if good e ≠ 0 then (good e, s)
  else if there e s.l = true then (11, s)
  else (0, ⟨front e s.l ++ e :: rest e s.l, s.size + cost cs s.l.length e⟩)

/-- what every list is -/
structure Ok (s : St) : Prop where
  sorted : Sorted s.l
  good : ∀ x ∈ s.l, SK.good x = 0
  wf : ∀ x ∈ s.l, x.wf
  size : 0 ≤ s.size ∧ s.size ≤ 1000 * (s.l.length : Int)

theorem ok_new : Ok St.new := ⟨List.Pairwise.nil, by simp [St.new], by simp [St.new], by simp [St.new]⟩
theorem ok_step {s : St} (h : Ok s) (cs : List Int) {e : E} (he : e.wf) : Ok (s.step cs e).2 ∧ (s.step cs e).2.l.length ≤ s.l.length + 1 := by
  unfold St.step
  split
  · exact ⟨h, by simp⟩
  · rename_i hg
    have hg' : SK.good e = 0 := by simpa using hg
    split
    · exact ⟨h, by simp⟩
    · rename_i ht
      have ht' : there e s.l = false := by simpa using ht
      have hlen : (front e s.l ++ e :: rest e s.l).length = s.l.length + 1 := by
        have := congrArg List.length (front_rest e s.l)
        simp at *; omega
      have hmem : ∀ x, x ∈ front e s.l ++ e :: rest e s.l → x = e ∨ x ∈ s.l := by
        intro x hx
        rw [← front_rest e s.l]
        simp at *
        rcases hx with h | h | h
        · exact .inr (.inl h)
        · exact .inl h
        · exact .inr (.inr h)
      refine ⟨⟨sorted_put h.sorted ht', fun x hx => ?_, fun x hx => ?_, ?_⟩, ?_⟩
      · rcases hmem x hx with rfl | hx
        · exact hg'
        · exact h.good x hx
      · rcases hmem x hx with rfl | hx
        · exact he
        · exact h.wf x hx
      · have := h.size
        have hgz := good_zero hg'
        have hh := height_range cs s.l.length
        simp only [hlen, cost]
        push_cast
        omega
      · exact Nat.le_of_eq hlen

/-- the newest entry of a key up to a number -/
def get (l : List E) (k : ByteArray) (q : Int) : E × Bool :=
  match l.find? (fun x => decide (x.key = k ∧ x.seq ≤ q)) with | some x => (x, true) | none => (E.zero, false)

/-- all from a key on -/
def from_ (l : List E) (k : ByteArray) : List E := l.filter (fun x => !(Go.bytesBefore x.key.data.toList k.data.toList))

def askE (k : ByteArray) (q : Int) : E := ⟨k, q, false, ⟨#[]⟩, 0⟩

theorem less_ask (x : E) (k : ByteArray) (q : Int) : less x (askE k q) = if x.key = k then decide (q < x.seq) else Go.bytesBefore x.key.data.toList k.data.toList := rfl

theorem get_rest {l : List E} (hs : Sorted l) (k : ByteArray) (q : Int) : get l k q = (match rest (askE k q) l with | [] => (E.zero, false) | y :: _ => if y.key = k then (y, true) else (E.zero, false)) := by
  have hf := front_rest (askE k q) l
  have hfl := front_less (e := askE k q) (l := l)
  have hrn := rest_not (e := askE k q) hs
  have h1 : (front (askE k q) l).find? (fun x => decide (x.key = k ∧ x.seq ≤ q)) = none := by
    rw [List.find?_eq_none]
    intro x hx h
    have h2 := hfl x hx
    simp only [decide_eq_true_eq] at h
    rw [less_ask, if_pos h.1, decide_eq_true_eq] at h2
    omega
  have h2 : get l k q = (match (rest (askE k q) l).find? (fun x => decide (x.key = k ∧ x.seq ≤ q)) with | some x => (x, true) | none => (E.zero, false)) := by
    unfold get
    conv => lhs; rw [← hf]
    rw [List.find?_append, h1, Option.none_or]
  rw [h2]
  cases hr : rest (askE k q) l with
  | nil => rfl
  | cons y r =>
    rw [hr] at hrn
    have hsr : Sorted (y :: r) := by
      rw [← hr]
      unfold Sorted at *
      rw [← hf] at hs
      exact (List.pairwise_append.1 hs).2.1
    obtain ⟨hy1, -⟩ := List.pairwise_cons.1 hsr
    have hy := hrn y (by simp)
    by_cases hk : y.key = k
    · have hq : y.seq ≤ q := by
        rw [less_ask, if_pos hk, decide_eq_false_iff_not] at hy
        omega
      simp [hk, hq]
    · simp only [hk, if_false]
      have : (y :: r).find? (fun x => decide (x.key = k ∧ x.seq ≤ q)) = none := by
        rw [List.find?_eq_none]
        intro x hx h
        simp only [decide_eq_true_eq] at h
        rcases List.mem_cons.1 hx with rfl | hx
        · exact hk h.1
        · have h3 := hy1 x hx
          rw [less, if_neg (by rw [h.1]; exact hk), h.1] at h3
          rw [less, if_neg (by simpa [askE] using hk)] at hy
          simp only [askE] at hy
          rw [h3] at hy
          cases hy
      rw [this]

theorem from_rest {l : List E} (hs : Sorted l) (hw : ∀ x ∈ l, x.seq ≤ 9223372036854775807) (k : ByteArray) : from_ l k = rest (askE k 9223372036854775807) l := by
  have hf := front_rest (askE k 9223372036854775807) l
  have hfl := front_less (e := askE k 9223372036854775807) (l := l)
  have hrn := rest_not (e := askE k 9223372036854775807) hs
  have h1 : from_ (front (askE k 9223372036854775807) l) k = [] := by
    unfold from_
    rw [List.filter_eq_nil_iff]
    intro x hx h
    have h2 := hfl x hx
    have hxl : x ∈ l := by rw [← hf]; simp [hx]
    have h3 := hw x hxl
    rw [less_ask] at h2
    split at h2
    · rw [decide_eq_true_eq] at h2; omega
    · rw [h2] at h; simp at h
  have h2 : from_ (rest (askE k 9223372036854775807) l) k = rest (askE k 9223372036854775807) l := by
    unfold from_
    rw [List.filter_eq_self]
    intro x hx
    have h2 := hrn x hx
    unfold less at h2
    split at h2
    · rename_i h
      rw [h]
      simp [askE, Go.WideAt.bytes_irrefl]
    · simp only [askE] at h2; rw [h2]; rfl
  conv => lhs; rw [← hf]
  show List.filter _ _ = _
  rw [List.filter_append]
  show from_ _ k ++ from_ _ k = _
  rw [h1, h2, List.nil_append]
end SK
end Go.Proofs.Ytffdiiolgflbkaa

