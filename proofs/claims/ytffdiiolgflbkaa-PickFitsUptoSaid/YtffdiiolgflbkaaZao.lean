/- Texts joined by bundle.py: Vi. -/
import Derived.Test.YtffdiiolgflbkaaZal
import Derived.Test.YtffdiiolgflbkaaZam
import Derived.Test.YtffdiiolgflbkaaZan
import Derived.Sort.OwnSortedInts

/- slices.SortFunc of a level's tables, slices.Sort of numbers: rows that the call owns. -/
namespace Go.Proofs.Ytffdiiolgflbkaa
open Go.RowKit Go.Shelf Go.Sort
open VS

/-! ### flat rows -/
theorem flat4 (l : List M) : flatK M.c4 4 l.toArray = (cs4 l).toArray := by
  refine ext_get! (by simp [cs4_len]) fun t ht => ?_
  have ht' : t < l.toArray.size * 4 := by simpa using ht
  rw [get_flatK _ _ _ _ ht']
  have hl : t / 4 < l.length := by simp at ht'; omega
  have h1 := cs4_at l (t / 4) hl (t % 4) (Nat.mod_lt _ (by omega))
  rw [show t / 4 * 4 + t % 4 = t by omega] at h1
  have h2 : l.toArray[t / 4]! = l[t / 4] := by simp [hl]
  rw [h2]
  have h3 : t < (cs4 l).length := by rw [cs4_len]; omega
  have h4 : t % 4 < (M.c4 l[t / 4]).length := by simp [M.c4]; omega
  rw [List.getElem?_eq_getElem h3, List.getElem?_eq_getElem h4] at h1
  injection h1 with h1
  rw [getElem!_pos (l[t / 4]).c4 (t % 4) h4, getElem!_pos (cs4 l).toArray t (by simpa using h3), ← h1]
  simp

theorem holdsV {w : World} {g : Nat} {cur : Array Value} {e : TypeId} {xs : List Value} (hb : w.heap[g]? = some (.cells cur e (0, 0))) (ht : cur.toList.take xs.length = xs) : Holds id w g 0 xs.toArray := by
  intro j hj
  have hj' : j < xs.length := by simpa using hj
  refine ⟨?_, by simp [World.frozen?, hb]⟩
  have h1 : (cur.toList.take xs.length)[j]? = xs[j]? := by rw [ht]
  rw [List.getElem?_take_of_lt hj'] at h1
  simp only [World.cell?, hb, Nat.zero_add]
  simp only [Option.isSome_none, Bool.false_eq_true, if_false]
  rw [← Array.getElem?_toList, h1]
  simp [hj']

theorem heap_sortedV {w : World} {g n : Nat} {os : Array Obj} {cur : Array Value} {e : TypeId} {fr : Nat × Nat} (d : Array Value) (hb : w.heap[g]? = some (.cells cur e fr)) :
    (grow (putRow id (Sort.ahead w n) g 0 d) os).heap[g]? = some (.cells (putCells id 0 d cur) e fr) := by
  have hg : g < w.heap.size := (Array.getElem?_eq_some_iff.1 hb).1
  rw [heap_grow_old _ _ (by simpa using hg)]
  simp [putRow, mapBlock, Sort.ahead, Array.getElem?_modify, hb, onCells]

theorem grownBy_sortedV {w : World} {g n : Nat} {os : Array Obj} (d : Array Value) : w.grownBy (grow (putRow id (Sort.ahead w n) g 0 d) os) (some g) := by
  refine ⟨rfl, rfl, rfl, by simp, fun k hk hne => ?_⟩
  rw [heap_grow_old _ _ (by simpa using hk)]
  have : g ≠ k := fun e => hne (by rw [e])
  simp [putRow, mapBlock, Sort.ahead, Array.getElem?_modify, this]

theorem take_putCellsV (cur : Array Value) (ts : List Value) (h : ts.length ≤ cur.size) : (putCells id 0 ts.toArray cur).toList.take ts.length = ts := by
  apply List.ext_getElem?
  intro j
  by_cases hj : j < ts.length
  · rw [List.getElem?_take_of_lt hj, Array.getElem?_toList]
    simp [putCells, hj, show j < cur.size by omega]
  · rw [List.getElem?_take_eq_none (by omega), List.getElem?_eq_none (by omega)]

/-! ### the compares -/
theorem cmpB_neg : ∀ a b : List UInt8, decide (Lib.compareBytes a b < 0) = bytesBefore a b
  | [], [] => by simp [Lib.compareBytes, bytesBefore]
  | [], _ :: _ => by simp [Lib.compareBytes, bytesBefore]
  | _ :: _, [] => by simp [Lib.compareBytes, bytesBefore]
  | x :: r, y :: t => by
    have ih := cmpB_neg r t
    have e : Lib.compareBytes (x :: r) (y :: t) = if x < y then -1 else if y < x then 1 else Lib.compareBytes r t := rfl
    have e2 : bytesBefore (x :: r) (y :: t) = (decide (x < y) || (x == y && bytesBefore r t)) := rfl
    by_cases h1 : x < y
    · have : Lib.compareBytes (x :: r) (y :: t) = -1 := by rw [e, if_pos h1]
      rw [e2, decide_eq_true h1, this]
      rfl
    · by_cases h2 : y < x
      · have h3 : Lib.compareBytes (x :: r) (y :: t) = 1 := by rw [e, if_neg h1, if_pos h2]
        have h4 : (x == y) = false := beq_eq_false_iff_ne.2 fun e => by subst e; exact absurd h2 h1
        rw [e2, decide_eq_false h1, h4, h3]
        rfl
      · have h3 : Lib.compareBytes (x :: r) (y :: t) = Lib.compareBytes r t := by rw [e, if_neg h1, if_neg h2]
        have h4 : x = y := by
          have h1' : ¬ x.toNat < y.toNat := h1
          have h2' : ¬ y.toNat < x.toNat := h2
          exact UInt8.toNat_inj.1 (by omega)
        rw [e2, decide_eq_false h1, h3, ih]
        simp [h4]

def cf0 (x y : M) : Int := cmpInt y.file x.file
def cf1 (x y : M) : Int := Lib.compareBytes x.lo.data.toList y.lo.data.toList
theorem lt0_eq (x y : M) : ltOf cf0 x y = decide (y.file < x.file) := by
  unfold ltOf cf0 cmpInt
  by_cases h1 : y.file < x.file
  · simp [h1]
  · by_cases h2 : x.file < y.file <;> simp [h1, h2]
theorem lt1_eq (x y : M) : ltOf cf1 x y = lt x.lo y.lo := cmpB_neg _ _

theorem swo0 : SWO (ltOf cf0) where
  irrefl x := by rw [lt0_eq]; simp
  trans x y z h1 h2 := by rw [lt0_eq] at *; simp at *; omega
  ntrans x y z h1 h2 := by rw [lt0_eq] at *; simp at *; omega
theorem swo1 : SWO (ltOf cf1) where
  irrefl x := by rw [lt1_eq]; exact lt_irrefl _
  trans x y z h1 h2 := by rw [lt1_eq] at *; exact lt_trans h1 h2
  ntrans x y z h1 h2 := by rw [lt1_eq] at *; exact le_trans h2 h1

set_option maxRecDepth 100000 in
theorem clos0 (x y : M) (W : World) : Calls Try.prog 73 #[.agg (M.c4 x).toArray, .agg (M.c4 y).toArray] W fun e w' => e = .returned (.int .i64 (cf0 x y)) ∧ ∃ q os', w' = grow (W.drewN q) os' := by
  have HC := Lib.hid (fun W => cmpInt_any y.file x.file W)
  have HR : Hid (cf0 x y = cmpInt y.file x.file) := Lib.hid rfl
  rw [HR.out]
  obtain ⟨r, hr⟩ : ∃ r, cmpInt y.file x.file = r := ⟨_, rfl⟩
  rw [hr] at HC ⊢
  obtain ⟨lv, q, g, s, t⟩ := x
  obtain ⟨lv2, q2, g2, s2, t2⟩ := y
  simp only [M.c4]
  simp only at HC
  clear HR hr
  go_enter Try.func73, Try.ntmps73
  go_wp2_with (go_at_call 74; refine (HC.out _).mono ?_; rintro e w' ⟨rfl, rfl⟩)
  go_ret
  exact ⟨rfl, 0, _, by rw [alloc_eq_grow, alloc_eq_grow, grow_grow]; rfl⟩

set_option maxRecDepth 100000 in
theorem clos1 (x y : M) (W : World) : Calls Try.prog 75 #[.agg (M.c4 x).toArray, .agg (M.c4 y).toArray] W fun e w' => e = .returned (.int .i64 (cf1 x y)) ∧ ∃ q os', w' = grow (W.drewN q) os' := by
  have HC := Lib.hid (fun W => cmpStrings_any x.lo y.lo W)
  have HR : Hid (cf1 x y = Lib.compareBytes x.lo.data.toList y.lo.data.toList) := Lib.hid rfl
  rw [HR.out]
  obtain ⟨r, hr⟩ : ∃ r, Lib.compareBytes x.lo.data.toList y.lo.data.toList = r := ⟨_, rfl⟩
  rw [hr] at HC ⊢
  obtain ⟨lv, q, g, s, t⟩ := x
  obtain ⟨lv2, q2, g2, s2, t2⟩ := y
  simp only [M.c4]
  simp only at HC
  clear HR hr
  go_enter Try.func75, Try.ntmps75
  go_wp2_with (go_at_call 76; refine (HC.out _).mono ?_; rintro e w' ⟨rfl, rfl⟩)
  go_ret
  exact ⟨rfl, 0, _, by rw [alloc_eq_grow, alloc_eq_grow, grow_grow]; rfl⟩

theorem perm_in {d d' : Array M} (h : PermIn 0 d.size d d') : d'.toList.Perm d.toList := by
  obtain ⟨h1, -, h2⟩ := h
  have e1 : d'.extract 0 d.size = d' := by rw [← h1]; simp
  have e2 : d.extract 0 d.size = d := by simp
  rwa [e1, e2] at h2

theorem sorted_in {ltb : M → M → Bool} {d' : Array M} {n : Nat} (hn : d'.size = n) (h : SortedIn ltb 0 n d') : d'.toList.Pairwise (fun a b => ltb b a = false) := by
  rw [List.pairwise_iff_getElem]
  intro i j hi hj hij
  have hi' : i < d'.size := by simpa using hi
  have hj' : j < d'.size := by simpa using hj
  have := h i j (Nat.zero_le _) hij (by omega)
  rw [getElem!_pos d' j hj', getElem!_pos d' i hi'] at this
  simpa using this

theorem sortmeta_any (cf : M → M → Int) (hO : SWO (ltOf cf)) (g : Nat) (eg : ∀ args w, (callFunc g args).run Try.prog w = .ok (.enter g args) w)
    (hc : ∀ x y W, Calls Try.prog g #[.agg (M.c4 x).toArray, .agg (M.c4 y).toArray] W fun e w' => e = .returned (.int .i64 (cf x y)) ∧ ∃ q os', w' = grow (W.drewN q) os')
    (B : Nat) (v : Value) (n : Nat) (l : List M) (W : World) (hm : l.length = n) (ho : W.ownsRow B 64 4 v n (cs4 l)) (h6 : n ≤ 1000000000) :
    Calls Try.prog 55 #[v, .func (.func g) #[] #[]] W fun e w' => e = .returned (.tuple #[]) ∧ (∃ ts, ts.Perm l ∧ ts.Pairwise (fun a b => ltOf cf b a = false) ∧ w'.ownsRow B 64 4 v n (cs4 ts)) ∧ W.grownBy w' v.ownBlock := by
  rcases ho.2 with ⟨rfl, h0⟩ | ⟨b, cap, cur, rfl, hg, hgb, h1, h2, h3, h4⟩
  · have hx : l = [] := List.eq_nil_of_length_eq_zero (by omega)
    refine (Try.slices_SortFunc_meta_none none 0 _ W).mono fun e w' h => ?_
    obtain ⟨rfl, rfl⟩ := h
    exact ⟨rfl, ⟨l, .refl _, by subst hx; exact List.Pairwise.nil, ho⟩, World.grownBy.refl _ _⟩
  · subst hm
    have hgl := (Array.getElem?_eq_some_iff.1 hgb).1
    have hH : HoldsK M.c4 4 W b 0 l.toArray := by
      unfold HoldsK
      rw [flat4]
      exact holdsV hgb (by rw [cs4_len]; exact h4)
    refine (Try.slices_SortFunc_meta M.c4 (fun _ => rfl) (fun x u hu => one4 x u hu) cf hO g #[] b 0 cap l.toArray W eg (fun _ _ _ _ x y => hc x y _) hH hgl (by simp; omega)).mono fun e w' h => ?_
    obtain ⟨rfl, d', nn, os, hp, hs, rfl⟩ := h
    have hds : d'.size = l.length := by have := hp.1; simpa using this
    have hpl := perm_in hp
    have hfl : sortWorldK M.c4 4 W b 0 nn d' os = grow (putRow id (Sort.ahead W nn) b 0 (cs4 d'.toList).toArray) os := by
      unfold sortWorldK putRowK
      rw [← flat4]
    rw [hfl]
    have hlen : (cs4 d'.toList).length = l.length * 4 := by rw [cs4_len, Array.length_toList, hds]
    refine ⟨rfl, ⟨d'.toList, hpl, sorted_in (by simpa using hds) hs, ⟨hlen, .inr ⟨b, cap, _, rfl, hg, heap_sortedV _ hgb, h1, h2, by simpa [putCells] using h3, ?_⟩⟩⟩, grownBy_sortedV _⟩
    rw [← hlen]
    exact take_putCellsV cur _ (by rw [hlen, h3]; exact Nat.mul_le_mul_right 4 h1)

theorem enters0 : ∀ args w, (callFunc 73 args).run Try.prog w = .ok (.enter 73 args) w := enters_of Try.func73 (by kernel_rfl) rfl
theorem enters1 : ∀ args w, (callFunc 75 args).run Try.prog w = .ok (.enter 75 args) w := enters_of Try.func75 (by kernel_rfl) rfl

/-- the order of a level's function -/
def ordF (k : Nat) : Nat := if k = 0 then 73 else 75

theorem orderOf_any (k : Nat) (hk : k < 4) (W : World) : Calls Try.prog 56 #[.int .i64 k] W fun e w' => e = .returned (.func (.func (ordF k)) #[] #[]) ∧ W = w' := by
  by_cases h0 : k = 0
  · subst h0
    go_enter Try.func56, Try.ntmps56
    go_wp2
    go_ret
    exact ⟨rfl, rfl⟩
  · have hne : ((k : Int) == 0) = false := beq_eq_false_iff_ne.2 (by omega)
    have HF : Hid (ordF k = 75) := Lib.hid (if_neg h0)
    rw [HF.out]
    clear h0
    go_enter Try.func56, Try.ntmps56
    go_wp2
    go_ret
    exact ⟨rfl, rfl⟩

theorem weak_lev {k : Int} {l : List M} (hl : ∀ m ∈ l, m.lvl = k) (h : l.Pairwise (fun a b => (if k = 0 then ltOf cf0 b a else ltOf cf1 b a) = false)) : weak l := by
  refine List.Pairwise.imp_of_mem (fun {a b} ha hb h => ?_) h
  unfold VS.ahead
  rw [if_pos (by rw [hl a ha, hl b hb])]
  by_cases h0 : k = 0
  · rw [if_pos h0, lt0_eq] at h
    rw [if_pos (by rw [hl b hb, h0])]
    exact h
  · rw [if_neg h0, lt1_eq] at h
    rw [if_neg (by rw [hl b hb]; exact h0)]
    exact h

theorem sortlev_any (k : Nat) (B : Nat) (v : Value) (n : Nat) (l : List M) (W : World) (hm : l.length = n) (hl : ∀ m ∈ l, m.lvl = k) (ho : W.ownsRow B 64 4 v n (cs4 l)) (h6 : n ≤ 1000000000) :
    Calls Try.prog 55 #[v, .func (.func (ordF k)) #[] #[]] W fun e w' => e = .returned (.tuple #[]) ∧ (∃ ts, ts.Perm l ∧ weak ts ∧ w'.ownsRow B 64 4 v n (cs4 ts)) ∧ W.grownBy w' v.ownBlock := by
  by_cases h0 : k = 0
  · rw [show ordF k = 73 from if_pos h0]
    refine (sortmeta_any cf0 swo0 _ enters0 clos0 B v n l W hm ho h6).mono ?_
    rintro e w' ⟨rfl, ⟨ts, h1, h2, h3⟩, h4⟩
    refine ⟨rfl, ⟨ts, h1, weak_lev (k := (k : Int)) (fun m hm => hl m (h1.subset hm)) (h2.imp fun {a b} h => ?_), h3⟩, h4⟩
    rw [if_pos (by omega)]
    exact h
  · rw [show ordF k = 75 from if_neg h0]
    refine (sortmeta_any cf1 swo1 _ enters1 clos1 B v n l W hm ho h6).mono ?_
    rintro e w' ⟨rfl, ⟨ts, h1, h2, h3⟩, h4⟩
    refine ⟨rfl, ⟨ts, h1, weak_lev (k := (k : Int)) (fun m hm => hl m (h1.subset hm)) (h2.imp fun {a b} h => ?_), h3⟩, h4⟩
    rw [if_neg (by omega)]
    exact h

/-- slices.Sort of numbers -/
theorem sort64_any (Bs : Nat) (v : Value) (m : Nat) (xs : List Int) (W : World) (hm : xs.length = m) (ho : W.ownsRow Bs 2 1 v m (nums xs)) (hb : Bs ≤ W.heap.size) (h6 : m ≤ 1000000000) :
    Calls Try.prog 48 #[v] W fun e w' => e = .returned (.tuple #[]) ∧ (∃ ys, ys.Perm xs ∧ ys.Pairwise (fun a b => a ≤ b) ∧ w'.ownsRow Bs 2 1 v m (nums ys)) ∧ Below Bs W w' := by
  have hr : (xs.mergeSort fun x y => decide (x ≤ y)).Pairwise (fun a b => a ≤ b) := by
    have := List.pairwise_mergeSort (le := fun x y : Int => decide (x ≤ y)) (fun a b c h1 h2 => by simp only [decide_eq_true_eq] at *; omega) (fun a b => by simp only [Bool.or_eq_true, decide_eq_true_eq]; omega) xs
    exact this.imp (by simp)
  have hp : (xs.mergeSort fun x y => decide (x ≤ y)).Perm xs := List.mergeSort_perm _ _
  rcases ho.2 with ⟨rfl, h0⟩ | ⟨g, cap, cur, rfl, hg, hgb, h1, h2, h3, h4⟩
  · have hx : xs = [] := List.eq_nil_of_length_eq_zero (by omega)
    refine (Try.slices_Sort_int64_none none 0 W).mono fun e w' h => ?_
    obtain ⟨rfl, rfl⟩ := h
    exact ⟨rfl, ⟨xs, .refl _, by subst hx; exact List.Pairwise.nil, ho⟩, Below.refl _ _⟩
  · subst hm
    have hgl := (Array.getElem?_eq_some_iff.1 hgb).1
    refine (Try.slices_Sort_int64 g 0 cap xs W (holds_of_blockI hgb (by simpa [nums] using h4)) hgl (by omega)).mono fun e w' h => ?_
    obtain ⟨rfl, nn, os, rfl⟩ := h
    refine ⟨rfl, ⟨_, hp, hr, ?_⟩, (Below.refl _ W).grown (grownBy_sortedI _) (by omega) (fun k e => by cases e; exact hg)⟩
    exact ownsRow_sortedI (by simp) hg hgb h1 h2 h3
end Go.Proofs.Ytffdiiolgflbkaa

