/- Texts joined by bundle.py: Va, Vb. -/
import Derived.Test.YtffdiiolgflbkaaZaa
import Derived.Test.YtffdiiolgflbkaaZad
import Derived.Test.YtffdiiolgflbkaaZae
import Derived.Test.YtffdiiolgflbkaaZaj
import Derived.Maps.AppendAt
import Derived.Test.YtffdiiolgflbkaaZai

/- Tables as they lie in memory: four cells each (the program's, in a level), or five (with their level: the program's places, the document's, the law's). -/
namespace Go.Proofs.Ytffdiiolgflbkaa
open Go.RowKit
open VS

def i64 (z : Int) : Prop := -9223372036854775808 ≤ z ∧ z ≤ 9223372036854775807

namespace VS
/-- what a machine bears: numbers of 64 bits, texts up to a size -/
structure M.wf (m : M) : Prop where
  lvl : i64 m.lvl
  file : i64 m.file
  size : i64 m.size
  lo : m.lo.size ≤ 140737488351232
  hi : m.hi.size ≤ 140737488351232

def M.c5 (m : M) : List Value := [.int .i64 m.lvl, .int .i64 m.file, .int .i64 m.size, .string m.lo, .string m.hi]
def M.c4 (m : M) : List Value := [.int .i64 m.file, .int .i64 m.size, .string m.lo, .string m.hi]
def cs5 (l : List M) : List Value := l.flatMap M.c5
def cs4 (l : List M) : List Value := l.flatMap M.c4
def M.zero : M := ⟨0, 0, 0, ⟨#[]⟩, ⟨#[]⟩⟩
instance : Inhabited M := ⟨M.zero⟩

theorem cs5_len (l : List M) : (cs5 l).length = l.length * 5 := by
  induction l with
  | nil => rfl
  | cons p r ih => show (p.c5 ++ cs5 r).length = _; rw [List.length_append, ih, List.length_cons]; simp [M.c5]; omega
theorem cs4_len (l : List M) : (cs4 l).length = l.length * 4 := by
  induction l with
  | nil => rfl
  | cons p r ih => show (p.c4 ++ cs4 r).length = _; rw [List.length_append, ih, List.length_cons]; simp [M.c4]; omega
theorem cs5_snoc (l : List M) (p : M) : cs5 (l ++ [p]) = cs5 l ++ p.c5 := by simp [cs5]
theorem cs4_snoc (l : List M) (p : M) : cs4 (l ++ [p]) = cs4 l ++ p.c4 := by simp [cs4]
theorem cs5_at : ∀ (l : List M) (j : Nat) (h : j < l.length) (i : Nat), i < 5 → (cs5 l)[j * 5 + i]? = (l[j]).c5[i]?
  | p :: r, 0, _, i, hi => by
    show (p.c5 ++ cs5 r)[0 * 5 + i]? = _
    rw [List.getElem?_append_left (by simp [M.c5]; omega)]
    simp
  | p :: r, j + 1, h, i, hi => by
    have := cs5_at r j (by simpa using h) i hi
    show (p.c5 ++ cs5 r)[(j + 1) * 5 + i]? = _
    rw [List.getElem?_append_right (by simp [M.c5]; omega)]
    simp only [List.getElem_cons_succ]
    rw [← this]
    congr 1
    simp [M.c5]
    omega
theorem cs4_at : ∀ (l : List M) (j : Nat) (h : j < l.length) (i : Nat), i < 4 → (cs4 l)[j * 4 + i]? = (l[j]).c4[i]?
  | p :: r, 0, _, i, hi => by
    show (p.c4 ++ cs4 r)[0 * 4 + i]? = _
    rw [List.getElem?_append_left (by simp [M.c4]; omega)]
    simp
  | p :: r, j + 1, h, i, hi => by
    have := cs4_at r j (by simpa using h) i hi
    show (p.c4 ++ cs4 r)[(j + 1) * 4 + i]? = _
    rw [List.getElem?_append_right (by simp [M.c4]; omega)]
    simp only [List.getElem_cons_succ]
    rw [← this]
    congr 1
    simp [M.c4]
    omega
theorem cs5_take (l : List M) (k : Nat) (h : k < l.length) : cs5 (l.take (k + 1)) = cs5 (l.take k) ++ M.c5 l[k] := by
  rw [List.take_succ_eq_append_getElem h, cs5_snoc]
theorem cs4_take (l : List M) (k : Nat) (h : k < l.length) : cs4 (l.take (k + 1)) = cs4 (l.take k) ++ M.c4 l[k] := by
  rw [List.take_succ_eq_append_getElem h, cs4_snoc]
end VS

/-- a slice of tables of five cells each -/
structure In5 (w : World) (A : Option Addr) (l : List M) : Prop where
  wf : ∀ e ∈ l, e.wf
  at_ : 0 < l.length → ∃ b off, A = some ⟨b, off, none⟩ ∧ b < w.heap.size ∧ ∀ j, (h : j < l.length) →
    w.cell? ⟨b, off + j * 5, none⟩ = some (.int .i64 l[j].lvl) ∧ w.cell? ⟨b, off + j * 5 + 1, none⟩ = some (.int .i64 l[j].file) ∧ w.cell? ⟨b, off + j * 5 + 2, none⟩ = some (.int .i64 l[j].size) ∧
      w.cell? ⟨b, off + j * 5 + 3, none⟩ = some (.string l[j].lo) ∧ w.cell? ⟨b, off + j * 5 + 4, none⟩ = some (.string l[j].hi)

/-- a slice of tables of four cells each -/
structure In4 (w : World) (A : Option Addr) (l : List M) : Prop where
  wf : ∀ e ∈ l, e.wf
  at_ : 0 < l.length → ∃ b off, A = some ⟨b, off, none⟩ ∧ b < w.heap.size ∧ ∀ j, (h : j < l.length) →
    w.cell? ⟨b, off + j * 4, none⟩ = some (.int .i64 l[j].file) ∧ w.cell? ⟨b, off + j * 4 + 1, none⟩ = some (.int .i64 l[j].size) ∧
      w.cell? ⟨b, off + j * 4 + 2, none⟩ = some (.string l[j].lo) ∧ w.cell? ⟨b, off + j * 4 + 3, none⟩ = some (.string l[j].hi)

section
variable {w w' : World} {A : Option Addr} {l : List M}
theorem In5.below (h : In5 w A l) (hb : Below w.heap.size w w') : In5 w' A l :=
  ⟨h.wf, fun hn => by
    obtain ⟨b, off, hA, hlt, hc⟩ := h.at_ hn
    refine ⟨b, off, hA, Nat.lt_of_lt_of_le hlt hb.size, fun j hj => ?_⟩
    obtain ⟨c0, c1, c2, c3, c4⟩ := hc j hj
    exact ⟨(hb.cell (p := ⟨b, off + j * 5, none⟩) hlt).trans c0, (hb.cell (p := ⟨b, off + j * 5 + 1, none⟩) hlt).trans c1, (hb.cell (p := ⟨b, off + j * 5 + 2, none⟩) hlt).trans c2, (hb.cell (p := ⟨b, off + j * 5 + 3, none⟩) hlt).trans c3, (hb.cell (p := ⟨b, off + j * 5 + 4, none⟩) hlt).trans c4⟩⟩
theorem In4.below (h : In4 w A l) (hb : Below w.heap.size w w') : In4 w' A l :=
  ⟨h.wf, fun hn => by
    obtain ⟨b, off, hA, hlt, hc⟩ := h.at_ hn
    refine ⟨b, off, hA, Nat.lt_of_lt_of_le hlt hb.size, fun j hj => ?_⟩
    obtain ⟨c0, c1, c2, c3⟩ := hc j hj
    exact ⟨(hb.cell (p := ⟨b, off + j * 4, none⟩) hlt).trans c0, (hb.cell (p := ⟨b, off + j * 4 + 1, none⟩) hlt).trans c1, (hb.cell (p := ⟨b, off + j * 4 + 2, none⟩) hlt).trans c2, (hb.cell (p := ⟨b, off + j * 4 + 3, none⟩) hlt).trans c3⟩⟩
theorem In5.nil (w : World) (A : Option Addr) : In5 w A [] := ⟨by simp, by simp⟩
theorem In4.nil (w : World) (A : Option Addr) : In4 w A [] := ⟨by simp, by simp⟩
theorem In5.take (h : In5 w A l) (n : Nat) : In5 w A (l.take n) :=
  ⟨fun e he => h.wf e (List.mem_of_mem_take he), fun hn => by
    rw [List.length_take] at hn
    obtain ⟨b, off, hA, hlt, hc⟩ := h.at_ (by omega)
    refine ⟨b, off, hA, hlt, fun j hj => ?_⟩
    rw [List.length_take] at hj
    rw [List.getElem_take]
    exact hc j (by omega)⟩
theorem In5.grown (h : In5 w A l) {r : Nat} (hg : w.grownBy w' (some r)) (hA : ∀ a, A = some a → a.block ≠ r) : In5 w' A l :=
  ⟨h.wf, fun hn => by
    obtain ⟨b, off, rfl, hlt, hc⟩ := h.at_ hn
    have hbr : b ≠ r := hA _ rfl
    have hblk : w'.heap[b]? = w.heap[b]? := hg.block b hlt (fun e => hbr (by injection e))
    have hcell : ∀ k, w'.cell? ⟨b, k, none⟩ = w.cell? ⟨b, k, none⟩ := fun k => by simp [World.cell?, hblk]
    refine ⟨b, off, rfl, Nat.lt_of_lt_of_le hlt hg.size, fun j hj => ?_⟩
    obtain ⟨c0, c1, c2, c3, c4⟩ := hc j hj
    exact ⟨(hcell _).trans c0, (hcell _).trans c1, (hcell _).trans c2, (hcell _).trans c3, (hcell _).trans c4⟩⟩
end

theorem own5 {w : World} {base : Nat} {e : TypeId} {v : Value} {n : Nat} {l : List M} (hw : ∀ x ∈ l, x.wf) (hn : l.length = n) (h : w.ownsRow base e 5 v n (cs5 l)) :
    ∃ A c, v = .slice A n c ∧ In5 w A l ∧ (∀ x ∈ fb A, base ≤ x ∧ x < w.heap.size) ∧ n ≤ c := by
  subst hn
  have h' := h
  rcases h.2 with ⟨rfl, h0⟩ | ⟨g, cap, cur, rfl, hbg, hg, hnc, _, _, _⟩
  · exact ⟨none, 0, by rw [h0], ⟨hw, fun hn => by omega⟩, by simp [fb], by omega⟩
  · have hlt := (Array.getElem?_eq_some_iff.1 hg).1
    refine ⟨some ⟨g, 0, none⟩, cap, rfl, ⟨hw, fun _ => ⟨g, 0, rfl, hlt, fun j hj => ?_⟩⟩, by simp [fb]; exact ⟨hbg, hlt⟩, hnc⟩
    have hcell : ∀ i x, i < 5 → (l[j]).c5[i]? = some x → w.cell? ⟨g, 0 + j * 5 + i, none⟩ = some x := by
      intro i x hi hx
      have hc := h'.cells (g := g) rfl (j * 5 + i) x (by rw [cs5_at l j hj i hi]; exact hx)
      rw [addr_add0] at hc
      rw [Nat.zero_add]
      exact hc
    exact ⟨hcell 0 _ (by omega) rfl, hcell 1 _ (by omega) rfl, hcell 2 _ (by omega) rfl, hcell 3 _ (by omega) rfl, hcell 4 _ (by omega) rfl⟩

theorem own4 {w : World} {base : Nat} {e : TypeId} {v : Value} {n : Nat} {l : List M} (hw : ∀ x ∈ l, x.wf) (hn : l.length = n) (h : w.ownsRow base e 4 v n (cs4 l)) :
    ∃ A c, v = .slice A n c ∧ In4 w A l ∧ (∀ x ∈ fb A, base ≤ x ∧ x < w.heap.size) ∧ n ≤ c := by
  subst hn
  have h' := h
  rcases h.2 with ⟨rfl, h0⟩ | ⟨g, cap, cur, rfl, hbg, hg, hnc, _, _, _⟩
  · exact ⟨none, 0, by rw [h0], ⟨hw, fun hn => by omega⟩, by simp [fb], by omega⟩
  · have hlt := (Array.getElem?_eq_some_iff.1 hg).1
    refine ⟨some ⟨g, 0, none⟩, cap, rfl, ⟨hw, fun _ => ⟨g, 0, rfl, hlt, fun j hj => ?_⟩⟩, by simp [fb]; exact ⟨hbg, hlt⟩, hnc⟩
    have hcell : ∀ i x, i < 4 → (l[j]).c4[i]? = some x → w.cell? ⟨g, 0 + j * 4 + i, none⟩ = some x := by
      intro i x hi hx
      have hc := h'.cells (g := g) rfl (j * 4 + i) x (by rw [cs4_at l j hj i hi]; exact hx)
      rw [addr_add0] at hc
      rw [Nat.zero_add]
      exact hc
    exact ⟨hcell 0 _ (by omega) rfl, hcell 1 _ (by omega) rfl, hcell 2 _ (by omega) rfl, hcell 3 _ (by omega) rfl⟩

theorem own_shape {w : World} {base : Nat} {e : TypeId} {s : Nat} {v : Value} {n : Nat} {xs : List Value} (h : w.ownsRow base e s v n xs) : ∃ A c, v = .slice A n c := by
  rcases h.2 with ⟨rfl, h0⟩ | ⟨g, cap, cur, rfl, _⟩
  · exact ⟨none, 0, by rw [h0]⟩
  · exact ⟨_, _, rfl⟩

theorem info_meta : (Try.prog.info? 64).map (fun i => (i.zero, i.size, i.bytes)) = some (some (.agg #[.int .i64 0, .int .i64 0, .string ⟨#[]⟩, .string ⟨#[]⟩]), 4, 48) := by kernel_rfl
theorem info_place : (Try.prog.info? 81).map (fun i => (i.zero, i.size, i.bytes)) = some (some (.agg #[.int .i64 0, .int .i64 0, .int .i64 0, .string ⟨#[]⟩, .string ⟨#[]⟩]), 5, 56) := by kernel_rfl
theorem info_rmeta : (Try.prog.info? 66).map (fun i => (i.zero, i.size, i.bytes)) = some (some (.agg #[.int .i64 0, .int .i64 0, .int .i64 0, .string ⟨#[]⟩, .string ⟨#[]⟩]), 5, 56) := by kernel_rfl
theorem info_i64 : (Try.prog.info? 2).map (fun i => (i.zero, i.size, i.bytes)) = some (some (.int .i64 0), 1, 8) := by kernel_rfl

/-- a row of numbers of the call's own -/
def nums (l : List Int) : List Value := l.map (Value.int .i64)
theorem nums_snoc (l : List Int) (x : Int) : nums (l ++ [x]) = nums l ++ [.int .i64 x] := by simp [nums]

theorem own_nums {w : World} {base : Nat} {e : TypeId} {v : Value} {n : Nat} {l : List Int} (hw : ∀ x ∈ l, i64 x) (hn : l.length = n) (h : w.ownsRow base e 1 v n (nums l)) :
    ∃ A c, v = .slice A n c ∧ IntsIn w w.heap.size A l ∧ (∀ x ∈ fb A, base ≤ x ∧ x < w.heap.size) ∧ n ≤ c := by
  subst hn
  have h' := h
  rcases h.2 with ⟨rfl, h0⟩ | ⟨g, cap, cur, rfl, hbg, hg, hnc, _, _, _⟩
  · exact ⟨none, 0, by rw [h0], ⟨hw, fun hn => by omega⟩, by simp [fb], by omega⟩
  · have hlt := (Array.getElem?_eq_some_iff.1 hg).1
    refine ⟨some ⟨g, 0, none⟩, cap, rfl, ⟨hw, fun _ => ⟨g, 0, rfl, hlt, fun j hj => ?_⟩⟩, by simp [fb]; exact ⟨hbg, hlt⟩, hnc⟩
    have hc := h'.cells (g := g) rfl j (.int .i64 l[j]) (by simp [nums, hj])
    rw [addr_add0] at hc
    rw [Nat.zero_add]
    exact hc

theorem IntsIn.mono {w w' : World} {A : Option Addr} {l : List Int} (h : IntsIn w w.heap.size A l) (hb : Below w.heap.size w w') : IntsIn w' w'.heap.size A l := by
  have h1 := h.below hb
  refine ⟨h1.1, fun hn => ?_⟩
  obtain ⟨b, off, hA, hlt, hc⟩ := h1.2 hn
  exact ⟨b, off, hA, Nat.lt_of_lt_of_le hlt hb.size, hc⟩
theorem IntsIn.takeN {w : World} {B : Nat} {A : Option Addr} {l : List Int} (h : IntsIn w B A l) (n : Nat) : IntsIn w B A (l.take n) :=
  ⟨fun e he => h.1 e (List.mem_of_mem_take he), fun hn => by
    rw [List.length_take] at hn
    obtain ⟨b, off, hA, hlt, hc⟩ := h.2 (by omega)
    refine ⟨b, off, hA, hlt, fun j hj => ?_⟩
    rw [List.length_take] at hj
    rw [List.getElem_take]
    exact hc j (by omega)⟩
end Go.Proofs.Ytffdiiolgflbkaa

/- A table whose texts are memory of their own; is there such a level? -/
namespace Go.Proofs.Ytffdiiolgflbkaa
open Go.RowKit
open VS

/-- a store of what is there leaves the world -/
theorem set_same {w : World} {b j : Nat} {u : Value} (h : w.cell? ⟨b, j, none⟩ = some u) : w.setCell ⟨b, j, none⟩ u = w := by
  obtain ⟨cs, ty, fr, hb, hj⟩ : ∃ cs ty fr, w.heap[b]? = some (.cells cs ty fr) ∧ cs[j]? = some u := by
    unfold World.cell? at h
    cases hh : w.heap[b]? with
    | none => simp [hh] at h
    | some o =>
      cases o with
      | cells cs ty fr => exact ⟨cs, ty, fr, rfl, by simpa [hh] using h⟩
      | _ => simp [hh] at h
  obtain ⟨heap, tape, drawn, os, output⟩ := w
  simp only [World.setCell, World.mk.injEq, and_true]
  simp only at hb
  apply Array.ext_getElem?
  intro i
  rw [Array.getElem?_modify]
  split
  · rename_i hi
    subst hi
    rw [hb]
    simp only [Option.map_some, Option.isSome_none, Bool.false_eq_true, if_false, Option.some.injEq, Obj.cells.injEq, and_true]
    apply Array.ext_getElem?
    intro i
    rw [Array.getElem?_setIfInBounds]
    split
    · rename_i hi
      subst hi
      rw [hj]
      split
      · rfl
      · rename_i hlt
        rw [Array.getElem?_eq_some_iff] at hj
        exact absurd hj.1 hlt
    · rfl
  · rfl

theorem isLevel_any (z : Int) (w : World) : Calls Try.prog 47 #[.int .i64 z] w fun e w' => e = .returned (.bool (decide (0 ≤ z ∧ z < 4))) ∧ w = w' := by
  by_cases h0 : 0 ≤ z
  · by_cases h1 : z < 4
    · have HR : Hid (decide (0 ≤ z ∧ z < 4) = true) := Lib.hid (by simp; omega)
      rw [HR.out]
      go_enter Try.func47, Try.ntmps47
      go_wp2
      go_ret
      exact ⟨rfl, rfl⟩
    · have HR : Hid (decide (0 ≤ z ∧ z < 4) = false) := Lib.hid (by simp; omega)
      rw [HR.out]
      go_enter Try.func47, Try.ntmps47
      go_wp2
      go_ret
      exact ⟨rfl, rfl⟩
  · have HR : Hid (decide (0 ≤ z ∧ z < 4) = false) := Lib.hid (by simp; omega)
    rw [HR.out]
    go_enter Try.func47, Try.ntmps47
    go_wp2
    go_ret
    exact ⟨rfl, rfl⟩

set_option maxRecDepth 100000 in
set_option maxHeartbeats 2000000 in
theorem mclone_any (q g : Int) (k v : ByteArray) (w : World) (h1 : k.size ≤ 281474976710656) (h2 : v.size ≤ 281474976710656) :
    Calls Try.prog 46 #[.agg #[.int .i64 q, .int .i64 g, .string k, .string v]] w fun e w' => e = .returned (.agg #[.int .i64 q, .int .i64 g, .string k, .string v]) ∧ Below w.heap.size w w' := by
  have H1 : Hid (∀ W, Calls Try.prog 65 #[.string k] W fun e w' => e = .returned (.string k) ∧ Below W.heap.size W w') := fun W => clone_any k W h1
  have H2 : Hid (∀ W, Calls Try.prog 65 #[.string v] W fun e w' => e = .returned (.string v) ∧ Below W.heap.size W w') := fun W => clone_any v W h2
  clear h1 h2
  obtain ⟨x, hx⟩ : ∃ x, w.heap.size = x := ⟨_, rfl⟩
  go_enter Try.func46, Try.ntmps46
  go_wp2_with fail
  have hrow : ((w.alloc (.cells #[.int .i64 q, .int .i64 g, .string k, .string v] 64)).alloc (.cells #[.int .i64 0, .int .i64 0, .string ⟨#[]⟩, .string ⟨#[]⟩] 64)).heap[x]? = some (.cells #[.int .i64 q, .int .i64 g, .string k, .string v] 64 (0, 0)) := by
    subst hx
    rw [Below.heap_alloc _ _ _ (by simp)]; exact heap_alloc_new w _
  have hrow2 : ((w.alloc (.cells #[.int .i64 q, .int .i64 g, .string k, .string v] 64)).alloc (.cells #[.int .i64 0, .int .i64 0, .string ⟨#[]⟩, .string ⟨#[]⟩] 64)).heap[x + 1]? = some (.cells #[.int .i64 0, .int .i64 0, .string ⟨#[]⟩, .string ⟨#[]⟩] 64 (0, 0)) := by
    subst hx
    have := heap_alloc_new (w.alloc (.cells #[.int .i64 q, .int .i64 g, .string k, .string v] 64)) (.cells #[.int .i64 0, .int .i64 0, .string ⟨#[]⟩, .string ⟨#[]⟩] 64)
    simpa using this
  have hbel : Below x w ((w.alloc (.cells #[.int .i64 q, .int .i64 g, .string k, .string v] 64)).alloc (.cells #[.int .i64 0, .int .i64 0, .string ⟨#[]⟩, .string ⟨#[]⟩] 64)) := by
    subst hx
    exact ((Below.refl _ w).alloc (Nat.le_refl _) _).alloc (by simp) _
  have hsz : ((w.alloc (.cells #[.int .i64 q, .int .i64 g, .string k, .string v] 64)).alloc (.cells #[.int .i64 0, .int .i64 0, .string ⟨#[]⟩, .string ⟨#[]⟩] 64)).heap.size = x + 2 := by
    subst hx; simp
  generalize (w.alloc (.cells #[.int .i64 q, .int .i64 g, .string k, .string v] 64)).alloc (.cells #[.int .i64 0, .int .i64 0, .string ⟨#[]⟩, .string ⟨#[]⟩] 64) = W0 at hrow hrow2 hbel hsz ⊢
  have z0 : W0.cell? ⟨x, 2, none⟩ = some (.string k) := cell_of_row _ _ _ _ _ _ hrow
  have z3 : W0.cell? ⟨x, 3, none⟩ = some (.string v) := cell_of_row _ _ _ _ _ _ hrow
  have f0 : W0.frozen? ⟨x, 2, none⟩ = false := frozen_of_row _ _ _ _ _ hrow
  have f3 : W0.frozen? ⟨x, 3, none⟩ = false := frozen_of_row _ _ _ _ _ hrow
  have HR := Lib.hid hrow
  have HR2 := Lib.hid hrow2
  have HBL := Lib.hid hbel
  have HSZ := Lib.hid hsz
  have HX := Lib.hid hx
  clear hrow hrow2 hbel hsz hx
  have HB1 : Hid (Below W0.heap.size W0 W0) := Below.refl _ _
  go_region_held3 (fun w' => w'.cell? ⟨x, 2, none⟩ = some (.string k) ∧ w'.cell? ⟨x, 3, none⟩ = some (.string v) ∧ w'.frozen? ⟨x, 2, none⟩ = false ∧ w'.frozen? ⟨x, 3, none⟩ = false)
    (first | go_keep | exact ⟨d0, d3, e0, e3⟩ | exact ⟨i0, i3, j0, j3⟩ | (refine ⟨?_, ?_, ?_, ?_⟩ <;> simp [*]) | fail)
    (first
      | (go_at_call 65
         refine (H1.out _).mono ?_
         rintro e w1 ⟨rfl, hb⟩
         have d0 : w1.cell? ⟨x, 2, none⟩ = some (.string k) := (hb.cell (p := ⟨x, 2, none⟩) (by have := HSZ.out; simp; omega)).trans z0
         have d3 : w1.cell? ⟨x, 3, none⟩ = some (.string v) := (hb.cell (p := ⟨x, 3, none⟩) (by have := HSZ.out; simp; omega)).trans z3
         have e0 : w1.frozen? ⟨x, 2, none⟩ = false := (hb.frozen (p := ⟨x, 2, none⟩) (by have := HSZ.out; simp; omega)).trans f0
         have e3 : w1.frozen? ⟨x, 3, none⟩ = false := (hb.frozen (p := ⟨x, 3, none⟩) (by have := HSZ.out; simp; omega)).trans f3
         have HC1 : Hid (Below W0.heap.size W0 w1) := Lib.hid (Below.trans ((Below.refl _ W0).drew) hb)
         clear hb)
      | (go_at_call 65
         refine (H2.out _).mono ?_
         rintro e w2 ⟨rfl, hb⟩
         have hlt1 : x + 2 ≤ w1.heap.size := by have := HSZ.out; have := HC1.out.size; omega
         have i0 : w2.cell? ⟨x, 2, none⟩ = some (.string k) := (hb.cell (p := ⟨x, 2, none⟩) (by simp; omega)).trans d0
         have i3 : w2.cell? ⟨x, 3, none⟩ = some (.string v) := (hb.cell (p := ⟨x, 3, none⟩) (by simp; omega)).trans d3
         have j0 : w2.frozen? ⟨x, 2, none⟩ = false := (hb.frozen (p := ⟨x, 2, none⟩) (by simp; omega)).trans e0
         have j3 : w2.frozen? ⟨x, 3, none⟩ = false := (hb.frozen (p := ⟨x, 3, none⟩) (by simp; omega)).trans e3
         have hs0 : w2.setCell ⟨x, 2, none⟩ (.string k) = w2 := set_same i0
         have hs3 : w2.setCell ⟨x, 3, none⟩ (.string v) = w2 := set_same i3
         have HC2 : Hid (Below W0.heap.size W0 w2) := Lib.hid (HC1.out.trans (hb.mono HC1.out.size))
         clear hb)
      | fail)
  all_goals
    have hr : w2.heap[x]? = some (.cells #[.int .i64 q, .int .i64 g, .string k, .string v] 64 (0, 0)) := (HC2.out.block x (by have := HSZ.out; omega)).trans HR.out
    have hr2 : w2.heap[x + 1]? = some (.cells #[.int .i64 0, .int .i64 0, .string ⟨#[]⟩, .string ⟨#[]⟩] 64 (0, 0)) := (HC2.out.block (x + 1) (by have := HSZ.out; omega)).trans HR2.out
    have hend : Below w.heap.size w w2 := by
      rw [HX.out]
      exact HBL.out.trans (HC2.out.mono (by have := HSZ.out; omega))
    have HEND := Lib.hid hend
    have y0 : w2.cell? ⟨x, 0, none⟩ = some (.int .i64 q) := cell_of_row _ _ _ _ _ _ hr
    have y1 : w2.cell? ⟨x, 1, none⟩ = some (.int .i64 g) := cell_of_row _ _ _ _ _ _ hr
    have y2 : w2.cell? ⟨x, 2, none⟩ = some (.string k) := cell_of_row _ _ _ _ _ _ hr
    have y3 : w2.cell? ⟨x, 3, none⟩ = some (.string v) := cell_of_row _ _ _ _ _ _ hr
    have n0 : w2.cell? ⟨x + 1, 0, none⟩ = some (.int .i64 0) := cell_of_row _ _ _ _ _ _ hr2
    have n1 : w2.cell? ⟨x + 1, 1, none⟩ = some (.int .i64 0) := cell_of_row _ _ _ _ _ _ hr2
    have n2 : w2.cell? ⟨x + 1, 2, none⟩ = some (.string ⟨#[]⟩) := cell_of_row _ _ _ _ _ _ hr2
    have n3 : w2.cell? ⟨x + 1, 3, none⟩ = some (.string ⟨#[]⟩) := cell_of_row _ _ _ _ _ _ hr2
    have g0 : w2.frozen? ⟨x + 1, 0, none⟩ = false := frozen_of_row _ _ _ _ _ hr2
    have g1 : w2.frozen? ⟨x + 1, 1, none⟩ = false := frozen_of_row _ _ _ _ _ hr2
    have g2 : w2.frozen? ⟨x + 1, 2, none⟩ = false := frozen_of_row _ _ _ _ _ hr2
    have g3 : w2.frozen? ⟨x + 1, 3, none⟩ = false := frozen_of_row _ _ _ _ _ hr2
    have HEND2 : Hid (∀ v0 v1 v2 v3, Below w.heap.size w ((((w2.setCell ⟨x + 1, 0, none⟩ v0).setCell ⟨x + 1, 1, none⟩ v1).setCell ⟨x + 1, 2, none⟩ v2).setCell ⟨x + 1, 3, none⟩ v3)) := fun v0 v1 v2 v3 => by
      have hle : w.heap.size ≤ x + 1 := by rw [HX.out]; omega
      exact (((hend.setCell (p := ⟨x + 1, 0, none⟩) hle v0).setCell (p := ⟨x + 1, 1, none⟩) hle v1).setCell (p := ⟨x + 1, 2, none⟩) hle v2).setCell (p := ⟨x + 1, 3, none⟩) hle v3
    clear hr hr2 hend hs0 hs3 hlt1 d0 d3 e0 e3 i0 i3 j0 j3 z0 z3 f0 f3
    go_wp2
    exact bodyPost_ret (v := .agg #[.int .i64 q, .int .i64 g, .string k, .string v]) (by simp [results, Try.results46, go_sem, *]) rfl ⟨rfl, HEND2.out _ _ _ _⟩
end Go.Proofs.Ytffdiiolgflbkaa

