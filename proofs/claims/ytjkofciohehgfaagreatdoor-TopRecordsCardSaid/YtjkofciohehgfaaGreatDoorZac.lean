/- Texts joined by bundle.py: YBLs, YBRow, YBEq. -/
import Derived.Test.YtjkofciohehgfaaGreatDoorZab
import Derived.Test.YtjkofciohehgfaaGreatDoorZaa

/- lists: the entries of both sides. -/
namespace Go.Proofs.YtjkofciohehgfaaGreatDoor.L7
open Go.RowKit
open SK
attribute [local go_sem ↓] Go.wp_at_zero Go.wp_at_succ

theorem info_ent : (Tryz.prog.info? 45).map (fun i => (i.zero, i.size, i.bytes)) = some (some (.agg #[.string ⟨#[]⟩, .int .i64 0, .bool false, .string ⟨#[]⟩, .int .i64 0]), 5, 56) := by kernel_rfl
end Go.Proofs.YtjkofciohehgfaaGreatDoor.L7


/- A row of entries that a call has made, written entry by entry. -/
namespace Go.Proofs.YtjkofciohehgfaaGreatDoor.L7
open Go.RowKit
open SK

theorem ecs_set : ∀ (L : List E) (j i : Nat) (h : j < L.length) (_ : i < 5) (u : Value) (e : E) (_ : e.cells = L[j].cells.set i u), (ecs L).set (j * 5 + i) u = ecs (L.set j e)
  | a :: L, 0, i, _, hi, u, e, he => by
    have ha : a.cells.length = 5 := rfl
    have h1 : ecs (a :: L) = a.cells ++ ecs L := by simp [ecs]
    have h2 : ecs ((a :: L).set 0 e) = e.cells ++ ecs L := by simp [ecs]
    rw [h1, h2, List.set_append_left _ _ (by omega), he]
    simp
  | a :: L, j + 1, i, h, hi, u, e, he => by
    have ha : a.cells.length = 5 := rfl
    have h1 : ecs (a :: L) = a.cells ++ ecs L := by simp [ecs]
    have h2 : ecs ((a :: L).set (j + 1) e) = a.cells ++ ecs (L.set j e) := by simp [ecs]
    rw [h1, h2, List.set_append_right _ _ (by omega), show (j + 1) * 5 + i - a.cells.length = j * 5 + i by omega, ecs_set L j i (by simpa using h) hi u e (by simpa using he)]

theorem ecs_arr (L : List E) (j i : Nat) (h : j < L.length) (hi : i < 5) (u : Value) (e : E) (he : e.cells = L[j].cells.set i u) : (ecs L).toArray.setIfInBounds (j * 5 + i) u = (ecs (L.set j e)).toArray := by
  rw [← ecs_set L j i h hi u e he]
  simp

/-- a row of entries in block g -/
def RowAt (w : World) (g : Nat) (L : List E) : Prop := w.heap[g]? = some (.cells (ecs L).toArray 45 (0, 0))

section
variable {w w' : World} {g : Nat} {L : List E}
theorem RowAt.lt (h : RowAt w g L) : g < w.heap.size := (Array.getElem?_eq_some_iff.1 h).1
theorem RowAt.grown {r : Option Nat} (h : RowAt w g L) (hb : w.grownBy w' r) (hr : r ≠ some g) : RowAt w' g L := (hb.block g h.lt hr.symm).trans h
theorem RowAt.cell (h : RowAt w g L) (j i : Nat) (hj : j < L.length) (hi : i < 5) : w.cell? ⟨g, j * 5 + i, none⟩ = L[j].cells[i]? := by
  rw [cell_of_row _ _ _ _ _ _ h, List.getElem?_toArray, ecs_at L j hj i hi]
theorem RowAt.frozen (h : RowAt w g L) (j : Nat) : w.frozen? ⟨g, j, none⟩ = false := frozen_of_row _ _ _ _ _ h
theorem RowAt.set (h : RowAt w g L) (j i : Nat) (hj : j < L.length) (hi : i < 5) (u : Value) (e : E) (he : e.cells = L[j].cells.set i u) : RowAt (w.setCell ⟨g, j * 5 + i, none⟩ u) g (L.set j e) := by
  have h1 := heap_set_fr h (j * 5 + i) u
  rw [ecs_arr L j i hj hi u e he] at h1
  exact h1
theorem RowAt.put (h : RowAt w g L) (j : Nat) (hj : j < L.length) (e : E) :
    RowAt (((((w.setCell ⟨g, j * 5, none⟩ (.string e.key)).setCell ⟨g, j * 5 + 1, none⟩ (.int .i64 e.seq)).setCell ⟨g, j * 5 + 2, none⟩ (.bool e.gone)).setCell ⟨g, j * 5 + 3, none⟩ (.string e.value)).setCell ⟨g, j * 5 + 4, none⟩ (.int .i64 e.til)) g (L.set j e) := by
  have h0 := h.set j 0 hj (by omega) (.string e.key) ⟨e.key, L[j].seq, L[j].gone, L[j].value, L[j].til⟩ rfl
  have h1 := h0.set j 1 (by simpa using hj) (by omega) (.int .i64 e.seq) ⟨e.key, e.seq, L[j].gone, L[j].value, L[j].til⟩ (by simp [E.cells])
  have h2 := h1.set j 2 (by simpa using hj) (by omega) (.bool e.gone) ⟨e.key, e.seq, e.gone, L[j].value, L[j].til⟩ (by simp [E.cells])
  have h3 := h2.set j 3 (by simpa using hj) (by omega) (.string e.value) ⟨e.key, e.seq, e.gone, e.value, L[j].til⟩ (by simp [E.cells])
  have h4 := h3.set j 4 (by simpa using hj) (by omega) (.int .i64 e.til) e (by simp [E.cells])
  simp only [List.set_set] at h4
  exact h4
theorem RowAt.ents (h : RowAt w g L) (hw : ∀ e ∈ L, e.wf) : EntsIn w (some ⟨g, 0, none⟩) L :=
  ⟨hw, fun _ => ⟨g, 0, rfl, h.lt, fun j hj => by
    rw [Nat.zero_add]
    exact ⟨h.cell j 0 hj (by omega), h.cell j 1 hj (by omega), h.cell j 2 hj (by omega), h.cell j 3 hj (by omega), h.cell j 4 hj (by omega)⟩⟩⟩
end

theorem made_ecs (n : Nat) : madeCells #[.string ⟨#[]⟩, .int .i64 0, .bool false, .string ⟨#[]⟩, .int .i64 0] (n * 5) = (ecs (List.replicate n E.zero)).toArray := by
  apply Array.ext
  · rw [size_madeCells, List.size_toArray, ecs_len, List.length_replicate]
  · intro i h1 h2
    rw [size_madeCells] at h1
    have hj : i / 5 < (List.replicate n E.zero).length := by rw [List.length_replicate]; omega
    have hat := ecs_at (List.replicate n E.zero) (i / 5) hj (i % 5) (Nat.mod_lt _ (by omega))
    rw [show i / 5 * 5 + i % 5 = i by omega, List.getElem_replicate] at hat
    have hm : i % 5 < 5 := Nat.mod_lt _ (by omega)
    have hL : (ecs (List.replicate n E.zero)).toArray[i]? = some (E.zero.cells[i % 5]'hm) := by
      rw [List.getElem?_toArray, hat, List.getElem?_eq_getElem hm]
    rw [Array.getElem?_eq_getElem h2, Option.some.injEq] at hL
    rw [hL]
    have hM : (madeCells #[.string ⟨#[]⟩, .int .i64 0, .bool false, .string ⟨#[]⟩, .int .i64 0] (n * 5))[i]? = some ((#[Value.string ⟨#[]⟩, .int .i64 0, .bool false, .string ⟨#[]⟩, .int .i64 0])[i % 5]!) := by
      simp [madeCells, h1]
    have h1' : i < (madeCells #[.string ⟨#[]⟩, .int .i64 0, .bool false, .string ⟨#[]⟩, .int .i64 0] (n * 5)).size := by rw [size_madeCells]; exact h1
    rw [Array.getElem?_eq_getElem h1', Option.some.injEq] at hM
    rw [hM]
    generalize i % 5 = k at hm
    match k, hm with
    | 0, _ => rfl
    | 1, _ => rfl
    | 2, _ => rfl
    | 3, _ => rfl
    | 4, _ => rfl

/-- 'make([]api.Entry, n)' -/
theorem make_ents (w : World) (n : Nat) (h : n * 56 ≤ 281474976710656) : (Instr.makeSlice 33 (.int .i64 (n : Int)) (.int .i64 (n : Int))).run Tryz.prog w = .ok (.slice (some ⟨w.heap.size, 0, none⟩) n n) (w.alloc (.cells (ecs (List.replicate n E.zero)).toArray 45)) := by
  obtain ⟨i0, hi, hz0, hz1, hz2⟩ := info_parts info_ent
  have h := run_make (P := Tryz.prog) w 33 45 i0 _ Tryz.underlying33 hi hz0 .i64 .i64 (n : Int) (n : Int) (by omega) (Int.le_refl _) (by rw [hz2]; omega) (by omega)
  rw [Int.toNat_natCast, hz1] at h
  rw [h, ← made_ecs]
  rfl
end Go.Proofs.YtjkofciohehgfaaGreatDoor.L7


/- Entries compared, like and unlike ones. -/
namespace Go.Proofs.YtjkofciohehgfaaGreatDoor.L7
open Go.RowKit
open SK

def eqB (a b : E) : Bool := (a.key.toList == b.key.toList) && (a.seq == b.seq) && (a.gone == b.gone) && (a.value.toList == b.value.toList) && (a.til == b.til)
theorem eqB_iff (a b : E) : eqB a b = true ↔ a = b := by
  obtain ⟨k, q, g, v, t⟩ := a
  obtain ⟨k', q', g', v', t'⟩ := b
  simp only [eqB, Bool.and_eq_true, beq_iff_eq, E.mk.injEq, ByteArray.toList_eq]
  constructor
  · rintro ⟨⟨⟨⟨h1, h2⟩, h3⟩, h4⟩, h5⟩
    exact ⟨str_ext h1, h2, h3, str_ext h4, h5⟩
  · rintro ⟨rfl, rfl, rfl, rfl, rfl⟩
    exact ⟨⟨⟨⟨rfl, rfl⟩, rfl⟩, rfl⟩, rfl⟩

theorem ent_any (W : World) (k k' : ByteArray) (q q' : Int) (g g' : Bool) (v v' : ByteArray) (t t' : Int) : (binOp .neq 45 (.agg #[.string k, .int .i64 q, .bool g, .string v, .int .i64 t]) (.agg #[.string k', .int .i64 q', .bool g', .string v', .int .i64 t'])).run Tryz.prog W = .ok (.bool (!eqB ⟨k, q, g, v, t⟩ ⟨k', q', g', v', t'⟩)) W := by
  have ub := Tryz.underlying4
  have ui := Tryz.underlying2
  have us := Tryz.underlying9
  rw [run_neq_struct, run_equalIn_agg W 9999 45 _ _ (by kernel_rfl) (by kernel_rfl)]
  unfold Program.fieldsOf
  rw [Tryz.underlying45]
  have e0 : ∀ W, (Go.part 9 #[.string k, .int .i64 q, .bool g, .string v, .int .i64 t] 0).run Tryz.prog W = .ok (.string k) W := fun W => by simp [Go.part, isAgg, run_underlying us]
  have e1 : ∀ W, (Go.part 2 #[.string k, .int .i64 q, .bool g, .string v, .int .i64 t] 1).run Tryz.prog W = .ok (.int .i64 q) W := fun W => by simp [Go.part, isAgg, run_underlying ui]
  have e2 : ∀ W, (Go.part 4 #[.string k, .int .i64 q, .bool g, .string v, .int .i64 t] 2).run Tryz.prog W = .ok (.bool g) W := fun W => by simp [Go.part, isAgg, run_underlying ub]
  have e3 : ∀ W, (Go.part 9 #[.string k, .int .i64 q, .bool g, .string v, .int .i64 t] 3).run Tryz.prog W = .ok (.string v) W := fun W => by simp [Go.part, isAgg, run_underlying us]
  have e4 : ∀ W, (Go.part 2 #[.string k, .int .i64 q, .bool g, .string v, .int .i64 t] 4).run Tryz.prog W = .ok (.int .i64 t) W := fun W => by simp [Go.part, isAgg, run_underlying ui]
  have f0 : ∀ W, (Go.part 9 #[.string k', .int .i64 q', .bool g', .string v', .int .i64 t'] 0).run Tryz.prog W = .ok (.string k') W := fun W => by simp [Go.part, isAgg, run_underlying us]
  have f1 : ∀ W, (Go.part 2 #[.string k', .int .i64 q', .bool g', .string v', .int .i64 t'] 1).run Tryz.prog W = .ok (.int .i64 q') W := fun W => by simp [Go.part, isAgg, run_underlying ui]
  have f2 : ∀ W, (Go.part 4 #[.string k', .int .i64 q', .bool g', .string v', .int .i64 t'] 2).run Tryz.prog W = .ok (.bool g') W := fun W => by simp [Go.part, isAgg, run_underlying ub]
  have f3 : ∀ W, (Go.part 9 #[.string k', .int .i64 q', .bool g', .string v', .int .i64 t'] 3).run Tryz.prog W = .ok (.string v') W := fun W => by simp [Go.part, isAgg, run_underlying us]
  have f4 : ∀ W, (Go.part 2 #[.string k', .int .i64 q', .bool g', .string v', .int .i64 t'] 4).run Tryz.prog W = .ok (.int .i64 t') W := fun W => by simp [Go.part, isAgg, run_underlying ui]
  unfold eqB
  cases h0 : (k.toList == k'.toList) <;> cases h1 : (q == q') <;> cases h2 : (g == g') <;> cases h3 : (v.toList == v'.toList) <;> cases h4 : (t == t') <;>
    simp [Op.eqFields, e0, e1, e2, e3, e4, f0, f1, f2, f3, f4, h0, h1, h2, h3, h4, run_equalIn_bool' _ _ _ _ _ ub, run_equalIn_int _ _ _ _ _ _ _ ui, run_equalIn_string _ _ _ _ _ us, Result.andThen]
end Go.Proofs.YtjkofciohehgfaaGreatDoor.L7


