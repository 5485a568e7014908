/- A table whose texts are memory of their own; is there such a level? -/
import Derived.Test.YtfodbblcflolgaaVa
import Derived.Test.YtfodbblcflolgaaClone
namespace Go.Proofs.Ytfodbblcflolgaa
open Go.RowKit
open VS

/-- a store of what is there leaves the world -/
theorem set_same {w : World} {b j : Nat} {u : Value} (h : w.cell? ⟨b, j, none⟩ = some u) : w.setCell ⟨b, j, none⟩ u = w := by
  obtain ⟨cs, ty, fr, hb, hj⟩ : ∃ cs ty fr, w.heap[b]? = some (.cells cs ty fr) ∧ cs[j]? = some u := by
    unfold World.cell? at h
    cases hh : w.heap[b]? with
    | none => simp [hh] at h
    | some o =>
      cases o with
      | cells cs ty fr => exact ⟨cs, ty, fr, rfl, by simpa [hh] using h⟩
      | _ => simp [hh] at h
  obtain ⟨heap, tape, drawn, os, output⟩ := w
  simp only [World.setCell, World.mk.injEq, and_true]
  simp only at hb
  apply Array.ext_getElem?
  intro i
  rw [Array.getElem?_modify]
  split
  · rename_i hi
    subst hi
    rw [hb]
    simp only [Option.map_some, Option.isSome_none, Bool.false_eq_true, if_false, Option.some.injEq, Obj.cells.injEq, and_true]
    apply Array.ext_getElem?
    intro i
    rw [Array.getElem?_setIfInBounds]
    split
    · rename_i hi
      subst hi
      rw [hj]
      split
      · rfl
      · rename_i hlt
        rw [Array.getElem?_eq_some_iff] at hj
        exact absurd hj.1 hlt
    · rfl
  · rfl

theorem isLevel_any (z : Int) (w : World) : Calls Try.prog 47 #[.int .i64 z] w fun e w' => e = .returned (.bool (decide (0 ≤ z ∧ z < 4))) ∧ w = w' := by
  by_cases h0 : 0 ≤ z
  · by_cases h1 : z < 4
    · have HR : Hid (decide (0 ≤ z ∧ z < 4) = true) := Lib.hid (by simp; omega)
      rw [HR.out]
      go_enter Try.func47, Try.ntmps47
      go_wp2
      go_ret
      exact ⟨rfl, rfl⟩
    · have HR : Hid (decide (0 ≤ z ∧ z < 4) = false) := Lib.hid (by simp; omega)
      rw [HR.out]
      go_enter Try.func47, Try.ntmps47
      go_wp2
      go_ret
      exact ⟨rfl, rfl⟩
  · have HR : Hid (decide (0 ≤ z ∧ z < 4) = false) := Lib.hid (by simp; omega)
    rw [HR.out]
    go_enter Try.func47, Try.ntmps47
    go_wp2
    go_ret
    exact ⟨rfl, rfl⟩

set_option maxRecDepth 100000 in
set_option maxHeartbeats 2000000 in
theorem mclone_any (q g : Int) (k v : ByteArray) (w : World) (h1 : k.size ≤ 281474976710656) (h2 : v.size ≤ 281474976710656) :
    Calls Try.prog 46 #[.agg #[.int .i64 q, .int .i64 g, .string k, .string v]] w fun e w' => e = .returned (.agg #[.int .i64 q, .int .i64 g, .string k, .string v]) ∧ Below w.heap.size w w' := by
  have H1 : Hid (∀ W, Calls Try.prog 65 #[.string k] W fun e w' => e = .returned (.string k) ∧ Below W.heap.size W w') := fun W => clone_any k W h1
  have H2 : Hid (∀ W, Calls Try.prog 65 #[.string v] W fun e w' => e = .returned (.string v) ∧ Below W.heap.size W w') := fun W => clone_any v W h2
  clear h1 h2
  obtain ⟨x, hx⟩ : ∃ x, w.heap.size = x := ⟨_, rfl⟩
  go_enter Try.func46, Try.ntmps46
  go_wp2_with fail
  have hrow : ((w.alloc (.cells #[.int .i64 q, .int .i64 g, .string k, .string v] 64)).alloc (.cells #[.int .i64 0, .int .i64 0, .string ⟨#[]⟩, .string ⟨#[]⟩] 64)).heap[x]? = some (.cells #[.int .i64 q, .int .i64 g, .string k, .string v] 64 (0, 0)) := by
    subst hx
    rw [Below.heap_alloc _ _ _ (by simp)]; exact heap_alloc_new w _
  have hrow2 : ((w.alloc (.cells #[.int .i64 q, .int .i64 g, .string k, .string v] 64)).alloc (.cells #[.int .i64 0, .int .i64 0, .string ⟨#[]⟩, .string ⟨#[]⟩] 64)).heap[x + 1]? = some (.cells #[.int .i64 0, .int .i64 0, .string ⟨#[]⟩, .string ⟨#[]⟩] 64 (0, 0)) := by
    subst hx
    have := heap_alloc_new (w.alloc (.cells #[.int .i64 q, .int .i64 g, .string k, .string v] 64)) (.cells #[.int .i64 0, .int .i64 0, .string ⟨#[]⟩, .string ⟨#[]⟩] 64)
    simpa using this
  have hbel : Below x w ((w.alloc (.cells #[.int .i64 q, .int .i64 g, .string k, .string v] 64)).alloc (.cells #[.int .i64 0, .int .i64 0, .string ⟨#[]⟩, .string ⟨#[]⟩] 64)) := by
    subst hx
    exact ((Below.refl _ w).alloc (Nat.le_refl _) _).alloc (by simp) _
  have hsz : ((w.alloc (.cells #[.int .i64 q, .int .i64 g, .string k, .string v] 64)).alloc (.cells #[.int .i64 0, .int .i64 0, .string ⟨#[]⟩, .string ⟨#[]⟩] 64)).heap.size = x + 2 := by
    subst hx; simp
  generalize (w.alloc (.cells #[.int .i64 q, .int .i64 g, .string k, .string v] 64)).alloc (.cells #[.int .i64 0, .int .i64 0, .string ⟨#[]⟩, .string ⟨#[]⟩] 64) = W0 at hrow hrow2 hbel hsz ⊢
  have z0 : W0.cell? ⟨x, 2, none⟩ = some (.string k) := cell_of_row _ _ _ _ _ _ hrow
  have z3 : W0.cell? ⟨x, 3, none⟩ = some (.string v) := cell_of_row _ _ _ _ _ _ hrow
  have f0 : W0.frozen? ⟨x, 2, none⟩ = false := frozen_of_row _ _ _ _ _ hrow
  have f3 : W0.frozen? ⟨x, 3, none⟩ = false := frozen_of_row _ _ _ _ _ hrow
  have HR := Lib.hid hrow
  have HR2 := Lib.hid hrow2
  have HBL := Lib.hid hbel
  have HSZ := Lib.hid hsz
  have HX := Lib.hid hx
  clear hrow hrow2 hbel hsz hx
  have HB1 : Hid (Below W0.heap.size W0 W0) := Below.refl _ _
  go_region_held3 (fun w' => w'.cell? ⟨x, 2, none⟩ = some (.string k) ∧ w'.cell? ⟨x, 3, none⟩ = some (.string v) ∧ w'.frozen? ⟨x, 2, none⟩ = false ∧ w'.frozen? ⟨x, 3, none⟩ = false)
    (first | go_keep | exact ⟨d0, d3, e0, e3⟩ | exact ⟨i0, i3, j0, j3⟩ | (refine ⟨?_, ?_, ?_, ?_⟩ <;> simp [*]) | fail)
    (first
      | (go_at_call 65
         refine (H1.out _).mono ?_
         rintro e w1 ⟨rfl, hb⟩
         have d0 : w1.cell? ⟨x, 2, none⟩ = some (.string k) := (hb.cell (p := ⟨x, 2, none⟩) (by have := HSZ.out; simp; omega)).trans z0
         have d3 : w1.cell? ⟨x, 3, none⟩ = some (.string v) := (hb.cell (p := ⟨x, 3, none⟩) (by have := HSZ.out; simp; omega)).trans z3
         have e0 : w1.frozen? ⟨x, 2, none⟩ = false := (hb.frozen (p := ⟨x, 2, none⟩) (by have := HSZ.out; simp; omega)).trans f0
         have e3 : w1.frozen? ⟨x, 3, none⟩ = false := (hb.frozen (p := ⟨x, 3, none⟩) (by have := HSZ.out; simp; omega)).trans f3
         have HC1 : Hid (Below W0.heap.size W0 w1) := Lib.hid (Below.trans ((Below.refl _ W0).drew) hb)
         clear hb)
      | (go_at_call 65
         refine (H2.out _).mono ?_
         rintro e w2 ⟨rfl, hb⟩
         have hlt1 : x + 2 ≤ w1.heap.size := by have := HSZ.out; have := HC1.out.size; omega
         have i0 : w2.cell? ⟨x, 2, none⟩ = some (.string k) := (hb.cell (p := ⟨x, 2, none⟩) (by simp; omega)).trans d0
         have i3 : w2.cell? ⟨x, 3, none⟩ = some (.string v) := (hb.cell (p := ⟨x, 3, none⟩) (by simp; omega)).trans d3
         have j0 : w2.frozen? ⟨x, 2, none⟩ = false := (hb.frozen (p := ⟨x, 2, none⟩) (by simp; omega)).trans e0
         have j3 : w2.frozen? ⟨x, 3, none⟩ = false := (hb.frozen (p := ⟨x, 3, none⟩) (by simp; omega)).trans e3
         have hs0 : w2.setCell ⟨x, 2, none⟩ (.string k) = w2 := set_same i0
         have hs3 : w2.setCell ⟨x, 3, none⟩ (.string v) = w2 := set_same i3
         have HC2 : Hid (Below W0.heap.size W0 w2) := Lib.hid (HC1.out.trans (hb.mono HC1.out.size))
         clear hb)
      | fail)
  all_goals
    have hr : w2.heap[x]? = some (.cells #[.int .i64 q, .int .i64 g, .string k, .string v] 64 (0, 0)) := (HC2.out.block x (by have := HSZ.out; omega)).trans HR.out
    have hr2 : w2.heap[x + 1]? = some (.cells #[.int .i64 0, .int .i64 0, .string ⟨#[]⟩, .string ⟨#[]⟩] 64 (0, 0)) := (HC2.out.block (x + 1) (by have := HSZ.out; omega)).trans HR2.out
    have hend : Below w.heap.size w w2 := by
      rw [HX.out]
      exact HBL.out.trans (HC2.out.mono (by have := HSZ.out; omega))
    have HEND := Lib.hid hend
    have y0 : w2.cell? ⟨x, 0, none⟩ = some (.int .i64 q) := cell_of_row _ _ _ _ _ _ hr
    have y1 : w2.cell? ⟨x, 1, none⟩ = some (.int .i64 g) := cell_of_row _ _ _ _ _ _ hr
    have y2 : w2.cell? ⟨x, 2, none⟩ = some (.string k) := cell_of_row _ _ _ _ _ _ hr
    have y3 : w2.cell? ⟨x, 3, none⟩ = some (.string v) := cell_of_row _ _ _ _ _ _ hr
    have n0 : w2.cell? ⟨x + 1, 0, none⟩ = some (.int .i64 0) := cell_of_row _ _ _ _ _ _ hr2
    have n1 : w2.cell? ⟨x + 1, 1, none⟩ = some (.int .i64 0) := cell_of_row _ _ _ _ _ _ hr2
    have n2 : w2.cell? ⟨x + 1, 2, none⟩ = some (.string ⟨#[]⟩) := cell_of_row _ _ _ _ _ _ hr2
    have n3 : w2.cell? ⟨x + 1, 3, none⟩ = some (.string ⟨#[]⟩) := cell_of_row _ _ _ _ _ _ hr2
    have g0 : w2.frozen? ⟨x + 1, 0, none⟩ = false := frozen_of_row _ _ _ _ _ hr2
    have g1 : w2.frozen? ⟨x + 1, 1, none⟩ = false := frozen_of_row _ _ _ _ _ hr2
    have g2 : w2.frozen? ⟨x + 1, 2, none⟩ = false := frozen_of_row _ _ _ _ _ hr2
    have g3 : w2.frozen? ⟨x + 1, 3, none⟩ = false := frozen_of_row _ _ _ _ _ hr2
    have HEND2 : Hid (∀ v0 v1 v2 v3, Below w.heap.size w ((((w2.setCell ⟨x + 1, 0, none⟩ v0).setCell ⟨x + 1, 1, none⟩ v1).setCell ⟨x + 1, 2, none⟩ v2).setCell ⟨x + 1, 3, none⟩ v3)) := fun v0 v1 v2 v3 => by
      have hle : w.heap.size ≤ x + 1 := by rw [HX.out]; omega
      exact (((hend.setCell (p := ⟨x + 1, 0, none⟩) hle v0).setCell (p := ⟨x + 1, 1, none⟩) hle v1).setCell (p := ⟨x + 1, 2, none⟩) hle v2).setCell (p := ⟨x + 1, 3, none⟩) hle v3
    clear hr hr2 hend hs0 hs3 hlt1 d0 d3 e0 e3 i0 i3 j0 j3 z0 z3 f0 f3
    go_wp2
    exact bodyPost_ret (v := .agg #[.int .i64 q, .int .i64 g, .string k, .string v]) (by simp [results, Try.results46, go_sem, *]) rfl ⟨rfl, HEND2.out _ _ _ _⟩
end Go.Proofs.Ytfodbblcflolgaa
