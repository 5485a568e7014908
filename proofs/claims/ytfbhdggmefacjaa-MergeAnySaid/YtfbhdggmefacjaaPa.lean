/- Four rows of entries in an array of slices: each grows by append. -/
import Derived.Test.YtfbhdggmefacjaaWk
import Derived.Deep.RegionLaw
namespace Go.Proofs.Ytfbhdggmefacjaa
open Go.RowKit
open SK HP VB

def upd {α : Type} (f : Nat → α) (k : Nat) (x : α) : Nat → α := fun i => if i = k then x else f i
theorem upd_same {α : Type} (f : Nat → α) (k : Nat) (x : α) : upd f k x k = x := by simp [upd]
theorem upd_other {α : Type} (f : Nat → α) {k i : Nat} (x : α) (h : i ≠ k) : upd f k x i = f i := by simp [upd, h]

structure Parts (y : Nat) (w : World) (v : Nat → Value) (p : Nat → List E) : Prop where
  row : w.heap[y]? = some (.cells #[v 0, v 1, v 2, v 3] 23 (0, 0))
  own : ∀ k, k < 4 → w.ownsRow (y + 1) 37 5 (v k) (p k).length (ecs (p k))
  apart : ∀ i j, i < 4 → j < 4 → i ≠ j → ∀ g, (v i).ownBlock = some g → (v j).ownBlock ≠ some g

theorem Parts.lt {y : Nat} {w : World} {v : Nat → Value} {p : Nat → List E} (h : Parts y w v p) : y < w.heap.size := (Array.getElem?_eq_some_iff.1 h.row).1
theorem Parts.below {y : Nat} {w w' : World} {v : Nat → Value} {p : Nat → List E} (h : Parts y w v p) (hb : Below w.heap.size w w') : Parts y w' v p :=
  ⟨(hb.block y h.lt).trans h.row, fun k hk => own_below (h.own k hk) hb, h.apart⟩
theorem Parts.cell {y : Nat} {w : World} {v : Nat → Value} {p : Nat → List E} (h : Parts y w v p) {k : Nat} (hk : k < 4) : w.cell? ⟨y, k, none⟩ = some (v k) := by
  rcases (by omega : k = 0 ∨ k = 1 ∨ k = 2 ∨ k = 3) with rfl | rfl | rfl | rfl <;> simp [World.cell?, h.row]
theorem row_upd (v : Nat → Value) {k : Nat} (hk : k < 4) (x : Value) : (#[v 0, v 1, v 2, v 3] : Array Value).setIfInBounds k x = #[upd v k x 0, upd v k x 1, upd v k x 2, upd v k x 3] := by
  rcases (by omega : k = 0 ∨ k = 1 ∨ k = 2 ∨ k = 3) with rfl | rfl | rfl | rfl <;> simp [upd]

set_option maxHeartbeats 1000000 in
theorem Parts.app {y : Nat} {w W7 : World} {v : Nat → Value} {p : Nat → List E} (h : Parts y w v p) {k : Nat} (hk : k < 4) (hlen : (p k).length ≤ 1000000) (h7 : Below w.heap.size w W7) (e : SK.E) :
    ∃ A6 c6 w8, (Builtin.append_ #[23, 23] 23 #[v k, .slice (some ⟨W7.heap.size, 0, none⟩) 1 1]).run Try.prog (W7.alloc (.cells #[.string e.key, .int .i64 e.seq, .bool e.gone, .string e.value, .int .i64 e.til] 37)) = .ok (.slice A6 ((p k).length + 1) c6) w8 ∧
      w8.cell? ⟨y, k, none⟩ = some (v k) ∧ w8.frozen? ⟨y, k, none⟩ = false ∧ Below y w (w8.setCell ⟨y, k, none⟩ (.slice A6 ((p k).length + 1) c6)) ∧ Parts y (w8.setCell ⟨y, k, none⟩ (.slice A6 ((p k).length + 1) c6)) (upd v k (.slice A6 ((p k).length + 1) c6)) (upd p k (p k ++ [e])) := by
  obtain ⟨i0, hi0, hz0, hz1, hz2⟩ := info_parts info_ent
  have hyl := h.lt
  have how7 := own_below (h.own k hk) h7
  have hsz := h7.size
  obtain ⟨v', w8, happ, hown8, hg8, -, hloc⟩ := run_append_own_at (P := Try.prog) (W7.alloc (.cells #[.string e.key, .int .i64 e.seq, .bool e.gone, .string e.value, .int .i64 e.til] 37)) (y + 1) 23 23 37 i0 _ 5 56 Try.underlying23 hi0 hz0 hz1 hz2 rfl (by decide) (v k) (p k).length _ (how7.alloc _)
    ⟨W7.heap.size, 0, none⟩ 1 1 (SK.E.cells e) rfl (ent_cells W7 e _) (ent_one _) (by unfold maxLen; omega) (by omega) (by simp; omega)
  obtain ⟨A6, c6, rfl⟩ : ∃ A6 c6, v' = .slice A6 ((p k).length + 1) c6 := own_shape hown8
  have hb7 : Below w.heap.size w (W7.alloc (.cells #[.string e.key, .int .i64 e.seq, .bool e.gone, .string e.value, .int .i64 e.til] 37)) := h7.alloc hsz _
  have hvk : some y ≠ (v k).ownBlock := fun he => by
    have := (how7.lt y he.symm).1
    omega
  have hrow8 : w8.heap[y]? = some (.cells #[v 0, v 1, v 2, v 3] 23 (0, 0)) := (hg8.block y (Nat.lt_of_lt_of_le hyl hb7.size) hvk).trans ((hb7.block y hyl).trans h.row)
  have hrow9 : (w8.setCell ⟨y, k, none⟩ (.slice A6 ((p k).length + 1) c6)).heap[y]? = some (.cells #[upd v k (.slice A6 ((p k).length + 1) c6) 0, upd v k (.slice A6 ((p k).length + 1) c6) 1, upd v k (.slice A6 ((p k).length + 1) c6) 2, upd v k (.slice A6 ((p k).length + 1) c6) 3] 23 (0, 0)) := by
    rw [heap_set_fr hrow8, row_upd v hk]
  have hset := grownBy_setCell w8 ⟨y, k, none⟩ (.slice A6 ((p k).length + 1) c6)
  have hs9 := hb7.size
  have hs8 := hg8.size
  refine ⟨A6, c6, w8, happ, ?_, ?_, ?_, hrow9, fun i hi => ?_, fun i j hi hj hne g hg => ?_⟩
  · rcases (by omega : k = 0 ∨ k = 1 ∨ k = 2 ∨ k = 3) with rfl | rfl | rfl | rfl <;> simp [World.cell?, hrow8]
  · exact frozen_of_row _ _ _ _ _ hrow8
  · exact ((hb7.mono (Nat.le_of_lt hyl)).grown hg8 (by omega) (fun r e => by have := (how7.lt r e).1; omega)).grown hset (by omega) (fun r e => by cases e; exact Nat.le_refl _)
  · by_cases hik : i = k
    · subst hik
      rw [upd_same, upd_same, ecs_snoc, List.length_append]
      refine hown8.kept hset (.inr fun e => ?_)
      have := (hown8.lt y (by rw [e])).1
      omega
    · rw [upd_other v _ hik, upd_other p _ hik]
      have h1 := own_below (h.own i hi) hb7
      have h2 := h1.kept hg8 (by
        cases hv : (v i).ownBlock with
        | none => exact .inl rfl
        | some g => exact .inr (fun e => h.apart i k hi hk hik g hv e.symm))
      refine h2.kept hset (.inr fun e => ?_)
      have := (h2.lt y (by rw [e])).1
      omega
  · by_cases hik : i = k
    · subst hik
      rw [upd_same] at hg
      rw [upd_other v _ (Ne.symm hne)]
      rcases hloc with hl | hl
      · rw [hl] at hg
        exact h.apart i j hi hj hne g hg
      · rw [hl] at hg
        cases hg
        intro e
        have := ((h.own j hj).lt _ e).2
        omega
    · rw [upd_other v _ hik] at hg
      by_cases hjk : j = k
      · subst hjk
        rw [upd_same]
        rcases hloc with hl | hl
        · rw [hl]; exact h.apart i j hi hj hne g hg
        · rw [hl]
          intro e
          cases e
          have := ((h.own i hi).lt _ hg).2
          omega
      · rw [upd_other v _ hjk]; exact h.apart i j hi hj hne g hg
end Go.Proofs.Ytfbhdggmefacjaa
