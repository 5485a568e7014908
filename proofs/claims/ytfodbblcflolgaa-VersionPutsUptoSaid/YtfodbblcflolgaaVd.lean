/- The files that are there, in a map; a version as it is handed in. -/
import Derived.Test.YtfodbblcflolgaaVc
import Derived.Maps.OwnOps
import Derived.Maps.Views
namespace Go.Proofs.Ytfodbblcflolgaa
open Go.RowKit Go.Maps
open VS
attribute [local go_sem ↓] Go.wp_at_zero Go.wp_at_succ

/-! ### the map -/
theorem keyed64 : Keyed Try.prog 2 := int_keyed Try.underlying2
theorem zeroFate (w : World) : (zeroValue 125).run Try.prog w = .ok (.int .i64 0) w := by kernel_rfl
theorem wf64 {z : Int} (h : i64 z) : (Lit.int .i64 z).wf = true := by
  obtain ⟨h1, h2⟩ := h
  simp [Lit.wf, IntKind.min, IntKind.max, IntKind.signed, IntKind.bits]
  omega
abbrev OwnF (w : World) (b n : Nat) (D : DataW Unit) : Prop := w.ownsMap Try.prog 2 (plainElem Try.prog 125) b n D

/-- block b is a map that has at each file this fate -/
structure Fm (w : World) (b n : Nat) (st : Int → Int) : Prop where
  own : ∃ D, OwnF w b n D ∧ ∀ z, D.atKey (.int .i64 z) (.lit (.int .i64 0)) = .lit (.int .i64 (st z))

theorem Fm.made (w : World) : Fm (w.alloc (.map #[] 0)) w.heap.size 0 (fun _ => 0) :=
  ⟨⟨_, World.ownsMap_made _ _ _ _, fun _ => rfl⟩⟩
section
variable {w w' : World} {b n : Nat} {st : Int → Int}
theorem Fm.lt (h : Fm w b n st) : b < w.heap.size := by obtain ⟨D, h1, -⟩ := h.own; exact h1.lt
theorem Fm.below (h : Fm w b n st) (hb : Below w.heap.size w w') : Fm w' b n st := by
  obtain ⟨D, h1, h2⟩ := h.own
  obtain ⟨es, clock, hbk, F, hs, hD⟩ := h1
  exact ⟨⟨D, ⟨es, clock, (hb.block b (Array.getElem?_eq_some_iff.1 hbk).1).trans hbk, F, hs, hD⟩, h2⟩⟩
theorem Fm.grown (h : Fm w b n st) {r : Option Nat} (hg : w.grownBy w' r) (hr : r ≠ some b) : Fm w' b n st := by
  obtain ⟨D, h1, h2⟩ := h.own
  obtain ⟨es, clock, hbk, F, hs, hD⟩ := h1
  exact ⟨⟨D, ⟨es, clock, (hg.block b (Array.getElem?_eq_some_iff.1 hbk).1 hr.symm).trans hbk, F, hs, hD⟩, h2⟩⟩
theorem Fm.look (h : Fm w b n st) {z : Int} (hz : i64 z) : (Instr.lookup 84 (.map (some b)) (.int .i64 z) false).run Try.prog w = .ok (.int .i64 (st z)) w := by
  obtain ⟨D, h1, h2⟩ := h.own
  obtain ⟨c, hrun, hat, -⟩ := h1.lookup_int keyed64 Try.underlying84 Try.underlying125 (zeroFate w) (keyOf_int_mk Try.underlying2 (wf64 hz))
  rw [hrun]
  rw [h2 z] at hat
  simp only [DataW.lit.injEq, Lit.int.injEq, true_and] at hat
  rw [hat]
theorem Fm.put (h : Fm w b n st) (hn : n < maxLen) {z : Int} (hz : i64 z) {f : Int} (hf : i64 f) :
    ∃ w', (Instr.mapUpdate 84 (.map (some b)) (.int .i64 z) (.int .i64 f)).run Try.prog w = .ok () w' ∧ Fm w' b (n + 1) (fun x => if x = z then f else st x) ∧ w.grownBy w' (some b) := by
  obtain ⟨D, h1, h2⟩ := h.own
  obtain ⟨w', hrun, hown, hg⟩ := h1.update keyed64 Try.underlying84 hn (keyOf_int_mk Try.underlying2 (wf64 hz)) (plainElem_int Try.underlying125 (wf64 hf))
  refine ⟨w', hrun, ⟨⟨_, hown, fun x => ?_⟩⟩, hg⟩
  by_cases hx : x = z
  · subst hx
    rw [if_pos rfl]
    exact Maps.atKey_put_same h1.isMap (by simp [WideAt.IsKeyLit]) _ _
  · rw [if_neg hx, Maps.atKey_put_other (by simpa using hx)]
    exact h2 x
end

/-! ### a version as it is handed in -/
structure VerIn (w : World) (A : Nat → Option Addr) (N C : Nat → Nat) (L : List M) : Prop where
  len : ∀ k : Nat, k < 4 → N k = (lev k L).length
  cap : ∀ k : Nat, k < 4 → N k ≤ C k
  at_ : ∀ k : Nat, k < 4 → In4 w (A k) (lev k L)

theorem VerIn.below {w w' : World} {A : Nat → Option Addr} {N C : Nat → Nat} {L : List M} (h : VerIn w A N C L) (hb : Below w.heap.size w w') : VerIn w' A N C L :=
  ⟨h.len, h.cap, fun k hk => (h.at_ k hk).below hb⟩

theorem arr_index (A : Nat → Option Addr) (N C : Nat → Nat) {k : Nat} (hk : k < 4) (W : World) :
    (Instr.index 24 (.agg #[.slice (A 0) (N 0) (C 0), .slice (A 1) (N 1) (C 1), .slice (A 2) (N 2) (C 2), .slice (A 3) (N 3) (C 3)]) (.int .i64 k)).run Try.prog W = .ok (.slice (A k) (N k) (C k)) W := by
  rcases (by omega : k = 0 ∨ k = 1 ∨ k = 2 ∨ k = 3) with rfl | rfl | rfl | rfl <;> kernel_rfl

namespace VS
/-- the first levels' tables -/
def front (L : List M) : Nat → List M
  | 0 => []
  | k + 1 => front L k ++ lev k L
theorem front_four (L : List M) : front L 4 = lev 0 L ++ lev 1 L ++ lev 2 L ++ lev 3 L := by simp [front]
theorem front_len (L : List M) : ∀ k : Nat, (front L k).length ≤ k * L.length
  | 0 => by simp [front]
  | k + 1 => by
    have h1 := front_len L k
    have h2 : (lev k L).length ≤ L.length := List.length_filter_le _ _
    simp only [front, List.length_append, Nat.add_mul]
    omega
theorem lev_len (k : Int) (L : List M) : (lev k L).length ≤ L.length := List.length_filter_le _ _
/-- 1 at the files of these tables -/
def stays (l : List M) (z : Int) : Int := if z ∈ files l then 1 else 0
theorem stays_snoc (l : List M) (m : M) : (fun x => if x = m.file then 1 else stays l x) = stays (l ++ [m]) := by
  funext x
  unfold stays
  rw [files_append]
  by_cases h : x = m.file
  · simp [h, files]
  · simp [h, files]
end VS
end Go.Proofs.Ytfodbblcflolgaa
