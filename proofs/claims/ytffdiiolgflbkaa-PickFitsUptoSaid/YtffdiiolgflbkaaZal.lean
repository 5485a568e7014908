/- Texts joined by bundle.py: Vc, Vd, Vh. -/
import Derived.Test.YtffdiiolgflbkaaZak
import Derived.Deep.RegionLaw
import Derived.StillTailTactics
import Derived.Maps.OwnOps
import Derived.Maps.Views
import Derived.Laws.Cover1
import Derived.Laws.Strings

/- A version in the making: four rows of tables in one block; a level has a table more. -/
namespace Go.Proofs.Ytffdiiolgflbkaa
open Go.RowKit
open VS

def upd {α : Type} (f : Nat → α) (k : Nat) (x : α) : Nat → α := fun i => if i = k then x else f i
theorem upd_same {α : Type} (f : Nat → α) (k : Nat) (x : α) : upd f k x k = x := by simp [upd]
theorem upd_other {α : Type} (f : Nat → α) {k i : Nat} (x : α) (h : i ≠ k) : upd f k x i = f i := by simp [upd, h]

structure Nxt (y : Nat) (w : World) (v : Nat → Value) (p : Nat → List M) (lg nx sq : Int) : Prop where
  row : w.heap[y]? = some (.cells #[v 0, v 1, v 2, v 3, .int .i64 lg, .int .i64 nx, .int .i64 sq] 26 (0, 0))
  own : ∀ k, k < 4 → w.ownsRow (y + 1) 64 4 (v k) (p k).length (cs4 (p k))
  apart : ∀ i j, i < 4 → j < 4 → i ≠ j → ∀ g, (v i).ownBlock = some g → (v j).ownBlock ≠ some g
  wf : ∀ k, k < 4 → ∀ m ∈ p k, m.wf

section
variable {y : Nat} {w w' : World} {v : Nat → Value} {p : Nat → List M} {lg nx sq : Int}
theorem Nxt.lt (h : Nxt y w v p lg nx sq) : y < w.heap.size := (Array.getElem?_eq_some_iff.1 h.row).1
theorem Nxt.below (h : Nxt y w v p lg nx sq) (hb : Below w.heap.size w w') : Nxt y w' v p lg nx sq :=
  ⟨(hb.block y h.lt).trans h.row, fun k hk => own_below (h.own k hk) hb, h.apart, h.wf⟩
theorem Nxt.cell (h : Nxt y w v p lg nx sq) {k : Nat} (hk : k < 4) : w.cell? ⟨y, k, none⟩ = some (v k) := by
  rcases (by omega : k = 0 ∨ k = 1 ∨ k = 2 ∨ k = 3) with rfl | rfl | rfl | rfl <;> simp [World.cell?, h.row]
theorem Nxt.froz (h : Nxt y w v p lg nx sq) (k : Nat) : w.frozen? ⟨y, k, none⟩ = false := frozen_of_row _ _ _ _ _ h.row
end
theorem row_upd (v : Nat → Value) {k : Nat} (hk : k < 4) (x a b c : Value) : (#[v 0, v 1, v 2, v 3, a, b, c] : Array Value).setIfInBounds k x = #[upd v k x 0, upd v k x 1, upd v k x 2, upd v k x 3, a, b, c] := by
  rcases (by omega : k = 0 ∨ k = 1 ∨ k = 2 ∨ k = 3) with rfl | rfl | rfl | rfl <;> simp [upd]

theorem cells4 (W : World) (m : M) (t : TypeId) : ∀ j u, (M.c4 m)[j]? = some u → (W.alloc (.cells #[.int .i64 m.file, .int .i64 m.size, .string m.lo, .string m.hi] t)).cell? ((⟨W.heap.size, 0, none⟩ : Addr).add j) = some u := by
  intro j u hj
  rw [addr_add0]
  have hr := heap_alloc_new W (.cells #[.int .i64 m.file, .int .i64 m.size, .string m.lo, .string m.hi] t)
  rw [cell_of_row _ _ _ _ _ _ hr]
  simpa [M.c4] using hj
theorem one4 (m : M) : ∀ u ∈ M.c4 m, u.oneCell' = true := by
  intro u hu
  simp only [M.c4, List.mem_cons, List.not_mem_nil, or_false] at hu
  rcases hu with rfl | rfl | rfl | rfl <;> rfl
theorem cells5 (W : World) (m : M) (t : TypeId) : ∀ j u, (M.c5 m)[j]? = some u → (W.alloc (.cells #[.int .i64 m.lvl, .int .i64 m.file, .int .i64 m.size, .string m.lo, .string m.hi] t)).cell? ((⟨W.heap.size, 0, none⟩ : Addr).add j) = some u := by
  intro j u hj
  rw [addr_add0]
  have hr := heap_alloc_new W (.cells #[.int .i64 m.lvl, .int .i64 m.file, .int .i64 m.size, .string m.lo, .string m.hi] t)
  rw [cell_of_row _ _ _ _ _ _ hr]
  simpa [M.c5] using hj
theorem one5 (m : M) : ∀ u ∈ M.c5 m, u.oneCell' = true := by
  intro u hu
  simp only [M.c5, List.mem_cons, List.not_mem_nil, or_false] at hu
  rcases hu with rfl | rfl | rfl | rfl | rfl <;> rfl

set_option maxHeartbeats 1000000 in
theorem Nxt.app {y : Nat} {w W7 : World} {v : Nat → Value} {p : Nat → List M} {lg nx sq : Int} (h : Nxt y w v p lg nx sq) {k : Nat} (hk : k < 4) (hlen : (p k).length ≤ 10000000) (h7 : Below w.heap.size w W7) (e : M) (he : e.wf) :
    ∃ A6 c6 w8, (Builtin.append_ #[23, 23] 23 #[v k, .slice (some ⟨W7.heap.size, 0, none⟩) 1 1]).run Try.prog (W7.alloc (.cells #[.int .i64 e.file, .int .i64 e.size, .string e.lo, .string e.hi] 64)) = .ok (.slice A6 ((p k).length + 1) c6) w8 ∧
      w8.cell? ⟨y, k, none⟩ = some (v k) ∧ w8.frozen? ⟨y, k, none⟩ = false ∧ Below y w (w8.setCell ⟨y, k, none⟩ (.slice A6 ((p k).length + 1) c6)) ∧ Nxt y (w8.setCell ⟨y, k, none⟩ (.slice A6 ((p k).length + 1) c6)) (upd v k (.slice A6 ((p k).length + 1) c6)) (upd p k (p k ++ [e])) lg nx sq ∧ (∀ b, w.heap.size ≤ b → b < W7.heap.size → w8.heap[b]? = W7.heap[b]?) := by
  obtain ⟨i0, hi0, hz0, hz1, hz2⟩ := info_parts info_meta
  have hyl := h.lt
  have how7 := own_below (h.own k hk) h7
  have hsz := h7.size
  obtain ⟨v', w8, happ, hown8, hg8, -, hloc⟩ := run_append_own_at (P := Try.prog) (W7.alloc (.cells #[.int .i64 e.file, .int .i64 e.size, .string e.lo, .string e.hi] 64)) (y + 1) 23 23 64 i0 _ 4 48 Try.underlying23 hi0 hz0 hz1 hz2 rfl (by decide) (v k) (p k).length _ (how7.alloc _)
    ⟨W7.heap.size, 0, none⟩ 1 1 (M.c4 e) rfl (cells4 W7 e _) (one4 _) (by unfold maxLen; omega) (by omega) (by simp; omega)
  obtain ⟨A6, c6, rfl⟩ : ∃ A6 c6, v' = .slice A6 ((p k).length + 1) c6 := own_shape hown8
  have hb7 : Below w.heap.size w (W7.alloc (.cells #[.int .i64 e.file, .int .i64 e.size, .string e.lo, .string e.hi] 64)) := h7.alloc hsz _
  have hvk : some y ≠ (v k).ownBlock := fun he => by
    have := (how7.lt y he.symm).1
    omega
  have hrow8 : w8.heap[y]? = some (.cells #[v 0, v 1, v 2, v 3, .int .i64 lg, .int .i64 nx, .int .i64 sq] 26 (0, 0)) := (hg8.block y (Nat.lt_of_lt_of_le hyl hb7.size) hvk).trans ((hb7.block y hyl).trans h.row)
  have hrow9 : (w8.setCell ⟨y, k, none⟩ (.slice A6 ((p k).length + 1) c6)).heap[y]? = some (.cells #[upd v k (.slice A6 ((p k).length + 1) c6) 0, upd v k (.slice A6 ((p k).length + 1) c6) 1, upd v k (.slice A6 ((p k).length + 1) c6) 2, upd v k (.slice A6 ((p k).length + 1) c6) 3, .int .i64 lg, .int .i64 nx, .int .i64 sq] 26 (0, 0)) := by
    rw [heap_set_fr hrow8, row_upd v hk]
  have hset := grownBy_setCell w8 ⟨y, k, none⟩ (.slice A6 ((p k).length + 1) c6)
  have hs9 := hb7.size
  have hs8 := hg8.size
  refine ⟨A6, c6, w8, happ, ?_, ?_, ?_, ⟨hrow9, fun i hi => ?_, fun i j hi hj hne g hg => ?_, fun i hi m hm => ?_⟩, fun b hb1 hb2 => (hg8.block b (by simp; omega) (fun e => by have := ((h.own k hk).lt b e.symm).2; omega)).trans (Below.heap_alloc _ _ _ hb2)⟩
  · rcases (by omega : k = 0 ∨ k = 1 ∨ k = 2 ∨ k = 3) with rfl | rfl | rfl | rfl <;> simp [World.cell?, hrow8]
  · exact frozen_of_row _ _ _ _ _ hrow8
  · exact ((hb7.mono (Nat.le_of_lt hyl)).grown hg8 (by omega) (fun r e => by have := (how7.lt r e).1; omega)).grown hset (by omega) (fun r e => by cases e; exact Nat.le_refl _)
  · by_cases hik : i = k
    · subst hik
      rw [upd_same, upd_same, cs4_snoc, List.length_append]
      refine hown8.kept hset (.inr fun e => ?_)
      have := (hown8.lt y (by rw [e])).1
      omega
    · rw [upd_other v _ hik, upd_other p _ hik]
      have h1 := own_below (h.own i hi) hb7
      have h2 := h1.kept hg8 (by
        cases hv : (v i).ownBlock with
        | none => exact .inl rfl
        | some g => exact .inr (fun e => h.apart i k hi hk hik g hv e.symm))
      refine h2.kept hset (.inr fun e => ?_)
      have := (h2.lt y (by rw [e])).1
      omega
  · by_cases hik : i = k
    · subst hik
      rw [upd_same] at hg
      rw [upd_other v _ (Ne.symm hne)]
      rcases hloc with hl | hl
      · rw [hl] at hg
        exact h.apart i j hi hj hne g hg
      · rw [hl] at hg
        cases hg
        intro e
        have := ((h.own j hj).lt _ e).2
        omega
    · rw [upd_other v _ hik] at hg
      by_cases hjk : j = k
      · subst hjk
        rw [upd_same]
        rcases hloc with hl | hl
        · rw [hl]; exact h.apart i j hi hj hne g hg
        · rw [hl]
          intro e
          cases e
          have := ((h.own i hi).lt _ hg).2
          omega
      · rw [upd_other v _ hjk]; exact h.apart i j hi hj hne g hg
  · by_cases hik : i = k
    · subst hik
      rw [upd_same] at hm
      rcases List.mem_append.1 hm with hm | hm
      · exact h.wf i hi m hm
      · rw [List.mem_singleton.1 hm]; exact he
    · rw [upd_other p _ hik] at hm
      exact h.wf i hi m hm

/-- an append whose end is known, at a step of a region that draws its order -/
theorem step_app {ops : Array Oper} {o : Oper} {a : Act} {K : Act → World → Prop} {Q : Exit → Act → World → Prop} {E : Prop} {w : World} (ty : TypeId) (hgd : o.guard = none) (s x : Operand) (ho : o.op = .call { callee := .builtin .append, args := #[s, x], argTypes := #[ty, ty] }) (hty : o.type = ty)
    (v1 v2 : Value) (hs : a.eval s = v1) (hx : a.eval x = v2) (v' : Value) (w' : World) (happ : (Builtin.append_ #[ty, ty] ty #[v1, v2]).run Try.prog w = .ok v' w') (hk : K (a.put o.dst v') w') :
    if Region.wanted o (yielded ops a.tmps) = true then Oper.wp Try.prog o a w K Q else E := by
  have hw : Region.wanted o (yielded ops a.tmps) = true := by simp [Region.wanted, hgd]
  rw [if_pos hw]
  unfold Oper.wp execOp
  simp only [ho, hty, resolve, invoke, builtin, Sem.run_bind, Sem.run_pure, Result.andThen_ok, List.map_toArray, List.map_cons, List.map_nil, hs, hx, happ]
  exact hk

set_option maxRecDepth 100000 in
set_option maxHeartbeats 4000000 in
theorem take_any {y : Nat} {w : World} {v : Nat → Value} {p : Nat → List M} {lg nx sq : Int} (h : Nxt y w v p lg nx sq) {k : Nat} (hk : k < 4) (hlen : (p k).length ≤ 10000000) (e : M) (he : e.wf) :
    Calls Try.prog 54 #[.pointer (some ⟨y, 0, none⟩), .int .i64 k, .agg #[.int .i64 e.file, .int .i64 e.size, .string e.lo, .string e.hi]] w fun r w' => r = .returned (.tuple #[]) ∧ Below y w w' ∧ ∃ x, Nxt y w' (upd v k x) (upd p k (p k ++ [e])) lg nx sq := by
  have HC := Lib.hid (fun W => mclone_any e.file e.size e.lo e.hi W (by have := he.lo; omega) (by have := he.hi; omega))
  have HE := Lib.hid he
  obtain ⟨lv, q, g, s, t⟩ := e
  simp only at HC
  have g0 : (0 : Int) ≤ (k : Int) := by omega
  have g1 : (k : Int) < 4 := by omega
  have HK := Lib.hid hk
  clear he hk
  go_enter Try.func54, Try.ntmps54
  go_wp2_with fail
  have hal := (Below.refl w.heap.size w).alloc (Nat.le_refl _) (.cells #[.int .i64 q, .int .i64 g, .string s, .string t] 64)
  have hrx := heap_alloc_new w (.cells #[.int .i64 q, .int .i64 g, .string s, .string t] 64)
  have hsx : (w.alloc (.cells #[.int .i64 q, .int .i64 g, .string s, .string t] 64)).heap.size = w.heap.size + 1 := by simp
  have HP := Lib.hid h
  have HP0 := Lib.hid (h.below hal)
  have hyl := h.lt
  generalize w.alloc (.cells #[.int .i64 q, .int .i64 g, .string s, .string t] 64) = wa at HP0 hrx hsx hal ⊢
  obtain ⟨bx, hbx⟩ : ∃ bx, w.heap.size = bx := ⟨_, rfl⟩
  have cv := HP0.out.cell HK.out
  have fv : wa.frozen? ⟨y, k, none⟩ = false := HP0.out.froz k
  obtain ⟨vk, hvk⟩ : ∃ vk, v k = vk := ⟨_, rfl⟩
  have HAP : Hid (∀ W7, Below wa.heap.size wa W7 → ∃ A6 c6 w8, (Builtin.append_ #[23, 23] 23 #[vk, .slice (some ⟨W7.heap.size, 0, none⟩) 1 1]).run Try.prog (W7.alloc (.cells #[.int .i64 q, .int .i64 g, .string s, .string t] 64)) = .ok (.slice A6 ((p k).length + 1) c6) w8 ∧
      w8.cell? ⟨y, k, none⟩ = some vk ∧ w8.frozen? ⟨y, k, none⟩ = false ∧ Below y w (w8.setCell ⟨y, k, none⟩ (.slice A6 ((p k).length + 1) c6)) ∧ Nxt y (w8.setCell ⟨y, k, none⟩ (.slice A6 ((p k).length + 1) c6)) (upd v k (.slice A6 ((p k).length + 1) c6)) (upd p k (p k ++ [⟨lv, q, g, s, t⟩])) lg nx sq ∧ w8.heap[bx]? = some (.cells #[.int .i64 q, .int .i64 g, .string s, .string t] 64 (0, 0))) := Lib.hid fun W7 h7 => by
    rw [← hvk, ← hbx]
    obtain ⟨A6, c6, w8, r1, r2, r3, r4, r5, r6⟩ := HP.out.app HK.out hlen (hal.trans (h7.mono (by omega))) ⟨lv, q, g, s, t⟩ HE.out
    have hlt : w.heap.size < W7.heap.size := by have := h7.size; omega
    exact ⟨A6, c6, w8, r1, r2, r3, r4, r5, (r6 _ (Nat.le_refl _) hlt).trans ((h7.block _ (by omega)).trans hrx)⟩
  rw [hbx] at hrx hsx hyl ⊢
  have y0 : wa.cell? ⟨bx, 0, none⟩ = some (.int .i64 q) := by simp [World.cell?, hrx]
  have y1 : wa.cell? ⟨bx, 1, none⟩ = some (.int .i64 g) := by simp [World.cell?, hrx]
  have y2 : wa.cell? ⟨bx, 2, none⟩ = some (.string s) := by simp [World.cell?, hrx]
  have y3 : wa.cell? ⟨bx, 3, none⟩ = some (.string t) := by simp [World.cell?, hrx]
  have HBX : Hid (bx < wa.heap.size ∧ y < wa.heap.size) := Lib.hid (by omega)
  rw [hvk] at cv
  clear hvk h hal hrx hsx hyl hbx HP HP0
  go_region_law (first
      | (refine step_app 23 (by rfl) _ _ (by rfl) (by rfl) _ _ (by rfl) (by rfl) _ _ HAPP.out ?_)
      | (go_simp
         go_at_call 46
         refine (HC.out _).mono ?_
         rintro r w1 ⟨rfl, hb⟩
         have hb1 : Below wa.heap.size wa w1 := Below.trans ((Below.refl _ wa).drew) hb
         have z0 : w1.cell? ⟨y, k, none⟩ = some vk := (hb1.cell (p := ⟨y, k, none⟩) HBX.out.2).trans cv
         have hb2 := hb1.alloc hb1.size (.cells #[.int .i64 q, .int .i64 g, .string s, .string t] 64)
         have o0 : (w1.alloc (.cells #[.int .i64 q, .int .i64 g, .string s, .string t] 64)).cell? ⟨y, k, none⟩ = some vk := (hb2.cell (p := ⟨y, k, none⟩) HBX.out.2).trans cv
         obtain ⟨A6, c6, w8, happ, e1, e2, e3, e4⟩ := HAP.out w1 hb1
         have HE3 := Lib.hid e3
         have HE4 := Lib.hid e4
         have HAPP := Lib.hid happ
         clear e3 e4 happ hb hb1 hb2)
      | fail)
  all_goals
    go_wp2
    go_end0
    exact ⟨rfl, HE3.out, _, HE4.out.1⟩
end Go.Proofs.Ytffdiiolgflbkaa

/- The files that are there, in a map; a version as it is handed in. -/
namespace Go.Proofs.Ytffdiiolgflbkaa
open Go.RowKit Go.Maps
open VS
attribute [local go_sem ↓] Go.wp_at_zero Go.wp_at_succ

/-! ### the map -/
theorem keyed64 : Keyed Try.prog 2 := int_keyed Try.underlying2
theorem zeroFate (w : World) : (zeroValue 125).run Try.prog w = .ok (.int .i64 0) w := by kernel_rfl
theorem wf64 {z : Int} (h : i64 z) : (Lit.int .i64 z).wf = true := by
  obtain ⟨h1, h2⟩ := h
  simp [Lit.wf, IntKind.min, IntKind.max, IntKind.signed, IntKind.bits]
  omega
abbrev OwnF (w : World) (b n : Nat) (D : DataW Unit) : Prop := w.ownsMap Try.prog 2 (plainElem Try.prog 125) b n D

/-- block b is a map that has at each file this fate -/
structure Fm (w : World) (b n : Nat) (st : Int → Int) : Prop where
  own : ∃ D, OwnF w b n D ∧ ∀ z, D.atKey (.int .i64 z) (.lit (.int .i64 0)) = .lit (.int .i64 (st z))

theorem Fm.made (w : World) : Fm (w.alloc (.map #[] 0)) w.heap.size 0 (fun _ => 0) :=
  ⟨⟨_, World.ownsMap_made _ _ _ _, fun _ => rfl⟩⟩
section
variable {w w' : World} {b n : Nat} {st : Int → Int}
theorem Fm.lt (h : Fm w b n st) : b < w.heap.size := by obtain ⟨D, h1, -⟩ := h.own; exact h1.lt
theorem Fm.below (h : Fm w b n st) (hb : Below w.heap.size w w') : Fm w' b n st := by
  obtain ⟨D, h1, h2⟩ := h.own
  obtain ⟨es, clock, hbk, F, hs, hD⟩ := h1
  exact ⟨⟨D, ⟨es, clock, (hb.block b (Array.getElem?_eq_some_iff.1 hbk).1).trans hbk, F, hs, hD⟩, h2⟩⟩
theorem Fm.grown (h : Fm w b n st) {r : Option Nat} (hg : w.grownBy w' r) (hr : r ≠ some b) : Fm w' b n st := by
  obtain ⟨D, h1, h2⟩ := h.own
  obtain ⟨es, clock, hbk, F, hs, hD⟩ := h1
  exact ⟨⟨D, ⟨es, clock, (hg.block b (Array.getElem?_eq_some_iff.1 hbk).1 hr.symm).trans hbk, F, hs, hD⟩, h2⟩⟩
theorem Fm.look (h : Fm w b n st) {z : Int} (hz : i64 z) : (Instr.lookup 84 (.map (some b)) (.int .i64 z) false).run Try.prog w = .ok (.int .i64 (st z)) w := by
  obtain ⟨D, h1, h2⟩ := h.own
  obtain ⟨c, hrun, hat, -⟩ := h1.lookup_int keyed64 Try.underlying84 Try.underlying125 (zeroFate w) (keyOf_int_mk Try.underlying2 (wf64 hz))
  rw [hrun]
  rw [h2 z] at hat
  simp only [DataW.lit.injEq, Lit.int.injEq, true_and] at hat
  rw [hat]
theorem Fm.put (h : Fm w b n st) (hn : n < maxLen) {z : Int} (hz : i64 z) {f : Int} (hf : i64 f) :
    ∃ w', (Instr.mapUpdate 84 (.map (some b)) (.int .i64 z) (.int .i64 f)).run Try.prog w = .ok () w' ∧ Fm w' b (n + 1) (fun x => if x = z then f else st x) ∧ w.grownBy w' (some b) := by
  obtain ⟨D, h1, h2⟩ := h.own
  obtain ⟨w', hrun, hown, hg⟩ := h1.update keyed64 Try.underlying84 hn (keyOf_int_mk Try.underlying2 (wf64 hz)) (plainElem_int Try.underlying125 (wf64 hf))
  refine ⟨w', hrun, ⟨⟨_, hown, fun x => ?_⟩⟩, hg⟩
  by_cases hx : x = z
  · subst hx
    rw [if_pos rfl]
    exact Maps.atKey_put_same h1.isMap (by simp [WideAt.IsKeyLit]) _ _
  · rw [if_neg hx, Maps.atKey_put_other (by simpa using hx)]
    exact h2 x
end

/-! ### a version as it is handed in -/
structure VerIn (w : World) (A : Nat → Option Addr) (N C : Nat → Nat) (L : List M) : Prop where
  len : ∀ k : Nat, k < 4 → N k = (lev k L).length
  cap : ∀ k : Nat, k < 4 → N k ≤ C k
  at_ : ∀ k : Nat, k < 4 → In4 w (A k) (lev k L)

theorem VerIn.below {w w' : World} {A : Nat → Option Addr} {N C : Nat → Nat} {L : List M} (h : VerIn w A N C L) (hb : Below w.heap.size w w') : VerIn w' A N C L :=
  ⟨h.len, h.cap, fun k hk => (h.at_ k hk).below hb⟩

theorem arr_index (A : Nat → Option Addr) (N C : Nat → Nat) {k : Nat} (hk : k < 4) (W : World) :
    (Instr.index 24 (.agg #[.slice (A 0) (N 0) (C 0), .slice (A 1) (N 1) (C 1), .slice (A 2) (N 2) (C 2), .slice (A 3) (N 3) (C 3)]) (.int .i64 k)).run Try.prog W = .ok (.slice (A k) (N k) (C k)) W := by
  rcases (by omega : k = 0 ∨ k = 1 ∨ k = 2 ∨ k = 3) with rfl | rfl | rfl | rfl <;> kernel_rfl

namespace VS
/-- the first levels' tables -/
def front (L : List M) : Nat → List M
  | 0 => []
  | k + 1 => front L k ++ lev k L
theorem front_four (L : List M) : front L 4 = lev 0 L ++ lev 1 L ++ lev 2 L ++ lev 3 L := by simp [front]
theorem front_len (L : List M) : ∀ k : Nat, (front L k).length ≤ k * L.length
  | 0 => by simp [front]
  | k + 1 => by
    have h1 := front_len L k
    have h2 : (lev k L).length ≤ L.length := List.length_filter_le _ _
    simp only [front, List.length_append, Nat.add_mul]
    omega
theorem lev_len (k : Int) (L : List M) : (lev k L).length ≤ L.length := List.length_filter_le _ _
/-- 1 at the files of these tables -/
def stays (l : List M) (z : Int) : Int := if z ∈ files l then 1 else 0
theorem stays_snoc (l : List M) (m : M) : (fun x => if x = m.file then 1 else stays l x) = stays (l ++ [m]) := by
  funext x
  unfold stays
  rw [files_append]
  by_cases h : x = m.file
  · simp [h, files]
  · simp [h, files]
end VS
end Go.Proofs.Ytffdiiolgflbkaa

/- How texts stand, as the walks spell it. -/
namespace Go.Proofs.Ytffdiiolgflbkaa
open Go.RowKit
open VS

theorem less_before : ∀ (a b : List UInt8), Op.bytesLess a b = bytesBefore a b
  | [], [] => by simp [Op.bytesLess, bytesBefore]
  | [], _ :: _ => by simp [Op.bytesLess, bytesBefore]
  | _ :: _, [] => by simp [Op.bytesLess, bytesBefore]
  | x :: r, y :: t => by simp [Op.bytesLess, bytesBefore, less_before r t]

theorem toList_data (a : ByteArray) : a.toList = a.data.toList := by
  rw [ByteArray.toList_eq]

theorem text_less (a b : ByteArray) : Op.bytesLess a.toList b.toList = lt a b := by
  rw [less_before, toList_data, toList_data]
  rfl

theorem text_same (a b : ByteArray) : (a.toList == b.toList) = decide (a = b) := by
  rw [toList_data, toList_data]
  by_cases h : a = b
  · subst h; simp
  · rw [decide_eq_false h]
    exact beq_eq_false_iff_ne.2 fun e => h (str_ext e)

theorem lt_or_eq (a b : ByteArray) : (lt a b || decide (a = b)) = !(lt b a) := by
  by_cases h : a = b
  · subst h; simp [lt_irrefl]
  · rw [decide_eq_false h, Bool.or_false]
    rcases lt_total h with h1 | h1
    · rw [h1, lt_asymm h1]; rfl
    · rw [h1, lt_asymm h1]; rfl

theorem text_leq (a b : ByteArray) : (Op.bytesLess a.toList b.toList || a.toList == b.toList) = !(lt b a) := by
  rw [text_less, text_same, lt_or_eq]
theorem text_gtr (a b : ByteArray) : (!Op.bytesLess a.toList b.toList && !(a.toList == b.toList)) = lt b a := by
  have := text_leq a b
  rw [← Bool.not_or, this, Bool.not_not]
end Go.Proofs.Ytffdiiolgflbkaa

