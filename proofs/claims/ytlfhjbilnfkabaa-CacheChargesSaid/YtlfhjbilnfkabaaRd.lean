/- The document's Get, Pin. -/
import Derived.Test.YtlfhjbilnfkabaaRc
import Derived.Deep.RegionLaw
namespace Go.Proofs.Ytlfhjbilnfkabaa
open Go.RowKit Go.Maps
open BM CM

/-- an append whose end is known, at a step of a region that draws its order -/
theorem step_app {ops : Array Oper} {o : Oper} {a : Act} {K : Act → World → Prop} {Q : Exit → Act → World → Prop} {E : Prop} {w : World} (hgd : o.guard = none) (s x : Operand) (ho : o.op = .call { callee := .builtin .append, args := #[s, x], argTypes := #[30, 30] }) (hty : o.type = 30)
    (v1 v2 : Value) (hs : a.eval s = v1) (hx : a.eval x = v2) (v' : Value) (w' : World) (happ : (Builtin.append_ #[30, 30] 30 #[v1, v2]).run Try.prog w = .ok v' w') (hk : K (a.put o.dst v') w') :
    if Region.wanted o (yielded ops a.tmps) = true then Oper.wp Try.prog o a w K Q else E := by
  have hw : Region.wanted o (yielded ops a.tmps) = true := by simp [Region.wanted, hgd]
  rw [if_pos hw]
  unfold Oper.wp execOp
  simp only [ho, hty, resolve, invoke, builtin, Sem.run_bind, Sem.run_pure, Result.andThen_ok, List.map_toArray, List.map_cons, List.map_nil, hs, hx, happ]
  exact hk

section
variable {w w' : World} {B r rb : Nat} {LA : Option Addr} {lc : Nat} {L : Ls} {s : S}
theorem totB_perm {L M : Ls} (h : L.Perm M) : totB L = totB M := by unfold totB; exact (h.map _).sum_nat
theorem Good.perm {M : Ls} (g : Good L s) (h : L.Perm M) : Good M s := ⟨g.ok, by rw [← totB_perm h]; exact g.sum, fun x hx => g.wf x (h.mem_iff.2 hx), by rw [← h.length_eq]; exact g.len⟩
theorem perm_back {α : Type} {l : List α} {i : Nat} (h : i < l.length) : l.Perm (l.eraseIdx i ++ [l[i]]) := (perm_erase l i h).trans (List.perm_append_singleton _ _).symm

set_option maxRecDepth 100000 in
set_option maxHeartbeats 4000000 in
theorem rget_hit (h : RRep w B r rb LA lc L s) (g : Good L s) (hB : B ≤ w.heap.size) (f k : Int) {i : Nat} (hi : i < L.length) (hf : findB f k L = some i) :
    Calls Try.prog 28 #[.pointer (some ⟨r, 0, none⟩), .int .i64 f, .int .i64 k] w fun e w' => e = .returned (.tuple #[.string L[i].data, .bool true]) ∧ ∃ LA' lc', RTurn w w' B r rb LA LA' lc' (L.eraseIdx i ++ [L[i]]) s := by
  obtain ⟨i0, hi0, hz0, hz1, hz2⟩ := info_parts info_rblk
  have HREP := Lib.hid h
  have HB := Lib.hid hB
  have hfd := rfind_any h f k g.len
  rw [hf] at hfd
  have HFD := Lib.hid hfd
  obtain ⟨n, hn⟩ : ∃ n, L.length = n := ⟨_, rfl⟩
  have hn6 : n ≤ 1000000 := by rw [← hn]; exact g.len
  have HN := Lib.hid hn
  have c0 := h.c0
  rw [hn] at c0
  obtain ⟨gb, hA, -, hc⟩ := h.blks (by omega)
  obtain ⟨z0, z1, z2, z3⟩ := hc i hi
  have hil : i < n := by omega
  have HBC := Lib.hid (bcs_snoc (L.eraseIdx i) L[i])
  have HLE : Hid ((L.eraseIdx i).length = n - 1) := Lib.hid (by rw [List.length_eraseIdx_of_lt hi, hn])
  have HLS : Hid ((L.eraseIdx i ++ [L[i]]).length = n) := Lib.hid (by rw [List.length_append, List.length_eraseIdx_of_lt hi]; simp; omega)
  obtain ⟨x, hx⟩ : ∃ x, L[i] = x := ⟨_, rfl⟩
  rw [hx] at z0 z1 z2 z3 HBC HLS ⊢
  obtain ⟨xf, xk, xd, xp⟩ := x
  simp only at z0 z1 z2 z3 HBC ⊢
  simp only [bcells] at HBC
  have hA2 := hA
  subst hA2
  have g0 : (0 : Int) ≤ (i : Int) := by omega
  have g1 : (i : Int) < (n : Int) := by omega
  have hd : decide ((i : Int) < 0) = false := decide_eq_false (by omega)
  clear hfd hc hx hA hf hi hn
  go_enter Try.func28, Try.ntmps28
  go_wp2_with fail
  refine HFD.out.mono ?_
  rintro e w1 ⟨rfl, rfl⟩
  have hal := (Below.refl w.heap.size w).alloc (Nat.le_refl _) (.cells #[.int .i64 xf, .int .i64 xk, .string xd, .int .i64 xp] 84)
  have hrow := heap_alloc_new w (.cells #[.int .i64 xf, .int .i64 xk, .string xd, .int .i64 xp] 84)
  have h2 := h.below hal
  have hs1 : (w.alloc (.cells #[.int .i64 xf, .int .i64 xk, .string xd, .int .i64 xp] 84)).heap.size = w.heap.size + 1 := by simp
  have c0' := h2.c0
  rw [HN.out] at c0'
  have HWT := Lib.hid (rwithout_any (c := lc) h2.blks HN.out hn6 i)
  go_wp2_with fail
  generalize w.alloc (.cells #[.int .i64 xf, .int .i64 xk, .string xd, .int .i64 xp] 84) = w2 at hal hrow h2 hs1 c0' HWT ⊢
  obtain ⟨y, hy⟩ : ∃ y, w.heap.size = y := ⟨_, rfl⟩
  rw [hy] at hrow hs1 ⊢
  have HY := Lib.hid hy
  have H2 := Lib.hid h2
  have HAL := Lib.hid hal
  have HS1 := Lib.hid hs1
  have HROW := Lib.hid hrow
  clear hy h2 hal c0 z0 z1 z2 z3 hrow hs1
  refine HWT.out.mono ?_
  rintro e w3 ⟨v, rfl, hown, hb3⟩
  obtain ⟨A', c', rfl, hbl, hfb⟩ := own_blks rfl hown
  have hrl : r < w2.heap.size := H2.out.own_lt r (Or.inl rfl)
  have hrbl : rb < w2.heap.size := H2.out.own_lt rb (Or.inr (Or.inl rfl))
  have hyl : y < w2.heap.size := by rw [HS1.out]; omega
  have hrw : r < w.heap.size := h.own_lt r (Or.inl rfl)
  have ht := H2.out.setL (Only.of_below hb3 : Only _ w2 w3) (hb3.block r hrl) (hb3.block rb hrbl) (own_base hown (by have := HB.out; have := HAL.out.size; omega)) (fun q hg => .inr (hfb q hg).1)
  have c0'' : w3.cell? ⟨r, 0, none⟩ = some (.slice (some ⟨gb, 0, none⟩) n lc) := (World.cell?_of_block (a := ⟨r, 0, none⟩) (hb3.block r hrl)).trans c0'
  have f0'' : w3.frozen? ⟨r, 0, none⟩ = false := frozen_of_row _ _ _ _ _ ((hb3.block r hrl).trans H2.out.head)
  have hyr : y ≠ r := by have := HY.out; omega
  have hyrow : w3.heap[y]? = _ := (hb3.block y hyl).trans HROW.out
  rw [HLE.out] at ht ⊢
  have hyrow2 : (w3.setCell ⟨r, 0, none⟩ (.slice A' (n - 1) c')).heap[y]? = some (.cells #[.int .i64 xf, .int .i64 xk, .string xd, .int .i64 xp] 84 (0, 0)) := (Below.heap_setCell _ (⟨r, 0, none⟩ : Addr) _ _ hyr).trans hyrow
  have HT2 : Hid (RTurn w (w3.setCell ⟨r, 0, none⟩ (.slice A' (n - 1) c')) B r rb (some ⟨gb, 0, none⟩) A' c' (L.eraseIdx i) s) := Lib.hid ((h.stay HAL.out).trans ht)
  have HNY : Hid (¬ rown r rb A' y) := Lib.hid (by
    have h1 := HY.out
    have h2 := HS1.out
    rintro (h3 | h3 | h3)
    · exact hyr h3
    · have := h.own_lt rb (Or.inr (Or.inl rfl)); omega
    · have := (hfb y h3).1; omega)
  clear hbl hfb hown hb3 ht hrl hrbl hyl hyr hyrow hrw c0' HWT
  have c1 := HT2.out.rep.c0
  rw [HLE.out] at c1
  generalize hW5 : w3.setCell ⟨r, 0, none⟩ (.slice A' (n - 1) c') = w5 at hyrow2 HT2 c1
  have hrow5 := HT2.out.rep.row
  rw [HLE.out] at hrow5
  have hal5 := (Below.refl w5.heap.size w5.drew).alloc (Nat.le_refl _) (.cells #[.int .i64 xf, .int .i64 xk, .string xd, .int .i64 xp] 84)
  have HB5 : Hid (B ≤ w5.heap.size) := Lib.hid (Nat.le_trans HB.out HT2.out.only.size)
  obtain ⟨v', w6, happ, hown6, hg6, -, hloc⟩ := run_append_own_at (P := Try.prog) (w5.drew.alloc (.cells #[.int .i64 xf, .int .i64 xk, .string xd, .int .i64 xp] 84)) B 30 30 84 i0 _ 4 40 Try.underlying30 hi0 hz0 hz1 hz2 rfl (by decide) (.slice A' (n - 1) c') (n - 1) _ (own_below (w := w5.drew) hrow5 ((Below.refl _ _).alloc (Nat.le_refl _) _))
    ⟨w5.heap.size, 0, none⟩ 1 1 [.int .i64 xf, .int .i64 xk, .string xd, .int .i64 xp] rfl (four_cells w5.drew _ _ _ _ _) (by intro u hu; simp at hu; rcases hu with rfl | rfl | rfl | rfl <;> rfl) (by unfold maxLen; omega) (by omega) (by have := HB5.out; simp; omega)
  have hw5 : w5.heap.size ≤ (w5.drew.alloc (.cells #[.int .i64 xf, .int .i64 xk, .string xd, .int .i64 xp] 84)).heap.size := by simp
  have hbl5 : Below w5.heap.size w5 (w5.drew.alloc (.cells #[.int .i64 xf, .int .i64 xk, .string xd, .int .i64 xp] 84)) := ((Below.refl _ _).drew).alloc (Nat.le_refl _) _
  obtain ⟨A6, c6, rfl, ht6, c06, f06⟩ := HT2.out.rep.app hbl5 hw5 (x := ⟨xf, xk, xd, xp⟩) (by rw [HLE.out, bcs_snoc]; exact hown6) (by rw [HLE.out]; exact hg6) (by rw [HLE.out]; exact hloc)
  have hn1 : n - 1 + 1 = n := by omega
  rw [HLE.out] at ht6 c06 happ
  rw [hn1] at ht6 happ
  have HT6 := Lib.hid (HT2.out.trans ht6)
  have HYF := Lib.hid ((ht6.only.block y (Array.getElem?_eq_some_iff.1 hyrow2).1 HNY.out).trans hyrow2)
  have y0 : w5.cell? ⟨y, 0, none⟩ = some (.int .i64 xf) := cell_of_row _ _ _ _ _ _ hyrow2
  have y1 : w5.cell? ⟨y, 1, none⟩ = some (.int .i64 xk) := cell_of_row _ _ _ _ _ _ hyrow2
  have y2 : w5.cell? ⟨y, 2, none⟩ = some (.string xd) := cell_of_row _ _ _ _ _ _ hyrow2
  have y3 : w5.cell? ⟨y, 3, none⟩ = some (.int .i64 xp) := cell_of_row _ _ _ _ _ _ hyrow2
  have hdw : w5.drew.alloc (.cells #[.int .i64 xf, .int .i64 xk, .string xd, .int .i64 xp] 84) = (w5.alloc (.cells #[.int .i64 xf, .int .i64 xk, .string xd, .int .i64 xp] 84)).drew := rfl
  rw [hdw] at happ
  have hal7 : Below w5.heap.size w5 (w5.alloc (.cells #[.int .i64 xf, .int .i64 xk, .string xd, .int .i64 xp] 84)).drew := ((Below.refl _ _).alloc (Nat.le_refl _) _).drew
  have hrl5 : r < w5.heap.size := HT2.out.rep.own_lt r (Or.inl rfl)
  have hyl5 : y < w5.heap.size := (Array.getElem?_eq_some_iff.1 hyrow2).1
  have d1 := (World.cell?_of_block (a := ⟨r, 0, none⟩) (hal7.block r hrl5)).trans c1
  have e0 := (World.cell?_of_block (a := ⟨y, 0, none⟩) (hal7.block y hyl5)).trans y0
  have e1 := (World.cell?_of_block (a := ⟨y, 1, none⟩) (hal7.block y hyl5)).trans y1
  have e2 := (World.cell?_of_block (a := ⟨y, 2, none⟩) (hal7.block y hyl5)).trans y2
  have e3 := (World.cell?_of_block (a := ⟨y, 3, none⟩) (hal7.block y hyl5)).trans y3
  have HW5 := Lib.hid hW5
  clear hdw hal7 hrl5 hyl5 hown6 hg6 hloc ht6 hw5 hbl5 hn1 hyrow2 hW5 hrow5 hal5
  go_wp2_with fail
  rw [HW5.out]
  have HAPP := Lib.hid happ
  clear happ
  go_region_law (refine step_app (by rfl) _ _ (by rfl) (by rfl) _ _ (by rfl) (by rfl) _ _ HAPP.out ?_)
  all_goals
    have q2 : (w6.setCell ⟨r, 0, none⟩ (.slice A6 n c6)).cell? ⟨y, 2, none⟩ = some (.string xd) := cell_of_row _ _ _ _ _ _ HYF.out
    clear y0 y1 y2 y3 e0 e1 e2 e3 d1 c1 c0'' f0'' c06 f06
    go_wp2
    go_ret2
    exact ⟨rfl, A6, c6, HT6.out⟩

set_option maxRecDepth 100000 in
set_option maxHeartbeats 2000000 in
theorem rget_miss (h : RRep w B r rb LA lc L s) (g : Good L s) (f k : Int) (hf : findB f k L = none) :
    Calls Try.prog 28 #[.pointer (some ⟨r, 0, none⟩), .int .i64 f, .int .i64 k] w fun e w' => e = .returned (.tuple #[.string ⟨#[]⟩, .bool false]) ∧ w = w' := by
  have hfd := rfind_any h f k g.len
  rw [hf] at hfd
  have HFD := Lib.hid hfd
  clear hfd hf h g
  go_enter Try.func28, Try.ntmps28
  go_wp2_with fail
  refine HFD.out.mono ?_
  rintro e w1 ⟨rfl, rfl⟩
  go_wp2
  go_ret2
  exact ⟨rfl, rfl⟩

theorem rget_any (h : RRep w B r rb LA lc L s) (g : Good L s) (hB : B ≤ w.heap.size) (f k : Int) :
    Calls Try.prog 28 #[.pointer (some ⟨r, 0, none⟩), .int .i64 f, .int .i64 k] w fun e w' => e = .returned (.tuple #[.string (getB f k L).1, .bool (getB f k L).2.1]) ∧ ∃ LA' lc', RTurn w w' B r rb LA LA' lc' (getB f k L).2.2 s ∧ Good (getB f k L).2.2 s := by
  unfold getB
  cases hf : findB f k L with
  | none => exact (rget_miss h g f k hf).mono fun e w' ⟨h1, h2⟩ => ⟨h1, LA, lc, by rw [← h2]; exact h.stay (Below.refl _ _), g⟩
  | some i =>
    have hi : i < L.length := by
      unfold findB at hf
      exact (List.findIdx?_eq_some_iff_getElem.1 hf).1
    simp only [List.getElem?_eq_getElem hi]
    exact (rget_hit h g hB f k hi hf).mono fun e w' ⟨h1, LA', lc', h2⟩ => ⟨h1, LA', lc', h2, g.perm (perm_back hi)⟩
end
end Go.Proofs.Ytlfhjbilnfkabaa
