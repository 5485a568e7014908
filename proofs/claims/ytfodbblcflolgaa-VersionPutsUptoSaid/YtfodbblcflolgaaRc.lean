/- The document's version in the making; slices' heads. -/
import Derived.Test.YtfodbblcflolgaaRb
namespace Go.Proofs.Ytfodbblcflolgaa
open Go.RowKit
open VS

theorem add_zero' (a : Addr) : a.add 0 = a := by obtain ⟨b, o, s⟩ := a; cases s <;> rfl
theorem ints_head (W : World) (A : Option Addr) (n cap m : Nat) (h : m ≤ cap) : (Instr.slice 31 (.slice A n cap) none (some (.int .i64 (m : Int))) none).run Try.prog W = .ok (.slice A m cap) W := by
  have hs : ∀ w, (sizeOf (Try.prog.elem 31)).run Try.prog w = .ok 1 w := fun w => by kernel_rfl
  rw [run_slice_h W 31 A n cap (by kernel_rfl) .i64 (m : Int) (by omega) (by omega), hs]
  simp only [Result.andThen, sliced, Int.toNat_natCast, Nat.sub_zero, Nat.zero_mul, add_zero', Option.map_id']
  split <;> rfl
theorem rmetas_head (W : World) (A : Option Addr) (n cap m : Nat) (h : m ≤ cap) : (Instr.slice 27 (.slice A n cap) none (some (.int .i64 (m : Int))) none).run Try.prog W = .ok (.slice A m cap) W := by
  have hs : ∀ w, (sizeOf (Try.prog.elem 27)).run Try.prog w = .ok 5 w := fun w => by kernel_rfl
  rw [run_slice_h W 27 A n cap (by kernel_rfl) .i64 (m : Int) (by omega) (by omega), hs]
  simp only [Result.andThen, sliced, Int.toNat_natCast, Nat.sub_zero, Nat.zero_mul, add_zero', Option.map_id']
  split <;> rfl

/-- the document's version in the making, in block o -/
structure OutR (o : Nat) (w : World) (v : Value) (l : List M) (lg nx sq : Int) : Prop where
  row : w.heap[o]? = some (.cells #[v, .int .i64 lg, .int .i64 nx, .int .i64 sq] 29 (0, 0))
  own : w.ownsRow (o + 1) 66 5 v l.length (cs5 l)
  wf : ∀ m ∈ l, m.wf

section
variable {o : Nat} {w w' : World} {v : Value} {l : List M} {lg nx sq : Int}
theorem OutR.lt (h : OutR o w v l lg nx sq) : o < w.heap.size := (Array.getElem?_eq_some_iff.1 h.row).1
theorem OutR.below (h : OutR o w v l lg nx sq) (hb : Below w.heap.size w w') : OutR o w' v l lg nx sq := ⟨(hb.block o h.lt).trans h.row, own_below h.own hb, h.wf⟩
theorem OutR.cell (h : OutR o w v l lg nx sq) : w.cell? ⟨o, 0, none⟩ = some v := cell_of_row _ _ _ _ _ _ h.row
theorem OutR.froz (h : OutR o w v l lg nx sq) (k : Nat) : w.frozen? ⟨o, k, none⟩ = false := frozen_of_row _ _ _ _ _ h.row

theorem OutR.set (h : OutR o w v l lg nx sq) {x : Nat} (hx : x < o) (i : Nat) (u : Value) : OutR o (w.setCell ⟨x, i, none⟩ u) v l lg nx sq := by
  have hset := grownBy_setCell w ⟨x, i, none⟩ u
  refine ⟨(Below.heap_setCell _ _ _ _ (by simp; omega)).trans h.row, h.own.kept hset ?_, h.wf⟩
  cases hv : v.ownBlock with
  | none => exact .inl rfl
  | some g =>
    refine .inr (fun e => ?_)
    have := (h.own.lt g hv).1
    have e2 : g = x := by simpa using e
    omega

/-- another row of tables is laid in its place -/
theorem OutR.put (h : OutR o w v l lg nx sq) {v' : Value} {l' : List M} (ho : w.ownsRow (o + 1) 66 5 v' l'.length (cs5 l')) (hw : ∀ m ∈ l', m.wf) : OutR o (w.setCell ⟨o, 0, none⟩ v') v' l' lg nx sq := by
  have hset := grownBy_setCell w ⟨o, 0, none⟩ v'
  refine ⟨heap_set_fr h.row 0 v', ho.kept hset ?_, hw⟩
  cases hv : v'.ownBlock with
  | none => exact .inl rfl
  | some g =>
    refine .inr (fun e => ?_)
    have := (ho.lt g hv).1
    have e2 : g = o := by simpa using e
    omega

set_option maxHeartbeats 1000000 in
theorem OutR.app {W7 : World} (h : OutR o w v l lg nx sq) (hlen : l.length ≤ 10000000) (h7 : Below w.heap.size w W7) (e : M) (he : e.wf) :
    ∃ A6 c6 w8, (Builtin.append_ #[27, 27] 27 #[v, .slice (some ⟨W7.heap.size, 0, none⟩) 1 1]).run Try.prog (W7.alloc (.cells #[.int .i64 e.lvl, .int .i64 e.file, .int .i64 e.size, .string e.lo, .string e.hi] 66)) = .ok (.slice A6 (l.length + 1) c6) w8 ∧
      w8.cell? ⟨o, 0, none⟩ = some v ∧ w8.frozen? ⟨o, 0, none⟩ = false ∧ Below o w (w8.setCell ⟨o, 0, none⟩ (.slice A6 (l.length + 1) c6)) ∧ OutR o (w8.setCell ⟨o, 0, none⟩ (.slice A6 (l.length + 1) c6)) (.slice A6 (l.length + 1) c6) (l ++ [e]) lg nx sq := by
  obtain ⟨i0, hi0, hz0, hz1, hz2⟩ := info_parts info_rmeta
  have hol := h.lt
  have how7 := own_below h.own h7
  have hsz := h7.size
  obtain ⟨v', w8, happ, hown8, hg8, -, -⟩ := run_append_own_at (P := Try.prog) (W7.alloc (.cells #[.int .i64 e.lvl, .int .i64 e.file, .int .i64 e.size, .string e.lo, .string e.hi] 66)) (o + 1) 27 27 66 i0 _ 5 56 Try.underlying27 hi0 hz0 hz1 hz2 rfl (by decide) v l.length _ (how7.alloc _)
    ⟨W7.heap.size, 0, none⟩ 1 1 (M.c5 e) rfl (cells5 W7 e _) (one5 _) (by unfold maxLen; omega) (by omega) (by simp; omega)
  obtain ⟨A6, c6, rfl⟩ : ∃ A6 c6, v' = .slice A6 (l.length + 1) c6 := own_shape hown8
  have hb7 : Below w.heap.size w (W7.alloc (.cells #[.int .i64 e.lvl, .int .i64 e.file, .int .i64 e.size, .string e.lo, .string e.hi] 66)) := h7.alloc hsz _
  have hvo : some o ≠ v.ownBlock := fun he => by
    have := (how7.lt o he.symm).1
    omega
  have hrow8 : w8.heap[o]? = some (.cells #[v, .int .i64 lg, .int .i64 nx, .int .i64 sq] 29 (0, 0)) := (hg8.block o (Nat.lt_of_lt_of_le hol hb7.size) hvo).trans ((hb7.block o hol).trans h.row)
  have hs9 := hb7.size
  have hs8 := hg8.size
  have hwf : ∀ m ∈ l ++ [e], m.wf := fun m hm => by
    rcases List.mem_append.1 hm with hm | hm
    · exact h.wf m hm
    · rw [List.mem_singleton.1 hm]; exact he
  have hO8 : OutR o w8 v [] lg nx sq ∨ True := .inr trivial
  refine ⟨A6, c6, w8, happ, cell_of_row _ _ _ _ _ _ hrow8, frozen_of_row _ _ _ _ _ hrow8, ?_, ?_⟩
  · exact ((hb7.mono (Nat.le_of_lt hol)).grown hg8 (by omega) (fun r e => by have := (how7.lt r e).1; omega)).grown (grownBy_setCell _ _ _) (by omega) (fun r e => by cases e; exact Nat.le_refl _)
  · have hset := grownBy_setCell w8 ⟨o, 0, none⟩ (.slice A6 (l.length + 1) c6)
    refine ⟨heap_set_fr hrow8 0 _, ?_, hwf⟩
    rw [cs5_snoc, List.length_append]
    refine hown8.kept hset ?_
    cases hv : (Value.slice A6 (l.length + 1) c6).ownBlock with
    | none => exact .inl rfl
    | some g =>
      refine .inr (fun e => ?_)
      have := (hown8.lt g hv).1
      have e2 : g = o := by simpa using e
      omega
end

namespace VS
theorem apart_take {l : List M} {i : Nat} (h : i < l.length) (h1 : apart (l.take i)) (h2 : ∀ k (hk : k < i), ov l[i] (l[k]'(by omega)) = false) : apart (l.take (i + 1)) := by
  rw [List.take_succ_eq_append_getElem h]
  refine List.pairwise_append.2 ⟨h1, List.pairwise_singleton _ _, fun x hx y hy => ?_⟩
  rw [List.mem_singleton.1 hy]
  obtain ⟨k, hk, rfl⟩ := List.mem_iff_getElem.1 hx
  rw [List.length_take] at hk
  rw [List.getElem_take]
  exact ov_symm (h2 k (by omega))
theorem not_apart {l : List M} {i k : Nat} (hi : i < l.length) (hk : k < i) (h : ov l[i] (l[k]'(by omega)) = true) : ¬ apart l := by
  intro ha
  have := List.pairwise_iff_getElem.1 ha k i (by omega) hi hk
  have := ov_symm this
  rw [h] at this; cases this
theorem behind_take (v : V) (e : Ed) {j : Nat} (h : j < e.add.length) : (e.add.take (j + 1)).foldl with_ (kept v e) = with_ ((e.add.take j).foldl with_ (kept v e)) e.add[j] := by
  rw [List.take_succ_eq_append_getElem h, List.foldl_append]
  rfl
theorem kept_take (v : V) (e : Ed) {j : Nat} (h : j < v.L.length) : (v.L.take (j + 1)).filter (keepB e.drop) = (v.L.take j).filter (keepB e.drop) ++ (if keepB e.drop v.L[j] = true then [v.L[j]] else []) := by
  rw [List.take_succ_eq_append_getElem h, List.filter_append]
  congr 1
  by_cases h : keepB e.drop v.L[j] = true <;> simp [h]
theorem fold_len (a : List M) (l : List M) : (a.foldl with_ l).length = l.length + a.length := by
  rw [(fold_perm a l).length_eq, List.length_append]
theorem apply_good {v : V} {e : Ed} (h1 : headOk v e = true) (h2 : dropOk (files v.L) [] e.drop = true) (h3 : addOk e.next (files v.L) [] e.add = true) (h4 : apart (behind v e)) : apply v e = (⟨behind v e, e.log, e.next, e.seq⟩, 0) := by
  unfold apply
  rw [if_pos (by simp only [good, h1, h2, h3, Bool.true_and, decide_eq_true_eq]; exact h4)]
theorem apply_bad4 {v : V} {e : Ed} (h4 : ¬ apart (behind v e)) : apply v e = (V.none, 17) := by
  unfold apply
  rw [if_neg (by simp [good, h4])]
theorem fold_wf {a l : List M} (ha : ∀ m ∈ a, m.wf) (hl : ∀ m ∈ l, m.wf) : ∀ m ∈ a.foldl with_ l, m.wf := fun m hm => by
  have := (fold_perm a l).subset hm
  rcases List.mem_append.1 this with h | h
  · exact hl m h
  · exact ha m h
end VS
end Go.Proofs.Ytfodbblcflolgaa
