/- One slice of entries behind another one. -/
import Derived.Test.YtgbpnicijllmoaaLi
import Derived.ArgAppend
namespace Go.Proofs.Ytgbpnicijllmoaa
open Go.RowKit
open SK

theorem ents_hm (W : World) (A : Option Addr) (n cap m : Nat) (h : m ≤ cap) : (Instr.slice 23 (.slice A n cap) none (some (.int .i64 (m : Int))) (some (.int .i64 (m : Int)))).run Try.prog W = .ok (.slice A m m) W := by
  have hs : ∀ w, (sizeOf (Try.prog.elem 23)).run Try.prog w = .ok 5 w := fun w => by kernel_rfl
  rw [run_slice_hm W 23 A n cap (by kernel_rfl) .i64 .i64 (m : Int) (m : Int) (by omega) (by omega) (by omega), hs]
  simp only [Result.andThen, sliced, Int.toNat_natCast, Nat.sub_zero, Nat.zero_mul, add_zero', Option.map_id']
  split <;> (cases A <;> rfl)

theorem ecs_cells {w : World} {A : Option Addr} {l : List E} (h : EntsIn w A l) {a : Addr} (ha : A = some a) : ∀ j u, (ecs l)[j]? = some u → w.cell? (a.add j) = some u := by
  intro j u hj
  have hlt : j < l.length * 5 := by
    have := (List.getElem?_eq_some_iff.1 hj).1
    rwa [ecs_len] at this
  obtain ⟨b, off, hA, hbl, hc⟩ := h.at_ (by omega)
  have hj5 : j / 5 < l.length := by omega
  have e1 : j = (j / 5) * 5 + j % 5 := by omega
  rw [e1, ecs_at l (j / 5) hj5 (j % 5) (Nat.mod_lt _ (by omega))] at hj
  rw [ha] at hA
  simp only [Option.some.injEq] at hA
  subst hA
  rw [add_off]
  obtain ⟨c0, c1, c2, c3, c4⟩ := hc (j / 5) hj5
  have hm : j % 5 < 5 := Nat.mod_lt _ (by omega)
  generalize hr : j % 5 = r at hj hm e1
  have e2 : off + j = off + j / 5 * 5 + r := by omega
  rw [e2]
  match r, hm with
  | 0, _ => rw [← hj]; exact c0
  | 1, _ => rw [← hj]; exact c1
  | 2, _ => rw [← hj]; exact c2
  | 3, _ => rw [← hj]; exact c3
  | 4, _ => rw [← hj]; exact c4

theorem info_lent : (Try.prog.info? 36).map (fun i => (i.zero, i.size, i.bytes)) = some (some (.agg #[.string ⟨#[]⟩, .int .i64 0, .bool false, .string ⟨#[]⟩, .int .i64 0]), 5, 56) := by kernel_rfl

theorem ecs_one (l : List E) : ∀ u ∈ ecs l, u.oneCell' = true := by
  intro u hu
  obtain ⟨e, -, he⟩ := List.mem_flatMap.1 hu
  simp only [E.cells, List.mem_cons, List.not_mem_nil, or_false] at he
  rcases he with rfl | rfl | rfl | rfl | rfl <;> rfl

theorem run_app (w : World) (A1 : Option Addr) (m : Nat) (l1 : List E) (A2 : Option Addr) (k c2 : Nat) (l2 : List E) (h1 : EntsIn w A1 l1) (hm : l1.length = m) (h2 : EntsIn w A2 l2) (hk : l2.length = k) (hb : m + k ≤ 1000) :
    ∃ A' c' w', (Builtin.append_ #[23, 23] 23 #[.slice A1 m m, .slice A2 k c2]).run Try.prog w = .ok (.slice A' (m + k) c') w' ∧ EntsIn w' A' (l1 ++ l2) ∧ Below w.heap.size w w' := by
  obtain ⟨i0, hi, hz0, hz1, hz2⟩ := info_parts info_lent
  have hwf : ∀ x ∈ l1 ++ l2, x.wf := fun x hx => by
    rcases List.mem_append.1 hx with h | h
    · exact h1.wf x h
    · exact h2.wf x h
  have hbel : ∀ w', w.grownBy w' none → Below w.heap.size w w' := fun w' hg => ⟨hg.os, hg.tape, hg.output, hg.size, fun k hk => hg.block k hk (by simp)⟩
  by_cases hk0 : k = 0
  · have hl2 : l2 = [] := List.length_eq_zero_iff.1 (by omega)
    subst hk0 hl2
    refine ⟨A1, m, w, ?_, by simpa using h1, Below.refl _ _⟩
    have hfc : (Builtin.firstCells i0.size 0 (.slice A2 0 c2)).run Try.prog w = .ok #[] w := by
      cases A2 with
      | none => exact run_firstCells_none w i0.size 0 0 c2
      | some a => exact run_firstCells_some w i0.size 0 a 0 c2 [] (by simp) (by simp)
    cases A1 <;> simp [Builtin.append_, run_underlying Try.underlying23, Builtin.lenOf, sizeOf, typeInfo, zeroValue, hi, hfc, storeCells]
  · obtain ⟨b2, o2, hA2, -, -⟩ := h2.at_ (by omega)
    have hc2 := ecs_cells h2 hA2
    subst hA2
    cases A1 with
    | none =>
      have hm0 : m = 0 := by
        rcases Nat.eq_zero_or_pos m with h | h
        · exact h
        · obtain ⟨b, off, hA, -⟩ := h1.at_ (by omega)
          cases hA
      have hl1 : l1 = [] := List.length_eq_zero_iff.1 (by omega)
      subst hm0 hl1
      obtain ⟨v', w', hr, ho, hg, -, -⟩ := run_append_own_at (P := Try.prog) w w.heap.size 23 23 36 i0 _ 5 56 Try.underlying23 hi hz0 hz1 hz2 rfl (by decide) (.slice none 0 0) 0 [] (World.ownsRow_nil _ _ _ _) ⟨b2, o2, none⟩ k c2 (ecs l2) (by rw [ecs_len, hk]) hc2 (ecs_one l2) (by unfold maxLen; omega) (by omega) (Nat.le_refl _)
      rw [List.nil_append] at ho
      obtain ⟨A', c', rfl, he, -⟩ := own_ents h2.wf (by omega) ho
      exact ⟨A', c', w', hr, by simpa using he, hbel w' hg⟩
    | some a1 =>
      have hc1 := ecs_cells h1 rfl
      obtain ⟨v', w', hr, ho, hg⟩ := run_append_arg_grows (P := Try.prog) w 23 23 36 i0 _ 5 56 Try.underlying23 hi hz0 hz1 hz2 rfl (by decide) a1 m m (ecs l1) (by rw [ecs_len, hm]) hc1 ⟨b2, o2, none⟩ k c2 (ecs l2) (by rw [ecs_len, hk]) hc2 (by omega) (by unfold maxLen; omega) (by omega)
      have ho' : w'.ownsRow w.heap.size 36 5 v' (m + k) (ecs (l1 ++ l2)) := by
        have : ecs (l1 ++ l2) = ecs l1 ++ ecs l2 := by simp [ecs]
        rw [this]; exact ho
      obtain ⟨A', c', rfl, he, -⟩ := own_ents hwf (by simp; omega) ho'
      exact ⟨A', c', w', hr, he, hbel w' hg⟩

/-- an append whose end is known, at a step of a region that draws its order -/
theorem step_app {ops : Array Oper} {o : Oper} {a : Act} {K : Act → World → Prop} {Q : Exit → Act → World → Prop} {E : Prop} {w : World} (hgd : o.guard = none) (s x : Operand) (ho : o.op = .call { callee := .builtin .append, args := #[s, x], argTypes := #[23, 23] }) (hty : o.type = 23)
    (v1 v2 : Value) (hs : a.eval s = v1) (hx : a.eval x = v2) (v' : Value) (w' : World) (happ : (Builtin.append_ #[23, 23] 23 #[v1, v2]).run Try.prog w = .ok v' w') (hk : K (a.put o.dst v') w') :
    if Region.wanted o (yielded ops a.tmps) = true then Oper.wp Try.prog o a w K Q else E := by
  have hw : Region.wanted o (yielded ops a.tmps) = true := by simp [Region.wanted, hgd]
  rw [if_pos hw]
  unfold Oper.wp execOp
  simp only [ho, hty, resolve, invoke, builtin, Sem.run_bind, Sem.run_pure, Result.andThen_ok, List.map_toArray, List.map_cons, List.map_nil, hs, hx, happ]
  exact hk
end Go.Proofs.Ytgbpnicijllmoaa
