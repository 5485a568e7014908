/- Texts joined by bundle.py: La. -/
import Derived.Test.YtffdiiolgflbkaaZat
import Derived.Deep.Cut
import Derived.Laws.Rows
import Derived.Deep.CutRange
import Derived.Deep.RegionHeld3
import Derived.BigRegion

/- edits: the program's and the document's edit. Made by gen_la.py. -/
namespace Go.Proofs.Ytffdiiolgflbkaa
open Go.RowKit
open VS
attribute [local go_sem ↓] Go.wp_at_zero Go.wp_at_succ

theorem nums_one (l : List Int) : ∀ u ∈ nums l, u.oneCell' = true := by
  intro u hu
  obtain ⟨z, -, rfl⟩ := List.mem_map.1 hu
  rfl

/-- 'append([]int64(nil), l...)' -/
theorem app_ints (w : World) (D : Option Addr) (m d : Nat) (l : List Int) (h : IntsIn w w.heap.size D l) (hm : l.length = m) (hb : m ≤ 100000000) :
    ∃ D' d' w', (Builtin.append_ #[31, 31] 31 #[.slice none 0 0, .slice D m d]).run Try.prog w = .ok (.slice D' m d') w' ∧ IntsIn w' w'.heap.size D' l ∧ m ≤ d' ∧ Below w.heap.size w w' ∧ w'.ownsRow w.heap.size 2 1 (.slice D' m d') m (nums l) := by
  obtain ⟨i0, hi, hz0, hz1, hz2⟩ := info_parts info_i64
  by_cases hm0 : m = 0
  · have hl : l = [] := List.length_eq_zero_iff.1 (by omega)
    subst hm0 hl
    have hfc : (Builtin.firstCells i0.size 0 (.slice D 0 d)).run Try.prog w = .ok #[] w := by
      cases D with
      | none => exact run_firstCells_none w i0.size 0 0 d
      | some a => exact run_firstCells_some w i0.size 0 a 0 d [] (by simp) (by simp)
    refine ⟨none, 0, w, ?_, ⟨by simp, by simp⟩, Nat.le_refl _, Below.refl _ _, World.ownsRow_nil _ _ _ _⟩
    simp [Builtin.append_, run_underlying Try.underlying31, Builtin.lenOf, sizeOf, typeInfo, hi, hfc]
  · obtain ⟨b, o, rfl, -, hc⟩ := h.2 (by omega)
    obtain ⟨v', w', hr, ho, hg, -, -⟩ := run_append_own_at (P := Try.prog) w w.heap.size 31 31 2 i0 _ 1 8 Try.underlying31 hi hz0 hz1 hz2 rfl (by decide) (.slice none 0 0) 0 [] (World.ownsRow_nil _ _ _ _) ⟨b, o, none⟩ m d (nums l) (by simp [nums, hm]) (fun j u hj => by
      have hjl : j < l.length := by
        have := (List.getElem?_eq_some_iff.1 hj).1
        simpa [nums] using this
      rw [add_off, hc j hjl]
      simpa [nums, hjl] using hj) (nums_one l) (by unfold maxLen; omega) (by omega) (Nat.le_refl _)
    rw [List.nil_append, Nat.zero_add] at ho
    obtain ⟨D', d', rfl, he, -, hd⟩ := own_nums h.1 (by omega) ho
    exact ⟨D', d', w', hr, he, hd, ⟨hg.os, hg.tape, hg.output, hg.size, fun k hk => hg.block k hk (by simp [Value.ownBlock])⟩, ho⟩

/-- .. as a step of a region that draws its order -/
theorem step_app_ints {ops : Array Oper} {o : Oper} {a : Act} {K : Act → World → Prop} {Q : Exit → Act → World → Prop} {E : Prop} {w : World} (hgd : o.guard = none) (s x : Operand) (ho : o.op = .call { callee := .builtin .append, args := #[s, x], argTypes := #[31, 31] }) (hty : o.type = 31)
    (D : Option Addr) (m d : Nat) (l : List Int) (hs : a.eval s = .slice none 0 0) (hx : a.eval x = .slice D m d) (h : IntsIn w w.heap.size D l) (hm : l.length = m) (hb : m ≤ 2000000) (hk : ∀ D' d' w', IntsIn w' w'.heap.size D' l → m ≤ d' → Below w.heap.size w w' → w'.ownsRow w.heap.size 2 1 (.slice D' m d') m (nums l) → K (a.put o.dst (.slice D' m d')) w') :
    if Region.wanted o (yielded ops a.tmps) = true then Oper.wp Try.prog o a w K Q else E := by
  obtain ⟨D', d', w', h1, h2, h3, h4, h5⟩ := app_ints w D m d l h hm (by omega)
  exact step_app 31 hgd s x ho hty _ _ hs hx _ _ h1 (hk D' d' w' h2 h3 h4 h5)

theorem own_set {w : World} {B : Nat} {e : TypeId} {s : Nat} {v : Value} {n : Nat} {xs : List Value} (h : w.ownsRow B e s v n xs) {x : Nat} (hx : x < B) (i : Nat) (u : Value) : (w.setCell ⟨x, i, none⟩ u).ownsRow B e s v n xs := by
  refine h.kept (grownBy_setCell w ⟨x, i, none⟩ u) ?_
  cases hv : v.ownBlock with
  | none => exact .inl rfl
  | some g =>
    refine .inr (fun e => ?_)
    have := (h.lt g hv).1
    have e2 : g = x := by simpa using e
    omega

theorem own_kinds {w : World} {B B' s s' n n' : Nat} {e e' : TypeId} {v v' : Value} {xs xs' : List Value} (h : w.ownsRow B e s v n xs) (h' : w.ownsRow B' e' s' v' n' xs') (hne : e ≠ e') : ∀ g, v.ownBlock = some g → v'.ownBlock ≠ some g := by
  intro g hg hg'
  rcases h.2 with ⟨rfl, -⟩ | ⟨g1, c1, r1, rfl, -, h1, -⟩
  · simp [Value.ownBlock] at hg
  · rcases h'.2 with ⟨rfl, -⟩ | ⟨g2, c2, r2, rfl, -, h2, -⟩
    · simp [Value.ownBlock] at hg'
    · simp only [Value.ownBlock, Option.some.injEq] at hg hg'
      subst hg
      subst hg'
      rw [h1] at h2
      simp only [Option.some.injEq, Obj.cells.injEq] at h2
      exact hne h2.2.1

/-- both edits in the making: the program's in block p, the document's in block q, their rows in blocks from B on; W: the world at the beginning -/
structure Eds (p q B : Nat) (W w : World) (va vb D1 D2 : Value) (la lb : List M) (el en es : Int) : Prop where
  rowA : w.heap[p]? = some (.cells #[va, D1, .int .i64 el, .int .i64 en, .int .i64 es] 36 (0, 0))
  rowB : w.heap[q]? = some (.cells #[vb, D2, .int .i64 el, .int .i64 en, .int .i64 es] 38 (0, 0))
  ownA : w.ownsRow B 81 5 va la.length (cs5 la)
  ownB : w.ownsRow B 66 5 vb lb.length (cs5 lb)
  pq : p < q
  qB : q < B
  out : Below 0 W w
  BW : B ≤ W.heap.size
  blk : ∀ k, k < B → k ≠ p → k ≠ q → w.heap[k]? = W.heap[k]?

section
variable {p q B : Nat} {W w w' : World} {va vb D1 D2 : Value} {la lb : List M} {el en es : Int}
theorem Eds.lt (h : Eds p q B W w va vb D1 D2 la lb el en es) : B ≤ w.heap.size := Nat.le_trans h.BW h.out.size
theorem Eds.below (h : Eds p q B W w va vb D1 D2 la lb el en es) (hb : Below w.heap.size w w') : Eds p q B W w' va vb D1 D2 la lb el en es :=
  have h1 := h.lt
  have h2 := h.pq
  have h3 := h.qB
  ⟨(hb.block p (by omega)).trans h.rowA, (hb.block q (by omega)).trans h.rowB, own_below h.ownA hb, own_below h.ownB hb, h.pq, h.qB, h.out.trans (hb.mono (Nat.zero_le _)), h.BW, fun k hk h4 h5 => (hb.block k (by omega)).trans (h.blk k hk h4 h5)⟩
theorem Eds.low (h : Eds p q B W w va vb D1 D2 la lb el en es) {k : Nat} (hk : k ≤ p) : Below k W w :=
  ⟨h.out.os, h.out.tape, h.out.output, h.out.size, fun i hi => h.blk i (by have := h.pq; have := h.qB; omega) (by omega) (by have := h.pq; omega)⟩
theorem Eds.ints (h : Eds p q B W w va vb D1 D2 la lb el en es) {D : Option Addr} {l : List Int} (hi : IntsIn W B D l) (hp : ∀ z ∈ fb D, z ≠ p ∧ z ≠ q) : IntsIn w w.heap.size D l :=
  ⟨hi.1, fun hl => by
    obtain ⟨b, o, rfl, hb, hc⟩ := hi.2 hl
    have h1 := hp b (by simp [fb])
    refine ⟨b, o, rfl, Nat.lt_of_lt_of_le hb h.lt, fun j hj => ?_⟩
    rw [← hc j hj]
    simp only [World.cell?, h.blk b hb h1.1 h1.2]⟩
theorem Eds.putA (h : Eds p q B W w va vb D1 D2 la lb el en es) {W7 w8 : World} {o : Obj} {v8 : Value} {e : M} (h7 : Below w.heap.size w W7) (hg : (W7.alloc o).grownBy w8 va.ownBlock) (ho : w8.ownsRow B 81 5 v8 (la.length + 1) (cs5 la ++ M.c5 e)) :
    w8.cell? ⟨p, 0, none⟩ = some va ∧ w8.frozen? ⟨p, 0, none⟩ = false ∧ Eds p q B W (w8.setCell ⟨p, 0, none⟩ v8) v8 vb D1 D2 (la ++ [e]) lb el en es ∧ (∀ b, w.heap.size ≤ b → b < W7.heap.size → (w8.setCell ⟨p, 0, none⟩ v8).heap[b]? = W7.heap[b]?) := by
  have h1 := h.lt
  have h2 := h.pq
  have h3 := h.qB
  have hs := h7.size
  have ha : Below w.heap.size w (W7.alloc o) := h7.alloc hs o
  have E := h.below ha
  have hne : ∀ k, k < B → some k ≠ va.ownBlock := fun k hk e => by have := (h.ownA.lt k e.symm).1; omega
  have hb8 : ∀ k, k < B → w8.heap[k]? = (W7.alloc o).heap[k]? := fun k hk => hg.block k (by have := E.lt; omega) (hne k hk)
  have r8 := (hb8 p (by omega)).trans E.rowA
  refine ⟨cell_of_row _ _ _ _ _ _ r8, frozen_of_row _ _ _ _ _ r8, ⟨?_, ?_, ?_, ?_, h.pq, h.qB, ?_, h.BW, fun k hk h4 h5 => ?_⟩, fun b hb hb' => ?_⟩
  · rw [heap_set_fr r8]
    rfl
  · exact (Below.heap_setCell _ _ _ _ (by simp; omega)).trans ((hb8 q h3).trans E.rowB)
  · rw [List.length_append, cs5_snoc]
    exact own_set ho (by omega) _ _
  · refine own_set (E.ownB.kept hg ?_) (by omega) _ _
    cases hv : vb.ownBlock with
    | none => exact .inl rfl
    | some g => exact .inr (fun e => own_kinds E.ownA E.ownB (by decide) g e.symm hv)
  · exact (h.out.trans ((ha.mono (Nat.zero_le _)).grown hg (Nat.zero_le _) (fun _ _ => Nat.zero_le _))).setCell (Nat.zero_le _) _
  · exact (Below.heap_setCell _ _ _ _ (by simpa using h4)).trans ((hb8 k hk).trans (E.blk k hk h4 h5))
  · refine (Below.heap_setCell _ _ _ _ (by simp; omega)).trans ((hg.block b (by simp; omega) (fun e => by have := (h.ownA.lt b e.symm).2; omega)).trans (Below.heap_alloc _ _ _ hb'))
theorem Eds.putB (h : Eds p q B W w va vb D1 D2 la lb el en es) {W7 w8 : World} {o : Obj} {v8 : Value} {e : M} (h7 : Below w.heap.size w W7) (hg : (W7.alloc o).grownBy w8 vb.ownBlock) (ho : w8.ownsRow B 66 5 v8 (lb.length + 1) (cs5 lb ++ M.c5 e)) :
    w8.cell? ⟨q, 0, none⟩ = some vb ∧ w8.frozen? ⟨q, 0, none⟩ = false ∧ Eds p q B W (w8.setCell ⟨q, 0, none⟩ v8) va v8 D1 D2 la (lb ++ [e]) el en es := by
  have h1 := h.lt
  have h2 := h.pq
  have h3 := h.qB
  have hs := h7.size
  have ha : Below w.heap.size w (W7.alloc o) := h7.alloc hs o
  have E := h.below ha
  have hne : ∀ k, k < B → some k ≠ vb.ownBlock := fun k hk e => by have := (h.ownB.lt k e.symm).1; omega
  have hb8 : ∀ k, k < B → w8.heap[k]? = (W7.alloc o).heap[k]? := fun k hk => hg.block k (by have := E.lt; omega) (hne k hk)
  have r8 := (hb8 q h3).trans E.rowB
  refine ⟨cell_of_row _ _ _ _ _ _ r8, frozen_of_row _ _ _ _ _ r8, ⟨?_, ?_, ?_, ?_, h.pq, h.qB, ?_, h.BW, fun k hk h4 h5 => ?_⟩⟩
  · exact (Below.heap_setCell _ _ _ _ (by simp; omega)).trans ((hb8 p (by omega)).trans E.rowA)
  · rw [heap_set_fr r8]
    rfl
  · refine own_set (E.ownA.kept hg ?_) (by omega) _ _
    cases hv : va.ownBlock with
    | none => exact .inl rfl
    | some g => exact .inr (fun e => own_kinds E.ownB E.ownA (by decide) g e.symm hv)
  · rw [List.length_append, cs5_snoc]
    exact own_set ho (by omega) _ _
  · exact (h.out.trans ((ha.mono (Nat.zero_le _)).grown hg (Nat.zero_le _) (fun _ _ => Nat.zero_le _))).setCell (Nat.zero_le _) _
  · exact (Below.heap_setCell _ _ _ _ (by simpa using h5)).trans ((hb8 k hk).trans (E.blk k hk h4 h5))
end
theorem own_fb {w : World} {B s m d : Nat} {e : TypeId} {D : Option Addr} {xs : List Value} (h : w.ownsRow B e s (.slice D m d) m xs) : ∀ z ∈ fb D, B ≤ z ∧ z < w.heap.size := by
  intro z hz
  cases D with
  | none => simp [fb] at hz
  | some a => exact h.lt z (by simp [fb] at hz; simp [Value.ownBlock, hz])
theorem five_size (w : World) (b : Nat) (v0 v1 v2 v3 v4 : Value) : (((((w.setCell ⟨b, 0, none⟩ v0).setCell ⟨b, 1, none⟩ v1).setCell ⟨b, 2, none⟩ v2).setCell ⟨b, 3, none⟩ v3).setCell ⟨b, 4, none⟩ v4).heap.size = w.heap.size := by simp [World.setCell]
theorem five_far (w : World) (b k : Nat) (hk : k ≠ b) (v0 v1 v2 v3 v4 : Value) : (((((w.setCell ⟨b, 0, none⟩ v0).setCell ⟨b, 1, none⟩ v1).setCell ⟨b, 2, none⟩ v2).setCell ⟨b, 3, none⟩ v3).setCell ⟨b, 4, none⟩ v4).heap[k]? = w.heap[k]? := by
  rw [Below.heap_setCell _ _ _ _ hk, Below.heap_setCell _ _ _ _ hk, Below.heap_setCell _ _ _ _ hk, Below.heap_setCell _ _ _ _ hk, Below.heap_setCell _ _ _ _ hk]
theorem five_ne (w : World) (b x i : Nat) (hx : x ≠ b) (v0 v1 v2 v3 v4 u : Value) (h : w.cell? ⟨x, i, none⟩ = some u) : (((((w.setCell ⟨b, 0, none⟩ v0).setCell ⟨b, 1, none⟩ v1).setCell ⟨b, 2, none⟩ v2).setCell ⟨b, 3, none⟩ v3).setCell ⟨b, 4, none⟩ v4).cell? ⟨x, i, none⟩ = some u := by
  have e : ∀ (W : World) (j : Nat) (v : Value), (W.setCell ⟨b, j, none⟩ v).cell? ⟨x, i, none⟩ = W.cell? ⟨x, i, none⟩ := fun W j v => by
    unfold World.cell?
    rw [Below.heap_setCell _ _ _ _ hx]
  rw [e, e, e, e, e, h]
theorem five_row (w : World) (b : Nat) (ty : TypeId) (z0 z1 z2 z3 z4 v0 v1 v2 v3 v4 : Value) (h : w.heap[b]? = some (.cells #[z0, z1, z2, z3, z4] ty (0, 0))) : (((((w.setCell ⟨b, 0, none⟩ v0).setCell ⟨b, 1, none⟩ v1).setCell ⟨b, 2, none⟩ v2).setCell ⟨b, 3, none⟩ v3).setCell ⟨b, 4, none⟩ v4).heap[b]? = some (.cells #[v0, v1, v2, v3, v4] ty (0, 0)) := by
  have h0 := Lib.heap_setCell_same (i := 0) h v0
  have h1 := Lib.heap_setCell_same (i := 1) h0 v1
  have h2 := Lib.heap_setCell_same (i := 2) h1 v2
  have h3 := Lib.heap_setCell_same (i := 3) h2 v3
  have h4 := Lib.heap_setCell_same (i := 4) h3 v4
  simpa using h4
theorem five_below {k : Nat} {w0 w : World} (h : Below k w0 w) (b : Nat) (hb : k ≤ b) (v0 v1 v2 v3 v4 : Value) : Below k w0 (((((w.setCell ⟨b, 0, none⟩ v0).setCell ⟨b, 1, none⟩ v1).setCell ⟨b, 2, none⟩ v2).setCell ⟨b, 3, none⟩ v3).setCell ⟨b, 4, none⟩ v4) :=
  ((((h.setCell (p := ⟨b, 0, none⟩) hb v0).setCell (p := ⟨b, 1, none⟩) hb v1).setCell (p := ⟨b, 2, none⟩) hb v2).setCell (p := ⟨b, 3, none⟩) hb v3).setCell (p := ⟨b, 4, none⟩) hb v4
theorem five_ints {w : World} {B m d : Nat} {D : Option Addr} {l : List Int} (h : IntsIn w w.heap.size D l) (ho : w.ownsRow B 2 1 (.slice D m d) m (nums l)) (hl : l.length = m) (b : Nat) (hb : b < B) (v0 v1 v2 v3 v4 : Value) : IntsIn (((((w.setCell ⟨b, 0, none⟩ v0).setCell ⟨b, 1, none⟩ v1).setCell ⟨b, 2, none⟩ v2).setCell ⟨b, 3, none⟩ v3).setCell ⟨b, 4, none⟩ v4) (((((w.setCell ⟨b, 0, none⟩ v0).setCell ⟨b, 1, none⟩ v1).setCell ⟨b, 2, none⟩ v2).setCell ⟨b, 3, none⟩ v3).setCell ⟨b, 4, none⟩ v4).heap.size D l := by
  obtain ⟨D', d', e, he, -, -⟩ := own_nums h.1 (by omega) (own_set (own_set (own_set (own_set (own_set ho hb 0 v0) hb 1 v1) hb 2 v2) hb 3 v3) hb 4 v4)
  have e1 : D = D' := by simp at e; exact e.1
  rw [e1]
  exact he

theorem results_cells2 {fn : Func} {p q : Tmp} {ty tz : TypeId} (h : fn.results = #[.cell p ty, .cell q tz]) (tmps : Array Value) (w : World) (b1 b2 : Nat) (v1 v2 : Value)
    (hp : tmps.getD p undef = .pointer (some ⟨b1, 0, none⟩)) (hq : tmps.getD q undef = .pointer (some ⟨b2, 0, none⟩)) (h1 : (loadVar ty ⟨b1, 0, none⟩).run Try.prog w = .ok v1 w) (h2 : (loadVar tz ⟨b2, 0, none⟩).run Try.prog w = .ok v2 w) :
    (results fn tmps).run Try.prog w = .ok (.tuple #[v1, v2]) w := by
  have hp' : tmps[p]?.getD undef = .pointer (some ⟨b1, 0, none⟩) := by simpa using hp
  have hq' : tmps[q]?.getD undef = .pointer (some ⟨b2, 0, none⟩) := by simpa using hq
  simp [results, h, hp', hq', asAddr, h1, h2, Sem.run_bind, Result.andThen]
theorem q_drew {G wr : World} {x : Nat} {o1 o2 : Obj} (h1 : G.heap[x + 1]? = some o1) (h2 : G.heap[x + 2]? = some o2) (h3 : ∀ k, k ≠ x + 1 → k ≠ x + 2 → G.heap[k]? = wr.heap[k]?) (h4 : Below 0 wr G) : G.drew.heap[x + 1]? = some o1 ∧ G.drew.heap[x + 2]? = some o2 ∧ (∀ k, k ≠ x + 1 → k ≠ x + 2 → G.drew.heap[k]? = wr.heap[k]?) ∧ Below 0 wr G.drew := ⟨h1, h2, h3, h4.drew⟩
theorem in5_far {w w' : World} {A : Option Addr} {l : List M} (h : In5 w A l) (hs : w.heap.size ≤ w'.heap.size) (hb : ∀ z ∈ fb A, w'.heap[z]? = w.heap[z]?) : In5 w' A l :=
  ⟨h.wf, fun hl => by
    obtain ⟨b, off, rfl, hlt, hc⟩ := h.at_ hl
    have e := hb b (by simp [fb])
    have e2 : ∀ k, w'.cell? ⟨b, k, none⟩ = w.cell? ⟨b, k, none⟩ := fun k => by simp only [World.cell?, e]
    refine ⟨b, off, rfl, Nat.lt_of_lt_of_le hlt hs, fun j hj => ?_⟩
    simpa only [e2] using hc j hj⟩
theorem ints_far {w w' : World} {D : Option Addr} {l : List Int} (h : IntsIn w w.heap.size D l) (hs : w.heap.size ≤ w'.heap.size) (hb : ∀ z ∈ fb D, w'.heap[z]? = w.heap[z]?) : IntsIn w' w'.heap.size D l :=
  ⟨h.1, fun hl => by
    obtain ⟨b, o, rfl, hlt, hc⟩ := h.2 hl
    have e := hb b (by simp [fb])
    refine ⟨b, o, rfl, Nat.lt_of_lt_of_le hlt hs, fun j hj => ?_⟩
    rw [← hc j hj]
    simp only [World.cell?, e]⟩

set_option maxRecDepth 100000 in
set_option maxHeartbeats 8000000 in
theorem edits_any (A : Option Addr) (n c : Nat) (D : Option Addr) (m d : Nat) (e : Ed) (w : World) (he : EdIn w A n c D m d e) (hn : n ≤ 2000000) (hm : m ≤ 2000000) :
    Calls Try.prog 9 #[.agg #[.slice A n c, .slice D m d, .int .i64 e.log, .int .i64 e.next, .int .i64 e.seq]] w fun r w' => ∃ A1 c1 D1 d1 A2 c2 D2 d2, r = .returned (.tuple #[.agg #[.slice A1 n c1, .slice D1 m d1, .int .i64 e.log, .int .i64 e.next, .int .i64 e.seq], .agg #[.slice A2 n c2, .slice D2 m d2, .int .i64 e.log, .int .i64 e.next, .int .i64 e.seq]]) ∧ EdIn w' A1 n c1 D1 m d1 e ∧ EdIn w' A2 n c2 D2 m d2 e ∧ Below w.heap.size w w' := by
  obtain ⟨i1, hi1, hy0, hy1, hy2⟩ := info_parts info_place
  obtain ⟨i2, hi2, hz0, hz1, hz2⟩ := info_parts info_rmeta
  have HE := Lib.hid he
  obtain ⟨el, hel⟩ : ∃ x, e.log = x := ⟨_, rfl⟩
  obtain ⟨en, hen⟩ : ∃ x, e.next = x := ⟨_, rfl⟩
  obtain ⟨es, hes⟩ : ∃ x, e.seq = x := ⟨_, rfl⟩
  rw [hel, hen, hes]
  clear he hel hen hes
  go_enter Try.func9, Try.ntmps9
  go_wp2_with fail
  have hb0 : Below w.heap.size w (((w.alloc (.cells #[.slice A n c, .slice D m d, .int .i64 el, .int .i64 en, .int .i64 es] 33)).alloc (.cells #[.slice none 0 0, .slice none 0 0, .int .i64 0, .int .i64 0, .int .i64 0] 36)).alloc (.cells #[.slice none 0 0, .slice none 0 0, .int .i64 0, .int .i64 0, .int .i64 0] 38)) := (((Below.refl _ w).alloc (Nat.le_refl _) _).alloc (by simp) _).alloc (by simp; omega) _
  have hs0 : (((w.alloc (.cells #[.slice A n c, .slice D m d, .int .i64 el, .int .i64 en, .int .i64 es] 33)).alloc (.cells #[.slice none 0 0, .slice none 0 0, .int .i64 0, .int .i64 0, .int .i64 0] 36)).alloc (.cells #[.slice none 0 0, .slice none 0 0, .int .i64 0, .int .i64 0, .int .i64 0] 38)).heap.size = w.heap.size + 3 := by simp
  have hrl : (((w.alloc (.cells #[.slice A n c, .slice D m d, .int .i64 el, .int .i64 en, .int .i64 es] 33)).alloc (.cells #[.slice none 0 0, .slice none 0 0, .int .i64 0, .int .i64 0, .int .i64 0] 36)).alloc (.cells #[.slice none 0 0, .slice none 0 0, .int .i64 0, .int .i64 0, .int .i64 0] 38)).heap[w.heap.size]? = some (.cells #[.slice A n c, .slice D m d, .int .i64 el, .int .i64 en, .int .i64 es] 33 (0, 0)) := by
    rw [Below.heap_alloc _ _ _ (by simp <;> omega), Below.heap_alloc _ _ _ (by simp <;> omega)]
    exact heap_alloc_new w _
  have hra : (((w.alloc (.cells #[.slice A n c, .slice D m d, .int .i64 el, .int .i64 en, .int .i64 es] 33)).alloc (.cells #[.slice none 0 0, .slice none 0 0, .int .i64 0, .int .i64 0, .int .i64 0] 36)).alloc (.cells #[.slice none 0 0, .slice none 0 0, .int .i64 0, .int .i64 0, .int .i64 0] 38)).heap[w.heap.size + 1]? = some (.cells #[.slice none 0 0, .slice none 0 0, .int .i64 0, .int .i64 0, .int .i64 0] 36 (0, 0)) := by
    rw [Below.heap_alloc _ _ _ (by simp <;> omega)]
    have := heap_alloc_new (w.alloc (.cells #[.slice A n c, .slice D m d, .int .i64 el, .int .i64 en, .int .i64 es] 33)) (.cells #[.slice none 0 0, .slice none 0 0, .int .i64 0, .int .i64 0, .int .i64 0] 36)
    simpa using this
  have hrb : (((w.alloc (.cells #[.slice A n c, .slice D m d, .int .i64 el, .int .i64 en, .int .i64 es] 33)).alloc (.cells #[.slice none 0 0, .slice none 0 0, .int .i64 0, .int .i64 0, .int .i64 0] 36)).alloc (.cells #[.slice none 0 0, .slice none 0 0, .int .i64 0, .int .i64 0, .int .i64 0] 38)).heap[w.heap.size + 2]? = some (.cells #[.slice none 0 0, .slice none 0 0, .int .i64 0, .int .i64 0, .int .i64 0] 38 (0, 0)) := by
    have := heap_alloc_new ((w.alloc (.cells #[.slice A n c, .slice D m d, .int .i64 el, .int .i64 en, .int .i64 es] 33)).alloc (.cells #[.slice none 0 0, .slice none 0 0, .int .i64 0, .int .i64 0, .int .i64 0] 36)) (.cells #[.slice none 0 0, .slice none 0 0, .int .i64 0, .int .i64 0, .int .i64 0] 38)
    simpa using this
  generalize (((w.alloc (.cells #[.slice A n c, .slice D m d, .int .i64 el, .int .i64 en, .int .i64 es] 33)).alloc (.cells #[.slice none 0 0, .slice none 0 0, .int .i64 0, .int .i64 0, .int .i64 0] 36)).alloc (.cells #[.slice none 0 0, .slice none 0 0, .int .i64 0, .int .i64 0, .int .i64 0] 38)) = w0 at hb0 hs0 hrl hra hrb ⊢
  obtain ⟨x, hx⟩ : ∃ x, w.heap.size = x := ⟨_, rfl⟩
  have HX := Lib.hid hx
  have HE0 := Lib.hid (HE.out.below hb0)
  rw [hx] at hb0 hs0 hrl hra hrb ⊢
  rw [show x + 1 + 1 = x + 2 by omega]
  have HS0 := Lib.hid hs0
  have HRL := Lib.hid hrl
  have HRA := Lib.hid hra
  have HRB := Lib.hid hrb
  have HLOW : Hid (∀ W, Below (x + 3) w0 W → Below w.heap.size w W) := Lib.hid fun W h => by
    rw [hx]
    exact hb0.trans (h.mono (by omega))
  have l0 : w0.cell? ⟨x, 0, none⟩ = some (.slice A n c) := cell_of_row _ _ _ _ _ _ hrl
  have l1 : w0.cell? ⟨x, 1, none⟩ = some (.slice D m d) := cell_of_row _ _ _ _ _ _ hrl
  have l2 : w0.cell? ⟨x, 2, none⟩ = some (.int .i64 el) := cell_of_row _ _ _ _ _ _ hrl
  have l3 : w0.cell? ⟨x, 3, none⟩ = some (.int .i64 en) := cell_of_row _ _ _ _ _ _ hrl
  have l4 : w0.cell? ⟨x, 4, none⟩ = some (.int .i64 es) := cell_of_row _ _ _ _ _ _ hrl
  have hxl : x < w0.heap.size := by omega
  have HSI := Lib.hid (show x + 3 ≤ w0.heap.size by omega)
  clear hb0 hs0 hrl hra hrb hx
  have HDR := Lib.hid HE.out.dlen
  have HI0 := Lib.hid HE0.out.drop
  obtain ⟨dl, hdl⟩ : ∃ dl, e.drop = dl := ⟨_, rfl⟩
  rw [hdl] at HDR HI0
  have HDL := Lib.hid hdl
  clear hdl
  go_upto_region 1 with fail
  go_cut [4] from 8 to 17 (fun p wx => ∃ pa D1 d1, p = .pointer (some ⟨pa, 0, none⟩) ∧ w0.heap.size ≤ pa ∧ wx.heap[pa]? = some (.cells #[.slice none 0 0, .slice D1 m d1, .int .i64 el, .int .i64 en, .int .i64 es] 36 (0, 0)) ∧ IntsIn wx wx.heap.size D1 dl ∧ m ≤ d1 ∧ Below w0.heap.size w0 wx ∧ ∀ z ∈ fb D1, z ≠ pa ∧ z < wx.heap.size ∧ w0.heap.size ≤ z)
  case first =>
    rename_i J1 K1 hJ1 hK1
    have HS1 : Hid (x + 3 ≤ w0.heap.size) := HSI
    have HIa : Hid (IntsIn w0.drew w0.drew.heap.size D dl) := Lib.hid (HI0.out.mono ((Below.refl _ w0).drew))
    have HIb : Hid (IntsIn (w0.drew.alloc (.cells #[.slice none 0 0, .slice none 0 0, .int .i64 0, .int .i64 0, .int .i64 0] 36)) (w0.drew.alloc (.cells #[.slice none 0 0, .slice none 0 0, .int .i64 0, .int .i64 0, .int .i64 0] 36)).heap.size D dl) := Lib.hid (HI0.out.mono (((Below.refl _ w0).drew).alloc (Nat.le_refl _) _))
    have HIc : Hid (IntsIn (w0.alloc (.cells #[.slice none 0 0, .slice none 0 0, .int .i64 0, .int .i64 0, .int .i64 0] 36)).drew (w0.alloc (.cells #[.slice none 0 0, .slice none 0 0, .int .i64 0, .int .i64 0, .int .i64 0] 36)).drew.heap.size D dl) := Lib.hid (HI0.out.mono (((Below.refl _ w0).alloc (Nat.le_refl _) _).drew))
    have HBa : Hid (∀ w1, Below w0.drew.heap.size w0.drew w1 → Below w0.heap.size w0 w1) := Lib.hid fun w1 h => ((Below.refl _ w0).drew).trans h
    have HBb : Hid (∀ w1, Below (w0.drew.alloc (.cells #[.slice none 0 0, .slice none 0 0, .int .i64 0, .int .i64 0, .int .i64 0] 36)).heap.size (w0.drew.alloc (.cells #[.slice none 0 0, .slice none 0 0, .int .i64 0, .int .i64 0, .int .i64 0] 36)) w1 → Below w0.heap.size w0 w1) := Lib.hid fun w1 h => (((Below.refl _ w0).drew).alloc (Nat.le_refl _) _).trans (h.mono (by simp))
    have HBc : Hid (∀ w1, Below (w0.alloc (.cells #[.slice none 0 0, .slice none 0 0, .int .i64 0, .int .i64 0, .int .i64 0] 36)).drew.heap.size (w0.alloc (.cells #[.slice none 0 0, .slice none 0 0, .int .i64 0, .int .i64 0, .int .i64 0] 36)).drew w1 → Below w0.heap.size w0 w1) := Lib.hid fun w1 h => (((Below.refl _ w0).alloc (Nat.le_refl _) _).drew).trans (h.mono (by simp))
    have HZb : Hid (∀ w1, Below (w0.drew.alloc (.cells #[.slice none 0 0, .slice none 0 0, .int .i64 0, .int .i64 0, .int .i64 0] 36)).heap.size (w0.drew.alloc (.cells #[.slice none 0 0, .slice none 0 0, .int .i64 0, .int .i64 0, .int .i64 0] 36)) w1 → w1.heap[w0.heap.size]? = some (.cells #[.slice none 0 0, .slice none 0 0, .int .i64 0, .int .i64 0, .int .i64 0] 36 (0, 0))) := Lib.hid fun w1 h => (h.block w0.heap.size (by simp)).trans (heap_alloc_new w0.drew _)
    have HZc : Hid (∀ w1, Below (w0.alloc (.cells #[.slice none 0 0, .slice none 0 0, .int .i64 0, .int .i64 0, .int .i64 0] 36)).drew.heap.size (w0.alloc (.cells #[.slice none 0 0, .slice none 0 0, .int .i64 0, .int .i64 0, .int .i64 0] 36)).drew w1 → w1.heap[w0.heap.size]? = some (.cells #[.slice none 0 0, .slice none 0 0, .int .i64 0, .int .i64 0, .int .i64 0] 36 (0, 0))) := Lib.hid fun w1 h => (h.block w0.heap.size (by simp)).trans (heap_alloc_new w0 _)
    have b1 : (w0.drew.alloc (.cells #[.slice none 0 0, .slice none 0 0, .int .i64 0, .int .i64 0, .int .i64 0] 36)).cell? ⟨x, 1, none⟩ = some (.slice D m d) := ((((Below.refl _ w0).drew).alloc (Nat.le_refl _) (.cells #[.slice none 0 0, .slice none 0 0, .int .i64 0, .int .i64 0, .int .i64 0] 36)).cell (p := ⟨x, 1, none⟩) (by have := HS1.out; simp; omega)).trans l1
    have b2 : (w0.drew.alloc (.cells #[.slice none 0 0, .slice none 0 0, .int .i64 0, .int .i64 0, .int .i64 0] 36)).cell? ⟨x, 2, none⟩ = some (.int .i64 el) := ((((Below.refl _ w0).drew).alloc (Nat.le_refl _) (.cells #[.slice none 0 0, .slice none 0 0, .int .i64 0, .int .i64 0, .int .i64 0] 36)).cell (p := ⟨x, 2, none⟩) (by have := HS1.out; simp; omega)).trans l2
    have b3 : (w0.drew.alloc (.cells #[.slice none 0 0, .slice none 0 0, .int .i64 0, .int .i64 0, .int .i64 0] 36)).cell? ⟨x, 3, none⟩ = some (.int .i64 en) := ((((Below.refl _ w0).drew).alloc (Nat.le_refl _) (.cells #[.slice none 0 0, .slice none 0 0, .int .i64 0, .int .i64 0, .int .i64 0] 36)).cell (p := ⟨x, 3, none⟩) (by have := HS1.out; simp; omega)).trans l3
    have b4 : (w0.drew.alloc (.cells #[.slice none 0 0, .slice none 0 0, .int .i64 0, .int .i64 0, .int .i64 0] 36)).cell? ⟨x, 4, none⟩ = some (.int .i64 es) := ((((Below.refl _ w0).drew).alloc (Nat.le_refl _) (.cells #[.slice none 0 0, .slice none 0 0, .int .i64 0, .int .i64 0, .int .i64 0] 36)).cell (p := ⟨x, 4, none⟩) (by have := HS1.out; simp; omega)).trans l4
    have c1 : (w0.alloc (.cells #[.slice none 0 0, .slice none 0 0, .int .i64 0, .int .i64 0, .int .i64 0] 36)).drew.cell? ⟨x, 1, none⟩ = some (.slice D m d) := ((((Below.refl _ w0).alloc (Nat.le_refl _) (.cells #[.slice none 0 0, .slice none 0 0, .int .i64 0, .int .i64 0, .int .i64 0] 36)).drew).cell (p := ⟨x, 1, none⟩) (by have := HS1.out; simp; omega)).trans l1
    have c2 : (w0.alloc (.cells #[.slice none 0 0, .slice none 0 0, .int .i64 0, .int .i64 0, .int .i64 0] 36)).drew.cell? ⟨x, 2, none⟩ = some (.int .i64 el) := ((((Below.refl _ w0).alloc (Nat.le_refl _) (.cells #[.slice none 0 0, .slice none 0 0, .int .i64 0, .int .i64 0, .int .i64 0] 36)).drew).cell (p := ⟨x, 2, none⟩) (by have := HS1.out; simp; omega)).trans l2
    have c3 : (w0.alloc (.cells #[.slice none 0 0, .slice none 0 0, .int .i64 0, .int .i64 0, .int .i64 0] 36)).drew.cell? ⟨x, 3, none⟩ = some (.int .i64 en) := ((((Below.refl _ w0).alloc (Nat.le_refl _) (.cells #[.slice none 0 0, .slice none 0 0, .int .i64 0, .int .i64 0, .int .i64 0] 36)).drew).cell (p := ⟨x, 3, none⟩) (by have := HS1.out; simp; omega)).trans l3
    have c4 : (w0.alloc (.cells #[.slice none 0 0, .slice none 0 0, .int .i64 0, .int .i64 0, .int .i64 0] 36)).drew.cell? ⟨x, 4, none⟩ = some (.int .i64 es) := ((((Below.refl _ w0).alloc (Nat.le_refl _) (.cells #[.slice none 0 0, .slice none 0 0, .int .i64 0, .int .i64 0, .int .i64 0] 36)).drew).cell (p := ⟨x, 4, none⟩) (by have := HS1.out; simp; omega)).trans l4
    go_region_held3 (fun w' => w'.cell? ⟨x, 1, none⟩ = some (.slice D m d) ∧ w'.cell? ⟨x, 2, none⟩ = some (.int .i64 el) ∧ w'.cell? ⟨x, 3, none⟩ = some (.int .i64 en) ∧ w'.cell? ⟨x, 4, none⟩ = some (.int .i64 es))
      (first | with_reducible exact ⟨z1, z2, z3, z4⟩ | with_reducible exact ⟨a1, a2, a3, a4⟩ | with_reducible exact ⟨b1, b2, b3, b4⟩ | with_reducible exact ⟨c1, c2, c3, c4⟩ | with_reducible exact ⟨n1, n2, n3, n4⟩ | go_keep | fail)
      (first
        | (refine step_app_ints (by rfl) _ _ (by rfl) (by rfl) D m d dl (by rfl) (by rfl) (by with_reducible exact HIa.out) HDR.out hm ?_
           intro D1 d1 w1 hin1 hd1 hb1 ho1
           have HO1 := Lib.hid ho1
           have HI1 := Lib.hid hin1
           have HD1 := Lib.hid hd1
           have HB1 : Hid (Below w0.heap.size w0 w1) := Lib.hid (HBa.out _ hb1)
           have z1 : w1.cell? ⟨x, 1, none⟩ = some (.slice D m d) := (HB1.out.cell (p := ⟨x, 1, none⟩) (by have := HS1.out; simp; omega)).trans l1
           have z2 : w1.cell? ⟨x, 2, none⟩ = some (.int .i64 el) := (HB1.out.cell (p := ⟨x, 2, none⟩) (by have := HS1.out; simp; omega)).trans l2
           have z3 : w1.cell? ⟨x, 3, none⟩ = some (.int .i64 en) := (HB1.out.cell (p := ⟨x, 3, none⟩) (by have := HS1.out; simp; omega)).trans l3
           have z4 : w1.cell? ⟨x, 4, none⟩ = some (.int .i64 es) := (HB1.out.cell (p := ⟨x, 4, none⟩) (by have := HS1.out; simp; omega)).trans l4
           have hxl1 : x < w1.heap.size := by have := HB1.out.size; have := HS1.out; omega
           have hrow1 := True.intro
           have a1 : (w1.alloc (.cells #[.slice none 0 0, .slice none 0 0, .int .i64 0, .int .i64 0, .int .i64 0] 36)).cell? ⟨x, 1, none⟩ = some (.slice D m d) := ((HB1.out.alloc HB1.out.size (.cells #[.slice none 0 0, .slice none 0 0, .int .i64 0, .int .i64 0, .int .i64 0] 36)).cell (p := ⟨x, 1, none⟩) (by have := HS1.out; simp; omega)).trans l1
           have a2 : (w1.alloc (.cells #[.slice none 0 0, .slice none 0 0, .int .i64 0, .int .i64 0, .int .i64 0] 36)).cell? ⟨x, 2, none⟩ = some (.int .i64 el) := ((HB1.out.alloc HB1.out.size (.cells #[.slice none 0 0, .slice none 0 0, .int .i64 0, .int .i64 0, .int .i64 0] 36)).cell (p := ⟨x, 2, none⟩) (by have := HS1.out; simp; omega)).trans l2
           have a3 : (w1.alloc (.cells #[.slice none 0 0, .slice none 0 0, .int .i64 0, .int .i64 0, .int .i64 0] 36)).cell? ⟨x, 3, none⟩ = some (.int .i64 en) := ((HB1.out.alloc HB1.out.size (.cells #[.slice none 0 0, .slice none 0 0, .int .i64 0, .int .i64 0, .int .i64 0] 36)).cell (p := ⟨x, 3, none⟩) (by have := HS1.out; simp; omega)).trans l3
           have a4 : (w1.alloc (.cells #[.slice none 0 0, .slice none 0 0, .int .i64 0, .int .i64 0, .int .i64 0] 36)).cell? ⟨x, 4, none⟩ = some (.int .i64 es) := ((HB1.out.alloc HB1.out.size (.cells #[.slice none 0 0, .slice none 0 0, .int .i64 0, .int .i64 0, .int .i64 0] 36)).cell (p := ⟨x, 4, none⟩) (by have := HS1.out; simp; omega)).trans l4
           clear hin1 hd1 hb1 ho1)
        | (refine step_app_ints (by rfl) _ _ (by rfl) (by rfl) D m d dl (by rfl) (by rfl) (by with_reducible exact HIb.out) HDR.out hm ?_
           intro D1 d1 w1 hin1 hd1 hb1 ho1
           have HO1 := Lib.hid ho1
           have HI1 := Lib.hid hin1
           have HD1 := Lib.hid hd1
           have HB1 : Hid (Below w0.heap.size w0 w1) := Lib.hid (HBb.out _ hb1)
           have z1 : w1.cell? ⟨x, 1, none⟩ = some (.slice D m d) := (HB1.out.cell (p := ⟨x, 1, none⟩) (by have := HS1.out; simp; omega)).trans l1
           have z2 : w1.cell? ⟨x, 2, none⟩ = some (.int .i64 el) := (HB1.out.cell (p := ⟨x, 2, none⟩) (by have := HS1.out; simp; omega)).trans l2
           have z3 : w1.cell? ⟨x, 3, none⟩ = some (.int .i64 en) := (HB1.out.cell (p := ⟨x, 3, none⟩) (by have := HS1.out; simp; omega)).trans l3
           have z4 : w1.cell? ⟨x, 4, none⟩ = some (.int .i64 es) := (HB1.out.cell (p := ⟨x, 4, none⟩) (by have := HS1.out; simp; omega)).trans l4
           have hxl1 : x < w1.heap.size := by have := HB1.out.size; have := HS1.out; omega
           have hrow1 : w1.heap[w0.heap.size]? = some (.cells #[.slice none 0 0, .slice none 0 0, .int .i64 0, .int .i64 0, .int .i64 0] 36 (0, 0)) := HZb.out _ hb1
           have hne : x ≠ w0.heap.size := by have := HS1.out; omega
           have n1 := five_ne w1 w0.heap.size x 1 hne (.slice none 0 0) (.slice D1 m d1) (.int .i64 el) (.int .i64 en) (.int .i64 es) _ z1
           have n2 := five_ne w1 w0.heap.size x 2 hne (.slice none 0 0) (.slice D1 m d1) (.int .i64 el) (.int .i64 en) (.int .i64 es) _ z2
           have n3 := five_ne w1 w0.heap.size x 3 hne (.slice none 0 0) (.slice D1 m d1) (.int .i64 el) (.int .i64 en) (.int .i64 es) _ z3
           have n4 := five_ne w1 w0.heap.size x 4 hne (.slice none 0 0) (.slice D1 m d1) (.int .i64 el) (.int .i64 en) (.int .i64 es) _ z4
           have y0 : w1.cell? ⟨w0.heap.size, 0, none⟩ = some (.slice none 0 0) := cell_of_row _ _ _ _ _ _ hrow1
           have yf0 : w1.frozen? ⟨w0.heap.size, 0, none⟩ = false := frozen_of_row _ _ _ _ _ hrow1
           have y1 : w1.cell? ⟨w0.heap.size, 1, none⟩ = some (.slice none 0 0) := cell_of_row _ _ _ _ _ _ hrow1
           have yf1 : w1.frozen? ⟨w0.heap.size, 1, none⟩ = false := frozen_of_row _ _ _ _ _ hrow1
           have y2 : w1.cell? ⟨w0.heap.size, 2, none⟩ = some (.int .i64 0) := cell_of_row _ _ _ _ _ _ hrow1
           have yf2 : w1.frozen? ⟨w0.heap.size, 2, none⟩ = false := frozen_of_row _ _ _ _ _ hrow1
           have y3 : w1.cell? ⟨w0.heap.size, 3, none⟩ = some (.int .i64 0) := cell_of_row _ _ _ _ _ _ hrow1
           have yf3 : w1.frozen? ⟨w0.heap.size, 3, none⟩ = false := frozen_of_row _ _ _ _ _ hrow1
           have y4 : w1.cell? ⟨w0.heap.size, 4, none⟩ = some (.int .i64 0) := cell_of_row _ _ _ _ _ _ hrow1
           have yf4 : w1.frozen? ⟨w0.heap.size, 4, none⟩ = false := frozen_of_row _ _ _ _ _ hrow1
           clear hin1 hd1 hb1 ho1)
        | (refine step_app_ints (by rfl) _ _ (by rfl) (by rfl) D m d dl (by rfl) (by rfl) (by with_reducible exact HIc.out) HDR.out hm ?_
           intro D1 d1 w1 hin1 hd1 hb1 ho1
           have HO1 := Lib.hid ho1
           have HI1 := Lib.hid hin1
           have HD1 := Lib.hid hd1
           have HB1 : Hid (Below w0.heap.size w0 w1) := Lib.hid (HBc.out _ hb1)
           have z1 : w1.cell? ⟨x, 1, none⟩ = some (.slice D m d) := (HB1.out.cell (p := ⟨x, 1, none⟩) (by have := HS1.out; simp; omega)).trans l1
           have z2 : w1.cell? ⟨x, 2, none⟩ = some (.int .i64 el) := (HB1.out.cell (p := ⟨x, 2, none⟩) (by have := HS1.out; simp; omega)).trans l2
           have z3 : w1.cell? ⟨x, 3, none⟩ = some (.int .i64 en) := (HB1.out.cell (p := ⟨x, 3, none⟩) (by have := HS1.out; simp; omega)).trans l3
           have z4 : w1.cell? ⟨x, 4, none⟩ = some (.int .i64 es) := (HB1.out.cell (p := ⟨x, 4, none⟩) (by have := HS1.out; simp; omega)).trans l4
           have hxl1 : x < w1.heap.size := by have := HB1.out.size; have := HS1.out; omega
           have hrow1 : w1.heap[w0.heap.size]? = some (.cells #[.slice none 0 0, .slice none 0 0, .int .i64 0, .int .i64 0, .int .i64 0] 36 (0, 0)) := HZc.out _ hb1
           have hne : x ≠ w0.heap.size := by have := HS1.out; omega
           have n1 := five_ne w1 w0.heap.size x 1 hne (.slice none 0 0) (.slice D1 m d1) (.int .i64 el) (.int .i64 en) (.int .i64 es) _ z1
           have n2 := five_ne w1 w0.heap.size x 2 hne (.slice none 0 0) (.slice D1 m d1) (.int .i64 el) (.int .i64 en) (.int .i64 es) _ z2
           have n3 := five_ne w1 w0.heap.size x 3 hne (.slice none 0 0) (.slice D1 m d1) (.int .i64 el) (.int .i64 en) (.int .i64 es) _ z3
           have n4 := five_ne w1 w0.heap.size x 4 hne (.slice none 0 0) (.slice D1 m d1) (.int .i64 el) (.int .i64 en) (.int .i64 es) _ z4
           have y0 : w1.cell? ⟨w0.heap.size, 0, none⟩ = some (.slice none 0 0) := cell_of_row _ _ _ _ _ _ hrow1
           have yf0 : w1.frozen? ⟨w0.heap.size, 0, none⟩ = false := frozen_of_row _ _ _ _ _ hrow1
           have y1 : w1.cell? ⟨w0.heap.size, 1, none⟩ = some (.slice none 0 0) := cell_of_row _ _ _ _ _ _ hrow1
           have yf1 : w1.frozen? ⟨w0.heap.size, 1, none⟩ = false := frozen_of_row _ _ _ _ _ hrow1
           have y2 : w1.cell? ⟨w0.heap.size, 2, none⟩ = some (.int .i64 0) := cell_of_row _ _ _ _ _ _ hrow1
           have yf2 : w1.frozen? ⟨w0.heap.size, 2, none⟩ = false := frozen_of_row _ _ _ _ _ hrow1
           have y3 : w1.cell? ⟨w0.heap.size, 3, none⟩ = some (.int .i64 0) := cell_of_row _ _ _ _ _ _ hrow1
           have yf3 : w1.frozen? ⟨w0.heap.size, 3, none⟩ = false := frozen_of_row _ _ _ _ _ hrow1
           have y4 : w1.cell? ⟨w0.heap.size, 4, none⟩ = some (.int .i64 0) := cell_of_row _ _ _ _ _ _ hrow1
           have yf4 : w1.frozen? ⟨w0.heap.size, 4, none⟩ = false := frozen_of_row _ _ _ _ _ hrow1
           clear hin1 hd1 hb1 ho1)
        | fail)
    all_goals refine hK1 _ _ (Met.intro (hJ1 _ _ ?_))
    all_goals (repeat apply Exists.intro)
    all_goals refine ⟨?_, rfl⟩
    all_goals first
      | (have hq : w1.heap[w0.heap.size]? = some (.cells #[.slice none 0 0, .slice none 0 0, .int .i64 0, .int .i64 0, .int .i64 0] 36 (0, 0)) := hrow1
         have q2 := five_row w1 w0.heap.size _ _ _ _ _ _ (.slice none 0 0) (.slice D1 m d1) (.int .i64 el) (.int .i64 en) (.int .i64 es) hq
         have q3 := five_ints HI1.out HO1.out HDR.out w0.heap.size (by simp) (.slice none 0 0) (.slice D1 m d1) (.int .i64 el) (.int .i64 en) (.int .i64 es)
         have q4 := five_below HB1.out w0.heap.size (Nat.le_refl _) (.slice none 0 0) (.slice D1 m d1) (.int .i64 el) (.int .i64 en) (.int .i64 es)
         have q5 : ∀ z ∈ fb D1, z ≠ w0.heap.size ∧ z < (((((w1.setCell ⟨w0.heap.size, 0, none⟩ (.slice none 0 0)).setCell ⟨w0.heap.size, 1, none⟩ (.slice D1 m d1)).setCell ⟨w0.heap.size, 2, none⟩ (.int .i64 el)).setCell ⟨w0.heap.size, 3, none⟩ (.int .i64 en)).setCell ⟨w0.heap.size, 4, none⟩ (.int .i64 es)).heap.size ∧ w0.heap.size ≤ z := fun z hz => by
           have h1 := own_fb HO1.out z hz
           have h2 : w0.heap.size < w0.heap.size + 1 := Nat.lt_succ_self _
           rw [five_size]
           simp at h1
           omega
         with_reducible exact ⟨w0.heap.size, D1, d1, rfl, Nat.le_refl _, q2, q3, HD1.out, q4, q5⟩)
      | (have q1 : w0.heap.size ≤ w1.heap.size := HB1.out.size
         have q2 := heap_alloc_new w1 (.cells #[.slice none 0 0, .slice D1 m d1, .int .i64 el, .int .i64 en, .int .i64 es] 36)
         have q3 := HI1.out.mono ((Below.refl _ w1).alloc (Nat.le_refl _) (.cells #[.slice none 0 0, .slice D1 m d1, .int .i64 el, .int .i64 en, .int .i64 es] 36))
         have q4 := HB1.out.alloc HB1.out.size (.cells #[.slice none 0 0, .slice D1 m d1, .int .i64 el, .int .i64 en, .int .i64 es] 36)
         have q5 : ∀ z ∈ fb D1, z ≠ w1.heap.size ∧ z < (w1.alloc (.cells #[.slice none 0 0, .slice D1 m d1, .int .i64 el, .int .i64 en, .int .i64 es] 36)).heap.size ∧ w0.heap.size ≤ z := fun z hz => by
           have h1 := own_fb HO1.out z hz
           simp at h1 ⊢
           omega
         with_reducible exact ⟨w1.heap.size, D1, d1, rfl, q1, q2, q3, HD1.out, q4, q5⟩)
      | fail
  case rest =>
  obtain ⟨pa, D1, d1, rfl, hpa, hpr, hin1, hd1, hbx, hfb1⟩ := hcut
  rename World => w2

  have HBX := Lib.hid hbx
  have hb2 : Below (x + 3) w0 w2 := hbx.mono HSI.out
  have HS2 : Hid (x + 3 ≤ w2.heap.size) := Lib.hid (by have := hbx.size; have := HSI.out; omega)
  have HI2 := Lib.hid (HI0.out.mono hbx)
  have HI11 := Lib.hid hin1
  have HD11 := Lib.hid hd1
  have HPR := Lib.hid hpr
  have HPA : Hid (x + 3 ≤ pa ∧ pa < w2.heap.size) := Lib.hid ⟨by have := HSI.out; omega, (Array.getElem?_eq_some_iff.1 hpr).1⟩
  have HFB1 := Lib.hid hfb1
  have hr2 := (hb2.block x (by omega)).trans HRL.out
  have hr3 := (hb2.block (x + 1) (by omega)).trans HRA.out
  have HB2 := Lib.hid hb2
  have k0 : w2.cell? ⟨x, 0, none⟩ = some (.slice A n c) := cell_of_row _ _ _ _ _ _ hr2
  have k1 : w2.cell? ⟨x, 1, none⟩ = some (.slice D m d) := cell_of_row _ _ _ _ _ _ hr2
  have k2 : w2.cell? ⟨x, 2, none⟩ = some (.int .i64 el) := cell_of_row _ _ _ _ _ _ hr2
  have k3 : w2.cell? ⟨x, 3, none⟩ = some (.int .i64 en) := cell_of_row _ _ _ _ _ _ hr2
  have k4 : w2.cell? ⟨x, 4, none⟩ = some (.int .i64 es) := cell_of_row _ _ _ _ _ _ hr2
  clear hb2 hr2 hr3 hbx hin1 hd1 hpr hfb1 hpa l0 l1 l2 l3 l4 hxl
  go_upto_region 2 with fail
  go_cut [5] from 18 to 27 (fun p wx => ∃ pb D2 d2, p = .pointer (some ⟨pb, 0, none⟩) ∧ w2.heap.size ≤ pb ∧ wx.heap[pb]? = some (.cells #[.slice none 0 0, .slice D2 m d2, .int .i64 el, .int .i64 en, .int .i64 es] 38 (0, 0)) ∧ IntsIn wx wx.heap.size D2 dl ∧ m ≤ d2 ∧ Below w2.heap.size w2 wx ∧ ∀ z ∈ fb D2, z ≠ pb ∧ z < wx.heap.size ∧ w2.heap.size ≤ z)
  case first =>
    rename_i J1 K1 hJ1 hK1
    have HS1 : Hid (x + 3 ≤ w2.heap.size) := HS2
    have HIa : Hid (IntsIn w2.drew w2.drew.heap.size D dl) := Lib.hid (HI2.out.mono ((Below.refl _ w2).drew))
    have HIb : Hid (IntsIn (w2.drew.alloc (.cells #[.slice none 0 0, .slice none 0 0, .int .i64 0, .int .i64 0, .int .i64 0] 38)) (w2.drew.alloc (.cells #[.slice none 0 0, .slice none 0 0, .int .i64 0, .int .i64 0, .int .i64 0] 38)).heap.size D dl) := Lib.hid (HI2.out.mono (((Below.refl _ w2).drew).alloc (Nat.le_refl _) _))
    have HIc : Hid (IntsIn (w2.alloc (.cells #[.slice none 0 0, .slice none 0 0, .int .i64 0, .int .i64 0, .int .i64 0] 38)).drew (w2.alloc (.cells #[.slice none 0 0, .slice none 0 0, .int .i64 0, .int .i64 0, .int .i64 0] 38)).drew.heap.size D dl) := Lib.hid (HI2.out.mono (((Below.refl _ w2).alloc (Nat.le_refl _) _).drew))
    have HBa : Hid (∀ w1, Below w2.drew.heap.size w2.drew w1 → Below w2.heap.size w2 w1) := Lib.hid fun w1 h => ((Below.refl _ w2).drew).trans h
    have HBb : Hid (∀ w1, Below (w2.drew.alloc (.cells #[.slice none 0 0, .slice none 0 0, .int .i64 0, .int .i64 0, .int .i64 0] 38)).heap.size (w2.drew.alloc (.cells #[.slice none 0 0, .slice none 0 0, .int .i64 0, .int .i64 0, .int .i64 0] 38)) w1 → Below w2.heap.size w2 w1) := Lib.hid fun w1 h => (((Below.refl _ w2).drew).alloc (Nat.le_refl _) _).trans (h.mono (by simp))
    have HBc : Hid (∀ w1, Below (w2.alloc (.cells #[.slice none 0 0, .slice none 0 0, .int .i64 0, .int .i64 0, .int .i64 0] 38)).drew.heap.size (w2.alloc (.cells #[.slice none 0 0, .slice none 0 0, .int .i64 0, .int .i64 0, .int .i64 0] 38)).drew w1 → Below w2.heap.size w2 w1) := Lib.hid fun w1 h => (((Below.refl _ w2).alloc (Nat.le_refl _) _).drew).trans (h.mono (by simp))
    have HZb : Hid (∀ w1, Below (w2.drew.alloc (.cells #[.slice none 0 0, .slice none 0 0, .int .i64 0, .int .i64 0, .int .i64 0] 38)).heap.size (w2.drew.alloc (.cells #[.slice none 0 0, .slice none 0 0, .int .i64 0, .int .i64 0, .int .i64 0] 38)) w1 → w1.heap[w2.heap.size]? = some (.cells #[.slice none 0 0, .slice none 0 0, .int .i64 0, .int .i64 0, .int .i64 0] 38 (0, 0))) := Lib.hid fun w1 h => (h.block w2.heap.size (by simp)).trans (heap_alloc_new w2.drew _)
    have HZc : Hid (∀ w1, Below (w2.alloc (.cells #[.slice none 0 0, .slice none 0 0, .int .i64 0, .int .i64 0, .int .i64 0] 38)).drew.heap.size (w2.alloc (.cells #[.slice none 0 0, .slice none 0 0, .int .i64 0, .int .i64 0, .int .i64 0] 38)).drew w1 → w1.heap[w2.heap.size]? = some (.cells #[.slice none 0 0, .slice none 0 0, .int .i64 0, .int .i64 0, .int .i64 0] 38 (0, 0))) := Lib.hid fun w1 h => (h.block w2.heap.size (by simp)).trans (heap_alloc_new w2 _)
    have b1 : (w2.drew.alloc (.cells #[.slice none 0 0, .slice none 0 0, .int .i64 0, .int .i64 0, .int .i64 0] 38)).cell? ⟨x, 1, none⟩ = some (.slice D m d) := ((((Below.refl _ w2).drew).alloc (Nat.le_refl _) (.cells #[.slice none 0 0, .slice none 0 0, .int .i64 0, .int .i64 0, .int .i64 0] 38)).cell (p := ⟨x, 1, none⟩) (by have := HS1.out; simp; omega)).trans k1
    have b2 : (w2.drew.alloc (.cells #[.slice none 0 0, .slice none 0 0, .int .i64 0, .int .i64 0, .int .i64 0] 38)).cell? ⟨x, 2, none⟩ = some (.int .i64 el) := ((((Below.refl _ w2).drew).alloc (Nat.le_refl _) (.cells #[.slice none 0 0, .slice none 0 0, .int .i64 0, .int .i64 0, .int .i64 0] 38)).cell (p := ⟨x, 2, none⟩) (by have := HS1.out; simp; omega)).trans k2
    have b3 : (w2.drew.alloc (.cells #[.slice none 0 0, .slice none 0 0, .int .i64 0, .int .i64 0, .int .i64 0] 38)).cell? ⟨x, 3, none⟩ = some (.int .i64 en) := ((((Below.refl _ w2).drew).alloc (Nat.le_refl _) (.cells #[.slice none 0 0, .slice none 0 0, .int .i64 0, .int .i64 0, .int .i64 0] 38)).cell (p := ⟨x, 3, none⟩) (by have := HS1.out; simp; omega)).trans k3
    have b4 : (w2.drew.alloc (.cells #[.slice none 0 0, .slice none 0 0, .int .i64 0, .int .i64 0, .int .i64 0] 38)).cell? ⟨x, 4, none⟩ = some (.int .i64 es) := ((((Below.refl _ w2).drew).alloc (Nat.le_refl _) (.cells #[.slice none 0 0, .slice none 0 0, .int .i64 0, .int .i64 0, .int .i64 0] 38)).cell (p := ⟨x, 4, none⟩) (by have := HS1.out; simp; omega)).trans k4
    have c1 : (w2.alloc (.cells #[.slice none 0 0, .slice none 0 0, .int .i64 0, .int .i64 0, .int .i64 0] 38)).drew.cell? ⟨x, 1, none⟩ = some (.slice D m d) := ((((Below.refl _ w2).alloc (Nat.le_refl _) (.cells #[.slice none 0 0, .slice none 0 0, .int .i64 0, .int .i64 0, .int .i64 0] 38)).drew).cell (p := ⟨x, 1, none⟩) (by have := HS1.out; simp; omega)).trans k1
    have c2 : (w2.alloc (.cells #[.slice none 0 0, .slice none 0 0, .int .i64 0, .int .i64 0, .int .i64 0] 38)).drew.cell? ⟨x, 2, none⟩ = some (.int .i64 el) := ((((Below.refl _ w2).alloc (Nat.le_refl _) (.cells #[.slice none 0 0, .slice none 0 0, .int .i64 0, .int .i64 0, .int .i64 0] 38)).drew).cell (p := ⟨x, 2, none⟩) (by have := HS1.out; simp; omega)).trans k2
    have c3 : (w2.alloc (.cells #[.slice none 0 0, .slice none 0 0, .int .i64 0, .int .i64 0, .int .i64 0] 38)).drew.cell? ⟨x, 3, none⟩ = some (.int .i64 en) := ((((Below.refl _ w2).alloc (Nat.le_refl _) (.cells #[.slice none 0 0, .slice none 0 0, .int .i64 0, .int .i64 0, .int .i64 0] 38)).drew).cell (p := ⟨x, 3, none⟩) (by have := HS1.out; simp; omega)).trans k3
    have c4 : (w2.alloc (.cells #[.slice none 0 0, .slice none 0 0, .int .i64 0, .int .i64 0, .int .i64 0] 38)).drew.cell? ⟨x, 4, none⟩ = some (.int .i64 es) := ((((Below.refl _ w2).alloc (Nat.le_refl _) (.cells #[.slice none 0 0, .slice none 0 0, .int .i64 0, .int .i64 0, .int .i64 0] 38)).drew).cell (p := ⟨x, 4, none⟩) (by have := HS1.out; simp; omega)).trans k4
    go_region_held3 (fun w' => w'.cell? ⟨x, 1, none⟩ = some (.slice D m d) ∧ w'.cell? ⟨x, 2, none⟩ = some (.int .i64 el) ∧ w'.cell? ⟨x, 3, none⟩ = some (.int .i64 en) ∧ w'.cell? ⟨x, 4, none⟩ = some (.int .i64 es))
      (first | with_reducible exact ⟨z1, z2, z3, z4⟩ | with_reducible exact ⟨a1, a2, a3, a4⟩ | with_reducible exact ⟨b1, b2, b3, b4⟩ | with_reducible exact ⟨c1, c2, c3, c4⟩ | with_reducible exact ⟨n1, n2, n3, n4⟩ | go_keep | fail)
      (first
        | (refine step_app_ints (by rfl) _ _ (by rfl) (by rfl) D m d dl (by rfl) (by rfl) (by with_reducible exact HIa.out) HDR.out hm ?_
           intro D2 d2 w1 hin2 hd2 hb1 ho1
           have HO1 := Lib.hid ho1
           have HI1 := Lib.hid hin2
           have HD1 := Lib.hid hd2
           have HB1 : Hid (Below w2.heap.size w2 w1) := Lib.hid (HBa.out _ hb1)
           have z1 : w1.cell? ⟨x, 1, none⟩ = some (.slice D m d) := (HB1.out.cell (p := ⟨x, 1, none⟩) (by have := HS1.out; simp; omega)).trans k1
           have z2 : w1.cell? ⟨x, 2, none⟩ = some (.int .i64 el) := (HB1.out.cell (p := ⟨x, 2, none⟩) (by have := HS1.out; simp; omega)).trans k2
           have z3 : w1.cell? ⟨x, 3, none⟩ = some (.int .i64 en) := (HB1.out.cell (p := ⟨x, 3, none⟩) (by have := HS1.out; simp; omega)).trans k3
           have z4 : w1.cell? ⟨x, 4, none⟩ = some (.int .i64 es) := (HB1.out.cell (p := ⟨x, 4, none⟩) (by have := HS1.out; simp; omega)).trans k4
           have hxl1 : x < w1.heap.size := by have := HB1.out.size; have := HS1.out; omega
           have hrow1 := True.intro
           have a1 : (w1.alloc (.cells #[.slice none 0 0, .slice none 0 0, .int .i64 0, .int .i64 0, .int .i64 0] 38)).cell? ⟨x, 1, none⟩ = some (.slice D m d) := ((HB1.out.alloc HB1.out.size (.cells #[.slice none 0 0, .slice none 0 0, .int .i64 0, .int .i64 0, .int .i64 0] 38)).cell (p := ⟨x, 1, none⟩) (by have := HS1.out; simp; omega)).trans k1
           have a2 : (w1.alloc (.cells #[.slice none 0 0, .slice none 0 0, .int .i64 0, .int .i64 0, .int .i64 0] 38)).cell? ⟨x, 2, none⟩ = some (.int .i64 el) := ((HB1.out.alloc HB1.out.size (.cells #[.slice none 0 0, .slice none 0 0, .int .i64 0, .int .i64 0, .int .i64 0] 38)).cell (p := ⟨x, 2, none⟩) (by have := HS1.out; simp; omega)).trans k2
           have a3 : (w1.alloc (.cells #[.slice none 0 0, .slice none 0 0, .int .i64 0, .int .i64 0, .int .i64 0] 38)).cell? ⟨x, 3, none⟩ = some (.int .i64 en) := ((HB1.out.alloc HB1.out.size (.cells #[.slice none 0 0, .slice none 0 0, .int .i64 0, .int .i64 0, .int .i64 0] 38)).cell (p := ⟨x, 3, none⟩) (by have := HS1.out; simp; omega)).trans k3
           have a4 : (w1.alloc (.cells #[.slice none 0 0, .slice none 0 0, .int .i64 0, .int .i64 0, .int .i64 0] 38)).cell? ⟨x, 4, none⟩ = some (.int .i64 es) := ((HB1.out.alloc HB1.out.size (.cells #[.slice none 0 0, .slice none 0 0, .int .i64 0, .int .i64 0, .int .i64 0] 38)).cell (p := ⟨x, 4, none⟩) (by have := HS1.out; simp; omega)).trans k4
           clear hin2 hd2 hb1 ho1)
        | (refine step_app_ints (by rfl) _ _ (by rfl) (by rfl) D m d dl (by rfl) (by rfl) (by with_reducible exact HIb.out) HDR.out hm ?_
           intro D2 d2 w1 hin2 hd2 hb1 ho1
           have HO1 := Lib.hid ho1
           have HI1 := Lib.hid hin2
           have HD1 := Lib.hid hd2
           have HB1 : Hid (Below w2.heap.size w2 w1) := Lib.hid (HBb.out _ hb1)
           have z1 : w1.cell? ⟨x, 1, none⟩ = some (.slice D m d) := (HB1.out.cell (p := ⟨x, 1, none⟩) (by have := HS1.out; simp; omega)).trans k1
           have z2 : w1.cell? ⟨x, 2, none⟩ = some (.int .i64 el) := (HB1.out.cell (p := ⟨x, 2, none⟩) (by have := HS1.out; simp; omega)).trans k2
           have z3 : w1.cell? ⟨x, 3, none⟩ = some (.int .i64 en) := (HB1.out.cell (p := ⟨x, 3, none⟩) (by have := HS1.out; simp; omega)).trans k3
           have z4 : w1.cell? ⟨x, 4, none⟩ = some (.int .i64 es) := (HB1.out.cell (p := ⟨x, 4, none⟩) (by have := HS1.out; simp; omega)).trans k4
           have hxl1 : x < w1.heap.size := by have := HB1.out.size; have := HS1.out; omega
           have hrow1 : w1.heap[w2.heap.size]? = some (.cells #[.slice none 0 0, .slice none 0 0, .int .i64 0, .int .i64 0, .int .i64 0] 38 (0, 0)) := HZb.out _ hb1
           have hne : x ≠ w2.heap.size := by have := HS1.out; omega
           have n1 := five_ne w1 w2.heap.size x 1 hne (.slice none 0 0) (.slice D2 m d2) (.int .i64 el) (.int .i64 en) (.int .i64 es) _ z1
           have n2 := five_ne w1 w2.heap.size x 2 hne (.slice none 0 0) (.slice D2 m d2) (.int .i64 el) (.int .i64 en) (.int .i64 es) _ z2
           have n3 := five_ne w1 w2.heap.size x 3 hne (.slice none 0 0) (.slice D2 m d2) (.int .i64 el) (.int .i64 en) (.int .i64 es) _ z3
           have n4 := five_ne w1 w2.heap.size x 4 hne (.slice none 0 0) (.slice D2 m d2) (.int .i64 el) (.int .i64 en) (.int .i64 es) _ z4
           have y0 : w1.cell? ⟨w2.heap.size, 0, none⟩ = some (.slice none 0 0) := cell_of_row _ _ _ _ _ _ hrow1
           have yf0 : w1.frozen? ⟨w2.heap.size, 0, none⟩ = false := frozen_of_row _ _ _ _ _ hrow1
           have y1 : w1.cell? ⟨w2.heap.size, 1, none⟩ = some (.slice none 0 0) := cell_of_row _ _ _ _ _ _ hrow1
           have yf1 : w1.frozen? ⟨w2.heap.size, 1, none⟩ = false := frozen_of_row _ _ _ _ _ hrow1
           have y2 : w1.cell? ⟨w2.heap.size, 2, none⟩ = some (.int .i64 0) := cell_of_row _ _ _ _ _ _ hrow1
           have yf2 : w1.frozen? ⟨w2.heap.size, 2, none⟩ = false := frozen_of_row _ _ _ _ _ hrow1
           have y3 : w1.cell? ⟨w2.heap.size, 3, none⟩ = some (.int .i64 0) := cell_of_row _ _ _ _ _ _ hrow1
           have yf3 : w1.frozen? ⟨w2.heap.size, 3, none⟩ = false := frozen_of_row _ _ _ _ _ hrow1
           have y4 : w1.cell? ⟨w2.heap.size, 4, none⟩ = some (.int .i64 0) := cell_of_row _ _ _ _ _ _ hrow1
           have yf4 : w1.frozen? ⟨w2.heap.size, 4, none⟩ = false := frozen_of_row _ _ _ _ _ hrow1
           clear hin2 hd2 hb1 ho1)
        | (refine step_app_ints (by rfl) _ _ (by rfl) (by rfl) D m d dl (by rfl) (by rfl) (by with_reducible exact HIc.out) HDR.out hm ?_
           intro D2 d2 w1 hin2 hd2 hb1 ho1
           have HO1 := Lib.hid ho1
           have HI1 := Lib.hid hin2
           have HD1 := Lib.hid hd2
           have HB1 : Hid (Below w2.heap.size w2 w1) := Lib.hid (HBc.out _ hb1)
           have z1 : w1.cell? ⟨x, 1, none⟩ = some (.slice D m d) := (HB1.out.cell (p := ⟨x, 1, none⟩) (by have := HS1.out; simp; omega)).trans k1
           have z2 : w1.cell? ⟨x, 2, none⟩ = some (.int .i64 el) := (HB1.out.cell (p := ⟨x, 2, none⟩) (by have := HS1.out; simp; omega)).trans k2
           have z3 : w1.cell? ⟨x, 3, none⟩ = some (.int .i64 en) := (HB1.out.cell (p := ⟨x, 3, none⟩) (by have := HS1.out; simp; omega)).trans k3
           have z4 : w1.cell? ⟨x, 4, none⟩ = some (.int .i64 es) := (HB1.out.cell (p := ⟨x, 4, none⟩) (by have := HS1.out; simp; omega)).trans k4
           have hxl1 : x < w1.heap.size := by have := HB1.out.size; have := HS1.out; omega
           have hrow1 : w1.heap[w2.heap.size]? = some (.cells #[.slice none 0 0, .slice none 0 0, .int .i64 0, .int .i64 0, .int .i64 0] 38 (0, 0)) := HZc.out _ hb1
           have hne : x ≠ w2.heap.size := by have := HS1.out; omega
           have n1 := five_ne w1 w2.heap.size x 1 hne (.slice none 0 0) (.slice D2 m d2) (.int .i64 el) (.int .i64 en) (.int .i64 es) _ z1
           have n2 := five_ne w1 w2.heap.size x 2 hne (.slice none 0 0) (.slice D2 m d2) (.int .i64 el) (.int .i64 en) (.int .i64 es) _ z2
           have n3 := five_ne w1 w2.heap.size x 3 hne (.slice none 0 0) (.slice D2 m d2) (.int .i64 el) (.int .i64 en) (.int .i64 es) _ z3
           have n4 := five_ne w1 w2.heap.size x 4 hne (.slice none 0 0) (.slice D2 m d2) (.int .i64 el) (.int .i64 en) (.int .i64 es) _ z4
           have y0 : w1.cell? ⟨w2.heap.size, 0, none⟩ = some (.slice none 0 0) := cell_of_row _ _ _ _ _ _ hrow1
           have yf0 : w1.frozen? ⟨w2.heap.size, 0, none⟩ = false := frozen_of_row _ _ _ _ _ hrow1
           have y1 : w1.cell? ⟨w2.heap.size, 1, none⟩ = some (.slice none 0 0) := cell_of_row _ _ _ _ _ _ hrow1
           have yf1 : w1.frozen? ⟨w2.heap.size, 1, none⟩ = false := frozen_of_row _ _ _ _ _ hrow1
           have y2 : w1.cell? ⟨w2.heap.size, 2, none⟩ = some (.int .i64 0) := cell_of_row _ _ _ _ _ _ hrow1
           have yf2 : w1.frozen? ⟨w2.heap.size, 2, none⟩ = false := frozen_of_row _ _ _ _ _ hrow1
           have y3 : w1.cell? ⟨w2.heap.size, 3, none⟩ = some (.int .i64 0) := cell_of_row _ _ _ _ _ _ hrow1
           have yf3 : w1.frozen? ⟨w2.heap.size, 3, none⟩ = false := frozen_of_row _ _ _ _ _ hrow1
           have y4 : w1.cell? ⟨w2.heap.size, 4, none⟩ = some (.int .i64 0) := cell_of_row _ _ _ _ _ _ hrow1
           have yf4 : w1.frozen? ⟨w2.heap.size, 4, none⟩ = false := frozen_of_row _ _ _ _ _ hrow1
           clear hin2 hd2 hb1 ho1)
        | fail)
    all_goals refine hK1 _ _ (Met.intro (hJ1 _ _ ?_))
    all_goals (repeat apply Exists.intro)
    all_goals refine ⟨?_, rfl⟩
    all_goals first
      | (have hq : w1.heap[w2.heap.size]? = some (.cells #[.slice none 0 0, .slice none 0 0, .int .i64 0, .int .i64 0, .int .i64 0] 38 (0, 0)) := hrow1
         have q2 := five_row w1 w2.heap.size _ _ _ _ _ _ (.slice none 0 0) (.slice D2 m d2) (.int .i64 el) (.int .i64 en) (.int .i64 es) hq
         have q3 := five_ints HI1.out HO1.out HDR.out w2.heap.size (by simp) (.slice none 0 0) (.slice D2 m d2) (.int .i64 el) (.int .i64 en) (.int .i64 es)
         have q4 := five_below HB1.out w2.heap.size (Nat.le_refl _) (.slice none 0 0) (.slice D2 m d2) (.int .i64 el) (.int .i64 en) (.int .i64 es)
         have q5 : ∀ z ∈ fb D2, z ≠ w2.heap.size ∧ z < (((((w1.setCell ⟨w2.heap.size, 0, none⟩ (.slice none 0 0)).setCell ⟨w2.heap.size, 1, none⟩ (.slice D2 m d2)).setCell ⟨w2.heap.size, 2, none⟩ (.int .i64 el)).setCell ⟨w2.heap.size, 3, none⟩ (.int .i64 en)).setCell ⟨w2.heap.size, 4, none⟩ (.int .i64 es)).heap.size ∧ w2.heap.size ≤ z := fun z hz => by
           have h1 := own_fb HO1.out z hz
           have h2 : w2.heap.size < w2.heap.size + 1 := Nat.lt_succ_self _
           rw [five_size]
           simp at h1
           omega
         with_reducible exact ⟨w2.heap.size, D2, d2, rfl, Nat.le_refl _, q2, q3, HD1.out, q4, q5⟩)
      | (have q1 : w2.heap.size ≤ w1.heap.size := HB1.out.size
         have q2 := heap_alloc_new w1 (.cells #[.slice none 0 0, .slice D2 m d2, .int .i64 el, .int .i64 en, .int .i64 es] 38)
         have q3 := HI1.out.mono ((Below.refl _ w1).alloc (Nat.le_refl _) (.cells #[.slice none 0 0, .slice D2 m d2, .int .i64 el, .int .i64 en, .int .i64 es] 38))
         have q4 := HB1.out.alloc HB1.out.size (.cells #[.slice none 0 0, .slice D2 m d2, .int .i64 el, .int .i64 en, .int .i64 es] 38)
         have q5 : ∀ z ∈ fb D2, z ≠ w1.heap.size ∧ z < (w1.alloc (.cells #[.slice none 0 0, .slice D2 m d2, .int .i64 el, .int .i64 en, .int .i64 es] 38)).heap.size ∧ w2.heap.size ≤ z := fun z hz => by
           have h1 := own_fb HO1.out z hz
           simp at h1 ⊢
           omega
         with_reducible exact ⟨w1.heap.size, D2, d2, rfl, q1, q2, q3, HD1.out, q4, q5⟩)
      | fail
  case rest =>
  obtain ⟨pb, D2, d2, rfl, hpb, hps, hin2, hd2, hby, hfb2⟩ := hcut
  rename World => w3
  have HB3 : Hid (Below (x + 3) w0 w3) := Lib.hid (HB2.out.trans (hby.mono HS2.out))
  have HEDS : Hid (Eds pa pb w3.heap.size w3 w3 (.slice none 0 0) (.slice none 0 0) (.slice D1 m d1) (.slice D2 m d2) [] [] el en es) := Lib.hid ⟨(hby.block pa HPA.out.2).trans HPR.out, hps, World.ownsRow_nil _ _ _ _, World.ownsRow_nil _ _ _ _, Nat.lt_of_lt_of_le HPA.out.2 hpb, (Array.getElem?_eq_some_iff.1 hps).1, Below.refl _ _, Nat.le_refl _, fun _ _ _ _ => rfl⟩
  have HD1 : Hid (IntsIn w3 w3.heap.size D1 dl ∧ m ≤ d1 ∧ ∀ z ∈ fb D1, z ≠ pa ∧ z ≠ pb ∧ x + 3 ≤ z) := Lib.hid ⟨HI11.out.mono hby, HD11.out, fun z hz => ⟨(HFB1.out z hz).1, by have := (HFB1.out z hz).2.1; omega, by have := (HFB1.out z hz).2.2; have := HSI.out; omega⟩⟩
  have HD2 : Hid (IntsIn w3 w3.heap.size D2 dl ∧ m ≤ d2 ∧ ∀ z ∈ fb D2, z ≠ pa ∧ z ≠ pb ∧ x + 3 ≤ z) := Lib.hid ⟨hin2, hd2, fun z hz => ⟨by have := (hfb2 z hz).2.2; have := HPA.out.2; omega, (hfb2 z hz).1, by have := (hfb2 z hz).2.2; have := HS2.out; omega⟩⟩
  have HEW : Hid (∀ W, Below (x + 3) w0 W → EdIn W A n c D m d e) := Lib.hid fun W hW => HE0.out.below (by rw [HS0.out]; exact hW)
  have HROWS : Hid (∀ W, Below (x + 3) w0 W → W.heap[x]? = some (.cells #[.slice A n c, .slice D m d, .int .i64 el, .int .i64 en, .int .i64 es] 33 (0, 0)) ∧ W.heap[x + 1]? = some (.cells #[.slice none 0 0, .slice none 0 0, .int .i64 0, .int .i64 0, .int .i64 0] 36 (0, 0)) ∧ W.heap[x + 2]? = some (.cells #[.slice none 0 0, .slice none 0 0, .int .i64 0, .int .i64 0, .int .i64 0] 38 (0, 0))) := Lib.hid fun W hW => ⟨(hW.block x (by omega)).trans HRL.out, (hW.block (x + 1) (by omega)).trans HRA.out, (hW.block (x + 2) (by omega)).trans HRB.out⟩
  have hr3 := (HROWS.out w3 HB3.out).1
  have q0 : w3.cell? ⟨x, 0, none⟩ = some (.slice A n c) := cell_of_row _ _ _ _ _ _ hr3
  have q1 : w3.cell? ⟨x, 1, none⟩ = some (.slice D m d) := cell_of_row _ _ _ _ _ _ hr3
  have q2 : w3.cell? ⟨x, 2, none⟩ = some (.int .i64 el) := cell_of_row _ _ _ _ _ _ hr3
  have q3 : w3.cell? ⟨x, 3, none⟩ = some (.int .i64 en) := cell_of_row _ _ _ _ _ _ hr3
  have q4 : w3.cell? ⟨x, 4, none⟩ = some (.int .i64 es) := cell_of_row _ _ _ _ _ _ hr3
  have HPX : Hid (x + 3 ≤ pa) := Lib.hid HPA.out.1
  clear hpb hps hin2 hd2 hby hfb2 HI11 HD11 HPR HFB1 HB2 HI2 HBX HPA HSI HS2 HI0 hr3 k0 k1 k2 k3 k4
  go_wp2_with fail
  go_loopw [31] (fun i wr => ∃ j : Nat, j ≤ n ∧ i = .int .i64 j ∧ ∃ va vb, Eds pa pb w3.heap.size w3 wr va vb (.slice D1 m d1) (.slice D2 m d2) (e.add.take j) (e.add.take j) el en es) (fun i _ => n - (intOf i).toNat)
  case atStart => exact ⟨0, by omega, rfl, _, _, by simpa using HEDS.out⟩
  case round =>
    obtain ⟨j, hj, rfl, va, vb, hed⟩ := hrel
    clear q0 q1 q2 q3 q4
    have HBR : Hid (Below (x + 3) w0 wr) := Lib.hid (HB3.out.trans (hed.low HPX.out))
    have HED := Lib.hid hed
    by_cases hlt : j < n
    · have hew := HEW.out wr HBR.out
      have hjl : j < e.add.length := by rw [hew.alen]; exact hlt
      obtain ⟨cb, off, hA, hbl, hc⟩ := hew.add.at_ (by omega)
      obtain ⟨c0, c1, c2, c3, c4⟩ := hc j hjl
      have hlen : (e.add.take j).length = j := by rw [List.length_take]; omega
      have HTK : Hid (e.add.take (j + 1) = e.add.take j ++ [e.add[j]]) := Lib.hid (List.take_succ_eq_append_getElem hjl)
      obtain ⟨e1, he1⟩ : ∃ e1, e.add[j] = e1 := ⟨_, rfl⟩
      rw [he1] at c0 c1 c2 c3 c4 HTK
      obtain ⟨l, hl⟩ : ∃ l, e.add.take j = l := ⟨_, rfl⟩
      rw [hl] at hed HED HTK hlen
      have HLE := Lib.hid hlen
      obtain ⟨lv, q, g, s, t⟩ := e1
      simp only at c0 c1 c2 c3 c4
      have g0 : (0 : Int) ≤ (j : Int) := by omega
      have g1 : (j : Int) < (n : Int) := by omega
      subst hA
      clear hew hc he1 hl hed hlen hjl
      go_upto_region 6 with fail
      have hba : Below wr.heap.size wr (wr.alloc (.cells #[.int .i64 lv, .int .i64 q, .int .i64 g, .string s, .string t] 83)) := (Below.refl _ wr).alloc (Nat.le_refl _) _
      have hra := heap_alloc_new wr (.cells #[.int .i64 lv, .int .i64 q, .int .i64 g, .string s, .string t] 83)
      have hsa : (wr.alloc (.cells #[.int .i64 lv, .int .i64 q, .int .i64 g, .string s, .string t] 83)).heap.size = wr.heap.size + 1 := by simp
      generalize wr.alloc (.cells #[.int .i64 lv, .int .i64 q, .int .i64 g, .string s, .string t] 83) = wa at hba hra hsa ⊢
      have hea := HED.out.below hba
      have HBA := Lib.hid hba
      have HRA2 := Lib.hid hra
      have HEA := Lib.hid hea
      have HSA := Lib.hid hsa
      have a0 : wa.cell? ⟨wr.heap.size, 0, none⟩ = some (.int .i64 lv) := cell_of_row _ _ _ _ _ _ hra
      have a1 : wa.cell? ⟨wr.heap.size, 1, none⟩ = some (.int .i64 q) := cell_of_row _ _ _ _ _ _ hra
      have a2 : wa.cell? ⟨wr.heap.size, 2, none⟩ = some (.int .i64 g) := cell_of_row _ _ _ _ _ _ hra
      have a3 : wa.cell? ⟨wr.heap.size, 3, none⟩ = some (.string s) := cell_of_row _ _ _ _ _ _ hra
      have a4 : wa.cell? ⟨wr.heap.size, 4, none⟩ = some (.string t) := cell_of_row _ _ _ _ _ _ hra
      have p0 : wa.cell? ⟨pa, 0, none⟩ = some va := cell_of_row _ _ _ _ _ _ hea.rowA
      clear hba hra hea hsa c0 c1 c2 c3 c4
      go_wp2_with (at_builtin; refine wpList_append_own _ rfl _ _ 34 rfl w3.heap.size 81 i1 _ 5 56 Try.underlying34 hi1 hy0 hy1 hy2 rfl (by decide) _ _ _ rfl (HEA.out.ownA.alloc _) ⟨wa.heap.size, 0, none⟩ 1 1 (M.c5 ⟨lv, q, g, s, t⟩) rfl ?c1 ?c2 ?c3 ?c4 ?c5 ?c6 ?_)
      case c1 => rfl
      case c2 => exact cells5 wa ⟨lv, q, g, s, t⟩ _
      case c3 => exact one5 _
      case c4 => have := HLE.out; unfold maxLen; omega
      case c5 => have := HLE.out; omega
      case c6 => have := HEA.out.lt; simp; omega
      intro v4 w4 hown4 hgrow4 _
      obtain ⟨A4, cc4, rfl⟩ := own_shape hown4
      obtain ⟨y4, yf4, hed4, hk4⟩ := HED.out.putA (W7 := wa) HBA.out hgrow4 hown4
      have HED4 := Lib.hid hed4
      have HK4 := Lib.hid hk4
      clear hown4 hgrow4 hed4 hk4 a0 a1 a2 a3 a4 p0
      go_upto_region 7 with fail
      generalize w4.setCell ⟨pa, 0, none⟩ (.slice A4 (l.length + 1) cc4) = w5 at HED4 HK4 ⊢
      have hr5 := (HK4.out wr.heap.size (Nat.le_refl _) (by have := HSA.out; omega)).trans HRA2.out
      have a0 : w5.cell? ⟨wr.heap.size, 0, none⟩ = some (.int .i64 lv) := cell_of_row _ _ _ _ _ _ hr5
      have a1 : w5.cell? ⟨wr.heap.size, 1, none⟩ = some (.int .i64 q) := cell_of_row _ _ _ _ _ _ hr5
      have a2 : w5.cell? ⟨wr.heap.size, 2, none⟩ = some (.int .i64 g) := cell_of_row _ _ _ _ _ _ hr5
      have a3 : w5.cell? ⟨wr.heap.size, 3, none⟩ = some (.string s) := cell_of_row _ _ _ _ _ _ hr5
      have a4 : w5.cell? ⟨wr.heap.size, 4, none⟩ = some (.string t) := cell_of_row _ _ _ _ _ _ hr5
      have p0 : w5.cell? ⟨pb, 0, none⟩ = some vb := cell_of_row _ _ _ _ _ _ HED4.out.rowB
      clear y4 yf4 hr5
      go_wp2_with (at_builtin; refine wpList_append_own _ rfl _ _ 27 rfl w3.heap.size 66 i2 _ 5 56 Try.underlying27 hi2 hz0 hz1 hz2 rfl (by decide) _ _ _ rfl (HED4.out.ownB.alloc _) ⟨w5.heap.size, 0, none⟩ 1 1 (M.c5 ⟨lv, q, g, s, t⟩) rfl ?c1 ?c2 ?c3 ?c4 ?c5 ?c6 ?_)
      case c1 => rfl
      case c2 => exact cells5 w5 ⟨lv, q, g, s, t⟩ _
      case c3 => exact one5 _
      case c4 => have := HLE.out; unfold maxLen; omega
      case c5 => have := HLE.out; omega
      case c6 => have := HED4.out.lt; simp; omega
      intro v6 w6 hown6 hgrow6 _
      obtain ⟨A6, cc6, rfl⟩ := own_shape hown6
      obtain ⟨y6, yf6, hed6⟩ := HED4.out.putB (W7 := w5) (Below.refl _ _) hgrow6 hown6
      have HED6 : Hid (Eds pa pb w3.heap.size w3 (w6.setCell ⟨pb, 0, none⟩ (.slice A6 (l.length + 1) cc6)) (.slice A4 (l.length + 1) cc4) (.slice A6 (l.length + 1) cc6) (.slice D1 m d1) (.slice D2 m d2) (e.add.take (j + 1)) (e.add.take (j + 1)) el en es) := Lib.hid (by rw [HTK.out]; exact hed6)
      clear hown6 hgrow6 hed6 a0 a1 a2 a3 a4 p0
      go_wp2
      go_roundw
      case rel => exact ⟨j + 1, by omega, by go_num, _, _, HED6.out⟩
      case measure => simp [intOf]; omega
    · obtain rfl : j = n := by omega
      have hal : e.add.length = j := (HEW.out wr HBR.out).alen
      have htk : e.add.take j = e.add := List.take_of_length_le (by omega)
      rw [htk] at HED
      have HAL := Lib.hid hal
      clear hed htk hal
      obtain ⟨A1, c1, rfl⟩ := own_shape HED.out.ownA
      obtain ⟨A2, c2, rfl⟩ := own_shape HED.out.ownB
      rw [HAL.out] at HED
      have HPN : Hid (x + 3 ≤ pa ∧ x + 3 ≤ pb) := Lib.hid ⟨HPX.out, by have := HED.out.pq; have := HPX.out; omega⟩
      have HRO : Hid (wr.heap[x + 1]? = some (.cells #[.slice none 0 0, .slice none 0 0, .int .i64 0, .int .i64 0, .int .i64 0] 36 (0, 0)) ∧ wr.heap[x + 2]? = some (.cells #[.slice none 0 0, .slice none 0 0, .int .i64 0, .int .i64 0, .int .i64 0] 38 (0, 0))) := Lib.hid (HROWS.out wr HBR.out).2
      go_upto_region 9 with fail
      go_cut [] from 59 to 60 (fun wx => wx.heap[x + 1]? = some (.cells #[.slice A1 j c1, .slice D1 m d1, .int .i64 el, .int .i64 en, .int .i64 es] 36 (0, 0)) ∧ wx.heap[x + 2]? = some (.cells #[.slice A2 j c2, .slice D2 m d2, .int .i64 el, .int .i64 en, .int .i64 es] 38 (0, 0)) ∧ (∀ k, k ≠ x + 1 → k ≠ x + 2 → wx.heap[k]? = wr.heap[k]?) ∧ Below 0 wr wx)
      case first =>
        rename_i J1 K1 hJ1 hK1
        have dpa0 : wr.cell? ⟨pa, 0, none⟩ = some (.slice A1 j c1) := cell_of_row _ _ _ _ _ _ HED.out.rowA
        have dpa1 : wr.cell? ⟨pa, 1, none⟩ = some (.slice D1 m d1) := cell_of_row _ _ _ _ _ _ HED.out.rowA
        have dpa2 : wr.cell? ⟨pa, 2, none⟩ = some (.int .i64 el) := cell_of_row _ _ _ _ _ _ HED.out.rowA
        have dpa3 : wr.cell? ⟨pa, 3, none⟩ = some (.int .i64 en) := cell_of_row _ _ _ _ _ _ HED.out.rowA
        have dpa4 : wr.cell? ⟨pa, 4, none⟩ = some (.int .i64 es) := cell_of_row _ _ _ _ _ _ HED.out.rowA
        have dpb0 : wr.cell? ⟨pb, 0, none⟩ = some (.slice A2 j c2) := cell_of_row _ _ _ _ _ _ HED.out.rowB
        have fpb0 : (((((wr.setCell ⟨x + 1, 0, none⟩ (.slice A1 j c1)).setCell ⟨x + 1, 1, none⟩ (.slice D1 m d1)).setCell ⟨x + 1, 2, none⟩ (.int .i64 el)).setCell ⟨x + 1, 3, none⟩ (.int .i64 en)).setCell ⟨x + 1, 4, none⟩ (.int .i64 es)).cell? ⟨pb, 0, none⟩ = some (.slice A2 j c2) := five_ne _ (x + 1) pb 0 (by have := HPN.out; omega) (.slice A1 j c1) (.slice D1 m d1) (.int .i64 el) (.int .i64 en) (.int .i64 es) _ dpb0
        have dpb1 : wr.cell? ⟨pb, 1, none⟩ = some (.slice D2 m d2) := cell_of_row _ _ _ _ _ _ HED.out.rowB
        have fpb1 : (((((wr.setCell ⟨x + 1, 0, none⟩ (.slice A1 j c1)).setCell ⟨x + 1, 1, none⟩ (.slice D1 m d1)).setCell ⟨x + 1, 2, none⟩ (.int .i64 el)).setCell ⟨x + 1, 3, none⟩ (.int .i64 en)).setCell ⟨x + 1, 4, none⟩ (.int .i64 es)).cell? ⟨pb, 1, none⟩ = some (.slice D2 m d2) := five_ne _ (x + 1) pb 1 (by have := HPN.out; omega) (.slice A1 j c1) (.slice D1 m d1) (.int .i64 el) (.int .i64 en) (.int .i64 es) _ dpb1
        have dpb2 : wr.cell? ⟨pb, 2, none⟩ = some (.int .i64 el) := cell_of_row _ _ _ _ _ _ HED.out.rowB
        have fpb2 : (((((wr.setCell ⟨x + 1, 0, none⟩ (.slice A1 j c1)).setCell ⟨x + 1, 1, none⟩ (.slice D1 m d1)).setCell ⟨x + 1, 2, none⟩ (.int .i64 el)).setCell ⟨x + 1, 3, none⟩ (.int .i64 en)).setCell ⟨x + 1, 4, none⟩ (.int .i64 es)).cell? ⟨pb, 2, none⟩ = some (.int .i64 el) := five_ne _ (x + 1) pb 2 (by have := HPN.out; omega) (.slice A1 j c1) (.slice D1 m d1) (.int .i64 el) (.int .i64 en) (.int .i64 es) _ dpb2
        have dpb3 : wr.cell? ⟨pb, 3, none⟩ = some (.int .i64 en) := cell_of_row _ _ _ _ _ _ HED.out.rowB
        have fpb3 : (((((wr.setCell ⟨x + 1, 0, none⟩ (.slice A1 j c1)).setCell ⟨x + 1, 1, none⟩ (.slice D1 m d1)).setCell ⟨x + 1, 2, none⟩ (.int .i64 el)).setCell ⟨x + 1, 3, none⟩ (.int .i64 en)).setCell ⟨x + 1, 4, none⟩ (.int .i64 es)).cell? ⟨pb, 3, none⟩ = some (.int .i64 en) := five_ne _ (x + 1) pb 3 (by have := HPN.out; omega) (.slice A1 j c1) (.slice D1 m d1) (.int .i64 el) (.int .i64 en) (.int .i64 es) _ dpb3
        have dpb4 : wr.cell? ⟨pb, 4, none⟩ = some (.int .i64 es) := cell_of_row _ _ _ _ _ _ HED.out.rowB
        have fpb4 : (((((wr.setCell ⟨x + 1, 0, none⟩ (.slice A1 j c1)).setCell ⟨x + 1, 1, none⟩ (.slice D1 m d1)).setCell ⟨x + 1, 2, none⟩ (.int .i64 el)).setCell ⟨x + 1, 3, none⟩ (.int .i64 en)).setCell ⟨x + 1, 4, none⟩ (.int .i64 es)).cell? ⟨pb, 4, none⟩ = some (.int .i64 es) := five_ne _ (x + 1) pb 4 (by have := HPN.out; omega) (.slice A1 j c1) (.slice D1 m d1) (.int .i64 el) (.int .i64 en) (.int .i64 es) _ dpb4
        have hd1r : wr.heap[x + 1]? = some (.cells #[.slice none 0 0, .slice none 0 0, .int .i64 0, .int .i64 0, .int .i64 0] 36 (0, 0)) := HRO.out.1
        have hd2r : wr.heap[x + 2]? = some (.cells #[.slice none 0 0, .slice none 0 0, .int .i64 0, .int .i64 0, .int .i64 0] 38 (0, 0)) := HRO.out.2
        have hf2r : (((((wr.setCell ⟨x + 1, 0, none⟩ (.slice A1 j c1)).setCell ⟨x + 1, 1, none⟩ (.slice D1 m d1)).setCell ⟨x + 1, 2, none⟩ (.int .i64 el)).setCell ⟨x + 1, 3, none⟩ (.int .i64 en)).setCell ⟨x + 1, 4, none⟩ (.int .i64 es)).heap[x + 2]? = some (.cells #[.slice none 0 0, .slice none 0 0, .int .i64 0, .int .i64 0, .int .i64 0] 38 (0, 0)) := (five_far _ _ _ (by omega) (.slice A1 j c1) (.slice D1 m d1) (.int .i64 el) (.int .i64 en) (.int .i64 es)).trans hd2r
        have e1c0 : wr.cell? ⟨x + 1, 0, none⟩ = some (.slice none 0 0) := cell_of_row _ _ _ _ _ _ hd1r
        have e1f0 : wr.frozen? ⟨x + 1, 0, none⟩ = false := frozen_of_row _ _ _ _ _ hd1r
        have e1c1 : wr.cell? ⟨x + 1, 1, none⟩ = some (.slice none 0 0) := cell_of_row _ _ _ _ _ _ hd1r
        have e1f1 : wr.frozen? ⟨x + 1, 1, none⟩ = false := frozen_of_row _ _ _ _ _ hd1r
        have e1c2 : wr.cell? ⟨x + 1, 2, none⟩ = some (.int .i64 0) := cell_of_row _ _ _ _ _ _ hd1r
        have e1f2 : wr.frozen? ⟨x + 1, 2, none⟩ = false := frozen_of_row _ _ _ _ _ hd1r
        have e1c3 : wr.cell? ⟨x + 1, 3, none⟩ = some (.int .i64 0) := cell_of_row _ _ _ _ _ _ hd1r
        have e1f3 : wr.frozen? ⟨x + 1, 3, none⟩ = false := frozen_of_row _ _ _ _ _ hd1r
        have e1c4 : wr.cell? ⟨x + 1, 4, none⟩ = some (.int .i64 0) := cell_of_row _ _ _ _ _ _ hd1r
        have e1f4 : wr.frozen? ⟨x + 1, 4, none⟩ = false := frozen_of_row _ _ _ _ _ hd1r
        have e3c0 : (((((wr.setCell ⟨x + 1, 0, none⟩ (.slice A1 j c1)).setCell ⟨x + 1, 1, none⟩ (.slice D1 m d1)).setCell ⟨x + 1, 2, none⟩ (.int .i64 el)).setCell ⟨x + 1, 3, none⟩ (.int .i64 en)).setCell ⟨x + 1, 4, none⟩ (.int .i64 es)).cell? ⟨x + 2, 0, none⟩ = some (.slice none 0 0) := cell_of_row _ _ _ _ _ _ hf2r
        have e3f0 : (((((wr.setCell ⟨x + 1, 0, none⟩ (.slice A1 j c1)).setCell ⟨x + 1, 1, none⟩ (.slice D1 m d1)).setCell ⟨x + 1, 2, none⟩ (.int .i64 el)).setCell ⟨x + 1, 3, none⟩ (.int .i64 en)).setCell ⟨x + 1, 4, none⟩ (.int .i64 es)).frozen? ⟨x + 2, 0, none⟩ = false := frozen_of_row _ _ _ _ _ hf2r
        have e3c1 : (((((wr.setCell ⟨x + 1, 0, none⟩ (.slice A1 j c1)).setCell ⟨x + 1, 1, none⟩ (.slice D1 m d1)).setCell ⟨x + 1, 2, none⟩ (.int .i64 el)).setCell ⟨x + 1, 3, none⟩ (.int .i64 en)).setCell ⟨x + 1, 4, none⟩ (.int .i64 es)).cell? ⟨x + 2, 1, none⟩ = some (.slice none 0 0) := cell_of_row _ _ _ _ _ _ hf2r
        have e3f1 : (((((wr.setCell ⟨x + 1, 0, none⟩ (.slice A1 j c1)).setCell ⟨x + 1, 1, none⟩ (.slice D1 m d1)).setCell ⟨x + 1, 2, none⟩ (.int .i64 el)).setCell ⟨x + 1, 3, none⟩ (.int .i64 en)).setCell ⟨x + 1, 4, none⟩ (.int .i64 es)).frozen? ⟨x + 2, 1, none⟩ = false := frozen_of_row _ _ _ _ _ hf2r
        have e3c2 : (((((wr.setCell ⟨x + 1, 0, none⟩ (.slice A1 j c1)).setCell ⟨x + 1, 1, none⟩ (.slice D1 m d1)).setCell ⟨x + 1, 2, none⟩ (.int .i64 el)).setCell ⟨x + 1, 3, none⟩ (.int .i64 en)).setCell ⟨x + 1, 4, none⟩ (.int .i64 es)).cell? ⟨x + 2, 2, none⟩ = some (.int .i64 0) := cell_of_row _ _ _ _ _ _ hf2r
        have e3f2 : (((((wr.setCell ⟨x + 1, 0, none⟩ (.slice A1 j c1)).setCell ⟨x + 1, 1, none⟩ (.slice D1 m d1)).setCell ⟨x + 1, 2, none⟩ (.int .i64 el)).setCell ⟨x + 1, 3, none⟩ (.int .i64 en)).setCell ⟨x + 1, 4, none⟩ (.int .i64 es)).frozen? ⟨x + 2, 2, none⟩ = false := frozen_of_row _ _ _ _ _ hf2r
        have e3c3 : (((((wr.setCell ⟨x + 1, 0, none⟩ (.slice A1 j c1)).setCell ⟨x + 1, 1, none⟩ (.slice D1 m d1)).setCell ⟨x + 1, 2, none⟩ (.int .i64 el)).setCell ⟨x + 1, 3, none⟩ (.int .i64 en)).setCell ⟨x + 1, 4, none⟩ (.int .i64 es)).cell? ⟨x + 2, 3, none⟩ = some (.int .i64 0) := cell_of_row _ _ _ _ _ _ hf2r
        have e3f3 : (((((wr.setCell ⟨x + 1, 0, none⟩ (.slice A1 j c1)).setCell ⟨x + 1, 1, none⟩ (.slice D1 m d1)).setCell ⟨x + 1, 2, none⟩ (.int .i64 el)).setCell ⟨x + 1, 3, none⟩ (.int .i64 en)).setCell ⟨x + 1, 4, none⟩ (.int .i64 es)).frozen? ⟨x + 2, 3, none⟩ = false := frozen_of_row _ _ _ _ _ hf2r
        have e3c4 : (((((wr.setCell ⟨x + 1, 0, none⟩ (.slice A1 j c1)).setCell ⟨x + 1, 1, none⟩ (.slice D1 m d1)).setCell ⟨x + 1, 2, none⟩ (.int .i64 el)).setCell ⟨x + 1, 3, none⟩ (.int .i64 en)).setCell ⟨x + 1, 4, none⟩ (.int .i64 es)).cell? ⟨x + 2, 4, none⟩ = some (.int .i64 0) := cell_of_row _ _ _ _ _ _ hf2r
        have e3f4 : (((((wr.setCell ⟨x + 1, 0, none⟩ (.slice A1 j c1)).setCell ⟨x + 1, 1, none⟩ (.slice D1 m d1)).setCell ⟨x + 1, 2, none⟩ (.int .i64 el)).setCell ⟨x + 1, 3, none⟩ (.int .i64 en)).setCell ⟨x + 1, 4, none⟩ (.int .i64 es)).frozen? ⟨x + 2, 4, none⟩ = false := frozen_of_row _ _ _ _ _ hf2r
        have hq1 : ((((((((((wr.setCell ⟨x + 1, 0, none⟩ (.slice A1 j c1)).setCell ⟨x + 1, 1, none⟩ (.slice D1 m d1)).setCell ⟨x + 1, 2, none⟩ (.int .i64 el)).setCell ⟨x + 1, 3, none⟩ (.int .i64 en)).setCell ⟨x + 1, 4, none⟩ (.int .i64 es)).setCell ⟨x + 2, 0, none⟩ (.slice A2 j c2)).setCell ⟨x + 2, 1, none⟩ (.slice D2 m d2)).setCell ⟨x + 2, 2, none⟩ (.int .i64 el)).setCell ⟨x + 2, 3, none⟩ (.int .i64 en)).setCell ⟨x + 2, 4, none⟩ (.int .i64 es)).heap[x + 1]? = some (.cells #[.slice A1 j c1, .slice D1 m d1, .int .i64 el, .int .i64 en, .int .i64 es] 36 (0, 0)) := (five_far _ _ _ (by omega) (.slice A2 j c2) (.slice D2 m d2) (.int .i64 el) (.int .i64 en) (.int .i64 es)).trans (five_row _ _ _ _ _ _ _ _ (.slice A1 j c1) (.slice D1 m d1) (.int .i64 el) (.int .i64 en) (.int .i64 es) hd1r)
        have hq2 : ((((((((((wr.setCell ⟨x + 1, 0, none⟩ (.slice A1 j c1)).setCell ⟨x + 1, 1, none⟩ (.slice D1 m d1)).setCell ⟨x + 1, 2, none⟩ (.int .i64 el)).setCell ⟨x + 1, 3, none⟩ (.int .i64 en)).setCell ⟨x + 1, 4, none⟩ (.int .i64 es)).setCell ⟨x + 2, 0, none⟩ (.slice A2 j c2)).setCell ⟨x + 2, 1, none⟩ (.slice D2 m d2)).setCell ⟨x + 2, 2, none⟩ (.int .i64 el)).setCell ⟨x + 2, 3, none⟩ (.int .i64 en)).setCell ⟨x + 2, 4, none⟩ (.int .i64 es)).heap[x + 2]? = some (.cells #[.slice A2 j c2, .slice D2 m d2, .int .i64 el, .int .i64 en, .int .i64 es] 38 (0, 0)) := five_row _ _ _ _ _ _ _ _ (.slice A2 j c2) (.slice D2 m d2) (.int .i64 el) (.int .i64 en) (.int .i64 es) hf2r
        have hq3 : ∀ k, k ≠ x + 1 → k ≠ x + 2 → ((((((((((wr.setCell ⟨x + 1, 0, none⟩ (.slice A1 j c1)).setCell ⟨x + 1, 1, none⟩ (.slice D1 m d1)).setCell ⟨x + 1, 2, none⟩ (.int .i64 el)).setCell ⟨x + 1, 3, none⟩ (.int .i64 en)).setCell ⟨x + 1, 4, none⟩ (.int .i64 es)).setCell ⟨x + 2, 0, none⟩ (.slice A2 j c2)).setCell ⟨x + 2, 1, none⟩ (.slice D2 m d2)).setCell ⟨x + 2, 2, none⟩ (.int .i64 el)).setCell ⟨x + 2, 3, none⟩ (.int .i64 en)).setCell ⟨x + 2, 4, none⟩ (.int .i64 es)).heap[k]? = wr.heap[k]? := fun k h1 h2 => (five_far _ _ _ h2 (.slice A2 j c2) (.slice D2 m d2) (.int .i64 el) (.int .i64 en) (.int .i64 es)).trans (five_far _ _ _ h1 (.slice A1 j c1) (.slice D1 m d1) (.int .i64 el) (.int .i64 en) (.int .i64 es))
        have hq4 : Below 0 wr ((((((((((wr.setCell ⟨x + 1, 0, none⟩ (.slice A1 j c1)).setCell ⟨x + 1, 1, none⟩ (.slice D1 m d1)).setCell ⟨x + 1, 2, none⟩ (.int .i64 el)).setCell ⟨x + 1, 3, none⟩ (.int .i64 en)).setCell ⟨x + 1, 4, none⟩ (.int .i64 es)).setCell ⟨x + 2, 0, none⟩ (.slice A2 j c2)).setCell ⟨x + 2, 1, none⟩ (.slice D2 m d2)).setCell ⟨x + 2, 2, none⟩ (.int .i64 el)).setCell ⟨x + 2, 3, none⟩ (.int .i64 en)).setCell ⟨x + 2, 4, none⟩ (.int .i64 es)) := five_below (five_below (Below.refl 0 wr) (x + 1) (Nat.zero_le _) (.slice A1 j c1) (.slice D1 m d1) (.int .i64 el) (.int .i64 en) (.int .i64 es)) (x + 2) (Nat.zero_le _) (.slice A2 j c2) (.slice D2 m d2) (.int .i64 el) (.int .i64 en) (.int .i64 es)
        have HQ := Lib.hid (q_drew hq1 hq2 hq3 hq4)
        clear hq1 hq2 hq3 hq4 hd1r hd2r hf2r
        go_region
        refine hK1 _ _ (Met.intro (hJ1 _ _ ?_))
        (repeat apply Exists.intro)
        refine ⟨?_, rfl⟩
        with_reducible exact HQ.out
      case rest =>
      obtain ⟨hx1, hx2, hx3, hx4⟩ := hcut
      rename World => w9
      have HEND : Hid (EdIn w9 A1 j c1 D1 m d1 e ∧ EdIn w9 A2 j c2 D2 m d2 e ∧ Below w.heap.size w w9) := Lib.hid (by
        have hsz := hx4.size
        have hew := HEW.out wr HBR.out
        have h3 : x + 3 ≤ w3.heap.size := by have := HB3.out.size; have := HS0.out; omega
        have hfar : ∀ z, x + 3 ≤ z → w9.heap[z]? = wr.heap[z]? := fun z hz => hx3 z (by omega) (by omega)
        obtain ⟨A', c', e1, i1, f1, n1⟩ := own5 hew.add.wf rfl HED.out.ownA
        obtain ⟨A'', c'', e2, i2, f2, n2⟩ := own5 hew.add.wf rfl HED.out.ownB
        rw [HAL.out] at e1 e2 n1 n2
        simp only [Value.slice.injEq, true_and] at e1 e2
        obtain ⟨rfl, rfl⟩ := e1
        obtain ⟨rfl, rfl⟩ := e2
        have hlow := HLOW.out wr HBR.out
        refine ⟨⟨in5_far i1 hsz fun z hz => hfar z (by have := f1 z hz; omega), HAL.out, n1, ?_, hew.dlen, HD1.out.2.1, hew.log, hew.next, hew.seq⟩, ⟨in5_far i2 hsz fun z hz => hfar z (by have := f2 z hz; omega), HAL.out, n2, ?_, hew.dlen, HD2.out.2.1, hew.log, hew.next, hew.seq⟩, ⟨hx4.os.trans hlow.os, hx4.tape.trans hlow.tape, hx4.output.trans hlow.output, Nat.le_trans hlow.size hsz, fun k hk => (hx3 k (by have := HX.out; omega) (by have := HX.out; omega)).trans (hlow.block k hk)⟩⟩
        · rw [HDL.out]
          exact ints_far (HED.out.ints HD1.out.1 fun z hz => ⟨(HD1.out.2.2 z hz).1, (HD1.out.2.2 z hz).2.1⟩) hsz fun z hz => hfar z (HD1.out.2.2 z hz).2.2
        · rw [HDL.out]
          exact ints_far (HED.out.ints HD2.out.1 fun z hz => ⟨(HD2.out.2.2 z hz).1, (HD2.out.2.2 z hz).2.1⟩) hsz fun z hz => hfar z (HD2.out.2.2 z hz).2.2)
      have rp0 : w9.cell? ⟨x + 1, 0, none⟩ = some (.slice A1 j c1) := cell_of_row _ _ _ _ _ _ hx1
      have rp1 : w9.cell? ⟨x + 1, 1, none⟩ = some (.slice D1 m d1) := cell_of_row _ _ _ _ _ _ hx1
      have rp2 : w9.cell? ⟨x + 1, 2, none⟩ = some (.int .i64 el) := cell_of_row _ _ _ _ _ _ hx1
      have rp3 : w9.cell? ⟨x + 1, 3, none⟩ = some (.int .i64 en) := cell_of_row _ _ _ _ _ _ hx1
      have rp4 : w9.cell? ⟨x + 1, 4, none⟩ = some (.int .i64 es) := cell_of_row _ _ _ _ _ _ hx1
      have rq0 : w9.cell? ⟨x + 2, 0, none⟩ = some (.slice A2 j c2) := cell_of_row _ _ _ _ _ _ hx2
      have rq1 : w9.cell? ⟨x + 2, 1, none⟩ = some (.slice D2 m d2) := cell_of_row _ _ _ _ _ _ hx2
      have rq2 : w9.cell? ⟨x + 2, 2, none⟩ = some (.int .i64 el) := cell_of_row _ _ _ _ _ _ hx2
      have rq3 : w9.cell? ⟨x + 2, 3, none⟩ = some (.int .i64 en) := cell_of_row _ _ _ _ _ _ hx2
      have rq4 : w9.cell? ⟨x + 2, 4, none⟩ = some (.int .i64 es) := cell_of_row _ _ _ _ _ _ hx2
      clear hx3 hx4
      go_wp2
      refine bodyPost_ret (results_cells2 rfl _ w9 (x + 1) (x + 2) _ _ rfl rfl (run_loadVar_row (P := Try.prog) _ _ _ _ _ _ _ hx1 Try.underlying36 rfl rfl) (run_loadVar_row (P := Try.prog) _ _ _ _ _ _ _ hx2 Try.underlying38 rfl rfl)) rfl ?_
      exact ⟨A1, c1, D1, d1, A2, c2, D2, d2, rfl, HEND.out.1, HEND.out.2.1, HEND.out.2.2⟩
end Go.Proofs.Ytffdiiolgflbkaa

