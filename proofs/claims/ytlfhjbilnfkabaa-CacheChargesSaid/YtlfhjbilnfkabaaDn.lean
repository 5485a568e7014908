/- What CacheCharges keeps beside both caches. -/
import Derived.Test.YtlfhjbilnfkabaaDm
import Derived.Test.YtlfhjbilnfkabaaLr
namespace Go.Proofs.Ytlfhjbilnfkabaa
open Go.RowKit Go.Maps
open BM CM

theorem lookT {w : World} {b n : Nat} {D : DataW Unit} (h : OwnT w b n D) {f k : Int} (hf : i64 f) (hk : i64 k) {d : ByteArray} (hc : D.atKey (kl f k) (.lit (.string [])) = .lit (.string d.data.toList)) :
    (Instr.lookup 40 (.map (some b)) (keyV f k) false).run Try.prog w = .ok (.string d) w := by
  obtain ⟨v, ps, hrun, hat⟩ := h.lookup keyLaw Try.underlying40 (zeroText w) (plainElem_string Try.underlying9 (s := ⟨#[]⟩) (by simp [ByteArray.size])) (key_of hf hk)
  obtain ⟨s, rfl, he, -⟩ := plainElem_string_inv Try.underlying9 hat
  rw [hrun]
  simp only [Prod.mk.injEq] at he
  have h1 := he.1
  rw [hc] at h1
  simp only [DataW.lit.injEq, Lit.string.injEq] at h1
  have hs : s = d := by
    have : s.data = d.data := by rw [← Array.toArray_toList (xs := s.data), ← Array.toArray_toList (xs := d.data), h1]
    cases s; cases d; simp only at this; rw [this]
  rw [hs]

/-! ### limits -/
theorem put_lim (s : S) (k v : Int) : (s.put k v).lim = s.lim := by
  unfold S.put S.set
  repeat' split
  all_goals rfl
theorem release_lim (k n : Int) (s : S) : (BM.release k n s).2.lim = s.lim := by
  unfold BM.release
  repeat' split
  all_goals first | rfl | exact put_lim _ _ _
theorem reserve_lim (k n : Int) (s : S) : (BM.reserve k n s).2.lim = s.lim := by
  unfold BM.reserve
  repeat' split
  all_goals first | rfl | exact put_lim _ _ _
theorem change_lim (k n : Int) (s : S) : (BM.change k n s).2.lim = s.lim := by
  unfold BM.change
  repeat' split
  all_goals first | rfl | exact put_lim _ _ _
theorem dl_lim (stop : S → Bool) (m : Blk → Bool) : ∀ (rest done : Ls) (s : S), (dl stop m done rest s).2.lim = s.lim
  | [], done, s => by simp [dl]
  | x :: r, done, s => by
    rw [dl]
    split
    · rfl
    · split
      · rw [dl_lim stop m r, release_lim]
      · exact dl_lim stop m r _ s
theorem shr_lim (n : Int) (L : Ls) (s : S) : (shrB n L s).2.2.lim = s.lim := by
  unfold shrB
  split
  · rfl
  · exact dl_lim _ _ _ _ _
theorem act_lim (a : AC) (L : Ls) (s : S) : (actB a L s).2.lim = s.lim := by
  unfold actB
  split
  · rfl
  · split
    · rfl
    · split
      · rfl
      · split
        · exact dl_lim _ _ _ _ _
        · split
          · exact shr_lim _ _ _
          · split
            · exact change_lim _ _ _
            · unfold putB
              split
              · rfl
              · split
                · show (BM.reserve 1 _ _).2.lim = _
                  rw [reserve_lim, shr_lim]
                · rfl

/-! ### keys -/
def kps (L : Ls) : List (Int × Int) := L.reverse.map fun x => (x.file, x.block)
theorem kps_len (L : Ls) : (kps L).length = L.length := by simp [kps]
def AptL (L : Ls) : Prop := L.Pairwise (fun x y => ¬ (x.file = y.file ∧ x.block = y.block))
theorem Live.aptL {W w : World} {c z b N : Nat} {Z : Zs} {s : S} (h : Live W w c z b N Z s) : AptL (bl Z) := by
  unfold AptL bl
  rw [List.pairwise_map]
  exact h.rep.cor.keys
theorem kps_nodup {L : Ls} (h : AptL L) : (kps L).Nodup := by
  unfold kps List.Nodup
  rw [List.pairwise_map, List.pairwise_reverse]
  exact h.imp fun {x y} hxy e => hxy ⟨(Prod.mk.inj e).1.symm, (Prod.mk.inj e).2.symm⟩
theorem mem_kps {L : Ls} {f k : Int} : (f, k) ∈ kps L ↔ ∃ x ∈ L, x.file = f ∧ x.block = k := by
  simp [kps]
theorem not_take {L : Ls} (h : AptL L) {i : Nat} (hi : i < (kps L).length) : (kps L)[i] ∉ (kps L).take i := by
  intro hm
  obtain ⟨j, hj, he⟩ := List.getElem_of_mem hm
  rw [List.length_take] at hj
  rw [List.getElem_take] at he
  have := (List.getElem_inj (kps_nodup h)).1 he
  omega
/-- how often a key was among the first -/
def Cnt (E : DataW Unit) (l : List (Int × Int)) : Prop := ∀ f k, i64 f → i64 k → E.atKey (kl f k) (.lit (.int .i64 0)) = .lit (.int .i64 (if (f, k) ∈ l then 1 else 0))
theorem cnt_nil : Cnt (.map []) [] := fun f k _ _ => by simp; rfl
theorem Cnt.snoc {E : DataW Unit} {l : List (Int × Int)} {f k : Int} (h : Cnt E l) (hm : IsMap E) (hf : i64 f) (hk : i64 k) : Cnt (E.put (kl f k) (.lit (.int .i64 1))) (l ++ [(f, k)]) := fun f' k' hf' hk' => by
  by_cases he : f' = f ∧ k' = k
  · obtain ⟨rfl, rfl⟩ := he
    rw [Maps.atKey_put_same hm (kl_key hf' hk'), if_pos (by simp)]
  · rw [Maps.atKey_put_other (fun e => he (kl_inj hf' hk' hf hk e)), h f' k' hf' hk']
    have : ((f', k') ∈ l ++ [(f, k)]) ↔ (f', k') ∈ l := by simp [he]
    simp only [this]

/-! ### beside both -/
section
variable {W w w' : World} {c z b N : Nat} {Z : Zs} {s : S} {r rb : Nat} {LA : Option Addr} {lc : Nat} {L : Ls} {t : S} {T : Nat → Prop}
theorem Duo.far (h : Duo W w c z b N Z s r rb LA lc L t) (ho : Only T w w') (hT : ∀ g, T g → W.heap.size ≤ g ∧ ¬ own2 c z b Z r rb LA g) : Duo W w' c z b N Z s r rb LA lc L t :=
  ⟨⟨ho.below h.live.below h.live.below.size (fun g hg => (hT g hg).1), h.live.rep.same (fun g hg => ho.block g (h.live.rep.own_lt g hg) (fun ht => (hT g ht).2 (.inl hg))), h.live.lo⟩,
    h.rep.same (fun g hg => ho.block g (h.rep.own_lt g hg) (fun ht => (hT g ht).2 (.inr hg))), h.rlo, h.disj, h.good⟩
theorem Duo.own2_lt (h : Duo W w c z b N Z s r rb LA lc L t) : ∀ g, own2 c z b Z r rb LA g → g < w.heap.size := fun g hg => hg.elim (h.live.rep.own_lt g) (h.rep.own_lt g)

/-- a block beside both -/
structure By (w : World) (y : Nat) (o : Obj) (P : Nat → Prop) : Prop where
  row : w.heap[y]? = some o
  no : ¬ P y
variable {y : Nat} {o : Obj} {P : Nat → Prop}
theorem By.lt (h : By w y o P) : y < w.heap.size := (Array.getElem?_eq_some_iff.1 h.row).1
theorem By.only (h : By w y o P) (ho : Only T w w') (hT : ¬ T y) : By w' y o P := ⟨(ho.block y h.lt hT).trans h.row, h.no⟩
theorem By.still (h : By w y o P) (hb : Below w.heap.size w w') : By w' y o P := ⟨(hb.block y h.lt).trans h.row, h.no⟩
variable {N' : Nat} {Z' : Zs} {LA' : Option Addr} {lc' : Nat} {R : Ls × S}
theorem By.acted (h : By w y o (own2 c z b Z r rb LA)) (a : Acted W w w' c z b N Z r rb LA N' Z' LA' lc' R) : By w' y o (own2 c z b Z' r rb LA') :=
  ⟨(a.only.block y h.lt h.no).trans h.row, fun ho => (a.own_ y ho).elim h.no (fun hl => by have := h.lt; omega)⟩
theorem By.cell {cs : Array Value} {ty : TypeId} (h : By w y (.cells cs ty (0, 0)) P) {j : Nat} {v : Value} (hv : cs[j]? = some v) : w.cell? ⟨y, j, none⟩ = some v := (cell_of_cells h.row).trans hv
/-- a map beside both -/
theorem OwnT.by {n : Nat} {D : DataW Unit} (h : OwnT w y n D) : ∃ es ck, w.heap[y]? = some (.map es ck) := by obtain ⟨es, ck, hb, -⟩ := h; exact ⟨es, ck, hb⟩
theorem OwnT.far {n : Nat} {D : DataW Unit} (h : OwnT w y n D) (hs : w'.heap[y]? = w.heap[y]?) : OwnT w' y n D := by obtain ⟨es, ck, hb, r⟩ := h; exact ⟨es, ck, hs.trans hb, r⟩
theorem OwnI.far {n : Nat} {D : DataW Unit} (h : OwnI w y n D) (hs : w'.heap[y]? = w.heap[y]?) : OwnI w' y n D := by obtain ⟨es, ck, hb, r⟩ := h; exact ⟨es, ck, hs.trans hb, r⟩
end

theorem storeT {w : World} {b n : Nat} {D : DataW Unit} (h : OwnT w b n D) (hn : n < maxLen) {f k : Int} (hf : i64 f) (hk : i64 k) (d : ByteArray) (hd : d.size ≤ maxLen) :
    ∃ w', (Instr.mapUpdate 40 (.map (some b)) (keyV f k) (.string d)).run Try.prog w = .ok () w' ∧ OwnT w' b (n + 1) (D.put (kl f k) (.lit (.string d.data.toList))) ∧ w.grownBy w' (some b) :=
  h.update keyLaw Try.underlying40 hn (key_of hf hk) (plainElem_string Try.underlying9 hd)
theorem key_eql (W : World) (xf xk f k : Int) : (binOp .eql 42 (.agg #[.int .i64 xf, .int .i64 xk]) (.agg #[.int .i64 f, .int .i64 k])).run Try.prog W = .ok (.bool (xf == f && xk == k)) W := by
  have ui := Try.underlying2
  have uj := Try.underlying3
  rw [run_eql_struct, run_equalIn_agg W 9999 42 _ _ (by kernel_rfl) (by kernel_rfl)]
  unfold Program.fieldsOf
  rw [Try.underlying42]
  have e0 : ∀ W f k, (Go.part 2 #[.int .i64 f, .int .i64 k] 0).run Try.prog W = .ok (.int .i64 f) W := fun W f k => by simp [Go.part, isAgg, run_underlying ui]
  have e1 : ∀ W f k, (Go.part 3 #[.int .i64 f, .int .i64 k] 1).run Try.prog W = .ok (.int .i64 k) W := fun W f k => by simp [Go.part, isAgg, run_underlying uj]
  by_cases h : xf = f
  · subst h
    by_cases h2 : xk = k
    · simp [Op.eqFields, e0, e1, run_equalIn_int _ _ _ _ _ _ _ ui, run_equalIn_int _ _ _ _ _ _ _ uj, Result.andThen, h2]
    · have hb : (xk == k) = false := beq_eq_false_iff_ne.2 h2
      simp [Op.eqFields, e0, e1, run_equalIn_int _ _ _ _ _ _ _ ui, run_equalIn_int _ _ _ _ _ _ _ uj, Result.andThen, hb]
  · have hb : (xf == f) = false := beq_eq_false_iff_ne.2 h
    simp [Op.eqFields, e0, run_equalIn_int _ _ _ _ _ _ _ ui, Result.andThen, hb]
theorem key_eguard (W : World) (x y : Operand) (xs ys : Array Value) : (eqGuard .eql 42 x y (.agg xs) (.agg ys)).run Try.prog W = .ok () W :=
  run_eqGuard_agg W _ _ _ _ _ _ (by kernel_rfl)

/-! ### what the data's map tells -/
/-- of the blocks that were there, or aren't the act's, the data is told -/
structure Told (D : DataW Unit) (L L2 : Ls) (f k : Int) (t : Nat) : Prop where
  elder : ∀ x ∈ L2, (¬ (x.file = f ∧ x.block = k) ∨ (f, k) ∈ kps L) → D.atKey (kl x.file x.block) (.lit (.string [])) = .lit (.string x.data.data.toList)
  first : ∀ x ∈ L2.reverse.take t, D.atKey (kl x.file x.block) (.lit (.string [])) = .lit (.string x.data.data.toList)
theorem findB_none {f k : Int} {L : Ls} (h : findB f k L = none) : (f, k) ∉ kps L := fun hm => by
  obtain ⟨x, hx, h1, h2⟩ := mem_kps.1 hm
  unfold findB at h
  rw [List.findIdx?_eq_none_iff] at h
  have := h x hx
  simp [hitB, h1, h2] at this
theorem told_start {D : DataW Unit} {a : AC} {L : Ls} {s : S} (h : ∀ x ∈ L, D.atKey (kl x.file x.block) (.lit (.string [])) = .lit (.string x.data.data.toList)) : Told D L (actB a L s).1 a.f a.k 0 := by
  refine ⟨fun y hy hc => ?_, by simp⟩
  rcases act_from hy with ⟨x, hx, h1, h2, h3, -⟩ | ⟨rfl, hn⟩
  · have := h x hx
    rw [h1, h2, h3] at this
    exact this
  · rcases hc with hc | hc
    · exact absurd ⟨rfl, rfl⟩ hc
    · exact absurd hc (findB_none hn)
/-- a block that is told already -/
theorem Told.next {D : DataW Unit} {L L2 : Ls} {f k : Int} {t : Nat} (h : Told D L L2 f k t) (ht : t < L2.reverse.length) (hc : ¬ (L2.reverse[t].file = f ∧ L2.reverse[t].block = k) ∨ (f, k) ∈ kps L) : Told D L L2 f k (t + 1) := by
  refine ⟨h.elder, fun x hx => ?_⟩
  rw [List.take_succ_eq_append_getElem ht] at hx
  rcases List.mem_append.1 hx with hx | hx
  · exact h.first x hx
  · simp only [List.mem_singleton] at hx
    rw [hx]
    exact h.elder _ (List.mem_reverse.1 (List.getElem_mem ht)) hc
/-- the act's block, told now -/
theorem Told.put {D : DataW Unit} {L L2 : Ls} {f k : Int} {t : Nat} {d : ByteArray} (h : Told D L L2 f k t) (hm : IsMap D) (hw : ∀ x ∈ L2, x.wf) (hf : i64 f) (hk : i64 k)
    (hd : ∀ x ∈ L2, x.file = f → x.block = k → x.data = d) : Told (D.put (kl f k) (.lit (.string d.data.toList))) L L2 f k (t + 1) := by
  have hall : ∀ x ∈ L2, D.atKey (kl x.file x.block) (.lit (.string [])) = .lit (.string x.data.data.toList) ∨ (x.file = f ∧ x.block = k) → (D.put (kl f k) (.lit (.string d.data.toList))).atKey (kl x.file x.block) (.lit (.string [])) = .lit (.string x.data.data.toList) := fun x hx hc => by
    by_cases he : x.file = f ∧ x.block = k
    · rw [hd x hx he.1 he.2, he.1, he.2, Maps.atKey_put_same hm (kl_key hf hk)]
    · have hxw := hw x hx
      rw [Maps.atKey_put_other (fun e => he (kl_inj hxw.f hxw.b hf hk e))]
      exact hc.resolve_right he
  refine ⟨fun x hx hc => hall x hx (.inl (h.elder x hx hc)), fun x hx => ?_⟩
  have hx2 : x ∈ L2 := List.mem_reverse.1 (List.mem_of_mem_take hx)
  by_cases he : x.file = f ∧ x.block = k
  · exact hall x hx2 (.inr he)
  · exact hall x hx2 (.inl (h.elder x hx2 (.inl he)))
theorem act_new {a : AC} {L : Ls} {s : S} (hn : (a.f, a.k) ∉ kps L) : ∀ x ∈ (actB a L s).1, x.file = a.f → x.block = a.k → x.data = a.dat := fun y hy h1 h2 => by
  rcases act_from hy with ⟨x, hx, e1, e2, -, -⟩ | ⟨rfl, -⟩
  · exact absurd (mem_kps.2 ⟨x, hx, e1.trans h1, e2.trans h2⟩) hn
  · rfl
theorem totB_take {L : Ls} {t : Nat} (h : t < L.length) : totB (L.take (t + 1)) = totB (L.take t) + cost L[t].data := by
  rw [List.take_succ_eq_append_getElem h, totB_app, totB_cons]
  rfl
theorem totB_take_le (L : Ls) (t : Nat) : totB (L.take t) ≤ totB L := totB_sub (List.take_sublist _ _)
theorem totB_rev (L : Ls) : totB L.reverse = totB L := by unfold totB; exact ((List.reverse_perm L).map _).sum_nat
theorem kps_at {L : Ls} {t : Nat} (h : t < (kps L).length) : (kps L)[t] = ((L.reverse[t]'(by rw [kps_len] at h; simpa using h)).file, (L.reverse[t]'(by rw [kps_len] at h; simpa using h)).block) := by simp [kps]
end Go.Proofs.Ytlfhjbilnfkabaa
