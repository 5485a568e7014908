/- What the closures do that turn files: Append$1, Sync$1, and SyncDir$1. -/
import Derived.Test.YtgknkldhjejjmaaDoorDkF
import Derived.Lib.AppendStr
namespace Go.Proofs.YtgknkldhjejjmaaDoor
open Go.RowKit Go.Maps
open DM

/-- one file turns: its own block, its own row, and new blocks -/
theorem Half.file {B : Nat} {w w' : World} {d : Nat} {s : St} {g : Gh} {C : Array Value} (h : Half B w d s g C) (hlt : ∀ n, live s.lasts s.queue n → n < s.files.length) {n : Nat} (hn : live s.lasts s.queue n) {f : F} {v : Value}
    (hkeep : ∀ (x : Nat) (o : Obj), w.heap[x]? = some o → x ≠ g.blk n → (∀ c fr, o ≠ .cells c 5 fr ∨ some x ≠ (g.row n).ownBlock) → w'.heap[x]? = some o)
    (hb : w'.heap[g.blk n]? = some (.cells #[.int .i64 n, v, .int .i64 f.sync] 70 (0, 0))) (ho : Row B w' v f.data) (hl : v.ownBlock = none ∨ v.ownBlock = (g.row n).ownBlock ∨ ∃ x, v.ownBlock = some x ∧ w.heap.size ≤ x) :
    Half B w' d { s with files := s.files.set n f } { g with row := fun m => if m = n then v else g.row m } C := by
  have hfn := h.body.files n hn
  have hkc : ∀ {x : Nat} {c : Array Value} {t : TypeId} {fr : Nat × Nat}, w.heap[x]? = some (.cells c t fr) → t ≠ 70 → t ≠ 5 → w'.heap[x]? = some (.cells c t fr) := fun {x c t fr} hx h1 h2 => by
    refine hkeep x _ hx (fun e => ?_) (fun c' fr' => .inl (fun e => ?_))
    · have h3 := hfn.2.1
      rw [← e, hx] at h3
      injection h3 with h3
      injection h3 with _ h3
      exact h1 h3
    · injection e with _ e
      exact h2 e
  have hkm : ∀ {b k : Nat} {D : DataW Unit}, OwnM w b k D → OwnM w' b k D := fun {b k D} hm => by
    obtain ⟨es, clock, hb1, hr⟩ := hm
    refine ⟨es, clock, hkeep b _ hb1 (fun e => ?_) (fun c' fr' => .inl (fun e => by cases e)), hr⟩
    have h3 := hfn.2.1
    rw [← e, hb1] at h3
    cases h3
  have hkr : ∀ {v' : Value} {t : TypeId} {z k : Nat} {xs : List Value}, w.ownsRow B t z v' k xs → t ≠ 70 → t ≠ 5 → w'.ownsRow B t z v' k xs := fun {v' t z k xs} hr h1 h2 => by
    refine ⟨hr.1, ?_⟩
    rcases hr.2 with h3 | ⟨r, cap, cur, h3, h4, h5, h6⟩
    · exact .inl h3
    · exact .inr ⟨r, cap, cur, h3, h4, hkc h5 h1 h2, h6⟩
  have hap : ∀ m, live s.lasts s.queue m → m ≠ n → v.ownBlock = none ∨ v.ownBlock ≠ (g.row m).ownBlock := fun m hm hne => by
    have hfm := h.body.files m hm
    rcases hl with h1 | h1 | ⟨x, h1, h2⟩
    · exact .inl h1
    · rw [h1]
      exact (h.body.apart n m hn hm (Ne.symm hne)).2
    · right
      rw [h1]
      intro e
      have := (hfm.2.2.lt x e.symm).2
      omega
  refine ⟨⟨?_, hkr h.body.queue (by decide) (by decide), fun m hm => ?_, fun m k hm hk hne => ?_, hkr h.body.cut (by decide) (by decide), h.body.bk⟩, hkc h.at_ (by decide) (by decide), h.le⟩
  · rcases h.body.maps with h1 | ⟨b1, b2, e1, e2, hne, l1, l2, o1, o2⟩
    · exact .inl h1
    · exact .inr ⟨b1, b2, e1, e2, hne, l1, l2, hkm o1, hkm o2⟩
  · by_cases hmn : m = n
    · subst hmn
      have hf : fileAt { s with files := s.files.set m f } m = f := by
        unfold fileAt
        simp only
        rw [List.getD_eq_getElem?_getD, List.getElem?_set_self (hlt m hm)]
        rfl
      rw [hf]
      refine ⟨hfn.1, ?_, ?_⟩
      · simp only [if_true]; exact hb
      · simp only [if_true]; exact ho
    · have hfm := h.body.files m hm
      have hf : fileAt { s with files := s.files.set n f } m = fileAt s m := by
        unfold fileAt
        simp only
        rw [List.getD_eq_getElem?_getD, List.getElem?_set_ne (Ne.symm hmn), List.getD_eq_getElem?_getD]
      have hap2 := h.body.apart m n hm hn hmn
      rw [hf]
      refine ⟨hfm.1, ?_, ?_⟩
      · simp only [if_neg hmn]
        exact hkeep _ _ hfm.2.1 hap2.1 (fun c' fr' => .inl (fun e => by injection e with _ e; exact absurd e (by decide)))
      · simp only [if_neg hmn]
        rcases hfm.2.2 with h3 | ⟨r, cap, cur, h3, h4, h5, h6⟩
        · exact .inl h3
        · refine .inr ⟨r, cap, cur, h3, h4, hkeep _ _ h5 (fun e => ?_) (fun c' fr' => .inr (fun e => ?_)), h6⟩
          · have h7 := hfn.2.1
            rw [← e, h5] at h7
            injection h7 with h7
            injection h7 with _ h7
            exact absurd h7 (by decide)
          · have h7 := hap2.2
            rw [h3] at h7
            rcases h7 with h7 | h7
            · cases h7
            · exact h7 e
  · simp only
    have hmk := h.body.apart m k hm hk hne
    refine ⟨hmk.1, ?_⟩
    by_cases hmn : m = n
    · subst hmn
      rw [if_pos rfl, if_neg (Ne.symm hne)]
      exact hap k hk (Ne.symm hne)
    · by_cases hkn : k = n
      · subst hkn
        rw [if_neg hmn, if_pos rfl]
        have h1 := hap m hm hmn
        cases hv : v.ownBlock with
        | none =>
          cases hr : (g.row m).ownBlock with
          | none => exact .inl rfl
          | some x => exact .inr (by simp)
        | some x =>
          right
          rw [hv] at h1
          rcases h1 with h1 | h1
          · cases h1
          · exact fun e => h1 e.symm
      · rw [if_neg hmn, if_neg hkn]
        exact hmk.2

section
variable {P : Program}
theorem strCells_eq (s : ByteArray) : Lib.strCells s = Lib.byteCells s.data.toList := rfl

/-- append of a text, and where the new row lies -/
theorem app_row (w : World) (base : Nat) (t u ty : TypeId) (i : TypeInfo) (ht : P.underlying t = some (.slice 5)) (hu : P.underlying u = some .string) (hi : P.info? 5 = some i) (hz : i.zero = some (.int .u8 0))
    (hsize : i.size = 1) (hby : i.bytes = 1) (v : Value) (l : Bs) (hown : Row base w v l) (s : ByteArray) (hbytes : l.length + s.size ≤ 140737488355328) (hbase : base ≤ w.heap.size) :
    ∃ A c w', (Builtin.append_ #[t, u] ty #[v, .string s]).run P w = .ok (.slice A (l.length + s.size) c) w' ∧ Row base w' (.slice A (l.length + s.size) c) (l ++ s.data.toList) ∧ w.grownBy w' v.ownBlock ∧ ((Value.slice A (l.length + s.size) c).ownBlock = v.ownBlock ∨ (Value.slice A (l.length + s.size) c).ownBlock = some w.heap.size) := by
  have hsl := size_list s
  have hll : (l ++ s.data.toList).length = l.length + s.size := by rw [List.length_append, hsl]
  have hbc : Lib.byteCells (l ++ s.data.toList) = Lib.byteCells l ++ Lib.strCells s := by rw [strCells_eq]; simp [Lib.byteCells]
  have hbl : (Lib.byteCells l).length = l.length := Lib.byteCells_length l
  rcases hown with ⟨rfl, rfl⟩ | ⟨g, cap, cur, rfl, hbg, hg, hnc, hcm, hcs, htake⟩
  · obtain ⟨v', w', hr, h1, h2, h3⟩ := Lib.run_append_own_string (P := P) w base t u ty 5 i ht hu hi hz hsize hby (.slice none 0 0) 0 [] (World.ownsRow_nil _ _ _ _) s (by unfold maxLen; simp at hbytes; omega) (by simpa using hbytes) hbase
    rw [List.nil_append, strCells_eq] at h1
    have hrow : Row base w' v' s.data.toList := Row.of_own h1 (by rw [hsl, Nat.zero_add])
    have hloc : v'.ownBlock = (Value.slice none 0 0).ownBlock ∨ v'.ownBlock = some w.heap.size := by
      by_cases hm : s.size = 0
      · left
        rw [h3.2 ⟨rfl, hm⟩]
      · have hr2 := run_append_nil_string (P := P) w t u ty 5 i (.int .u8 0) ht hu hi hz s (by omega) (by simp at hbytes; omega) (by rw [hby]; simp at hbytes; omega)
        rw [hr] at hr2
        injection hr2 with hr2 _
        right
        rw [hr2]
        rfl
    obtain ⟨A, c, hv⟩ : ∃ A c, v' = .slice A (0 + s.size) c := by
      rcases h1.2 with ⟨e1, h0⟩ | ⟨r, c, _, e1, _⟩
      · exact ⟨none, 0, by rw [e1, h0]⟩
      · exact ⟨_, c, e1⟩
    subst hv
    exact ⟨A, c, w', hr, hrow, h2, hloc⟩
  · by_cases hroom : l.length + s.size ≤ cap
    · have hr := Lib.run_append_room_string (P := P) w t u ty 5 i ht hu hi hsize g l.length cap cur hg s hroom (by omega)
      refine ⟨_, _, _, hr, .inr ⟨g, cap, _, by rw [hll], hbg, setRow_heap w g cur _ _ _ hg, by omega, hcm, ?_, ?_⟩, ⟨rfl, rfl, rfl, by simp, fun k _ hk => setRow_other w g k _ (fun e => hk (by simp [Value.ownBlock, e]))⟩, .inl rfl⟩
      · simp only [List.size_toArray, List.length_append, List.length_take, List.length_drop, Array.length_toList, Lib.strCells_length]
        omega
      · rw [htake, hll, hbc]
        have : (Lib.byteCells l ++ Lib.strCells s).length = l.length + s.size := by rw [List.length_append, hbl, Lib.strCells_length]
        rw [← this]
        exact List.take_left
    · have holds : ∀ j u, (Lib.byteCells l)[j]? = some u → w.cell? ((⟨g, 0, none⟩ : Addr).add j) = some u := fun j u hj => by
        rw [addr_add0, cell_of_row _ _ _ _ _ _ hg, ← hj, ← htake, List.getElem?_take_of_lt (by rw [← hbl]; exact (List.getElem?_eq_some_iff.1 hj).1)]
        simp
      have hr := Lib.run_append_grow_string (P := P) w t u ty 5 i (.int .u8 0) ht hu hi hz ⟨g, 0, none⟩ l.length cap (Lib.byteCells l) (by rw [hsize, hbl, Nat.mul_one]) holds s (by omega) (by omega) (by rw [hby]; exact growslice_fits (by omega) (by omega))
      have hge := grownCap_ge w (l.length + s.size) cap 5
      have hcm' : grownCap w (l.length + s.size) cap 5 ≤ maxLen := grownCap_le_maxLen w (l.length + s.size) cap 5 (by unfold maxLen; omega)
      refine ⟨_, _, _, hr, .inr ⟨w.heap.size, _, _, by rw [hll], hbase, heap_alloc_new w.drew _, by omega, hcm', ?_, ?_⟩, ⟨rfl, rfl, rfl, by simp, fun k hk _ => Below.heap_alloc w.drew _ k hk⟩, .inr rfl⟩
      · have hz1 : (Value.int IntKind.u8 0).cells.size = 1 := rfl
        simp only [Array.size_append, List.size_toArray, size_zeroCells, hz1, hbl, Lib.strCells_length]
        omega
      · simp only [Array.toList_append, List.append_assoc]
        rw [hll, hbc, ← List.append_assoc]
        have : (Lib.byteCells l ++ Lib.strCells s).length = l.length + s.size := by rw [List.length_append, hbl, Lib.strCells_length]
        rw [← this]
        exact List.take_left

theorem step_str {w : World} {ops : Array Oper} {o : Oper} {a : Act} {K : Act → World → Prop} {Q : Exit → Act → World → Prop} {E : Prop} (hgd : o.guard = none) (sl x : Operand) (t u : TypeId)
    (ho : o.op = .call { callee := .builtin .append, args := #[sl, x], argTypes := #[t, u] })
    (base : Nat) (i : TypeInfo) (ht : P.underlying t = some (.slice 5)) (hu : P.underlying u = some .string) (hi : P.info? 5 = some i) (hz : i.zero = some (.int .u8 0))
    (hsize : i.size = 1) (hby : i.bytes = 1) (v : Value) (l : Bs) (hs : a.eval sl = v) (hown : Row base w v l) (s : ByteArray) (hx : a.eval x = .string s) (hbytes : l.length + s.size ≤ 140737488355328) (hbase : base ≤ w.heap.size)
    (h : ∀ A c w', Row base w' (.slice A (l.length + s.size) c) (l ++ s.data.toList) → w.grownBy w' v.ownBlock → ((Value.slice A (l.length + s.size) c).ownBlock = v.ownBlock ∨ (Value.slice A (l.length + s.size) c).ownBlock = some w.heap.size) → K (a.put o.dst (.slice A (l.length + s.size) c)) w') :
    if Region.wanted o (yielded ops a.tmps) = true then Oper.wp P o a w K Q else E := by
  have hw : Region.wanted o (yielded ops a.tmps) = true := by simp [Region.wanted, hgd]
  rw [if_pos hw]
  obtain ⟨A, c, w', hr, h2, h3, h4⟩ := app_row (P := P) w base t u o.type i ht hu hi hz hsize hby v l hown s hbytes hbase
  unfold Oper.wp execOp
  simp only [ho, resolve, invoke, builtin, Sem.run_bind, Sem.run_pure, Result.andThen_ok, List.map_toArray, List.map_cons, List.map_nil, hs, hx, hr]
  exact h _ _ _ h2 h3 h4
end
end Go.Proofs.YtgknkldhjejjmaaDoor
