/- Texts joined by bundle.py: YDDkC. -/
import Derived.Test.YtjkofciohehgfaaGreatDoorZak
import Derived.StillTailTactics
import Derived.Deep.RegionLaw

/- point. -/
namespace Go.Proofs.YtjkofciohehgfaaGreatDoor.L8
open Go.RowKit Go.Maps
open DM

theorem find_live {B : Nat} {w : World} {s : St} {g : Gh} (hb : Body B w s g) (hn : s.names = pre s.lasts s.queue s.queue.length) {k : Bs} {n : Nat} (h : find s.names k = some n) : FileAt B w g n (fileAt s n) := by
  have hm := find_some h
  rw [hn] at hm
  exact hb.files n (live_pre hm)

/-- what size finds of a name, of files that lie in memory -/
theorem size_is {B : Nat} {w : World} {g : Gh} {fs : List F} {l : Nm} {k : Bs} (h : ∀ n, find l k = some n → FileAt B w g n (fs.getD n ⟨[], 0⟩)) : SizeIs w g.blk l k (DM.size fs l k) := by
  unfold DM.size
  cases hf : find l k with
  | none => exact .inl ⟨hf, rfl⟩
  | some n =>
    obtain ⟨A, c, hr⟩ := row_slice (h n hf)
    refine .inr ⟨n, A, c, hf, ?_⟩
    rw [cell_of_row _ _ _ _ _ _ (h n hf).2.1]
    show some (g.row n) = _
    rw [hr]
    rfl

theorem size_st {w : World} {d b1 n : Nat} {blk : Nat → Nat} {l : Nm} (c3 : w.cell? ⟨d, 3, none⟩ = some (.map (some b1))) (hown : OwnM w b1 n (D blk l)) (k : ByteArray) (hk : k.size ≤ maxLen) (N : Nat) (hs : SizeIs w blk l k.data.toList N) :
    Calls Tryz.prog 106 #[.pointer (some ⟨d, 0, none⟩), .string k] w fun e w' => e = .returned (.int .i64 N) ∧ w' = w :=
  (size_any c3 hown k hk N hs).mono fun _ _ ⟨h1, h2⟩ => ⟨h1, h2.symm⟩

/-- the names turn in their map, nothing else does -/
theorem Half.names {B : Nat} {w w' : World} {d : Nat} {s : St} {g : Gh} {C : Array Value} (h : Half B w d s g C) {b1 b2 : Nat} (e1 : g.m1 = some b1) (e2 : g.m2 = some b2) {l : Nm} (ho : OwnM w' b1 l.length (D g.blk l)) (hg : w.grownBy w' (some b1)) : Half B w' d { s with names := l } g C := by
  rcases h.body.maps with ⟨e, _⟩ | ⟨c1, c2, e3, e4, hne, l1, l2, o1, o2⟩
  · rw [e1] at e; cases e
  · rw [e1] at e3; cases e3
    rw [e2] at e4; cases e4
    obtain ⟨es, clock, hb1, _⟩ := o1
    have hob : ∀ {x : Nat} {c : Array Value} {t : TypeId} {fr : Nat × Nat}, w.heap[x]? = some (.cells c t fr) → some x ≠ some b1 := fun hx e => by
      rw [Option.some.inj e, hb1] at hx
      cases hx
    refine ⟨⟨.inr ⟨b1, b2, e1, e2, hne, l1, l2, ho, o2.kept hg (fun e => hne (Option.some.inj e).symm)⟩, h.body.queue.kept hg (own_ne h.body.queue hb1 (by simp)), fun n hn => ?_, h.body.apart, h.body.cut.kept hg (own_ne h.body.cut hb1 (by simp)), h.body.bk⟩, (hg.block d h.lt (hob h.at_)).trans h.at_, h.le⟩
    have hf := h.body.files n hn
    exact hf.kept hg (hob hf.2.1) (hf.2.2.ne hb1 (by simp))

/-- one more stands in the queue -/
theorem Half.queued {B : Nat} {w w' : World} {d : Nat} {s : St} {g : Gh} {C : Array Value} (h : Half B w d s g C) {b1 : Nat} (e1 : g.m1 = some b1) {q : Value} {e : E} (ho : w'.ownsRow B 119 3 q (s.queue.length + 1) (qC g.blk s.queue ++ entC g.blk e)) (hg : w.grownBy w' g.q.ownBlock)
    (hf : e.name ≠ [] → FileAt B w g e.file (fileAt s e.file) ∧ ∀ n, live s.lasts s.queue n → n ≠ e.file → (g.blk n ≠ g.blk e.file ∧ ((g.row n).ownBlock = none ∨ (g.row n).ownBlock ≠ (g.row e.file).ownBlock)) ∧ ((g.row e.file).ownBlock = none ∨ (g.row e.file).ownBlock ≠ (g.row n).ownBlock)) :
    Half B w' d { s with queue := s.queue ++ [e] } { g with q := q } C := by
  have hk : ∀ {x : Nat} {c : Array Value} {t : TypeId} {fr : Nat × Nat}, w.heap[x]? = some (.cells c t fr) → t ≠ 119 → some x ≠ g.q.ownBlock := fun hx ht he => by
    rcases own_ne h.body.queue hx (fun c' e => by injection e with _ e; exact ht e) with h1 | h1
    · rw [h1] at he; cases he
    · exact h1 he.symm
  have hr : ∀ {v : Value} {t : TypeId} {z n : Nat} {xs : List Value}, w.ownsRow B t z v n xs → t ≠ 119 → v.ownBlock = none ∨ v.ownBlock ≠ g.q.ownBlock := fun hv ht => own_apart hv h.body.queue ht
  have hm : ∀ b n D, OwnM w b n D → some b ≠ g.q.ownBlock := fun b n D hb he => by
    obtain ⟨es, clock, hb1, _⟩ := hb
    rcases own_ne h.body.queue hb1 (by simp) with h1 | h1
    · rw [h1] at he; cases he
    · exact h1 he.symm
  have hfile : ∀ n f, FileAt B w g n f → FileAt B w' g n f := fun n f h1 => h1.kept hg (hk h1.2.1 (by decide)) (h1.2.2.apart h.body.queue (by decide))
  have hlv : ∀ n, live s.lasts (s.queue ++ [e]) n → live s.lasts s.queue n ∨ (e.name ≠ [] ∧ e.file = n) := fun n hn => by
    rcases hn with hn | ⟨x, hx, h1, h2⟩
    · exact .inl (.inl hn)
    · rcases List.mem_append.1 hx with hx | hx
      · exact .inl (.inr ⟨x, hx, h1, h2⟩)
      · rw [List.mem_singleton] at hx; subst hx; exact .inr ⟨h1, h2⟩
  refine ⟨⟨?_, ?_, fun n hn => ?_, fun n m hn hm' hne => ?_, h.body.cut.kept hg (hr h.body.cut (by decide)), h.body.bk⟩, (hg.block d h.lt (hk h.at_ (by decide))).trans h.at_, h.le⟩
  · rcases h.body.maps with ⟨e3, _⟩ | ⟨b1, b2, e3, e2, hne, l1, l2, o1, o2⟩
    · rw [e1] at e3; cases e3
    · exact .inr ⟨b1, b2, e3, e2, hne, l1, l2, o1.kept hg (hm _ _ _ o1), o2.kept hg (hm _ _ _ o2)⟩
  · show w'.ownsRow B _ 3 q (s.queue ++ [e]).length (qC g.blk (s.queue ++ [e]))
    rw [qC_snoc, List.length_append]
    exact ho
  · rcases hlv n hn with h1 | ⟨h1, rfl⟩
    · exact hfile n _ (h.body.files n h1)
    · exact hfile _ _ (hf h1).1
  · rcases hlv n hn with h1 | ⟨h1, rfl⟩
    · rcases hlv m hm' with h2 | ⟨h2, rfl⟩
      · exact h.body.apart n m h1 h2 hne
      · exact ((hf h2).2 n h1 hne).1
    · rcases hlv m hm' with h2 | ⟨h2, rfl⟩
      · have := (hf h1).2 m h2 (Ne.symm hne)
        exact ⟨Ne.symm this.1.1, this.2⟩
      · exact absurd rfl hne

theorem FileAt.disk {B : Nat} {w w' : World} {g : Gh} {n : Nat} {f : F} (h : FileAt B w g n f) {d : Nat} {c : Array Value} (hd : w.heap[d]? = some (.cells c 52 (0, 0))) (hg : w.grownBy w' (some d)) : FileAt B w' g n f :=
  h.kept hg (fun e => by
    have h2 := h.2.1
    rw [Option.some.inj e, hd] at h2
    injection h2 with h2
    injection h2 with _ h2
    exact absurd h2 (by decide)) (h.2.2.ne hd (by intro c e; injection e with _ e; exact absurd e (by decide)))

theorem FileAt.map {B : Nat} {w w' : World} {g : Gh} {n : Nat} {f : F} (h : FileAt B w g n f) {b k : Nat} {D : DataW Unit} (hb : OwnM w b k D) (hg : w.grownBy w' (some b)) : FileAt B w' g n f := by
  obtain ⟨es, clock, hb1, _⟩ := hb
  refine h.kept hg (fun e => ?_) (h.2.2.ne hb1 (by simp))
  have h2 := h.2.1
  rw [Option.some.inj e, hb1] at h2
  cases h2

theorem find_app {l : Nm} (hs : Sorted l) {e : E} (hn : e.name ≠ []) : find (app l e) e.name = some e.file := by
  unfold app
  rw [if_neg hn]
  exact find_of_mem (sorted_put (sorted_del hs _) _ _) (mem_put.2 (.inl rfl))

/-- what point leaves -/
def PointOut (B : Nat) (w : World) (d : Nat) (s : St) (g : Gh) (C : Array Value) (e : E) (en : Ending) (w' : World) : Prop :=
  en = .returned (.tuple #[]) ∧ Moves B w w' ∧ ∃ q, Half B w' d (point s e) { g with q := q } ((C.setIfInBounds 1 (.int .i64 (used s.files (app s.names e)))).setIfInBounds 5 q)

theorem wrapN (x : Int) (h0 : -9223372036854775808 ≤ x) (h1 : x ≤ 9223372036854775807) : IntKind.i64.wrap x = x := IntWalk.i64_in _ ⟨h0, h1⟩

theorem info_naming : (Tryz.prog.info? 119).map (fun i => (i.zero, i.size, i.bytes)) = some (some (.agg #[.string ⟨#[]⟩, .string ⟨#[]⟩, .pointer none]), 3, 40) := by kernel_rfl

set_option maxRecDepth 100000 in
set_option maxHeartbeats 1000000 in
theorem point_any {B : Nat} {w : World} {d : Nat} {s : St} {g : Gh} {C : Array Value} (h : Half B w d s g C) {b1 b2 : Nat} (e1 : g.m1 = some b1) (e2 : g.m2 = some b2) (hB : B ≤ w.heap.size) (G N : ByteArray) (F : Nat) (hG : G.size ≤ 64) (hN : N.size ≤ 64)
    (c1 : C[1]? = some (.int .i64 (used s.files s.names))) (c3 : C[3]? = some (.map (some b1))) (c5 : C[5]? = some g.q)
    (hfn : ∀ k n, find s.names k = some n → FileAt B w g n (fileAt s n))
    (hgood : Sorted s.names ∧ ∀ p ∈ s.names, p.1 ≠ []) (hgn : G.data.toList ≠ N.data.toList ∨ N.data.toList = []) (hul : used s.files s.names ≤ 4294967296) (hul' : used s.files (app s.names ⟨G.data.toList, N.data.toList, F⟩) ≤ 4294967296)
    (hql : s.queue.length < 1099511627776) (hnl : s.names.length < 1099511627776)
    (hf : N.data.toList ≠ [] → FileAt B w g F (fileAt s F) ∧ ∀ n, live s.lasts s.queue n → n ≠ F → (g.blk n ≠ g.blk F ∧ ((g.row n).ownBlock = none ∨ (g.row n).ownBlock ≠ (g.row F).ownBlock)) ∧ ((g.row F).ownBlock = none ∨ (g.row F).ownBlock ≠ (g.row n).ownBlock)) :
    Calls Tryz.prog 69 #[.pointer (some ⟨d, 0, none⟩), .agg #[.string G, .string N, pv g.blk (if N.data.toList = [] then none else some F)]] w (PointOut B w d s g C ⟨G.data.toList, N.data.toList, F⟩) := by
  have hml : maxLen = 9223372036854775807 := rfl
  have hAP := fun (W : World) (ho : OwnM W b1 s.names.length (D g.blk s.names)) => apply_any ho G N F (by omega) (by omega) (by omega)
  obtain ⟨fv, hfv⟩ : ∃ fv, pv g.blk (if N.data.toList = [] then none else some F) = fv := ⟨_, rfl⟩
  simp only [hfv] at hAP
  have HAP := Lib.hid hAP
  rw [hfv]
  have HFV := Lib.hid hfv
  obtain ⟨ua1, ua2⟩ := used_app (fs := s.files) hgood.1 hgood.2 ⟨G.data.toList, N.data.toList, F⟩ hgn
  simp only at ua1 ua2
  have us : size s.files s.names G.data.toList + size s.files s.names N.data.toList ≤ used s.files s.names := by
    have u1 := used_del (fs := s.files) hgood.1 G.data.toList
    rcases hgn with hne | hne
    · have u2 := used_del (fs := s.files) (sorted_del hgood.1 G.data.toList) N.data.toList
      rw [size_del_other (Ne.symm hne)] at u2
      omega
    · have u2 : size s.files s.names N.data.toList = 0 := by
        unfold DM.size
        rw [hne, find_none_of hgood.2]
      omega
  obtain ⟨sg, hsg⟩ : ∃ sg, size s.files s.names G.data.toList = sg := ⟨_, rfl⟩
  obtain ⟨sn, hsn⟩ : ∃ sn, size s.files s.names N.data.toList = sn := ⟨_, rfl⟩
  obtain ⟨U, hU⟩ : ∃ U, used s.files s.names = U := ⟨_, rfl⟩
  obtain ⟨U', hU'⟩ : ∃ U', used s.files (app s.names ⟨G.data.toList, N.data.toList, F⟩) = U' := ⟨_, rfl⟩
  obtain ⟨fl, hfl⟩ : ∃ fl, (if N.data.toList = [] then 0 else lens s.files F) = fl := ⟨_, rfl⟩
  rw [hU] at c1 hul us ua1
  rw [hU'] at hul' ua1
  rw [hsg, hsn] at us ua1
  rw [hfl] at ua1 ua2
  have HSG : Hid (size s.files s.names G.data.toList = sg) := hsg
  have HSN : Hid (size s.files s.names N.data.toList = sn) := hsn
  have HU' : Hid (used s.files (app s.names ⟨G.data.toList, N.data.toList, F⟩) = U') := hU'
  have HUA : Hid (size s.files (app s.names ⟨G.data.toList, N.data.toList, F⟩) N.data.toList = fl) := ua2
  have HFN := Lib.hid hfn
  have HF := Lib.hid hf
  have HFB : Hid (∀ n, find (app s.names ⟨G.data.toList, N.data.toList, F⟩) N.data.toList = some n → FileAt B w g n (fileAt s n)) := fun n hn => by
    by_cases h0 : N.data.toList = []
    · have h2 : ∀ p ∈ app s.names ⟨G.data.toList, N.data.toList, F⟩, p.1 ≠ [] := by
        unfold app
        rw [if_pos h0]
        exact fun p hp => hgood.2 p (mem_del.1 hp).1
      rw [find_none_of (fun p hp => by rw [h0]; exact h2 p hp)] at hn
      cases hn
    · have h2 := find_app (e := ⟨G.data.toList, N.data.toList, F⟩) hgood.1 h0
      simp only at h2
      rw [h2] at hn
      obtain rfl : F = n := Option.some.inj hn
      exact (hf h0).1
  have hfo : fv.oneCell' = true := by
    rw [← hfv]
    split <;> rfl
  have hdX : d < w.heap.size := h.lt
  have hbX : b1 < w.heap.size := by
    rcases h.body.maps with ⟨e, _⟩ | ⟨b, _, e, _, _, _, _, o1, _⟩
    · rw [e1] at e; cases e
    · rw [e1] at e; cases e; exact o1.lt
  have hBb : B ≤ b1 := by
    rcases h.body.maps with ⟨e, _⟩ | ⟨b, _, e, _, _, l1, _⟩
    · rw [e1] at e; cases e
    · rw [e1] at e; cases e; exact l1
  obtain ⟨i0, hi, hz0, hz1, hz2⟩ := info_parts info_naming
  have hm1 : s.queue.length + 1 ≤ maxLen := by omega
  have hm2 : (s.queue.length + 1) * 40 ≤ 140737488355328 := by omega
  obtain ⟨V, hV⟩ : ∃ V : Int, (U : Int) - ((sg : Int) + (sn : Int)) = V := ⟨_, rfl⟩
  have v0 : IntKind.i64.wrap ((sg : Int) + (sn : Int)) = (sg : Int) + (sn : Int) := wrapN _ (by omega) (by omega)
  have v1 : IntKind.i64.wrap V = V := wrapN _ (by omega) (by omega)
  have v2 : 0 ≤ V ∧ V ≤ 4294967296 := by omega
  have v3 : V + (fl : Int) = (U' : Int) := by omega
  have v4 : IntKind.i64.wrap (U' : Int) = (U' : Int) := wrapN _ (by omega) (by omega)
  have HO : Hid (OwnM w b1 s.names.length (D g.blk s.names)) := by
    rcases h.body.maps with ⟨e, _⟩ | ⟨b, _, e, _, _, _, _, o1, _⟩
    · rw [e1] at e; cases e
    · rw [e1] at e; cases e; exact o1
  have HA := Lib.hid (h.alloc (.cells #[.string G, .string N, fv] 119))
  have HX : Hid ((w.alloc (.cells #[.string G, .string N, fv] 119)).heap[w.heap.size]? = some (.cells #[.string G, .string N, fv] 119 (0, 0))) := heap_alloc_new w _
  have HM : Hid (Moves B w (w.alloc (.cells #[.string G, .string N, fv] 119))) := (Moves.refl B w).alloc hB _
  have HG : Hid (w.grownBy (w.alloc (.cells #[.string G, .string N, fv] 119)) none) := World.grownBy_alloc w _ none
  obtain ⟨X, hX⟩ : ∃ X, w.heap.size = X := ⟨_, rfl⟩
  have HWX := Lib.hid hX
  have HC1 := Lib.hid c1
  have HC3 := Lib.hid c3
  have HC5 := Lib.hid c5
  clear hAP hfv ua1 ua2 hsg hsn hU hU' hfl hfn hf h c1 c3 c5 us v2
  go_enter Tryz.func69, Tryz.ntmps69
  go_wp2_with fail
  generalize w.alloc (.cells #[.string G, .string N, fv] 119) = w1 at HA HX HM HG ⊢
  rw [hX] at HX
  clear hX
  refine wp_region_still_tail 16 (by kernel_rfl) (by kernel_rfl) ?_
  simp only [List.take_succ_cons, List.take_zero, List.drop_succ_cons, List.drop_zero]
  have HA2 : Hid (Half B { w1 with drawn := w1.drawn + 1 } d s g C) := HA.out.drew
  have HX2 : Hid (({ w1 with drawn := w1.drawn + 1 } : World).heap[X]? = some (.cells #[.string G, .string N, fv] 119 (0, 0))) := HX.out
  have HM2 : Hid (Moves B w { w1 with drawn := w1.drawn + 1 }) := HM.out.drew
  have HG2 : Hid (w.grownBy { w1 with drawn := w1.drawn + 1 } none) := ⟨HG.out.os, HG.out.tape, HG.out.output, HG.out.size, HG.out.block⟩
  generalize ({ w1 with drawn := w1.drawn + 1 } : World) = w2 at HA2 HX2 HM2 HG2 ⊢
  clear HA HX HM HG
  have k1 := (HA2.out.cells 1).trans HC1.out
  have k3 := (HA2.out.cells 3).trans HC3.out
  have fr1 := HA2.out.frozen 1
  have x0 : w2.cell? ⟨X, 0, none⟩ = some (.string G) := cell_of_row _ _ _ _ _ _ HX2.out
  have x1 : w2.cell? ⟨X, 1, none⟩ = some (.string N) := cell_of_row _ _ _ _ _ _ HX2.out
  have HS1 := Lib.hid (size_st k3 (OwnM.kept HO.out HG2.out (by simp)) G (by omega) sg (by rw [← HSG.out]; exact size_is (fun n hn => (HFN.out _ n hn).kept HG2.out (by simp) (by cases (g.row n).ownBlock <;> simp))))
  have HS2 := Lib.hid (size_st k3 (OwnM.kept HO.out HG2.out (by simp)) N (by omega) sn (by rw [← HSN.out]; exact size_is (fun n hn => (HFN.out _ n hn).kept HG2.out (by simp) (by cases (g.row n).ownBlock <;> simp))))
  repeat still_step
  still_call HS1.out
  repeat still_step
  still_call HS2.out
  repeat still_step
  refine wpStill_nil ?_
  go_wp2_with fail
  have HA3 := Lib.hid (HA2.out.set 1 (.int .i64 V))
  have HX3 : Hid ((w2.setCell ⟨d, 1, none⟩ (.int .i64 V)).heap[X]? = some (.cells #[.string G, .string N, fv] 119 (0, 0))) := (Below.heap_setCell _ _ _ _ (by have hw := HWX.out; show X ≠ d; omega)).trans HX2.out
  have HM3 : Hid (Moves B w (w2.setCell ⟨d, 1, none⟩ (.int .i64 V))) := HM2.out.setCell (p := ⟨d, 1, none⟩) (by have := HM2.out.size; have hw := HWX.out; omega) HA2.out.le HA2.out.kin _
  have HF3 : Hid (∀ n f, FileAt B w g n f → FileAt B (w2.setCell ⟨d, 1, none⟩ (.int .i64 V)) g n f) := fun n f hf => (hf.kept HG2.out (by simp) (by cases (g.row n).ownBlock <;> simp)).disk HA2.out.at_ (grownBy_setCell w2 ⟨d, 1, none⟩ (.int .i64 V))
  clear k1 k3 fr1 x0 x1 HS1 HS2
  generalize w2.setCell ⟨d, 1, none⟩ (.int .i64 V) = w3 at HA3 HX3 HM3 HF3 ⊢
  clear HA2 HX2 HM2 HG2
  refine wp_region_still_tail 5 (by kernel_rfl) (by kernel_rfl) ?_
  simp only [List.take_succ_cons, List.take_zero, List.drop_succ_cons, List.drop_zero]
  have HA4 : Hid (Half B { w3 with drawn := w3.drawn + 1 } d s g (C.setIfInBounds 1 (.int .i64 V))) := HA3.out.drew
  have HX4 : Hid (({ w3 with drawn := w3.drawn + 1 } : World).heap[X]? = some (.cells #[.string G, .string N, fv] 119 (0, 0))) := HX3.out
  have HM4 : Hid (Moves B w { w3 with drawn := w3.drawn + 1 }) := HM3.out.drew
  have HF4 : Hid (∀ n f, FileAt B w g n f → FileAt B { w3 with drawn := w3.drawn + 1 } g n f) := fun n f hf => ⟨(HF3.out n f hf).1, (HF3.out n f hf).2.1, (HF3.out n f hf).2.2⟩
  generalize ({ w3 with drawn := w3.drawn + 1 } : World) = w4 at HA4 HX4 HM4 HF4 ⊢
  clear HA3 HX3 HM3 HF3
  have k3 : w4.cell? ⟨d, 3, none⟩ = some (.map (some b1)) := by rw [HA4.out.cells 3, Array.getElem?_setIfInBounds_ne (by decide)]; exact HC3.out
  have x0 : w4.cell? ⟨X, 0, none⟩ = some (.string G) := cell_of_row _ _ _ _ _ _ HX4.out
  have x1 : w4.cell? ⟨X, 1, none⟩ = some (.string N) := cell_of_row _ _ _ _ _ _ HX4.out
  have x2 : w4.cell? ⟨X, 2, none⟩ = some fv := cell_of_row _ _ _ _ _ _ HX4.out
  have HO4 : Hid (OwnM w4 b1 s.names.length (D g.blk s.names)) := by
    rcases HA4.out.body.maps with ⟨e, _⟩ | ⟨b, _, e, _, _, _, _, o1, _⟩
    · rw [e1] at e; cases e
    · rw [e1] at e; cases e; exact o1
  repeat still_step
  refine wpStill_nil ?_
  go_wp2_with fail
  refine (HAP.out w4 HO4.out).mono ?_
  rintro e w5 ⟨rfl, ho5, hg5⟩
  have HA5 := Lib.hid (HA4.out.names e1 e2 ho5 hg5)
  have HX5 : Hid (w5.heap[X]? = some (.cells #[.string G, .string N, fv] 119 (0, 0))) := (hg5.block X (Array.getElem?_eq_some_iff.1 HX4.out).1 (by have hw := HWX.out; simp; omega)).trans HX4.out
  have HM5 : Hid (Moves B w w5) := HM4.out.grown hg5 (by have := HM4.out.size; have hw := HWX.out; omega) (fun k e => by cases e; exact ⟨hBb, HO4.out.kin⟩)
  have HF5 : Hid (∀ n f, FileAt B w g n f → FileAt B w5 g n f) := fun n f hf => (HF4.out n f hf).map HO4.out hg5
  have HO5 := Lib.hid ho5
  clear k3 x0 x1 x2 HA4 HX4 HM4 HF4 HO4 ho5 hg5
  go_wp2_with fail
  refine wp_region_still_tail 11 (by kernel_rfl) (by kernel_rfl) ?_
  simp only [List.take_succ_cons, List.take_zero, List.drop_succ_cons, List.drop_zero]
  have HA6 : Hid (Half B { w5 with drawn := w5.drawn + 1 } d { s with names := app s.names ⟨G.data.toList, N.data.toList, F⟩ } g (C.setIfInBounds 1 (.int .i64 V))) := HA5.out.drew
  have HX6 : Hid (({ w5 with drawn := w5.drawn + 1 } : World).heap[X]? = some (.cells #[.string G, .string N, fv] 119 (0, 0))) := HX5.out
  have HM6 : Hid (Moves B w { w5 with drawn := w5.drawn + 1 }) := HM5.out.drew
  have HF6 : Hid (∀ n f, FileAt B w g n f → FileAt B { w5 with drawn := w5.drawn + 1 } g n f) := fun n f hf => ⟨(HF5.out n f hf).1, (HF5.out n f hf).2.1, (HF5.out n f hf).2.2⟩
  have HO6 : Hid (OwnM { w5 with drawn := w5.drawn + 1 } b1 _ _) := HO5.out
  generalize ({ w5 with drawn := w5.drawn + 1 } : World) = w6 at HA6 HX6 HM6 HF6 HO6 ⊢
  clear HA5 HX5 HM5 HF5 HO5
  have k3 : w6.cell? ⟨d, 3, none⟩ = some (.map (some b1)) := by rw [HA6.out.cells 3, Array.getElem?_setIfInBounds_ne (by decide)]; exact HC3.out
  have k1 : w6.cell? ⟨d, 1, none⟩ = some (.int .i64 V) := by rw [HA6.out.cells 1, Array.getElem?_setIfInBounds_self_of_lt (Array.getElem?_eq_some_iff.1 HC1.out).1]
  have fr1 := HA6.out.frozen 1
  have x1 : w6.cell? ⟨X, 1, none⟩ = some (.string N) := cell_of_row _ _ _ _ _ _ HX6.out
  have HS1 := Lib.hid (size_st k3 HO6.out N (by omega) fl (by rw [← HUA.out]; exact size_is (fun n hn => HF6.out _ _ (HFB.out n hn))))
  repeat still_step
  still_call HS1.out
  repeat still_step
  refine wpStill_nil ?_
  go_wp2_with fail
  have HA7 := Lib.hid (HA6.out.set 1 (.int .i64 U'))
  have HX7 : Hid ((w6.setCell ⟨d, 1, none⟩ (.int .i64 U')).heap[X]? = some (.cells #[.string G, .string N, fv] 119 (0, 0))) := (Below.heap_setCell _ _ _ _ (by have hw := HWX.out; show X ≠ d; omega)).trans HX6.out
  have HM7 : Hid (Moves B w (w6.setCell ⟨d, 1, none⟩ (.int .i64 U'))) := HM6.out.setCell (p := ⟨d, 1, none⟩) (by have := HM6.out.size; have hw := HWX.out; omega) HA6.out.le HA6.out.kin _
  have HF7 : Hid (∀ n f, FileAt B w g n f → FileAt B (w6.setCell ⟨d, 1, none⟩ (.int .i64 U')) g n f) := fun n f hf => (HF6.out n f hf).disk HA6.out.at_ (grownBy_setCell w6 ⟨d, 1, none⟩ (.int .i64 U'))
  clear k1 k3 fr1 x1 HS1
  generalize w6.setCell ⟨d, 1, none⟩ (.int .i64 U') = w7 at HA7 HX7 HM7 HF7 ⊢
  clear HA6 HX6 HM6 HF6 HO6
  have k5 : w7.cell? ⟨d, 5, none⟩ = some g.q := by
    rw [HA7.out.cells 5, Array.getElem?_setIfInBounds_ne (by decide), Array.getElem?_setIfInBounds_ne (by decide)]; exact HC5.out
  have x0 : w7.cell? ⟨X, 0, none⟩ = some (.string G) := cell_of_row _ _ _ _ _ _ HX7.out
  have x1 : w7.cell? ⟨X, 1, none⟩ = some (.string N) := cell_of_row _ _ _ _ _ _ HX7.out
  have x2 : w7.cell? ⟨X, 2, none⟩ = some fv := cell_of_row _ _ _ _ _ _ HX7.out
  have HQ := Lib.hid HA7.out.body.queue
  have hd7 := HA7.out.lt
  have hX7 : X < w7.heap.size := (Array.getElem?_eq_some_iff.1 HX7.out).1
  have fr5 := HA7.out.frozen 5
  have hdq : some d ≠ g.q.ownBlock := fun he => by
    rcases own_ne HA7.out.body.queue HA7.out.at_ (by intro c e; injection e with _ e; exact absurd e (by decide)) with h1 | h1
    · rw [h1] at he; cases he
    · exact h1 he.symm
  have HDQ := Lib.hid hdq
  clear hdq
  have h1c : ∀ u ∈ [Value.string G, .string N, fv], u.oneCell' = true := by
    intro u hu
    simp only [List.mem_cons, List.not_mem_nil, or_false] at hu
    rcases hu with rfl | rfl | rfl
    · rfl
    · rfl
    · exact hfo
  have hB7 : B ≤ w7.heap.size := by have := HM7.out.size; have hw := HWX.out; omega
  have HFR : Hid (∀ o, (w7.alloc o).frozen? ⟨d, 5, none⟩ = false ∧ (w7.alloc o).cell? ⟨d, 5, none⟩ = some g.q) := fun o =>
    ⟨(World.frozen?_of_block (w := w7) (Below.heap_alloc w7 o d hd7)).trans fr5, (World.cell?_of_block (w := w7) (Below.heap_alloc w7 o d hd7)).trans k5⟩
  go_region_law (
    refine step_append_lies _ (by rfl) _ _ 48 (by rfl) B 119 i0 _ 3 40 Tryz.underlying48 hi hz0 hz1 hz2 rfl (by omega) g.q s.queue.length (qC g.blk s.queue) (by rfl) ?_ _ 1 1 [.string G, .string N, fv] (by rfl) (by rfl) ?_ h1c (by omega) hm1 hm2 ?_ _ (by rfl) ?_
    · first | exact own_drew (World.ownsRow.alloc HQ.out _) | exact World.ownsRow.alloc (own_drew HQ.out) _ | fail
    · refine World.news_of_block (cs := #[.string G, .string N, fv]) (t := 119) (fr := (0, 0)) ?_
      first | exact drew_at _ _ _ (alloc_at _ _ _ (by simp)) | exact alloc_at _ _ _ (by simp) | fail
    · simp; omega
    intro g1 c1 w8 hown8 hgrow8 hat8 hlt8
    have fr8 : w8.frozen? ⟨d, 5, none⟩ = false := by rw [hgrow8.frozen_far _ (by simp; omega) HDQ.out]; exact (HFR.out _).1
    have k8 : w8.cell? ⟨d, 5, none⟩ = some g.q := by rw [hgrow8.cell_far _ (by simp; omega) HDQ.out]; exact (HFR.out _).2
    have HG8 : Hid (w7.grownBy w8 g.q.ownBlock) := alloc_grown ⟨hgrow8.os, hgrow8.tape, hgrow8.output, hgrow8.size, hgrow8.block⟩
    have HOWN8 := Lib.hid hown8
    clear hgrow8 hown8 hat8)
  all_goals
    go_end0
    have hent : entC g.blk ⟨G.data.toList, N.data.toList, F⟩ = [.string G, .string N, fv] := by
      unfold entC encS
      rw [str_mk, str_mk, ← HFV.out]
    have HQ8 := HA7.out.queued (w' := w8) e1 (q := .slice (some ⟨g1, 0, none⟩) (s.queue.length + 1) c1) (e := ⟨G.data.toList, N.data.toList, F⟩) (by rw [hent]; exact HOWN8.out) HG8.out (fun hn => ⟨HF7.out _ _ (HF.out hn).1, (HF.out hn).2⟩)
    have HA8 := HQ8.set 5 (.slice (some ⟨g1, 0, none⟩) (s.queue.length + 1) c1)
    refine ⟨rfl, (HM7.out.grown HG8.out hB7 (fun k e => ⟨(HQ.out.lt k e).1, own_kin HQ.out (by decide) k e⟩)).setCell (p := ⟨d, 5, none⟩) (by have := HG8.out.size; omega) HA7.out.le HQ8.kin (.slice (some ⟨g1, 0, none⟩) (s.queue.length + 1) c1), .slice (some ⟨g1, 0, none⟩) (s.queue.length + 1) c1, ?_⟩
    rw [HU'.out]
    have hcc : (C.setIfInBounds 1 (.int .i64 V)).setIfInBounds 1 (.int .i64 U') = C.setIfInBounds 1 (.int .i64 U') := by simp
    rw [← hcc]
    exact HA8

end Go.Proofs.YtjkofciohehgfaaGreatDoor.L8


