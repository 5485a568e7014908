/- Texts joined by bundle.py: RfI, RfJ, RfK, RfL, RfM, RfN. -/
import Derived.Test.YtgknkldhjejjmaaGreatDoorZbf

/- The reference: finish, names. -/
namespace Go.Proofs.YtgknkldhjejjmaaGreatDoor
open Go.RowKit Go.Maps
open DM

/-- what is asked of a cut that is to come -/
structure RCut (t : RS) : Prop where
  names : fits t.cutNames
  bytes : ∀ x ∈ t.cutBytes, fits x
  len : t.cutBytes.length ≤ 140737488355328

set_option maxHeartbeats 1000000 in
theorem finish_cut {B : Nat} {w : World} {r : Nat} {t : RS} {g : RV} (h : RRep B w r t g) (hB : B ≤ w.heap.size) (few : RFew t) (cut : RCut t) :
    Calls Tryz.prog 69 #[.pointer (some ⟨r, 0, none⟩), .int .i64 1] w (ROut B w r (t.finish 1)) := by
  have c7 : w.cell? ⟨r, 7, none⟩ = some (.int .i64 t.cutNames) := RHalf.cells h 7
  have c8 : w.cell? ⟨r, 8, none⟩ = some g.cv := RHalf.cells h 8
  have HF := Lib.hid (rfail_any (RRep.drew h) hB few t.cutNames cut.names g.cv t.cutBytes (RRep.drew h).body.crow cut.len cut.bytes)
  have HM := Lib.hid ((MovesR.refl B w).drew)
  have hf : t.finish 1 = (13, { t.fail t.cutNames t.cutBytes with off := true }) := by unfold RS.finish; rw [if_pos rfl]
  rw [hf]
  obtain ⟨tf, htf⟩ : ∃ tf, t.fail t.cutNames t.cutBytes = tf := ⟨_, rfl⟩
  rw [htf] at HF ⊢
  clear h few cut hf htf
  go_enter Tryz.func69, Tryz.ntmps69
  go_wp2_with fail
  go_region_with (
    go_at_call 45
    refine HF.out.mono ?_
    rintro e w2 ⟨rfl, ⟨g2, hr2⟩, hm2⟩
    have HR2 := Lib.hid hr2
    have HM2 := Lib.hid (HM.out.trans hm2)
    clear hr2 hm2)
  all_goals
    have c5 : w2.cell? ⟨r, 5, none⟩ = some (.bool tf.off) := RHalf.cells HR2.out 5
    have f5 := RHalf.frozen HR2.out 5
    have HR3 := Lib.hid (RRep.setOff HR2.out true)
    have HM3 := Lib.hid (HM2.out.set (Nat.le_trans hB HM2.out.size) HR2.out 5 (.bool true))
    clear HR2 HM2
    go_wp2
    go_ret
    exact ⟨rfl, ⟨_, HR3.out⟩, HM3.out⟩

theorem finish_full {B : Nat} {w : World} {r : Nat} {t : RS} {g : RV} (h : RRep B w r t g) :
    Calls Tryz.prog 69 #[.pointer (some ⟨r, 0, none⟩), .int .i64 2] w (ROut B w r (t.finish 2)) := by
  have hf : t.finish 2 = (12, t) := by unfold RS.finish; rw [if_neg (by decide), if_pos rfl]
  rw [hf]
  clear hf
  go_enter Tryz.func69, Tryz.ntmps69
  go_wp2
  go_ret
  exact ⟨rfl, ⟨_, h⟩, MovesR.refl _ _⟩
theorem finish_none {B : Nat} {w : World} {r : Nat} {t : RS} {g : RV} (h : RRep B w r t g) :
    Calls Tryz.prog 69 #[.pointer (some ⟨r, 0, none⟩), .int .i64 0] w (ROut B w r (t.finish 0)) := by
  have hf : t.finish 0 = (0, t) := by unfold RS.finish; rw [if_neg (by decide), if_neg (by decide)]
  rw [hf]
  clear hf
  go_enter Tryz.func69, Tryz.ntmps69
  go_wp2
  go_ret
  exact ⟨rfl, ⟨_, h⟩, MovesR.refl _ _⟩

theorem trap_cases (t : RS) : t.trap.1 = 0 ∨ t.trap.1 = 1 ∨ t.trap.1 = 2 := by
  show (if t.cutLeft = 1 then (1 : Int) else if t.brk = 1 then 2 else 0) = 0 ∨ (if t.cutLeft = 1 then (1 : Int) else if t.brk = 1 then 2 else 0) = 1 ∨ (if t.cutLeft = 1 then (1 : Int) else if t.brk = 1 then 2 else 0) = 2
  split
  · exact .inr (.inl rfl)
  · split
    · exact .inr (.inr rfl)
    · exact .inl rfl

theorem finish_any {B : Nat} {w : World} {r : Nat} {t : RS} {g : RV} (h : RRep B w r t g) (hB : B ≤ w.heap.size) (c : Int) (hc : c = 0 ∨ c = 1 ∨ c = 2) (few : c = 1 → RFew t ∧ RCut t) :
    Calls Tryz.prog 69 #[.pointer (some ⟨r, 0, none⟩), .int .i64 c] w (ROut B w r (t.finish c)) := by
  rcases hc with rfl | rfl | rfl
  · exact finish_none h
  · exact finish_cut h hB (few rfl).1 (few rfl).2
  · exact finish_full h

section
variable {B : Nat} {w w' : World} {r : Nat} {t : RS} {g : RV}
/-- what a call did to names is queued -/
theorem RRep.addQueue (h : RRep B w r t g) (hg : w.grownBy w' g.qv.ownBlock) {v xv : Value} {x : RN} (hq : w'.ownsRow B 105 1 v (t.queue.length + 1) (g.qs ++ [xv])) (hx : Prs B w xv x) : RRep B (w'.setCell ⟨r, 4, none⟩ v) r { t with queue := t.queue ++ [x] } { g with qv := v, qs := g.qs ++ [xv] } := by
  have hk : ∀ (y : Nat) (cs : Array Value) (ty : TypeId) (fr : Nat × Nat), w.heap[y]? = some (.cells cs ty fr) → ty ≠ 105 → w'.heap[y]? = some (.cells cs ty fr) := fun y cs ty fr hy hne =>
    (hg.block y (Array.getElem?_eq_some_iff.1 hy).1 (fun e => by
      rcases h.body.qrow.2 with ⟨h1, _⟩ | ⟨_, _, cur, h1, _, h3, _⟩
      · rw [h1] at e; cases e
      · rw [h1] at e
        have e' : y = _ := Option.some.inj e
        subst e'
        rw [h3] at hy
        injection hy with hy
        injection hy with _ hy
        exact hne hy.symm)).trans hy
  have hqs : g.qs.length = t.queue.length := by have := h.body.qrow.1; omega
  have hbody : RBody B w' t.files t.names t.lasts (t.queue ++ [x]) t.cutBytes { g with qv := v, qs := g.qs ++ [xv] } :=
    ⟨own_keep h.body.frow (fun y cs fr hy => hk y cs _ fr hy (by decide)), own_keep h.body.nrow (fun y cs fr hy => hk y cs _ fr hy (by decide)), own_keep h.body.lrow (fun y cs fr hy => hk y cs _ fr hy (by decide)), by rw [List.length_append]; exact hq, fun i hi => by
      rw [List.length_append] at hi
      by_cases hlt : i < t.queue.length
      · obtain ⟨u, h1, h2⟩ := h.body.ents i hlt
        refine ⟨u, ?_, ?_⟩
        · show (g.qs ++ [xv])[i]? = some u
          rw [List.getElem?_append_left (by omega)]; exact h1
        · rw [List.getElem_append_left hlt]
          exact own_keep h2 (fun y cs fr hy => hk y cs _ fr hy (by decide))
      · have hi' : i = t.queue.length := by simp at hi; omega
        subst hi'
        refine ⟨xv, ?_, ?_⟩
        · show (g.qs ++ [xv])[t.queue.length]? = some xv
          rw [List.getElem?_append_right (by omega), hqs, Nat.sub_self]; rfl
        · rw [List.getElem_append_right (Nat.le_refl _)]
          simp only [Nat.sub_self, List.getElem_cons_zero]
          exact own_keep hx (fun y cs fr hy => hk y cs _ fr hy (by decide)), own_keep h.body.crow (fun y cs fr hy => hk y cs _ fr hy (by decide))⟩
  have hh : RHalf B w' r t.files t.names t.lasts (t.queue ++ [x]) t.cutBytes { g with qv := v, qs := g.qs ++ [xv] } (rC t g) := ⟨hbody, hk _ _ _ _ h.at_ (by decide), h.le⟩
  have hs := hh.set 4 v
  exact ⟨hs.body, hs.at_, hs.le⟩
end

theorem info_done : (Tryz.prog.info? 105).map (fun i => (i.zero, i.size, i.bytes)) = some (some (.agg #[.slice none 0 0]), 1, 24) := by kernel_rfl
end Go.Proofs.YtgknkldhjejjmaaGreatDoor

/- The reference: names. -/
namespace Go.Proofs.YtgknkldhjejjmaaGreatDoor
open Go.RowKit Go.Maps
open DM

theorem info_parts1 {P : Program} {t : TypeId} {z : Value} {s b : Nat} (h : (P.info? t).map (fun i => (i.zero, i.size, i.bytes)) = some (some z, s, b)) : ∃ i, P.info? t = some i ∧ i.zero = some z ∧ i.size = s ∧ i.bytes = b := by
  obtain ⟨i, hi, he⟩ := Option.map_eq_some_iff.1 h
  simp only [Prod.mk.injEq] at he
  exact ⟨i, hi, he.1, he.2.1, he.2.2⟩

set_option maxRecDepth 100000 in
set_option maxHeartbeats 4000000 in
theorem names_full {B : Nat} {w : World} {r : Nat} {t : RS} {g : RV} (h : RRep B w r t g) (hB : B ≤ w.heap.size) (xv : Value) (x : RN) (bc : t.cutLeft ≤ 9223372036854775807) (bb : t.brk ≤ 9223372036854775807) (h2 : t.trap.1 = 2) :
    Calls Tryz.prog 67 #[.pointer (some ⟨r, 0, none⟩), .agg #[xv]] w (ROut B w r (t.names' x)) := by
  have hn : t.names' x = t.trap.2.finish 2 := by unfold RS.names'; rw [h2, if_pos rfl]
  rw [hn]
  have HT := Lib.hid (trap_any (RHalf.alloc h (.cells #[xv] 105)) (by simp; omega) bc bb)
  have HM := Lib.hid ((MovesR.refl B w).alloc hB (.cells #[xv] 105))
  rw [h2] at HT
  obtain ⟨t2, ht2⟩ : ∃ t2, t.trap.2 = t2 := ⟨_, rfl⟩
  rw [ht2] at HT ⊢
  clear h hn ht2 h2
  go_enter Tryz.func67, Tryz.ntmps67
  go_wp2_with fail
  refine HT.out.mono ?_
  rintro e w2 ⟨rfl, hr2, hm2, -⟩
  have HR2 := Lib.hid (finish_full hr2)
  have HM2 := Lib.hid (HM.out.trans hm2)
  clear hr2 hm2 HT HM
  go_wp2_with fail
  refine HR2.out.mono ?_
  rintro e w3 ⟨rfl, hr3, hm3⟩
  have HR3 := Lib.hid hr3
  have HM3 := Lib.hid (HM2.out.trans hm3)
  clear hr3 hm3 HR2 HM2
  go_wp2
  go_ret
  exact ⟨rfl, HR3.out, HM3.out⟩

set_option maxRecDepth 100000 in
set_option maxHeartbeats 4000000 in
theorem names_done {B : Nat} {w : World} {r : Nat} {t : RS} {g : RV} (h : RRep B w r t g) (hB : B ≤ w.heap.size) (few : RFew t) (xv : Value) (x : RN) (hx : Prs B w xv x) (hxl : x.length ≤ 2) (bc : t.cutLeft ≤ 9223372036854775807) (bb : t.brk ≤ 9223372036854775807) (c : Int) (hc : t.trap.1 = c) (h2 : c = 0 ∨ c = 1) (fewD : c = 1 → RFew (t.trap.2.did x) ∧ RCut (t.trap.2.did x)) :
    Calls Tryz.prog 67 #[.pointer (some ⟨r, 0, none⟩), .agg #[xv]] w (ROut B w r (t.names' x)) := by
  have hn : t.names' x = (t.trap.2.did x).finish c := by unfold RS.names'; rw [hc, if_neg (by rcases h2 with rfl | rfl <;> decide)]
  rw [hn]
  obtain ⟨XA, xc, hxv, -⟩ := own_at hx
  have HT := Lib.hid (trap_any (RHalf.alloc h (.cells #[xv] 105)) (by simp; omega) bc bb)
  have HM := Lib.hid ((MovesR.refl B w).alloc hB (.cells #[xv] 105))
  have HX := Lib.hid (World.ownsRow.alloc hx (.cells #[xv] 105))
  have hbx := heap_alloc_new w (.cells #[xv] 105)
  have hrw := RHalf.lt h
  have hlen := few.names
  have hqf := few.queue
  have hn4 : t.trap.2.names = t.names := rfl
  have hq4 : t.trap.2.queue = t.queue := rfl
  rw [hc] at HT
  rw [← hn4] at hlen
  rw [← hq4] at hqf
  obtain ⟨t2, ht2⟩ : ∃ t2, t.trap.2 = t2 := ⟨_, rfl⟩
  rw [ht2] at HT fewD hlen hqf ⊢
  obtain ⟨Y, hY⟩ : ∃ Y, w.heap.size = Y := ⟨_, rfl⟩
  have HY : Hid ((w.alloc (.cells #[xv] 105)).heap[Y]? = some (.cells #[xv] 105 (0, 0)) ∧ r < Y ∧ (w.alloc (.cells #[xv] 105)).heap.size = Y + 1) := Lib.hid ⟨by rw [← hY]; exact hbx, by rw [← hY]; exact hrw, by simp [hY]⟩
  have HYW := Lib.hid hY
  have FEWD := Lib.hid fewD
  have h2n : (c != 2) = true := by rcases h2 with rfl | rfl <;> rfl
  have HC2 : Hid (c = 0 ∨ c = 1 ∨ c = 2) := Lib.hid (by rcases h2 with h2 | h2 <;> simp [h2])
  subst hxv
  clear h few hx hn ht2 hc h2 fewD hbx hrw hn4 hq4
  go_enter Tryz.func67, Tryz.ntmps67
  go_wp2_with fail
  generalize w.alloc (.cells #[.slice XA x.length xc] 105) = wb at HT HM HX HY ⊢
  refine HT.out.mono ?_
  rintro e w2 ⟨rfl, hr2, hm2, hg2⟩
  have HR2 := Lib.hid hr2
  have HM2 := Lib.hid (HM.out.trans hm2)
  have hB2 : B ≤ w2.heap.size := Nat.le_trans hB HM2.out.size
  have HX2 : Hid (Prs B w2 (.slice XA x.length xc) x) := Lib.hid (own_keep HX.out (fun b c fr hb => hm2.kept b _ hb (fun c' t' fr' e => by injection e with _ e; rw [← e]; decide)))
  have HY2 : Hid (w2.heap[Y]? = some (.cells #[.slice XA x.length xc] 105 (0, 0))) := Lib.hid ((hg2.block Y (by rw [HY.out.2.2]; omega) (by have := HY.out.2.1; simp; omega)).trans HY.out.1)
  have c2 : w2.cell? ⟨r, 2, none⟩ = some g.nv := RHalf.cells hr2 2
  have f2 := RHalf.frozen hr2 2
  have y0 : w2.cell? ⟨Y, 0, none⟩ = some (.slice XA x.length xc) := cell_of_row _ _ _ _ _ _ HY2.out
  have hr2l := RHalf.lt hr2
  have HRL := Lib.hid hr2l
  have HYL : Hid (Y < w2.heap.size) := Lib.hid (Array.getElem?_eq_some_iff.1 HY2.out).1
  have HAL : Hid (Calls Tryz.prog 81 #[g.nv, .agg #[.slice XA x.length xc]] w2.drew fun e w' => ∃ A' n' c', e = .returned (.slice A' n' c') ∧ Prs B w' (.slice A' n' c') (rall t2.names x) ∧ Below w2.drew.heap.size w2.drew w') := Lib.hid (by
    refine (rall_any g.nv (.slice XA x.length xc) t2.names x w2.drew hr2.body.nrow HX2.out hB2 (by omega)).mono ?_
    rintro e w' ⟨v', rfl, h4, h5⟩
    obtain ⟨A', c', rfl, -⟩ := own_at h4
    exact ⟨_, _, _, rfl, h4, h5⟩)
  clear hr2 hm2 hg2 HT HM HX HY hr2l
  go_wp2_with fail
  go_region_with (
    go_at_call 81
    refine HAL.out.mono ?_
    rintro e w3 ⟨A', n', c', rfl, hrow, hB3⟩
    have z2 : w3.cell? ⟨r, 2, none⟩ = some g.nv := (hB3.cell (p := ⟨r, 2, none⟩) HRL.out).trans c2
    have zf : w3.frozen? ⟨r, 2, none⟩ = false := (hB3.frozen (p := ⟨r, 2, none⟩) HRL.out).trans f2
    have zy : Hid (w3.heap[Y]? = some (.cells #[.slice XA x.length xc] 105 (0, 0))) := (hB3.block Y HYL.out).trans HY2.out
    have HROW := Lib.hid hrow
    have HB3 := Lib.hid hB3
    clear hrow hB3)
  all_goals
    have HR3 : Hid (RRep B (w3.setCell ⟨r, 2, none⟩ (.slice A' n' c')) r { t2 with names := rall t2.names x } { g with nv := .slice A' n' c' }) := Lib.hid (RRep.setNames (RRep.below (RRep.drew HR2.out) HB3.out) HROW.out)
    have HM3 : Hid (MovesR B w (w3.setCell ⟨r, 2, none⟩ (.slice A' n' c'))) := Lib.hid ((HM2.out.drew.of_below HB3.out hB2).set (Nat.le_trans hB2 HB3.out.size) (RRep.below (RRep.drew HR2.out) HB3.out) 2 _)
    have hYr : Y ≠ r := by
      intro e
      have h1 := HR2.out.at_
      rw [← e, HY2.out] at h1
      injection h1 with h1
      injection h1 with _ h1
      exact absurd h1 (by decide)
    have HY3 : Hid ((w3.setCell ⟨r, 2, none⟩ (.slice A' n' c')).heap[Y]? = some (.cells #[.slice XA x.length xc] 105 (0, 0))) := Lib.hid ((Below.heap_setCell _ _ _ _ hYr).trans zy.out)
    have HX3 : Hid (Prs B (w3.setCell ⟨r, 2, none⟩ (.slice A' n' c')) (.slice XA x.length xc) x) := Lib.hid (RHalf.own_set (RRep.below (RRep.drew HR2.out) HB3.out) 2 _ (own_below (own_drew HX2.out) HB3.out) (by decide))
    have HYR := Lib.hid hYr
    have hB3 : B ≤ (w3.setCell ⟨r, 2, none⟩ (.slice A' n' c')).heap.size := by rw [setCell_size]; exact Nat.le_trans hB2 HB3.out.size
    clear HR2 HM2 HX2 HY2 HROW HB3 c2 f2 y0 HAL z2 zf zy hYr hB2
    generalize w3.setCell ⟨r, 2, none⟩ (.slice A' n' c') = w4 at HR3 HM3 HY3 HX3 hB3 ⊢
    have y0 : w4.cell? ⟨Y, 0, none⟩ = some (.slice XA x.length xc) := cell_of_row _ _ _ _ _ _ HY3.out
    by_cases hx0 : x = []
    · have hd : t2.did x = { t2 with names := rall t2.names x } := by unfold RS.did; rw [if_pos hx0]
      have HF := Lib.hid (finish_any (t := t2.did x) (by rw [hd]; exact HR3.out) hB3 c HC2.out FEWD.out)
      have hl0 : ¬ (0 : Int) < (x.length : Int) := by rw [hx0]; simp
      clear hx0 hd
      go_wp2_with fail
      refine HF.out.mono ?_
      rintro e w5 ⟨rfl, hr5, hm5⟩
      have HR5 := Lib.hid hr5
      have HM5 := Lib.hid (HM3.out.trans hm5)
      clear hr5 hm5 HF HR3 HM3
      go_wp2
      go_ret
      exact ⟨rfl, HR5.out, HM5.out⟩
    · have hxp : 0 < x.length := List.length_pos_iff.2 hx0
      have hl0 : (0 : Int) < (x.length : Int) := by omega
      have hd : t2.did x = { t2 with names := rall t2.names x, queue := t2.queue ++ [x] } := by unfold RS.did; rw [if_neg hx0]
      have HD := Lib.hid hd
      obtain ⟨i0, hi, hz0, hz1, hz2⟩ := info_parts1 info_done
      have c4 : w4.cell? ⟨r, 4, none⟩ = some g.qv := RHalf.cells HR3.out 4
      have f4 := RHalf.frozen HR3.out 4
      have hrl4 := RHalf.lt HR3.out
      have HRL4 := Lib.hid hrl4
      have HQ : Hid (w4.ownsRow B 105 1 g.qv t2.queue.length g.qs) := Lib.hid HR3.out.body.qrow
      have hdq : some r ≠ g.qv.ownBlock := fun he => by
        rcases own_ne HQ.out HR3.out.at_ (by intro c e; injection e with _ e; exact absurd e (by decide)) with h1 | h1
        · rw [h1] at he; cases he
        · exact h1 he.symm
      have HDQ := Lib.hid hdq
      have h1c : ∀ u ∈ [Value.slice XA x.length xc], u.oneCell' = true := by
        intro u hu
        simp only [List.mem_cons, List.not_mem_nil, or_false] at hu
        rw [hu]; rfl
      have hm1 : t2.queue.length + 1 ≤ maxLen := by unfold maxLen; omega
      have hm2 : (t2.queue.length + 1) * 24 ≤ 140737488355328 := by omega
      have HFR : Hid (∀ o, (w4.alloc o).frozen? ⟨r, 4, none⟩ = false ∧ (w4.alloc o).cell? ⟨r, 4, none⟩ = some g.qv) := Lib.hid fun o =>
        ⟨(World.frozen?_of_block (w := w4) (Below.heap_alloc w4 o r hrl4)).trans f4, (World.cell?_of_block (w := w4) (Below.heap_alloc w4 o r hrl4)).trans c4⟩
      have k2a := (HFR.out (.cells #[.slice XA x.length xc] 105)).2
      obtain ⟨QN, hQN⟩ : ∃ n, t2.queue.length = n := ⟨_, rfl⟩
      rw [hQN] at HQ hm1 hm2
      have HQN := Lib.hid hQN
      clear hx0 hd hrl4 hdq hQN
      go_wp2_with fail
      go_region_law (
        refine step_append_lies _ (by rfl) _ _ 54 (by rfl) B 105 i0 _ 1 24 Tryz.underlying54 hi hz0 hz1 hz2 rfl (by omega) g.qv QN g.qs (by rfl) ?_ _ 1 1 [.slice XA x.length xc] (by rfl) (by rfl) ?_ h1c (by omega) hm1 hm2 ?_ _ (by rfl) ?_
        · first | exact own_drew (World.ownsRow.alloc HQ.out _) | exact World.ownsRow.alloc (own_drew HQ.out) _ | fail
        · refine World.news_of_block (cs := #[.slice XA x.length xc]) (t := 105) (fr := (0, 0)) ?_
          first | exact drew_at _ _ _ (alloc_at _ _ _ (by simp)) | exact alloc_at _ _ _ (by simp) | fail
        · simp; omega
        intro g1 c1 w8 hown8 hgrow8 hat8 hlt8
        have fr8 : w8.frozen? ⟨r, 4, none⟩ = false := by rw [hgrow8.frozen_far _ (by simp; exact Nat.lt_succ_of_lt HRL4.out) HDQ.out]; exact (HFR.out _).1
        have k8 : w8.cell? ⟨r, 4, none⟩ = some g.qv := by rw [hgrow8.cell_far _ (by simp; exact Nat.lt_succ_of_lt HRL4.out) HDQ.out]; exact (HFR.out _).2
        have HG8 : Hid (w4.grownBy w8 g.qv.ownBlock) := alloc_grown ⟨hgrow8.os, hgrow8.tape, hgrow8.output, hgrow8.size, hgrow8.block⟩
        have HOWN8 := Lib.hid hown8
        clear hgrow8 hown8 hat8)
      all_goals
        have HR9 : Hid (RRep B (w8.setCell ⟨r, 4, none⟩ (.slice (some ⟨g1, 0, none⟩) (QN + 1) c1)) r { t2 with names := rall t2.names x, queue := t2.queue ++ [x] } { g with nv := .slice A' n' c', qv := .slice (some ⟨g1, 0, none⟩) (QN + 1) c1, qs := g.qs ++ [.slice XA x.length xc] }) :=
          Lib.hid (RRep.addQueue HR3.out HG8.out (by rw [HQN.out]; exact HOWN8.out) HX3.out)
        have hB9 : B ≤ (w8.setCell ⟨r, 4, none⟩ (.slice (some ⟨g1, 0, none⟩) (QN + 1) c1)).heap.size := by rw [setCell_size]; exact Nat.le_trans hB3 HG8.out.size
        have HM9 : Hid (MovesR B w (w8.setCell ⟨r, 4, none⟩ (.slice (some ⟨g1, 0, none⟩) (QN + 1) c1))) :=
          Lib.hid ((HM3.out.grown HG8.out hB3 (fun k e => ⟨(World.ownsRow.lt HQ.out k e).1, Or.inl (own_kinR HQ.out (by decide) k e)⟩)).grown (grownBy_setCell w8 ⟨r, 4, none⟩ _) (Nat.le_trans hB3 HG8.out.size) (fun k e => by cases e; exact ⟨HR3.out.le, Or.inl (RRep.kinGrown HR3.out HG8.out HDQ.out)⟩))
        have HF := Lib.hid (finish_any (t := t2.did x) (by rw [HD.out]; exact HR9.out) hB9 c HC2.out FEWD.out)
        clear HR9 HG8 HOWN8 fr8 k8 c4 f4 k2a y0 hB9
        go_wp2_with fail
        refine HF.out.mono ?_
        rintro e w5 ⟨rfl, hr5, hm5⟩
        have HR5 := Lib.hid hr5
        have HM5 := Lib.hid (HM9.out.trans hm5)
        clear hr5 hm5 HF HR3 HM3
        go_wp2
        go_ret
        exact ⟨rfl, HR5.out, HM5.out⟩

theorem names_any {B : Nat} {w : World} {r : Nat} {t : RS} {g : RV} (h : RRep B w r t g) (hB : B ≤ w.heap.size) (few : RFew t) (xv : Value) (x : RN) (hx : Prs B w xv x) (hxl : x.length ≤ 2) (bc : t.cutLeft ≤ 9223372036854775807) (bb : t.brk ≤ 9223372036854775807) (fewD : t.trap.1 = 1 → RFew (t.trap.2.did x) ∧ RCut (t.trap.2.did x)) :
    Calls Tryz.prog 67 #[.pointer (some ⟨r, 0, none⟩), .agg #[xv]] w (ROut B w r (t.names' x)) := by
  rcases trap_cases t with hc | hc | hc
  · exact names_done h hB few xv x hx hxl bc bb 0 hc (.inl rfl) (fun e => by cases e)
  · exact names_done h hB few xv x hx hxl bc bb 1 hc (.inr rfl) (fun _ => fewD hc)
  · exact names_full h hB xv x bc bb hc
end Go.Proofs.YtgknkldhjejjmaaGreatDoor

/- The reference: Used, Break, Cut; a name's file. -/
namespace Go.Proofs.YtgknkldhjejjmaaGreatDoor
open Go.RowKit Go.Maps
open DM

theorem rfind_eq (l : RN) (k : Bs) : rfind l k = rfind' l k := rfl

section
variable {B : Nat} {w : World} {r : Nat} {t : RS} {g : RV}
/-- a file, as it lies -/
theorem RRep.fileIn (h : RRep B w r t g) (i : Nat) (hi : i < t.files.length) : ∃ b c, g.fv = .slice (some ⟨b, 0, none⟩) t.files.length c ∧ b < w.heap.size ∧ w.cell? ⟨b, i * 2, none⟩ = some (encS t.files[i].data) ∧ w.cell? ⟨b, i * 2 + 1, none⟩ = some (.int .i64 t.files[i].sync) ∧ (∀ j, w.frozen? ⟨b, j, none⟩ = false) := by
  obtain ⟨A, c, hv, hz⟩ := own_at h.body.frow
  obtain ⟨b, rfl, _, hb, hc, hf, _⟩ := hz (by omega)
  obtain ⟨z1, z2⟩ := fC_at t.files i hi
  exact ⟨b, c, hv, hb, (hc (i * 2) (by omega)).trans z1, (hc (i * 2 + 1) (by omega)).trans z2, hf⟩
end

theorem RFew.lens {t : RS} (few : RFew t) (n : Nat) : lens t.files n ≤ 1048576 := by
  unfold DM.lens
  by_cases hn : n < t.files.length
  · rw [List.getD_eq_getElem?_getD, List.getElem?_eq_getElem hn]
    exact (few.file _ (List.getElem_mem hn)).2
  · rw [List.getD_eq_getElem?_getD, List.getElem?_eq_none (by omega)]
    simp

theorem lens_at (fs : List F) (n : Nat) (h : n < fs.length) : lens fs n = fs[n].data.length := by
  unfold DM.lens
  rw [List.getD_eq_getElem?_getD, List.getElem?_eq_getElem h]
  rfl

theorem enc_size (d : Bs) : ∃ s : ByteArray, encS d = .string s ∧ s.data.toList = d ∧ s.size = d.length := ⟨⟨d.toArray⟩, rfl, by simp, by simp [ByteArray.size]⟩

set_option maxRecDepth 100000 in
set_option maxHeartbeats 2000000 in
theorem rused_any {B : Nat} {w : World} {r : Nat} {t : RS} {g : RV} (h : RRep B w r t g) (few : RFew t) :
    Calls Tryz.prog 55 #[.pointer (some ⟨r, 0, none⟩)] w fun e w' => e = .returned (.int .i64 t.used) ∧ Below w.heap.size w w' := by
  have H := Lib.hid h
  have FEW := Lib.hid few
  obtain ⟨NA, nc, hnv, hnz⟩ := Prs.slice h.body.nrow
  have c2 : w.cell? ⟨r, 2, none⟩ = some g.nv := RHalf.cells h 2
  rw [hnv] at c2
  obtain ⟨n, hn⟩ : ∃ n, t.names.length = n := ⟨_, rfl⟩
  rw [hn] at c2
  have hn4 := few.names
  rw [hn] at hn4
  have HN := Lib.hid hn
  have HNZ := Lib.hid hnz
  have hrl := RHalf.lt h
  have HC2 : Hid (∀ W, Below w.heap.size w W → W.cell? ⟨r, 2, none⟩ = some (.slice NA n nc)) := Lib.hid fun W hW => (hW.cell (p := ⟨r, 2, none⟩) hrl).trans c2
  clear h few hnv hnz hn c2 hrl
  go_enter Tryz.func55, Tryz.ntmps55
  go_wp2_with fail
  go_loopw [3, 4] (fun s i wr => ∃ j : Nat, j ≤ n ∧ i = .int .i64 j ∧ s = .int .i64 (t.usedTo j) ∧ Below w.heap.size w wr) (fun _ i _ => n - (intOf i).toNat)
  case atStart => exact ⟨0, by omega, rfl, by simp [RS.usedTo], Below.refl _ _⟩
  case round =>
    obtain ⟨j, hj, rfl, rfl, hB⟩ := hrel
    have HB := Lib.hid hB
    have c2 := HC2.out wr hB
    clear hB
    have hub := t.usedTo_le 1048576 (fun n => FEW.out.lens n) j
    by_cases hlt : j < n
    · have hjl : j < t.names.length := by rw [HN.out]; exact hlt
      obtain ⟨nb, rfl, -, hnbw, hc⟩ := HNZ.out (by omega)
      obtain ⟨-, z2⟩ := hc wr (HB.out.block nb hnbw) j hjl
      have hst := t.usedTo_step j hjl
      obtain ⟨p0, p1⟩ := FEW.out.nfile _ (List.getElem_mem hjl)
      obtain ⟨p, hp⟩ : ∃ p, t.names[j] = p := ⟨_, rfl⟩
      rw [hp] at z2 hst p0 p1
      obtain ⟨m, hm⟩ : ∃ m : Nat, p.2 = (m : Int) := ⟨p.2.toNat, by omega⟩
      rw [hm] at z2 hst p1
      have hmf : m < t.files.length := by omega
      obtain ⟨fb, fc, hfv, hfbw, y1, -, -⟩ := RRep.fileIn H.out m hmf
      have c1 : wr.cell? ⟨r, 1, none⟩ = some (.slice (some ⟨fb, 0, none⟩) t.files.length fc) := by rw [← hfv]; exact (HB.out.cell (p := ⟨r, 1, none⟩) (RHalf.lt H.out)).trans (RHalf.cells H.out 1)
      have y1 := (HB.out.cell (p := ⟨fb, m * 2, none⟩) hfbw).trans y1
      obtain ⟨s, hs, -, hsz⟩ := enc_size t.files[m].data
      rw [hs] at y1
      rw [show (m : Int).toNat = m by omega, lens_at _ _ hmf, ← hsz] at hst
      have hsb := FEW.out.lens m
      rw [lens_at _ _ hmf, ← hsz] at hsb
      have hff := FEW.out.files
      obtain ⟨fl, hfl⟩ : ∃ fl, t.files.length = fl := ⟨_, rfl⟩
      rw [hfl] at c1 hmf hff
      obtain ⟨U, hU⟩ : ∃ U, t.usedTo j = U := ⟨_, rfl⟩
      rw [hU] at hst hub
      have HST := Lib.hid hst
      have v0 : IntKind.i64.wrap ((U : Int) + (s.size : Int)) = (U : Int) + (s.size : Int) := wrapN _ (by omega) (by omega)
      have g0 : (0 : Int) ≤ (j : Int) := by omega
      have g1 : (j : Int) < (n : Int) := by omega
      have g2 : (0 : Int) ≤ (m : Int) := by omega
      have g3 : (m : Int) < (fl : Int) := by omega
      clear hc hp hm hfv hs hsz hst hfl p0 p1 hjl
      go_wp2_with fail
      rw [hU]
      go_quiet (fail)
      go_wp2
      go_roundw
      case rel => exact ⟨j + 1, by omega, by go_num, by rw [HST.out]; go_num, below_drewN HB.out _⟩
      case measure => simp [intOf]; omega
    · have hjn : j = t.names.length := by rw [HN.out]; omega
      have HE : Hid (t.usedTo j = t.used) := Lib.hid (by rw [hjn]; exact t.usedTo_end)
      clear hjn
      go_wp2
      go_ret
      exact ⟨ret_int (by have := HE.out; omega), HB.out⟩

theorem rbreak_any {B : Nat} {w : World} {r : Nat} {t : RS} {g : RV} (h : RRep B w r t g) (hB : B ≤ w.heap.size) (n : Int) :
    Calls Tryz.prog 49 #[.pointer (some ⟨r, 0, none⟩), .int .i64 n] w (RVoid B w r (t.break' n)) := by
  have c9 : w.cell? ⟨r, 9, none⟩ = some (.int .i64 t.brk) := RHalf.cells h 9
  have f9 := RHalf.frozen h 9
  have HS := Lib.hid (fun u (hu : u = ((max n 1).toNat : Int)) => RRep.setBrk h (max n 1).toNat u hu)
  have HM := Lib.hid (fun u => (MovesR.refl B w).set hB h 9 u)
  unfold RS.break'
  by_cases h1 : n < 1
  · clear h
    go_enter Tryz.func49, Tryz.ntmps49
    go_wp2
    go_end0
    exact ⟨rfl, ⟨_, HS.out _ (by omega)⟩, HM.out _⟩
  · clear h
    go_enter Tryz.func49, Tryz.ntmps49
    go_wp2
    go_end0
    exact ⟨rfl, ⟨_, HS.out _ (by omega)⟩, HM.out _⟩

set_option maxHeartbeats 1000000 in
theorem rcut_any {B : Nat} {w : World} {r : Nat} {t : RS} {g : RV} (h : RRep B w r t g) (hB : B ≤ w.heap.size) (n names : Int) (bv : Value) (l : List Int) (hb : w.ownsRow B 3 1 bv l.length (l.map (Value.int .i64))) :
    Calls Tryz.prog 47 #[.pointer (some ⟨r, 0, none⟩), .int .i64 n, .int .i64 names, bv] w (RVoid B w r (t.cut n names l)) := by
  obtain ⟨BA, bc, rfl, -⟩ := own_at hb
  have c6 : w.cell? ⟨r, 6, none⟩ = some (.int .i64 t.cutLeft) := RHalf.cells h 6
  have f6 := RHalf.frozen h 6
  have c7 : w.cell? ⟨r, 7, none⟩ = some (.int .i64 t.cutNames) := RHalf.cells h 7
  have f7 := RHalf.frozen h 7
  have c8 : w.cell? ⟨r, 8, none⟩ = some g.cv := RHalf.cells h 8
  have f8 := RHalf.frozen h 8
  have HS : Hid (∀ u : Int, u = ((max n 1).toNat : Int) → RRep B (((w.setCell ⟨r, 6, none⟩ (.int .i64 u)).setCell ⟨r, 7, none⟩ (.int .i64 names)).setCell ⟨r, 8, none⟩ (.slice BA l.length bc)) r (t.cut n names l) { g with cv := .slice BA l.length bc } ∧ MovesR B w (((w.setCell ⟨r, 6, none⟩ (.int .i64 u)).setCell ⟨r, 7, none⟩ (.int .i64 names)).setCell ⟨r, 8, none⟩ (.slice BA l.length bc))) := Lib.hid fun u hu => by
    have h1 := RRep.setCut h (max n 1).toNat u hu
    have h2 := RRep.setCutNames h1 names
    refine ⟨RRep.setCutBytes h2 (RHalf.own_set h1 7 _ (RHalf.own_set h 6 _ hb (by decide)) (by decide)), ?_⟩
    have m1 := (MovesR.refl B w).set hB h 6 (.int .i64 u)
    have m2 := m1.set (by rw [setCell_size]; exact hB) h1 7 (.int .i64 names)
    exact m2.set (by rw [setCell_size, setCell_size]; exact hB) h2 8 (.slice BA l.length bc)
  by_cases h1 : n < 1
  · clear h hb
    go_enter Tryz.func47, Tryz.ntmps47
    go_wp2
    go_end0
    exact ⟨rfl, ⟨_, (HS.out _ (by omega)).1⟩, (HS.out _ (by omega)).2⟩
  · clear h hb
    go_enter Tryz.func47, Tryz.ntmps47
    go_wp2
    go_end0
    exact ⟨rfl, ⟨_, (HS.out _ (by omega)).1⟩, (HS.out _ (by omega)).2⟩
end Go.Proofs.YtgknkldhjejjmaaGreatDoor

/- The reference: Remove, Rename, Read. -/
namespace Go.Proofs.YtgknkldhjejjmaaGreatDoor
open Go.RowKit Go.Maps
open DM

theorem rfind_mem {l : RN} {k : Bs} (h : ¬ rfind' l k < 0) : ∃ p ∈ l, p.2 = rfind' l k := by
  unfold rfind' at h ⊢
  cases hf : l.find? (fun p => p.1 == k) with
  | none => rw [hf] at h; exact absurd (by decide) h
  | some p => exact ⟨p, List.mem_of_find?_eq_some hf, rfl⟩

theorem prs_new {w : World} {B : Nat} (cs : Array Value) (x : RN) (n : Nat) (hn : x.length = n) (hc : cs.toList = pc x) (hp : n ≤ maxLen) (hB : B ≤ w.heap.size) : Prs B (w.alloc (.cells cs 88)) (.slice (some ⟨w.heap.size, 0, none⟩) n n) x := by
  subst hn
  have hl := pc_len x
  refine ⟨hl, .inr ⟨w.heap.size, x.length, cs, rfl, hB, heap_alloc_new w _, Nat.le_refl _, hp, ?_, ?_⟩⟩
  · rw [← hl, ← hc]; simp
  · rw [hc, ← hl, List.take_of_length_le (Nat.le_refl _)]

theorem enc_str (k : ByteArray) : encS k.data.toList = .string k := by unfold encS; rw [str_mk]

/-- what is asked of a reference whose call may change names by x -/
structure RGood (t : RS) (x : RN) : Prop where
  few : RFew t
  bc : t.cutLeft ≤ 9223372036854775807
  bb : t.brk ≤ 9223372036854775807
  done : t.trap.1 = 1 → RFew (t.trap.2.did x) ∧ RCut (t.trap.2.did x)

theorem nofind {k : ByteArray} {l : RN} {f : Int} (h : rfind l k.data.toList = f) : rfind' l k.data.toList = f := h

set_option maxHeartbeats 2000000 in
theorem rremove_any {B : Nat} {w : World} {r : Nat} {t : RS} {g : RV} (h : RRep B w r t g) (hB : B ≤ w.heap.size) (k : ByteArray) (good : RGood t [(k.data.toList, -1)]) :
    Calls Tryz.prog 39 #[.pointer (some ⟨r, 0, none⟩), .string k] w (ROut B w r (t.remove k.data.toList)) := by
  have c5 : w.cell? ⟨r, 5, none⟩ = some (.bool t.off) := RHalf.cells h 5
  have c2 : w.cell? ⟨r, 2, none⟩ = some g.nv := RHalf.cells h 2
  by_cases ho : t.off = true
  · have hr : t.remove k.data.toList = (13, t) := by unfold RS.remove; rw [if_pos ho]
    rw [hr]
    rw [ho] at c5
    clear hr ho good
    go_enter Tryz.func39, Tryz.ntmps39
    go_wp2
    go_ret
    exact ⟨rfl, ⟨_, h⟩, MovesR.refl _ _⟩
  · have hof : t.off = false := by simpa using ho
    have HF := Lib.hid (rfind_any g.nv t.names k w h.body.nrow (by have := good.few.names; omega))
    rw [rfind_eq] at HF
    by_cases hf : rfind' t.names k.data.toList < 0
    · have hr : t.remove k.data.toList = (10, t) := by unfold RS.remove; rw [if_neg ho, if_pos hf]
      rw [hr]
      rw [hof] at c5
      have H := Lib.hid h
      obtain ⟨f, hff⟩ : ∃ f, rfind' t.names k.data.toList = f := ⟨_, rfl⟩
      rw [hff] at HF hf
      clear hr ho hof good h hff
      go_enter Tryz.func39, Tryz.ntmps39
      go_wp2_with fail
      refine HF.out.mono ?_
      rintro e w1 ⟨rfl, hB1⟩
      have HB1 := Lib.hid hB1
      clear hB1
      go_wp2
      go_ret
      exact ⟨rfl, ⟨_, RRep.below H.out HB1.out⟩, (MovesR.refl B w).of_below HB1.out hB⟩
    · have hr : t.remove k.data.toList = t.names' [(k.data.toList, -1)] := by unfold RS.remove; rw [if_neg ho, if_neg hf]
      rw [hr]
      rw [hof] at c5
      have H := Lib.hid h
      have HN : Hid (∀ W, RRep B W r t g → B ≤ W.heap.size → Calls Tryz.prog 67 #[.pointer (some ⟨r, 0, none⟩), .agg #[.slice (some ⟨W.heap.size, 0, none⟩) 1 1]] (W.alloc (.cells #[.string k, .int .i64 (-1)] 88)) (ROut B (W.alloc (.cells #[.string k, .int .i64 (-1)] 88)) r (t.names' [(k.data.toList, -1)]))) := Lib.hid fun W hW hBW =>
        names_any (RHalf.alloc hW _) (by simp; omega) good.few _ [(k.data.toList, -1)] (prs_new _ _ 1 rfl (by simp [pc, enc_str]) (by unfold maxLen; omega) hBW) (by simp) good.bc good.bb good.done
      obtain ⟨f, hff⟩ : ∃ f, rfind' t.names k.data.toList = f := ⟨_, rfl⟩
      rw [hff] at HF hf
      clear hr ho hof good h hff
      go_enter Tryz.func39, Tryz.ntmps39
      go_wp2_with fail
      refine HF.out.mono ?_
      rintro e w1 ⟨rfl, hB1⟩
      have HM1 := Lib.hid ((MovesR.refl B w).of_below hB1 hB)
      have hBW : B ≤ w1.heap.size := Nat.le_trans hB hB1.size
      have HN1 := Lib.hid (HN.out w1 (RRep.below H.out hB1) hBW)
      clear hB1 HN HF
      go_wp2_with fail
      refine HN1.out.mono ?_
      rintro e w2 ⟨rfl, hr2, hm2⟩
      have HR2 := Lib.hid hr2
      have HM2 := Lib.hid ((HM1.out.alloc hBW _).trans hm2)
      clear hr2 hm2
      go_wp2
      go_ret
      exact ⟨rfl, HR2.out, HM2.out⟩

set_option maxHeartbeats 4000000 in
theorem rrename_any {B : Nat} {w : World} {r : Nat} {t : RS} {g : RV} (h : RRep B w r t g) (hB : B ≤ w.heap.size) (j k : ByteArray) (good : RGood t [(k.data.toList, rfind' t.names j.data.toList), (j.data.toList, -1)]) (good0 : RGood t []) :
    Calls Tryz.prog 41 #[.pointer (some ⟨r, 0, none⟩), .string j, .string k] w (ROut B w r (t.rename j.data.toList k.data.toList)) := by
  have c5 : w.cell? ⟨r, 5, none⟩ = some (.bool t.off) := RHalf.cells h 5
  have c2 : w.cell? ⟨r, 2, none⟩ = some g.nv := RHalf.cells h 2
  by_cases ho : t.off = true
  · have hr : t.rename j.data.toList k.data.toList = (13, t) := by unfold RS.rename; rw [if_pos ho]
    rw [hr]
    rw [ho] at c5
    clear hr ho good good0
    go_enter Tryz.func41, Tryz.ntmps41
    go_wp2
    go_ret
    exact ⟨rfl, ⟨_, h⟩, MovesR.refl _ _⟩
  · have hof : t.off = false := by simpa using ho
    have HF := Lib.hid (rfind_any g.nv t.names j w h.body.nrow (by have := good.few.names; omega))
    rw [rfind_eq] at HF
    have H := Lib.hid h
    rw [hof] at c5
    by_cases hf : rfind' t.names j.data.toList < 0
    · have hr : t.rename j.data.toList k.data.toList = (10, t) := by unfold RS.rename; rw [if_neg ho, if_pos hf]
      rw [hr]
      obtain ⟨f, hff⟩ : ∃ f, rfind' t.names j.data.toList = f := ⟨_, rfl⟩
      rw [hff] at HF hf
      clear hr ho hof good good0 h hff
      go_enter Tryz.func41, Tryz.ntmps41
      go_wp2_with fail
      refine HF.out.mono ?_
      rintro e w1 ⟨rfl, hB1⟩
      have HB1 := Lib.hid hB1
      clear hB1
      go_wp2
      go_ret
      exact ⟨rfl, ⟨_, RRep.below H.out HB1.out⟩, (MovesR.refl B w).of_below HB1.out hB⟩
    · by_cases hk0 : k.data.toList = []
      · have hr : t.rename j.data.toList k.data.toList = (2, t) := by unfold RS.rename; rw [if_neg ho, if_neg hf, if_pos (Or.inl hk0)]
        rw [hr]
        have hk : k = ⟨#[]⟩ := str_ext hk0
        subst hk
        obtain ⟨f, hff⟩ : ∃ f, rfind' t.names j.data.toList = f := ⟨_, rfl⟩
        rw [hff] at HF hf
        clear hr ho hof good good0 h hff hk0
        go_enter Tryz.func41, Tryz.ntmps41
        go_wp2_with fail
        refine HF.out.mono ?_
        rintro e w1 ⟨rfl, hB1⟩
        have HB1 := Lib.hid hB1
        clear hB1
        go_wp2
        go_ret
        exact ⟨rfl, ⟨_, RRep.below H.out HB1.out⟩, (MovesR.refl B w).of_below HB1.out hB⟩
      · have hkn : (k.toList == []) = false := by
          rw [beq_eq_false_iff_ne, ByteArray.toList_eq]; exact hk0
        by_cases hk64 : 64 < k.data.toList.length
        · have hr : t.rename j.data.toList k.data.toList = (2, t) := by unfold RS.rename; rw [if_neg ho, if_neg hf, if_pos (Or.inr hk64)]
          rw [hr]
          have hks : (64 : Int) < (k.size : Int) := by have := size_list k; omega
          obtain ⟨f, hff⟩ : ∃ f, rfind' t.names j.data.toList = f := ⟨_, rfl⟩
          rw [hff] at HF hf
          clear hr ho hof good good0 h hff hk0 hk64
          go_enter Tryz.func41, Tryz.ntmps41
          go_wp2_with fail
          refine HF.out.mono ?_
          rintro e w1 ⟨rfl, hB1⟩
          have HB1 := Lib.hid hB1
          clear hB1
          go_wp2
          go_ret
          exact ⟨rfl, ⟨_, RRep.below H.out HB1.out⟩, (MovesR.refl B w).of_below HB1.out hB⟩
        · have hks : ¬ (64 : Int) < (k.size : Int) := by have := size_list k; omega
          by_cases hjk : j = k
          · subst hjk
            have hr : t.rename j.data.toList j.data.toList = t.names' [] := by unfold RS.rename; rw [if_neg ho, if_neg hf, if_neg (by rintro (h1 | h1); exact hk0 h1; exact hk64 h1), if_pos rfl]
            rw [hr]
            have HN : Hid (∀ W, RRep B W r t g → B ≤ W.heap.size → Calls Tryz.prog 67 #[.pointer (some ⟨r, 0, none⟩), .agg #[.slice none 0 0]] W (ROut B W r (t.names' []))) := Lib.hid fun W hW hBW =>
              names_any hW hBW good0.few _ [] (World.ownsRow_nil _ _ _ _) (by simp) good0.bc good0.bb good0.done
            have hjj : (j.toList == j.toList) = true := by simp
            obtain ⟨f, hff⟩ : ∃ f, rfind' t.names j.data.toList = f := ⟨_, rfl⟩
            rw [hff] at HF hf
            clear hr ho hof good good0 h hff hk0 hk64
            go_enter Tryz.func41, Tryz.ntmps41
            go_wp2_with fail
            refine HF.out.mono ?_
            rintro e w1 ⟨rfl, hB1⟩
            have HM1 := Lib.hid ((MovesR.refl B w).of_below hB1 hB)
            have hBW : B ≤ w1.heap.size := Nat.le_trans hB hB1.size
            have HN1 := Lib.hid (HN.out w1 (RRep.below H.out hB1) hBW)
            clear hB1 HN HF
            go_wp2_with fail
            refine HN1.out.mono ?_
            rintro e w2 ⟨rfl, hr2, hm2⟩
            have HR2 := Lib.hid hr2
            have HM2 := Lib.hid (HM1.out.trans hm2)
            clear hr2 hm2
            go_wp2
            go_ret
            exact ⟨rfl, HR2.out, HM2.out⟩
          · have hne : j.data.toList ≠ k.data.toList := fun e => hjk (str_ext e)
            have hr : t.rename j.data.toList k.data.toList = t.names' [(k.data.toList, rfind' t.names j.data.toList), (j.data.toList, -1)] := by unfold RS.rename; rw [if_neg ho, if_neg hf, if_neg (by rintro (h1 | h1); exact hk0 h1; exact hk64 h1), if_neg hne]
            rw [hr]
            have hjj : (j.toList == k.toList) = false := by rw [beq_eq_false_iff_ne, ByteArray.toList_eq, ByteArray.toList_eq]; exact hne
            have HN : Hid (∀ W, RRep B W r t g → B ≤ W.heap.size → Calls Tryz.prog 67 #[.pointer (some ⟨r, 0, none⟩), .agg #[.slice (some ⟨W.heap.size, 0, none⟩) 2 2]] (W.alloc (.cells #[.string k, .int .i64 (rfind' t.names j.data.toList), .string j, .int .i64 (-1)] 88)) (ROut B (W.alloc (.cells #[.string k, .int .i64 (rfind' t.names j.data.toList), .string j, .int .i64 (-1)] 88)) r (t.names' [(k.data.toList, rfind' t.names j.data.toList), (j.data.toList, -1)]))) := Lib.hid fun W hW hBW =>
              names_any (RHalf.alloc hW _) (by simp; omega) good.few _ [(k.data.toList, rfind' t.names j.data.toList), (j.data.toList, -1)] (prs_new _ _ 2 rfl (by simp [pc, enc_str]) (by unfold maxLen; omega) hBW) (by simp) good.bc good.bb good.done
            obtain ⟨f, hff⟩ : ∃ f, rfind' t.names j.data.toList = f := ⟨_, rfl⟩
            rw [hff] at HF hf HN ⊢
            clear hr ho hof good good0 h hff hk0 hk64 hne hjk
            go_enter Tryz.func41, Tryz.ntmps41
            go_wp2_with fail
            refine HF.out.mono ?_
            rintro e w1 ⟨rfl, hB1⟩
            have HM1 := Lib.hid ((MovesR.refl B w).of_below hB1 hB)
            have hBW : B ≤ w1.heap.size := Nat.le_trans hB hB1.size
            have HN1 := Lib.hid (HN.out w1 (RRep.below H.out hB1) hBW)
            clear hB1 HN HF
            go_wp2_with fail
            refine HN1.out.mono ?_
            rintro e w2 ⟨rfl, hr2, hm2⟩
            have HR2 := Lib.hid hr2
            have HM2 := Lib.hid ((HM1.out.alloc hBW _).trans hm2)
            clear hr2 hm2
            go_wp2
            go_ret
            exact ⟨rfl, HR2.out, HM2.out⟩

def RText (w : World) (x : Bs × Int) (e : Ending) (w' : World) : Prop := e = .returned (.tuple #[encS x.1, .int .i64 x.2]) ∧ Below w.heap.size w w'

set_option maxHeartbeats 2000000 in
theorem rread_any {B : Nat} {w : World} {r : Nat} {t : RS} {g : RV} (h : RRep B w r t g) (few : RFew t) (k : ByteArray) :
    Calls Tryz.prog 35 #[.pointer (some ⟨r, 0, none⟩), .string k] w (RText w (t.read k.data.toList)) := by
  have c5 : w.cell? ⟨r, 5, none⟩ = some (.bool t.off) := RHalf.cells h 5
  have c2 : w.cell? ⟨r, 2, none⟩ = some g.nv := RHalf.cells h 2
  by_cases ho : t.off = true
  · have hr : t.read k.data.toList = ([], 13) := by unfold RS.read; rw [if_pos ho]
    rw [hr]
    rw [ho] at c5
    clear hr ho few h
    go_enter Tryz.func35, Tryz.ntmps35
    go_wp2
    go_ret2
    exact ⟨rfl, Below.refl _ _⟩
  · have hof : t.off = false := by simpa using ho
    have HF := Lib.hid (rfind_any g.nv t.names k w h.body.nrow (by have := few.names; omega))
    rw [rfind_eq] at HF
    rw [hof] at c5
    by_cases hf : rfind' t.names k.data.toList < 0
    · have hr : t.read k.data.toList = ([], 10) := by unfold RS.read; rw [if_neg ho, if_pos hf]
      rw [hr]
      obtain ⟨f, hff⟩ : ∃ f, rfind' t.names k.data.toList = f := ⟨_, rfl⟩
      rw [hff] at HF hf
      clear hr ho hof few h hff
      go_enter Tryz.func35, Tryz.ntmps35
      go_wp2_with fail
      refine HF.out.mono ?_
      rintro e w1 ⟨rfl, hB1⟩
      have HB1 := Lib.hid hB1
      clear hB1
      go_wp2
      go_ret2
      exact ⟨rfl, HB1.out⟩
    · have hr : t.read k.data.toList = ((t.at (rfind' t.names k.data.toList)).data, 0) := by unfold RS.read; rw [if_neg ho, if_neg hf]
      rw [hr]
      obtain ⟨p, hp, hpe⟩ := rfind_mem hf
      obtain ⟨p0, p1⟩ := few.nfile p hp
      rw [hpe] at p0 p1
      obtain ⟨m, hm⟩ : ∃ m : Nat, rfind' t.names k.data.toList = (m : Int) := ⟨(rfind' t.names k.data.toList).toNat, by omega⟩
      rw [hm] at HF p1 hf ⊢
      have hmf : m < t.files.length := by omega
      obtain ⟨fb, fc, hfv, hfbw, y1, -, -⟩ := RRep.fileIn h m hmf
      have c1 : w.cell? ⟨r, 1, none⟩ = some (.slice (some ⟨fb, 0, none⟩) t.files.length fc) := by rw [← hfv]; exact RHalf.cells h 1
      have hat : t.at (m : Int) = t.files[m] := by
        unfold RS.at
        rw [show (m : Int).toNat = m by omega, List.getD_eq_getElem?_getD, List.getElem?_eq_getElem hmf]
        rfl
      rw [hat]
      obtain ⟨s, hs, -, -⟩ := enc_size t.files[m].data
      rw [hs] at y1
      have HC : Hid (∀ W, Below w.heap.size w W → W.cell? ⟨r, 1, none⟩ = some (.slice (some ⟨fb, 0, none⟩) t.files.length fc) ∧ W.cell? ⟨fb, m * 2, none⟩ = some (.string s)) := Lib.hid fun W hW =>
        ⟨(hW.cell (p := ⟨r, 1, none⟩) (RHalf.lt h)).trans c1, (hW.cell (p := ⟨fb, m * 2, none⟩) hfbw).trans y1⟩
      have HS := Lib.hid hs
      obtain ⟨fl, hfl⟩ : ∃ fl, t.files.length = fl := ⟨_, rfl⟩
      rw [hfl] at HC p1
      have g2 : (0 : Int) ≤ (m : Int) := by omega
      clear hr ho hof few h hp hpe p0 hm hfv c1 y1 hat hs hfl
      go_enter Tryz.func35, Tryz.ntmps35
      go_wp2_with fail
      refine HF.out.mono ?_
      rintro e w1 ⟨rfl, hB1⟩
      have HB1 := Lib.hid hB1
      obtain ⟨d1, d2⟩ := HC.out w1 hB1
      clear hB1 HC
      go_wp2
      go_ret2
      exact ⟨by rw [HS.out]; rfl, HB1.out⟩
end Go.Proofs.YtgknkldhjejjmaaGreatDoor

/- The reference: Sync, Append. Made by gen_rfm.py. -/
namespace Go.Proofs.YtgknkldhjejjmaaGreatDoor
open Go.RowKit Go.Maps
open DM

theorem RS.at_nat (t : RS) (m : Nat) (h : m < t.files.length) : t.at (m : Int) = t.files[m] := by
  unfold RS.at
  rw [show (m : Int).toNat = m by omega, List.getD_eq_getElem?_getD, List.getElem?_eq_getElem h]
  rfl
theorem RS.put_nat (t : RS) (m : Nat) (f : F) : t.put (m : Int) f = { t with files := t.files.set m f } := by
  unfold RS.put
  rw [show (m : Int).toNat = m by omega]

set_option maxRecDepth 100000 in
set_option maxHeartbeats 4000000 in
theorem rsync_any {B : Nat} {w : World} {r : Nat} {t : RS} {g : RV} (h : RRep B w r t g) (hB : B ≤ w.heap.size) (k : ByteArray) (few : RFew t) (bc : t.cutLeft ≤ 9223372036854775807) (bb : t.brk ≤ 9223372036854775807) (done : t.trap.1 = 1 → RFew t.trap.2 ∧ RCut t.trap.2) :
    Calls Tryz.prog 32 #[.pointer (some ⟨r, 0, none⟩), .string k] w (ROut B w r (t.sync k.data.toList)) := by
  have c5 : w.cell? ⟨r, 5, none⟩ = some (.bool t.off) := RHalf.cells h 5
  have c2 : w.cell? ⟨r, 2, none⟩ = some g.nv := RHalf.cells h 2
  by_cases ho : t.off = true
  · have hr : t.sync k.data.toList = (13, t) := by unfold RS.sync; rw [if_pos ho]
    rw [hr]
    rw [ho] at c5
    clear hr ho few done
    go_enter Tryz.func32, Tryz.ntmps32
    go_wp2
    go_ret
    exact ⟨rfl, ⟨_, h⟩, MovesR.refl _ _⟩
  · have hof : t.off = false := by simpa using ho
    have HF := Lib.hid (rfind_any g.nv t.names k w h.body.nrow (by have := few.names; omega))
    rw [rfind_eq] at HF
    rw [hof] at c5
    have H := Lib.hid h
    by_cases hf : rfind' t.names k.data.toList < 0
    · have hr : t.sync k.data.toList = (10, t) := by unfold RS.sync; rw [if_neg ho, if_pos hf]
      rw [hr]
      obtain ⟨f, hff⟩ : ∃ f, rfind' t.names k.data.toList = f := ⟨_, rfl⟩
      rw [hff] at HF hf
      clear hr ho hof few done h hff
      go_enter Tryz.func32, Tryz.ntmps32
      go_wp2_with fail
      refine HF.out.mono ?_
      rintro e w1 ⟨rfl, hB1⟩
      have HB1 := Lib.hid hB1
      clear hB1
      go_wp2
      go_ret
      exact ⟨rfl, ⟨_, RRep.below H.out HB1.out⟩, (MovesR.refl B w).of_below HB1.out hB⟩
    · obtain ⟨p, hp, hpe⟩ := rfind_mem hf
      obtain ⟨p0, p1⟩ := few.nfile p hp
      rw [hpe] at p0 p1
      obtain ⟨m, hm⟩ : ∃ m : Nat, rfind' t.names k.data.toList = (m : Int) := ⟨(rfind' t.names k.data.toList).toNat, by omega⟩
      have hmf : m < t.files.length := by omega
      have hat := RS.at_nat t m hmf
      have HT := Lib.hid (fun W (hW : RRep B W r t g) (hBW : B ≤ W.heap.size) => trap_any hW hBW bc bb)
      have hr : t.sync k.data.toList = (if t.trap.1 = 0 then { t.trap.2 with files := t.files.set m ⟨t.files[m].data, t.files[m].data.length⟩ } else t.trap.2).finish t.trap.1 := by
        unfold RS.sync
        rw [if_neg ho, if_neg hf, hm, hat, RS.put_nat]
        rfl
      rw [hr]
      rw [hm] at HF p1 hf
      have hf3 : t.trap.2.files = t.files := rfl
      have hdl := (few.file _ (List.getElem_mem hmf)).2
      have DONE := Lib.hid done
      have hc3 := trap_cases t
      obtain ⟨c, hc⟩ : ∃ c, t.trap.1 = c := ⟨_, rfl⟩
      obtain ⟨t2, ht2⟩ : ∃ t2, t.trap.2 = t2 := ⟨_, rfl⟩
      rw [hc, ht2] at HT DONE ⊢
      rw [ht2] at hf3
      rw [hc] at hc3
      have HC3 := Lib.hid hc3
      have g2 : (0 : Int) ≤ (m : Int) := by omega
      clear ho hof h few done hp hpe p0 hm hat hr hc ht2 bc bb
      by_cases hc0 : c = 0
      · subst hc0
        rw [if_pos rfl]
        have hmf2 : m < t2.files.length := by rw [hf3]; exact hmf
        have hL : fC (t.files.set m ⟨t.files[m].data, t.files[m].data.length⟩) = (fC t2.files).set (m * 2 + 1) (.int .i64 (t.files[m].data.length : Nat)) := by
          rw [hf3]; exact fC_sync t.files m hmf _
        have hLn : (t.files.set m ⟨t.files[m].data, t.files[m].data.length⟩).length = t2.files.length := by rw [hf3]; simp
        have HFC := Lib.hid (fun (W : World) (b n c : Nat) (hW : RRep B W r t2 g) (hv : g.fv = .slice (some ⟨b, 0, none⟩) n c) => And.intro (RRep.fileCell hW hv (m * 2 + 1) _ hL hLn) (RRep.fileKin hW hv))
        have HIN : Hid (∀ W, RRep B W r t2 g → ∃ b c, g.fv = .slice (some ⟨b, 0, none⟩) t.files.length c ∧ b < W.heap.size ∧ W.cell? ⟨b, m * 2, none⟩ = some (encS t.files[m].data) ∧ W.cell? ⟨b, m * 2 + 1, none⟩ = some (.int .i64 t.files[m].sync) ∧ (∀ j, W.frozen? ⟨b, j, none⟩ = false)) := Lib.hid fun W hW => by
          have := RRep.fileIn hW m hmf2
          simp only [hf3] at this
          exact this
        obtain ⟨s, hs, -, hsz⟩ := enc_size t.files[m].data
        obtain ⟨fs', hfs'⟩ : ∃ fs', t.files.set m ⟨t.files[m].data, t.files[m].data.length⟩ = fs' := ⟨_, rfl⟩
        rw [hs] at HIN
        rw [hfs', ← hsz] at HFC
        rw [hfs']
        rw [← hsz] at hdl
        obtain ⟨S0, hS0⟩ : ∃ S0, t.files[m].sync = S0 := ⟨_, rfl⟩
        rw [hS0] at HIN
        obtain ⟨fl, hfl⟩ : ∃ fl, t.files.length = fl := ⟨_, rfl⟩
        rw [hfl] at HIN p1
        clear hL hLn hs hsz hfs' hS0 hfl hf3 hmf2 hc3
        go_enter Tryz.func32, Tryz.ntmps32
        go_wp2_with fail
        refine HF.out.mono ?_
        rintro e w1 ⟨rfl, hB1⟩
        have HM1 := Lib.hid ((MovesR.refl B w).of_below hB1 hB)
        have hBW : B ≤ w1.heap.size := Nat.le_trans hB hB1.size
        have HT1 := Lib.hid (HT.out w1 (RRep.below H.out hB1) hBW)
        clear hB1 HT HF
        go_wp2_with fail
        refine HT1.out.mono ?_
        rintro e w2 ⟨rfl, hr2, hm2, -⟩
        have HM2 := Lib.hid (HM1.out.trans hm2)
        have hBW2 : B ≤ w2.heap.size := Nat.le_trans hBW hm2.size
        obtain ⟨fb, fc, hfv, hfb, z1, z2, hfr⟩ := HIN.out w2 hr2
        have c1 : w2.cell? ⟨r, 1, none⟩ = some (.slice (some ⟨fb, 0, none⟩) fl fc) := by rw [← hfv]; exact RHalf.cells hr2 1
        have f2 := hfr (m * 2 + 1)
        obtain ⟨hr3, hk3, hk3'⟩ := HFC.out w2.drew fb _ _ (RRep.drew hr2) hfv
        have HR3 := Lib.hid hr3
        have HM3 := Lib.hid (HM2.out.drew.grown (grownBy_setCell w2.drew ⟨fb, m * 2 + 1, none⟩ (.int .i64 (s.size : Nat))) hBW2 (fun k e => by cases e; exact ⟨hk3', Or.inl hk3⟩))
        have hB3 : B ≤ (w2.drew.setCell ⟨fb, m * 2 + 1, none⟩ (.int .i64 (s.size : Nat))).heap.size := by rw [setCell_size]; exact hBW2
        have HFI := Lib.hid (finish_any HR3.out hB3 0 (Or.inl rfl) (fun e => by cases e))
        clear hr2 hm2 HM1 HT1 HIN HFC hfv hfr hr3 hk3 hk3' HM2
        go_wp2_with fail
        go_region
        all_goals
          go_wp2_with fail
          refine HFI.out.mono ?_
          rintro e w5 ⟨rfl, hr5, hm5⟩
          have HR5 := Lib.hid hr5
          have HM5 := Lib.hid (HM3.out.trans hm5)
          clear hr5 hm5
          go_wp2
          go_ret
          exact ⟨rfl, HR5.out, HM5.out⟩
      · rw [if_neg hc0]
        have hcb : (c == 0) = false := by simp [hc0]
        clear hdl hf3 hc3
        go_enter Tryz.func32, Tryz.ntmps32
        go_wp2_with fail
        refine HF.out.mono ?_
        rintro e w1 ⟨rfl, hB1⟩
        have HM1 := Lib.hid ((MovesR.refl B w).of_below hB1 hB)
        have hBW : B ≤ w1.heap.size := Nat.le_trans hB hB1.size
        have HT1 := Lib.hid (HT.out w1 (RRep.below H.out hB1) hBW)
        clear hB1 HT HF
        go_wp2_with fail
        refine HT1.out.mono ?_
        rintro e w2 ⟨rfl, hr2, hm2, -⟩
        have HM3 := Lib.hid (HM1.out.trans hm2)
        have hBW2 : B ≤ w2.heap.size := Nat.le_trans hBW hm2.size
        have HFI := Lib.hid (finish_any hr2 hBW2 c HC3.out DONE.out)
        clear hr2 hm2 HM1 HT1 hc0
        go_wp2_with fail
        refine HFI.out.mono ?_
        rintro e w5 ⟨rfl, hr5, hm5⟩
        have HR5 := Lib.hid hr5
        have HM5 := Lib.hid (HM3.out.trans hm5)
        clear hr5 hm5
        go_wp2
        go_ret
        exact ⟨rfl, HR5.out, HM5.out⟩

theorem enc_app {d : Bs} {s j : ByteArray} (hd : s.data.toList = d) : encS (d ++ j.data.toList) = .string (s ++ j) := by
  unfold encS
  congr 1
  apply str_ext
  rw [str_app, hd]

set_option maxRecDepth 100000 in
set_option maxHeartbeats 4000000 in
theorem rappend_any {B : Nat} {w : World} {r : Nat} {t : RS} {g : RV} (h : RRep B w r t g) (hB : B ≤ w.heap.size) (k j : ByteArray) (hj : j.size ≤ 140737488355328) (few : RFew t) (bc : t.cutLeft ≤ 9223372036854775807) (bb : t.brk ≤ 9223372036854775807)
    (done : 0 ≤ rfind' t.names k.data.toList → ¬ 1048576 < ((t.at (rfind' t.names k.data.toList)).data.length + j.data.toList.length : Int) → t.trap.1 = 1 → RFew (t.trap.2.put (rfind' t.names k.data.toList) ⟨(t.at (rfind' t.names k.data.toList)).data ++ j.data.toList, (t.at (rfind' t.names k.data.toList)).sync⟩) ∧ RCut (t.trap.2.put (rfind' t.names k.data.toList) ⟨(t.at (rfind' t.names k.data.toList)).data ++ j.data.toList, (t.at (rfind' t.names k.data.toList)).sync⟩)) :
    Calls Tryz.prog 31 #[.pointer (some ⟨r, 0, none⟩), .string k, .string j] w (ROut B w r (t.append k.data.toList j.data.toList)) := by
  have c5 : w.cell? ⟨r, 5, none⟩ = some (.bool t.off) := RHalf.cells h 5
  have c2 : w.cell? ⟨r, 2, none⟩ = some g.nv := RHalf.cells h 2
  by_cases ho : t.off = true
  · have hr : t.append k.data.toList j.data.toList = (13, t) := by unfold RS.append; rw [if_pos ho]
    rw [hr]
    rw [ho] at c5
    clear hr ho few done
    go_enter Tryz.func31, Tryz.ntmps31
    go_wp2
    go_ret
    exact ⟨rfl, ⟨_, h⟩, MovesR.refl _ _⟩
  · have hof : t.off = false := by simpa using ho
    have HF := Lib.hid (rfind_any g.nv t.names k w h.body.nrow (by have := few.names; omega))
    rw [rfind_eq] at HF
    rw [hof] at c5
    have H := Lib.hid h
    by_cases hf : rfind' t.names k.data.toList < 0
    · have hr : t.append k.data.toList j.data.toList = (10, t) := by unfold RS.append; rw [if_neg ho, if_pos hf]
      rw [hr]
      obtain ⟨f, hff⟩ : ∃ f, rfind' t.names k.data.toList = f := ⟨_, rfl⟩
      rw [hff] at HF hf
      clear hr ho hof few done h hff
      go_enter Tryz.func31, Tryz.ntmps31
      go_wp2_with fail
      refine HF.out.mono ?_
      rintro e w1 ⟨rfl, hB1⟩
      have HB1 := Lib.hid hB1
      clear hB1
      go_wp2
      go_ret
      exact ⟨rfl, ⟨_, RRep.below H.out HB1.out⟩, (MovesR.refl B w).of_below HB1.out hB⟩
    · obtain ⟨p, hp, hpe⟩ := rfind_mem hf
      obtain ⟨p0, p1⟩ := few.nfile p hp
      rw [hpe] at p0 p1
      obtain ⟨m, hm⟩ : ∃ m : Nat, rfind' t.names k.data.toList = (m : Int) := ⟨(rfind' t.names k.data.toList).toNat, by omega⟩
      have hmf : m < t.files.length := by omega
      have hat := RS.at_nat t m hmf
      have HT := Lib.hid (fun W (hW : RRep B W r t g) (hBW : B ≤ W.heap.size) => trap_any hW hBW bc bb)
      have HU := Lib.hid (fun W (hW : RRep B W r t g) => rused_any hW few)
      have hub := t.usedTo_le 1048576 (fun n => few.lens n) t.names.length
      rw [t.usedTo_end] at hub
      have hn4 := few.names
      have hub2 : t.used ≤ 4294967296 := by
        have : t.names.length * 1048576 ≤ 4096 * 1048576 := Nat.mul_le_mul_right _ hn4
        omega
      have hr : t.append k.data.toList j.data.toList = if 1048576 < (t.files[m].data.length + j.data.toList.length : Int) ∨ t.room < (t.used + j.data.toList.length : Int) then (12, t) else (if t.trap.1 = 2 then t.trap.2 else { t.trap.2 with files := t.files.set m ⟨t.files[m].data ++ j.data.toList, t.files[m].sync⟩ }).finish t.trap.1 := by
        unfold RS.append
        rw [if_neg ho, if_neg hf, hm, hat, RS.put_nat]
        rfl
      rw [hr]
      have done := done (by omega)
      rw [hm, hat, RS.put_nat] at done
      rw [hm] at HF p1 hf
      have hf3 : t.trap.2.files = t.files := rfl
      have hdl := (few.file _ (List.getElem_mem hmf)).2
      have hc3 := trap_cases t
      have c0 : w.cell? ⟨r, 0, none⟩ = some (.int .i64 t.room) := RHalf.cells h 0
      obtain ⟨fb0, fc0, hfv0, hfb0, q1o, -, -⟩ := RRep.fileIn h m hmf
      have cf : w.cell? ⟨r, 1, none⟩ = some (.slice (some ⟨fb0, 0, none⟩) t.files.length fc0) := by rw [← hfv0]; exact RHalf.cells h 1
      have hrl := RHalf.lt h
      have hL : fC (t.files.set m ⟨t.files[m].data ++ j.data.toList, t.files[m].sync⟩) = (fC t.trap.2.files).set (m * 2) (encS (t.files[m].data ++ j.data.toList)) := fC_data t.files m hmf _
      have hLn : (t.files.set m ⟨t.files[m].data ++ j.data.toList, t.files[m].sync⟩).length = t.trap.2.files.length := by rw [hf3]; simp
      have HFC := Lib.hid (fun (W : World) (b n c : Nat) (hW : RRep B W r t.trap.2 g) (hv : g.fv = .slice (some ⟨b, 0, none⟩) n c) => And.intro (RRep.fileCell hW hv (m * 2) _ hL hLn) (RRep.fileKin hW hv))
      obtain ⟨s, hs, hsd, hsz⟩ := enc_size t.files[m].data
      have hsa := enc_app (j := j) hsd
      have HIN : Hid (∀ W, RRep B W r t.trap.2 g → ∃ b c, g.fv = .slice (some ⟨b, 0, none⟩) t.files.length c ∧ b < W.heap.size ∧ W.cell? ⟨b, m * 2, none⟩ = some (.string s) ∧ W.cell? ⟨b, m * 2 + 1, none⟩ = some (.int .i64 t.files[m].sync) ∧ (∀ j, W.frozen? ⟨b, j, none⟩ = false)) := Lib.hid fun W hW => by rw [← hs]; exact RRep.fileIn hW m (show m < t.trap.2.files.length from hmf)
      have q1 : w.cell? ⟨fb0, m * 2, none⟩ = some (.string s) := by rw [← hs]; exact q1o
      clear q1o
      rw [hsa] at HFC
      rw [← hsz] at hdl
      have hjl := size_list j
      have DONE : Hid (¬ (1048576 : Int) < (s.size : Int) + (j.size : Int) → t.trap.1 = 1 → RFew { t.trap.2 with files := t.files.set m ⟨t.files[m].data ++ j.data.toList, t.files[m].sync⟩ } ∧ RCut { t.trap.2 with files := t.files.set m ⟨t.files[m].data ++ j.data.toList, t.files[m].sync⟩ }) := Lib.hid fun hn => done (by rw [← hsz, hjl]; exact hn)
      have hbig : ((1048576 : Int) < (t.files[m].data.length + j.data.toList.length : Int) ∨ t.room < (t.used + j.data.toList.length : Int)) ↔ ((1048576 : Int) < (s.size : Int) + (j.size : Int) ∨ t.room < (t.used : Int) + (j.size : Int)) := by
        rw [← hsz, hjl]
      obtain ⟨fs', hfs'⟩ : ∃ fs', t.files.set m ⟨t.files[m].data ++ j.data.toList, t.files[m].sync⟩ = fs' := ⟨_, rfl⟩
      rw [hfs'] at HFC DONE ⊢
      simp only [hbig]
      obtain ⟨c, hc⟩ : ∃ c, t.trap.1 = c := ⟨_, rfl⟩
      obtain ⟨t2, ht2⟩ : ∃ t2, t.trap.2 = t2 := ⟨_, rfl⟩
      rw [hc, ht2] at HT DONE ⊢
      rw [ht2] at HFC HIN
      rw [hc] at hc3
      have HC3 := Lib.hid hc3
      obtain ⟨fl, hfl⟩ : ∃ fl, t.files.length = fl := ⟨_, rfl⟩
      rw [hfl] at HIN p1 cf
      obtain ⟨U, hU⟩ : ∃ U, t.used = U := ⟨_, rfl⟩
      rw [hU] at HU hub2 ⊢
      obtain ⟨RM, hRM⟩ : ∃ x, t.room = x := ⟨_, rfl⟩
      rw [hRM] at c0 ⊢
      have g2 : (0 : Int) ≤ (m : Int) := by omega
      have HCL : Hid (∀ W, Below w.heap.size w W → W.cell? ⟨r, 0, none⟩ = some (.int .i64 RM) ∧ W.cell? ⟨r, 1, none⟩ = some (.slice (some ⟨fb0, 0, none⟩) fl fc0) ∧ W.cell? ⟨fb0, m * 2, none⟩ = some (.string s)) := Lib.hid fun W hW =>
        ⟨(hW.cell (p := ⟨r, 0, none⟩) hrl).trans c0, (hW.cell (p := ⟨r, 1, none⟩) hrl).trans cf, (hW.cell (p := ⟨fb0, m * 2, none⟩) hfb0).trans q1⟩
      clear ho hof h few done hp hpe p0 hm hat hr hc ht2 bc bb hf3 hL hLn hs hsd hsz hsa hbig hfs' hfl hU hRM hub hn4 c0 cf q1 hfv0 hfb0 hrl hjl hc3
      have v1 : IntKind.i64.wrap ((s.size : Int) + (j.size : Int)) = (s.size : Int) + (j.size : Int) := wrapN _ (by omega) (by omega)
      have v2 : IntKind.i64.wrap ((U : Int) + (j.size : Int)) = (U : Int) + (j.size : Int) := wrapN _ (by omega) (by omega)
      have hcat : ¬ (9223372036854775807 < s.size + j.size) := by omega
      by_cases hb1 : (1048576 : Int) < (s.size : Int) + (j.size : Int)
      · rw [if_pos (Or.inl hb1)]
        clear HT HFC HIN DONE
        go_enter Tryz.func31, Tryz.ntmps31
        go_wp2_with fail
        refine HF.out.mono ?_
        rintro e w1 ⟨rfl, hB1⟩
        have HB1 := Lib.hid hB1
        have HU1 := Lib.hid (HU.out w1 (RRep.below H.out hB1))
        clear hB1 HU HF
        go_wp2_with fail
        refine HU1.out.mono ?_
        rintro e w2 ⟨rfl, hB2⟩
        have HB2 := Lib.hid (HB1.out.trans (hB2.mono HB1.out.size))
        obtain ⟨d0, d1, d2⟩ := HCL.out w2 HB2.out
        clear hB2 HU1 HB1 HCL
        go_wp2
        go_ret
        exact ⟨rfl, ⟨_, RRep.below H.out HB2.out⟩, (MovesR.refl B w).of_below HB2.out hB⟩
      · by_cases hb2 : RM < (U : Int) + (j.size : Int)
        · rw [if_pos (Or.inr hb2)]
          clear HT HFC HIN DONE
          go_enter Tryz.func31, Tryz.ntmps31
          go_wp2_with fail
          refine HF.out.mono ?_
          rintro e w1 ⟨rfl, hB1⟩
          have HB1 := Lib.hid hB1
          have HU1 := Lib.hid (HU.out w1 (RRep.below H.out hB1))
          clear hB1 HU HF
          go_wp2_with fail
          refine HU1.out.mono ?_
          rintro e w2 ⟨rfl, hB2⟩
          have HB2 := Lib.hid (HB1.out.trans (hB2.mono HB1.out.size))
          obtain ⟨d0, d1, d2⟩ := HCL.out w2 HB2.out
          clear hB2 HU1 HB1 HCL
          go_wp2
          go_ret
          exact ⟨rfl, ⟨_, RRep.below H.out HB2.out⟩, (MovesR.refl B w).of_below HB2.out hB⟩
        · rw [if_neg (by rintro (h1 | h1); exact hb1 h1; exact hb2 h1)]
          by_cases hc2 : c = 2
          · subst hc2
            rw [if_pos rfl]
            clear HFC HIN DONE
            go_enter Tryz.func31, Tryz.ntmps31
            go_wp2_with fail
            refine HF.out.mono ?_
            rintro e w1 ⟨rfl, hB1⟩
            have HB1 := Lib.hid hB1
            have HU1 := Lib.hid (HU.out w1 (RRep.below H.out hB1))
            clear hB1 HU HF
            go_wp2_with fail
            refine HU1.out.mono ?_
            rintro e w2 ⟨rfl, hB2⟩
            have HB2 := Lib.hid (HB1.out.trans (hB2.mono HB1.out.size))
            obtain ⟨d0, d1, d2⟩ := HCL.out w2 HB2.out
            have HM2 := Lib.hid ((MovesR.refl B w).of_below HB2.out hB)
            have hBW : B ≤ w2.heap.size := Nat.le_trans hB HB2.out.size
            have HT1 := Lib.hid (HT.out w2 (RRep.below H.out HB2.out) hBW)
            clear hB2 HU1 HB1 HCL HT
            go_wp2_with fail
            refine HT1.out.mono ?_
            rintro e w3 ⟨rfl, hr3, hm3, -⟩
            have HM3 := Lib.hid (HM2.out.trans hm3)
            have HFI := Lib.hid (finish_full hr3)
            clear hr3 hm3 HM2 HT1 HB2
            go_wp2_with fail
            refine HFI.out.mono ?_
            rintro e w5 ⟨rfl, hr5, hm5⟩
            have HR5 := Lib.hid hr5
            have HM5 := Lib.hid (HM3.out.trans hm5)
            clear hr5 hm5
            go_wp2
            go_ret
            exact ⟨rfl, HR5.out, HM5.out⟩
          · rw [if_neg hc2]
            have hcb : (c != 2) = true := by simp [hc2]
            have DONE2 := Lib.hid (DONE.out hb1)
            clear DONE
            clear hc2
            go_enter Tryz.func31, Tryz.ntmps31
            go_wp2_with fail
            refine HF.out.mono ?_
            rintro e w1 ⟨rfl, hB1⟩
            have HB1 := Lib.hid hB1
            have HU1 := Lib.hid (HU.out w1 (RRep.below H.out hB1))
            clear hB1 HU HF
            go_wp2_with fail
            refine HU1.out.mono ?_
            rintro e w2 ⟨rfl, hB2⟩
            have HB2 := Lib.hid (HB1.out.trans (hB2.mono HB1.out.size))
            obtain ⟨d0, d1, d2⟩ := HCL.out w2 HB2.out
            have HM2 := Lib.hid ((MovesR.refl B w).of_below HB2.out hB)
            have hBW : B ≤ w2.heap.size := Nat.le_trans hB HB2.out.size
            have HT1 := Lib.hid (HT.out w2 (RRep.below H.out HB2.out) hBW)
            clear hB2 HU1 HB1 HCL HT
            go_wp2_with fail
            refine HT1.out.mono ?_
            rintro e w3 ⟨rfl, hr3, hm3, -⟩
            have HM4 := Lib.hid (HM2.out.trans hm3)
            have hBW2 : B ≤ w3.heap.size := Nat.le_trans hBW hm3.size
            obtain ⟨fb, fc, hfv, hfb, z1, z2, hfr⟩ := HIN.out w3 hr3
            have c1 : w3.cell? ⟨r, 1, none⟩ = some (.slice (some ⟨fb, 0, none⟩) fl fc) := by rw [← hfv]; exact RHalf.cells hr3 1
            have f2 := hfr (m * 2)
            obtain ⟨hr4, hk3, hk3'⟩ := HFC.out w3.drew fb _ _ (RRep.drew hr3) hfv
            have HR4 := Lib.hid hr4
            have HM3 := Lib.hid (HM4.out.drew.grown (grownBy_setCell w3.drew ⟨fb, m * 2, none⟩ (.string (s ++ j))) hBW2 (fun k e => by cases e; exact ⟨hk3', Or.inl hk3⟩))
            have hB3 : B ≤ (w3.drew.setCell ⟨fb, m * 2, none⟩ (.string (s ++ j))).heap.size := by rw [setCell_size]; exact hBW2
            have HFI := Lib.hid (finish_any HR4.out hB3 c HC3.out DONE2.out)
            clear hr3 hm3 HM2 HT1 HIN HFC hfv hfr hr4 hk3 hk3' HM4 HB2 d0 d1 d2
            go_wp2_with fail
            go_region
            all_goals
              go_wp2_with fail
              refine HFI.out.mono ?_
              rintro e w5 ⟨rfl, hr5, hm5⟩
              have HR5 := Lib.hid hr5
              have HM5 := Lib.hid (HM3.out.trans hm5)
              clear hr5 hm5
              go_wp2
              go_ret
              exact ⟨rfl, HR5.out, HM5.out⟩
end Go.Proofs.YtgknkldhjejjmaaGreatDoor

/- The reference: SyncDir. -/
namespace Go.Proofs.YtgknkldhjejjmaaGreatDoor
open Go.RowKit Go.Maps
open DM

section
variable {B : Nat} {w w' : World} {r : Nat} {t : RS} {g : RV}
/-- the lasting names' row has grown -/
theorem RRep.growLasts (h : RRep B w r t g) (hg : w.grownBy w' g.lv.ownBlock) (hl : g.nv.ownBlock = none ∨ g.nv.ownBlock ≠ g.lv.ownBlock) (hq : ∀ v ∈ g.qs, v.ownBlock = none ∨ v.ownBlock ≠ g.lv.ownBlock) {v : Value} {L : RN} (hv : Prs B w' v L) : RRep B (w'.setCell ⟨r, 3, none⟩ v) r { t with lasts := L } { g with lv := v } := by
  have hk : ∀ (x : Nat) (cs : Array Value) (ty : TypeId) (fr : Nat × Nat), w.heap[x]? = some (.cells cs ty fr) → ty ≠ 88 → w'.heap[x]? = some (.cells cs ty fr) := fun x cs ty fr hx hne =>
    (hg.block x (Array.getElem?_eq_some_iff.1 hx).1 (fun e => by
      rcases h.body.lrow.2 with ⟨h1, _⟩ | ⟨_, _, cur, h1, _, h3, _⟩
      · rw [h1] at e; cases e
      · rw [h1] at e
        have e' : x = _ := Option.some.inj e
        subst e'
        rw [h3] at hx
        injection hx with hx
        injection hx with _ hx
        exact hne hx.symm)).trans hx
  have hbody : RBody B w' t.files t.names L t.queue t.cutBytes { g with lv := v } :=
    ⟨own_keep h.body.frow (fun x cs fr hx => hk x cs _ fr hx (by decide)), h.body.nrow.kept hg hl, hv, own_keep h.body.qrow (fun x cs fr hx => hk x cs _ fr hx (by decide)), fun i hi => by
      obtain ⟨u, h1, h2⟩ := h.body.ents i hi
      exact ⟨u, h1, World.ownsRow.kept h2 hg (hq u (List.mem_of_getElem? h1))⟩, own_keep h.body.crow (fun x cs fr hx => hk x cs _ fr hx (by decide))⟩
  have hh : RHalf B w' r t.files t.names L t.queue t.cutBytes { g with lv := v } (rC t g) := ⟨hbody, hk _ _ _ _ h.at_ (by decide), h.le⟩
  have hs := hh.set 3 v
  exact ⟨hs.body, hs.at_, hs.le⟩
end

set_option maxRecDepth 100000 in
set_option maxHeartbeats 8000000 in
theorem rsyncDir_any {B : Nat} {w : World} {r : Nat} {t : RS} {g : RV} (h : RRep B w r t g) (hB : B ≤ w.heap.size) (few : RFew t) (bc : t.cutLeft ≤ 9223372036854775807) (bb : t.brk ≤ 9223372036854775807) (done : t.trap.1 = 1 → RFew t.trap.2 ∧ RCut t.trap.2) :
    Calls Tryz.prog 24 #[.pointer (some ⟨r, 0, none⟩)] w (ROut B w r t.syncDir) := by
  have c5 : w.cell? ⟨r, 5, none⟩ = some (.bool t.off) := RHalf.cells h 5
  by_cases ho : t.off = true
  · have hr : t.syncDir = (13, t) := by unfold RS.syncDir; rw [if_pos ho]
    rw [hr]
    rw [ho] at c5
    clear hr ho few done
    go_enter Tryz.func24, Tryz.ntmps24
    go_wp2
    go_ret
    exact ⟨rfl, ⟨_, h⟩, MovesR.refl _ _⟩
  · have hof : t.off = false := by simpa using ho
    have hr : t.syncDir = (if t.trap.1 = 0 then { t.trap.2 with lasts := t.names, queue := [] } else t.trap.2).finish t.trap.1 := by unfold RS.syncDir; rw [if_neg ho]
    rw [hr]
    rw [hof] at c5
    have HT := Lib.hid (trap_any h hB bc bb)
    have hn4 := few.names
    have hnn : t.trap.2.names = t.names := rfl
    have DONE := Lib.hid done
    have hc3 := trap_cases t
    obtain ⟨c, hc⟩ : ∃ c, t.trap.1 = c := ⟨_, rfl⟩
    obtain ⟨t2, ht2⟩ : ∃ t2, t.trap.2 = t2 := ⟨_, rfl⟩
    rw [hc, ht2] at HT DONE ⊢
    rw [ht2] at hnn
    rw [← hnn] at hn4 ⊢
    rw [hc] at hc3
    have HC3 := Lib.hid hc3
    clear ho hof h few done hr hc ht2 bc bb hnn hc3
    by_cases hc0 : c = 0
    · subst hc0
      rw [if_pos rfl]
      obtain ⟨L, hL⟩ : ∃ L, t2.names = L := ⟨_, rfl⟩
      rw [hL] at hn4 ⊢
      have HLN := Lib.hid hL
      clear hL
      go_enter Tryz.func24, Tryz.ntmps24
      go_wp2_with fail
      refine HT.out.mono ?_
      rintro e w1 ⟨rfl, hr1, hm1, -⟩
      have c3 : w1.cell? ⟨r, 3, none⟩ = some g.lv := RHalf.cells hr1 3
      have f3 := RHalf.frozen hr1 3
      have hBw1 : B ≤ w1.heap.size := Nat.le_trans hB hm1.size
      have HRR : Hid (RRep B (w1.setCell ⟨r, 3, none⟩ (.slice none 0 0)) r { t2 with lasts := [] } { g with lv := .slice none 0 0 }) := Lib.hid (RRep.setLasts hr1 (World.ownsRow_nil _ _ _ _))
      have HMM : Hid (MovesR B w (w1.setCell ⟨r, 3, none⟩ (.slice none 0 0))) := Lib.hid (hm1.set hBw1 hr1 3 _)
      clear hr1 hm1 HT
      go_wp2_with fail
      generalize w1.setCell ⟨r, 3, none⟩ (.slice none 0 0) = W2 at HRR HMM ⊢
      clear c3 f3 hBw1
      have hBW : B ≤ W2.heap.size := Nat.le_trans hB HMM.out.size
      obtain ⟨LA, lc, hlv, -⟩ := Prs.slice HRR.out.body.nrow
      simp only at hlv
      rw [HLN.out] at hlv
      have hlb : ∀ u, u = g.nv ∨ u ∈ g.qs → u.ownBlock = none ∨ ∃ x, u.ownBlock = some x ∧ x < W2.heap.size := fun u hu => by
        rcases hu with rfl | hu
        · cases hx : g.nv.ownBlock with
          | none => exact .inl rfl
          | some x => exact .inr ⟨x, rfl, (World.ownsRow.lt HRR.out.body.nrow x hx).2⟩
        · obtain ⟨i, hi⟩ := List.getElem?_of_mem hu
          have hil := (List.getElem?_eq_some_iff.1 hi).1
          have hql : g.qs.length = t2.queue.length := by have := HRR.out.body.qrow.1; simp only at this; omega
          obtain ⟨v, h1, h2⟩ := HRR.out.body.ents i (by simp only; omega)
          simp only at h1 h2
          rw [hi] at h1
          cases h1
          cases hx : u.ownBlock with
          | none => exact .inl rfl
          | some x => exact .inr ⟨x, rfl, (World.ownsRow.lt h2 x hx).2⟩
      have HLB := Lib.hid hlb
      have HRW : Hid (r < W2.heap.size) := Lib.hid (RHalf.lt HRR.out)
      have HWW : Hid (w.heap.size ≤ W2.heap.size) := Lib.hid HMM.out.size
      have HNV := Lib.hid hlv
      clear hlb hlv
      obtain ⟨m, hm⟩ : ∃ m, L.length = m := ⟨_, rfl⟩
      have HMm := Lib.hid hm
      have START : Hid (W2.ownsRow W2.heap.size 88 2 (.slice none 0 0) (L.take 0).length (pc (L.take 0))) := Lib.hid (World.ownsRow_nil _ _ _ _)
      obtain ⟨i0, hi, hz0, hz1, hz2⟩ := info_parts info_name
      go_loopw [4] (fun i wr => ∃ (j : Nat) (nv : Value), j ≤ m ∧ i = .int .i64 j ∧ RRep B wr r { t2 with lasts := L.take j } { g with lv := nv } ∧ wr.ownsRow W2.heap.size 88 2 nv (L.take j).length (pc (L.take j)) ∧ W2.heap.size ≤ wr.heap.size ∧ MovesR B w wr) (fun i _ => m - (intOf i).toNat)
      case atStart => exact ⟨0, _, by omega, rfl, HRR.out, START.out, Nat.le_refl _, HMM.out⟩
      case round =>
        obtain ⟨i, nv, hij, rfl, hr, hown, hsz, hmv⟩ := hrel
        have HR := Lib.hid hr
        have HM := Lib.hid hmv
        have HOWN := Lib.hid hown
        have hBw : B ≤ wr.heap.size := Nat.le_trans hB hmv.size
        clear hr hmv hown START HRR HMM
        have c2 : wr.cell? ⟨r, 2, none⟩ = some (.slice LA m lc) := by
          have h1 := RHalf.cells HR.out 2
          rw [← hm, ← HNV.out]; exact h1
        by_cases hlt : i < m
        · have hil : i < L.length := by rw [HMm.out]; exact hlt
          obtain ⟨A2, cc, e2, hz⟩ := Prs.slice HR.out.body.nrow
          simp only at e2 hz
          rw [HLN.out] at e2
          simp only [HLN.out] at hz
          rw [HNV.out] at e2
          injection e2 with e2 _ _
          obtain ⟨b, hA, hbB, hbw, hc⟩ := hz (by omega)
          rw [hA] at e2
          obtain ⟨z1, z2⟩ := hc wr rfl i hil
          have htk : L.take (i + 1) = L.take i ++ [L[i]] := List.take_succ_eq_append_getElem hil
          have hXl : (L.take i).length = i := by rw [List.length_take]; omega
          obtain ⟨p, hp⟩ : ∃ p, L[i] = p := ⟨_, rfl⟩
          rw [hp] at z1 z2 htk
          obtain ⟨X, hX⟩ : ∃ X, L.take i = X := ⟨_, rfl⟩
          rw [hX] at HR HOWN htk hXl
          obtain ⟨tt, ht, htl⟩ : ∃ t : ByteArray, encS p.1 = .string t ∧ t.data.toList = p.1 := ⟨⟨p.1.toArray⟩, rfl, by simp⟩
          rw [ht] at z1
          have HT := Lib.hid ht
          have HTK := Lib.hid htk
          have HXL := Lib.hid hXl
          have hXm : X.length ≤ 4096 := by omega
          subst e2
          have g0 : (0 : Int) ≤ (i : Int) := by omega
          have g1 : (i : Int) < (m : Int) := by omega
          have c3 : wr.cell? ⟨r, 3, none⟩ = some nv := RHalf.cells HR.out 3
          have f3 := RHalf.frozen HR.out 3
          have hrl := RHalf.lt HR.out
          have HRL := Lib.hid hrl
          have hdq : some r ≠ nv.ownBlock := fun he => by
            have := (World.ownsRow.lt HOWN.out r he.symm).1
            have := HRW.out
            omega
          have HDQ := Lib.hid hdq
          have h1c : ∀ u ∈ [Value.string tt, .int .i64 p.2], u.oneCell' = true := by
            intro u hu
            simp only [List.mem_cons, List.not_mem_nil, or_false] at hu
            rcases hu with rfl | rfl <;> rfl
          have hm1 : X.length + 1 ≤ maxLen := by unfold maxLen; omega
          have hm2 : (X.length + 1) * 24 ≤ 140737488355328 := by omega
          have HFR : Hid (∀ o, (wr.alloc o).frozen? ⟨r, 3, none⟩ = false ∧ (wr.alloc o).cell? ⟨r, 3, none⟩ = some nv) := Lib.hid fun o =>
            ⟨(World.frozen?_of_block (w := wr) (Below.heap_alloc wr o r hrl)).trans f3, (World.cell?_of_block (w := wr) (Below.heap_alloc wr o r hrl)).trans c3⟩
          have k2a := (HFR.out (.cells #[.string tt, .int .i64 p.2] 88)).2
          clear hz hA hc htk hXl hp hX ht htl hrl hdq
          go_wp2_with fail
          go_region_law (
            refine step_append_lies _ (by rfl) _ _ 53 (by rfl) W2.heap.size 88 i0 _ 2 24 Tryz.underlying53 hi hz0 hz1 hz2 rfl (by omega) nv X.length (pc X) (by rfl) ?_ _ 1 1 [.string tt, .int .i64 p.2] (by rfl) (by rfl) ?_ h1c (by omega) hm1 hm2 ?_ _ (by rfl) ?_
            · first | exact own_drew (World.ownsRow.alloc HOWN.out _) | exact World.ownsRow.alloc (own_drew HOWN.out) _ | fail
            · refine World.news_of_block (cs := #[.string tt, .int .i64 p.2]) (t := 88) (fr := (0, 0)) ?_
              first | exact drew_at _ _ _ (alloc_at _ _ _ (by simp)) | exact alloc_at _ _ _ (by simp) | fail
            · simp; omega
            intro g1 c1 w8 hown8 hgrow8 hat8 hlt8
            have fr8 : w8.frozen? ⟨r, 3, none⟩ = false := by rw [hgrow8.frozen_far _ (by simp; exact Nat.lt_succ_of_lt HRL.out) HDQ.out]; exact (HFR.out _).1
            have k8 : w8.cell? ⟨r, 3, none⟩ = some nv := by rw [hgrow8.cell_far _ (by simp; exact Nat.lt_succ_of_lt HRL.out) HDQ.out]; exact (HFR.out _).2
            have HG8 : Hid (wr.grownBy w8 nv.ownBlock) := alloc_grown ⟨hgrow8.os, hgrow8.tape, hgrow8.output, hgrow8.size, hgrow8.block⟩
            have HOWN8 := Lib.hid hown8
            clear hgrow8 hown8 hat8)
          all_goals
            have hlne : ∀ u, u = g.nv ∨ u ∈ g.qs → u.ownBlock = none ∨ u.ownBlock ≠ nv.ownBlock := fun u hu => by
              rcases HLB.out u hu with h1 | ⟨x, hx, hx2⟩
              · exact .inl h1
              · refine .inr fun he => ?_
                rw [hx] at he
                have := (World.ownsRow.lt HOWN.out x he.symm).1
                omega
            have hown8 : w8.ownsRow W2.heap.size 88 2 (.slice (some ⟨g1, 0, none⟩) (X.length + 1) c1) (L.take (i + 1)).length (pc (L.take (i + 1))) := by
              rw [HTK.out, List.length_append, pc_snoc, HT.out]
              exact HOWN8.out
            have HRR : Hid (RRep B (w8.setCell ⟨r, 3, none⟩ (.slice (some ⟨g1, 0, none⟩) (X.length + 1) c1)) r { t2 with lasts := L.take (i + 1) } { g with lv := .slice (some ⟨g1, 0, none⟩) (X.length + 1) c1 }) :=
              Lib.hid (RRep.growLasts HR.out HG8.out (hlne g.nv (.inl rfl)) (fun u hu => hlne u (.inr hu)) (own_less hown8 hBW))
            have HO9 : Hid ((w8.setCell ⟨r, 3, none⟩ (.slice (some ⟨g1, 0, none⟩) (X.length + 1) c1)).ownsRow W2.heap.size 88 2 (.slice (some ⟨g1, 0, none⟩) (X.length + 1) c1) (L.take (i + 1)).length (pc (L.take (i + 1)))) :=
              Lib.hid (World.ownsRow.kept hown8 (grownBy_setCell w8 ⟨r, 3, none⟩ _) (.inr (by
                have h1 := (World.ownsRow.lt hown8 g1 rfl).1
                have h2 := HRW.out
                intro he
                have he' : g1 = r := Option.some.inj he
                omega)))
            have HS9 : Hid (W2.heap.size ≤ (w8.setCell ⟨r, 3, none⟩ (.slice (some ⟨g1, 0, none⟩) (X.length + 1) c1)).heap.size) := Lib.hid (by rw [setCell_size]; exact Nat.le_trans hsz HG8.out.size)
            have HMM : Hid (MovesR B w (w8.setCell ⟨r, 3, none⟩ (.slice (some ⟨g1, 0, none⟩) (X.length + 1) c1))) :=
              Lib.hid ((HM.out.grown HG8.out hBw (fun k e => ⟨by have := (World.ownsRow.lt HOWN.out k e).1; omega, Or.inr (by have := (World.ownsRow.lt HOWN.out k e).1; have := HWW.out; omega)⟩)).grown (grownBy_setCell w8 ⟨r, 3, none⟩ _) (Nat.le_trans hBw HG8.out.size) (fun k e => by cases e; exact ⟨HR.out.le, Or.inl (RRep.kinGrown HR.out HG8.out HDQ.out)⟩))
            clear hlne hown8 HR HM HOWN HG8 HOWN8 fr8 k8 c2 f3 c3 z1 z2 k2a
            go_wp2
            go_roundw
            case rel => exact ⟨i + 1, _, by omega, by go_num, HRR.out, HO9.out, HS9.out, HMM.out⟩
            case measure => simp [intOf]; omega
        · have him : i = m := by omega
          subst him
          have hLt : L.take i = L := List.take_of_length_le (by rw [HMm.out]; exact Nat.le_refl _)
          rw [hLt] at HR
          have c4 : wr.cell? ⟨r, 4, none⟩ = some g.qv := RHalf.cells HR.out 4
          have f4 := RHalf.frozen HR.out 4
          have HR4 := Lib.hid (RRep.noQueue HR.out)
          have HM3 := Lib.hid (HM.out.set hBw HR.out 4 (.slice none 0 0))
          have hB4 : B ≤ (wr.setCell ⟨r, 4, none⟩ (.slice none 0 0)).heap.size := by rw [setCell_size]; exact hBw
          have HFI := Lib.hid (finish_any HR4.out hB4 0 (Or.inl rfl) (fun e => by cases e))
          clear hLt HOWN HR HM HR4
          go_wp2_with fail
          refine HFI.out.mono ?_
          rintro e w5 ⟨rfl, hr5, hm5⟩
          have HR5 := Lib.hid hr5
          have HM5 := Lib.hid (HM3.out.trans hm5)
          clear hr5 hm5
          go_wp2
          go_ret
          exact ⟨rfl, HR5.out, HM5.out⟩
    · rw [if_neg hc0]
      have hcb : (c == 0) = false := by simp [hc0]
      clear hn4
      go_enter Tryz.func24, Tryz.ntmps24
      go_wp2_with fail
      refine HT.out.mono ?_
      rintro e w2 ⟨rfl, hr2, hm2, -⟩
      have HM3 := Lib.hid hm2
      have hBW2 : B ≤ w2.heap.size := Nat.le_trans hB hm2.size
      have HFI := Lib.hid (finish_any hr2 hBW2 c HC3.out DONE.out)
      clear hr2 hm2 hc0 HT
      go_wp2_with fail
      refine HFI.out.mono ?_
      rintro e w5 ⟨rfl, hr5, hm5⟩
      have HR5 := Lib.hid hr5
      have HM5 := Lib.hid (HM3.out.trans hm5)
      clear hr5 hm5
      go_wp2
      go_ret
      exact ⟨rfl, HR5.out, HM5.out⟩
end Go.Proofs.YtgknkldhjejjmaaGreatDoor

