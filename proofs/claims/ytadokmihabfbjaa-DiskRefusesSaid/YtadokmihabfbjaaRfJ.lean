/- The reference: names. -/
import Derived.Test.YtadokmihabfbjaaRfI
namespace Go.Proofs.Ytadokmihabfbjaa
open Go.RowKit Go.Maps
open DM

theorem info_parts1 {P : Program} {t : TypeId} {z : Value} {s b : Nat} (h : (P.info? t).map (fun i => (i.zero, i.size, i.bytes)) = some (some z, s, b)) : ∃ i, P.info? t = some i ∧ i.zero = some z ∧ i.size = s ∧ i.bytes = b := by
  obtain ⟨i, hi, he⟩ := Option.map_eq_some_iff.1 h
  simp only [Prod.mk.injEq] at he
  exact ⟨i, hi, he.1, he.2.1, he.2.2⟩

set_option maxRecDepth 100000 in
set_option maxHeartbeats 4000000 in
theorem names_full {B : Nat} {w : World} {r : Nat} {t : RS} {g : RV} (h : RRep B w r t g) (hB : B ≤ w.heap.size) (xv : Value) (x : RN) (bc : t.cutLeft ≤ 9223372036854775807) (bb : t.brk ≤ 9223372036854775807) (h2 : t.trap.1 = 2) :
    Calls Try.prog 55 #[.pointer (some ⟨r, 0, none⟩), .agg #[xv]] w (ROut B w r (t.names' x)) := by
  have hn : t.names' x = t.trap.2.finish 2 := by unfold RS.names'; rw [h2, if_pos rfl]
  rw [hn]
  have HT := Lib.hid (trap_any (RHalf.alloc h (.cells #[xv] 91)) (by simp; omega) bc bb)
  have HM := Lib.hid ((MovesR.refl B w).alloc hB (.cells #[xv] 91))
  rw [h2] at HT
  obtain ⟨t2, ht2⟩ : ∃ t2, t.trap.2 = t2 := ⟨_, rfl⟩
  rw [ht2] at HT ⊢
  clear h hn ht2 h2
  go_enter Try.func55, Try.ntmps55
  go_wp2_with fail
  refine HT.out.mono ?_
  rintro e w2 ⟨rfl, hr2, hm2, -⟩
  have HR2 := Lib.hid (finish_full hr2)
  have HM2 := Lib.hid (HM.out.trans hm2)
  clear hr2 hm2 HT HM
  go_wp2_with fail
  refine HR2.out.mono ?_
  rintro e w3 ⟨rfl, hr3, hm3⟩
  have HR3 := Lib.hid hr3
  have HM3 := Lib.hid (HM2.out.trans hm3)
  clear hr3 hm3 HR2 HM2
  go_wp2
  go_ret
  exact ⟨rfl, HR3.out, HM3.out⟩

set_option maxRecDepth 100000 in
set_option maxHeartbeats 4000000 in
theorem names_done {B : Nat} {w : World} {r : Nat} {t : RS} {g : RV} (h : RRep B w r t g) (hB : B ≤ w.heap.size) (few : RFew t) (xv : Value) (x : RN) (hx : Prs B w xv x) (hxl : x.length ≤ 2) (bc : t.cutLeft ≤ 9223372036854775807) (bb : t.brk ≤ 9223372036854775807) (c : Int) (hc : t.trap.1 = c) (h2 : c = 0 ∨ c = 1) (fewD : c = 1 → RFew (t.trap.2.did x) ∧ RCut (t.trap.2.did x)) :
    Calls Try.prog 55 #[.pointer (some ⟨r, 0, none⟩), .agg #[xv]] w (ROut B w r (t.names' x)) := by
  have hn : t.names' x = (t.trap.2.did x).finish c := by unfold RS.names'; rw [hc, if_neg (by rcases h2 with rfl | rfl <;> decide)]
  rw [hn]
  obtain ⟨XA, xc, hxv, -⟩ := own_at hx
  have HT := Lib.hid (trap_any (RHalf.alloc h (.cells #[xv] 91)) (by simp; omega) bc bb)
  have HM := Lib.hid ((MovesR.refl B w).alloc hB (.cells #[xv] 91))
  have HX := Lib.hid (World.ownsRow.alloc hx (.cells #[xv] 91))
  have hbx := heap_alloc_new w (.cells #[xv] 91)
  have hrw := RHalf.lt h
  have hlen := few.names
  have hqf := few.queue
  have hn4 : t.trap.2.names = t.names := rfl
  have hq4 : t.trap.2.queue = t.queue := rfl
  rw [hc] at HT
  rw [← hn4] at hlen
  rw [← hq4] at hqf
  obtain ⟨t2, ht2⟩ : ∃ t2, t.trap.2 = t2 := ⟨_, rfl⟩
  rw [ht2] at HT fewD hlen hqf ⊢
  obtain ⟨Y, hY⟩ : ∃ Y, w.heap.size = Y := ⟨_, rfl⟩
  have HY : Hid ((w.alloc (.cells #[xv] 91)).heap[Y]? = some (.cells #[xv] 91 (0, 0)) ∧ r < Y ∧ (w.alloc (.cells #[xv] 91)).heap.size = Y + 1) := Lib.hid ⟨by rw [← hY]; exact hbx, by rw [← hY]; exact hrw, by simp [hY]⟩
  have HYW := Lib.hid hY
  have FEWD := Lib.hid fewD
  have h2n : (c != 2) = true := by rcases h2 with rfl | rfl <;> rfl
  have HC2 : Hid (c = 0 ∨ c = 1 ∨ c = 2) := Lib.hid (by rcases h2 with h2 | h2 <;> simp [h2])
  subst hxv
  clear h few hx hn ht2 hc h2 fewD hbx hrw hn4 hq4
  go_enter Try.func55, Try.ntmps55
  go_wp2_with fail
  generalize w.alloc (.cells #[.slice XA x.length xc] 91) = wb at HT HM HX HY ⊢
  refine HT.out.mono ?_
  rintro e w2 ⟨rfl, hr2, hm2, hg2⟩
  have HR2 := Lib.hid hr2
  have HM2 := Lib.hid (HM.out.trans hm2)
  have hB2 : B ≤ w2.heap.size := Nat.le_trans hB HM2.out.size
  have HX2 : Hid (Prs B w2 (.slice XA x.length xc) x) := Lib.hid (own_keep HX.out (fun b c fr hb => hm2.kept b _ hb (fun c' t' fr' e => by injection e with _ e; rw [← e]; decide)))
  have HY2 : Hid (w2.heap[Y]? = some (.cells #[.slice XA x.length xc] 91 (0, 0))) := Lib.hid ((hg2.block Y (by rw [HY.out.2.2]; omega) (by have := HY.out.2.1; simp; omega)).trans HY.out.1)
  have c2 : w2.cell? ⟨r, 2, none⟩ = some g.nv := RHalf.cells hr2 2
  have f2 := RHalf.frozen hr2 2
  have y0 : w2.cell? ⟨Y, 0, none⟩ = some (.slice XA x.length xc) := cell_of_row _ _ _ _ _ _ HY2.out
  have hr2l := RHalf.lt hr2
  have HRL := Lib.hid hr2l
  have HYL : Hid (Y < w2.heap.size) := Lib.hid (Array.getElem?_eq_some_iff.1 HY2.out).1
  have HAL : Hid (Calls Try.prog 59 #[g.nv, .agg #[.slice XA x.length xc]] w2.drew fun e w' => ∃ A' n' c', e = .returned (.slice A' n' c') ∧ Prs B w' (.slice A' n' c') (rall t2.names x) ∧ Below w2.drew.heap.size w2.drew w') := Lib.hid (by
    refine (rall_any g.nv (.slice XA x.length xc) t2.names x w2.drew hr2.body.nrow HX2.out hB2 (by omega)).mono ?_
    rintro e w' ⟨v', rfl, h4, h5⟩
    obtain ⟨A', c', rfl, -⟩ := own_at h4
    exact ⟨_, _, _, rfl, h4, h5⟩)
  clear hr2 hm2 hg2 HT HM HX HY hr2l
  go_wp2_with fail
  go_region_with (
    go_at_call 59
    refine HAL.out.mono ?_
    rintro e w3 ⟨A', n', c', rfl, hrow, hB3⟩
    have z2 : w3.cell? ⟨r, 2, none⟩ = some g.nv := (hB3.cell (p := ⟨r, 2, none⟩) HRL.out).trans c2
    have zf : w3.frozen? ⟨r, 2, none⟩ = false := (hB3.frozen (p := ⟨r, 2, none⟩) HRL.out).trans f2
    have zy : Hid (w3.heap[Y]? = some (.cells #[.slice XA x.length xc] 91 (0, 0))) := (hB3.block Y HYL.out).trans HY2.out
    have HROW := Lib.hid hrow
    have HB3 := Lib.hid hB3
    clear hrow hB3)
  all_goals
    have HR3 : Hid (RRep B (w3.setCell ⟨r, 2, none⟩ (.slice A' n' c')) r { t2 with names := rall t2.names x } { g with nv := .slice A' n' c' }) := Lib.hid (RRep.setNames (RRep.below (RRep.drew HR2.out) HB3.out) HROW.out)
    have HM3 : Hid (MovesR B w (w3.setCell ⟨r, 2, none⟩ (.slice A' n' c'))) := Lib.hid ((HM2.out.drew.of_below HB3.out hB2).set (Nat.le_trans hB2 HB3.out.size) (RRep.below (RRep.drew HR2.out) HB3.out) 2 _)
    have hYr : Y ≠ r := by
      intro e
      have h1 := HR2.out.at_
      rw [← e, HY2.out] at h1
      injection h1 with h1
      injection h1 with _ h1
      exact absurd h1 (by decide)
    have HY3 : Hid ((w3.setCell ⟨r, 2, none⟩ (.slice A' n' c')).heap[Y]? = some (.cells #[.slice XA x.length xc] 91 (0, 0))) := Lib.hid ((Below.heap_setCell _ _ _ _ hYr).trans zy.out)
    have HX3 : Hid (Prs B (w3.setCell ⟨r, 2, none⟩ (.slice A' n' c')) (.slice XA x.length xc) x) := Lib.hid (RHalf.own_set (RRep.below (RRep.drew HR2.out) HB3.out) 2 _ (own_below (own_drew HX2.out) HB3.out) (by decide))
    have HYR := Lib.hid hYr
    have hB3 : B ≤ (w3.setCell ⟨r, 2, none⟩ (.slice A' n' c')).heap.size := by rw [setCell_size]; exact Nat.le_trans hB2 HB3.out.size
    clear HR2 HM2 HX2 HY2 HROW HB3 c2 f2 y0 HAL z2 zf zy hYr hB2
    generalize w3.setCell ⟨r, 2, none⟩ (.slice A' n' c') = w4 at HR3 HM3 HY3 HX3 hB3 ⊢
    have y0 : w4.cell? ⟨Y, 0, none⟩ = some (.slice XA x.length xc) := cell_of_row _ _ _ _ _ _ HY3.out
    by_cases hx0 : x = []
    · have hd : t2.did x = { t2 with names := rall t2.names x } := by unfold RS.did; rw [if_pos hx0]
      have HF := Lib.hid (finish_any (t := t2.did x) (by rw [hd]; exact HR3.out) hB3 c HC2.out FEWD.out)
      have hl0 : ¬ (0 : Int) < (x.length : Int) := by rw [hx0]; simp
      clear hx0 hd
      go_wp2_with fail
      refine HF.out.mono ?_
      rintro e w5 ⟨rfl, hr5, hm5⟩
      have HR5 := Lib.hid hr5
      have HM5 := Lib.hid (HM3.out.trans hm5)
      clear hr5 hm5 HF HR3 HM3
      go_wp2
      go_ret
      exact ⟨rfl, HR5.out, HM5.out⟩
    · have hxp : 0 < x.length := List.length_pos_iff.2 hx0
      have hl0 : (0 : Int) < (x.length : Int) := by omega
      have hd : t2.did x = { t2 with names := rall t2.names x, queue := t2.queue ++ [x] } := by unfold RS.did; rw [if_neg hx0]
      have HD := Lib.hid hd
      obtain ⟨i0, hi, hz0, hz1, hz2⟩ := info_parts1 info_done
      have c4 : w4.cell? ⟨r, 4, none⟩ = some g.qv := RHalf.cells HR3.out 4
      have f4 := RHalf.frozen HR3.out 4
      have hrl4 := RHalf.lt HR3.out
      have HRL4 := Lib.hid hrl4
      have HQ : Hid (w4.ownsRow B 91 1 g.qv t2.queue.length g.qs) := Lib.hid HR3.out.body.qrow
      have hdq : some r ≠ g.qv.ownBlock := fun he => by
        rcases own_ne HQ.out HR3.out.at_ (by intro c e; injection e with _ e; exact absurd e (by decide)) with h1 | h1
        · rw [h1] at he; cases he
        · exact h1 he.symm
      have HDQ := Lib.hid hdq
      have h1c : ∀ u ∈ [Value.slice XA x.length xc], u.oneCell' = true := by
        intro u hu
        simp only [List.mem_cons, List.not_mem_nil, or_false] at hu
        rw [hu]; rfl
      have hm1 : t2.queue.length + 1 ≤ maxLen := by unfold maxLen; omega
      have hm2 : (t2.queue.length + 1) * 24 ≤ 140737488355328 := by omega
      have HFR : Hid (∀ o, (w4.alloc o).frozen? ⟨r, 4, none⟩ = false ∧ (w4.alloc o).cell? ⟨r, 4, none⟩ = some g.qv) := Lib.hid fun o =>
        ⟨(World.frozen?_of_block (w := w4) (Below.heap_alloc w4 o r hrl4)).trans f4, (World.cell?_of_block (w := w4) (Below.heap_alloc w4 o r hrl4)).trans c4⟩
      have k2a := (HFR.out (.cells #[.slice XA x.length xc] 91)).2
      obtain ⟨QN, hQN⟩ : ∃ n, t2.queue.length = n := ⟨_, rfl⟩
      rw [hQN] at HQ hm1 hm2
      have HQN := Lib.hid hQN
      clear hx0 hd hrl4 hdq hQN
      go_wp2_with fail
      go_region_law (
        refine step_append_lies _ (by rfl) _ _ 51 (by rfl) B 91 i0 _ 1 24 Try.underlying51 hi hz0 hz1 hz2 rfl (by omega) g.qv QN g.qs (by rfl) ?_ _ 1 1 [.slice XA x.length xc] (by rfl) (by rfl) ?_ h1c (by omega) hm1 hm2 ?_ _ (by rfl) ?_
        · first | exact own_drew (World.ownsRow.alloc HQ.out _) | exact World.ownsRow.alloc (own_drew HQ.out) _ | fail
        · refine World.news_of_block (cs := #[.slice XA x.length xc]) (t := 91) (fr := (0, 0)) ?_
          first | exact drew_at _ _ _ (alloc_at _ _ _ (by simp)) | exact alloc_at _ _ _ (by simp) | fail
        · simp; omega
        intro g1 c1 w8 hown8 hgrow8 hat8 hlt8
        have fr8 : w8.frozen? ⟨r, 4, none⟩ = false := by rw [hgrow8.frozen_far _ (by simp; exact Nat.lt_succ_of_lt HRL4.out) HDQ.out]; exact (HFR.out _).1
        have k8 : w8.cell? ⟨r, 4, none⟩ = some g.qv := by rw [hgrow8.cell_far _ (by simp; exact Nat.lt_succ_of_lt HRL4.out) HDQ.out]; exact (HFR.out _).2
        have HG8 : Hid (w4.grownBy w8 g.qv.ownBlock) := alloc_grown ⟨hgrow8.os, hgrow8.tape, hgrow8.output, hgrow8.size, hgrow8.block⟩
        have HOWN8 := Lib.hid hown8
        clear hgrow8 hown8 hat8)
      all_goals
        have HR9 : Hid (RRep B (w8.setCell ⟨r, 4, none⟩ (.slice (some ⟨g1, 0, none⟩) (QN + 1) c1)) r { t2 with names := rall t2.names x, queue := t2.queue ++ [x] } { g with nv := .slice A' n' c', qv := .slice (some ⟨g1, 0, none⟩) (QN + 1) c1, qs := g.qs ++ [.slice XA x.length xc] }) :=
          Lib.hid (RRep.addQueue HR3.out HG8.out (by rw [HQN.out]; exact HOWN8.out) HX3.out)
        have hB9 : B ≤ (w8.setCell ⟨r, 4, none⟩ (.slice (some ⟨g1, 0, none⟩) (QN + 1) c1)).heap.size := by rw [setCell_size]; exact Nat.le_trans hB3 HG8.out.size
        have HM9 : Hid (MovesR B w (w8.setCell ⟨r, 4, none⟩ (.slice (some ⟨g1, 0, none⟩) (QN + 1) c1))) :=
          Lib.hid ((HM3.out.grown HG8.out hB3 (fun k e => ⟨(World.ownsRow.lt HQ.out k e).1, Or.inl (own_kinR HQ.out (by decide) k e)⟩)).grown (grownBy_setCell w8 ⟨r, 4, none⟩ _) (Nat.le_trans hB3 HG8.out.size) (fun k e => by cases e; exact ⟨HR3.out.le, Or.inl (RRep.kinGrown HR3.out HG8.out HDQ.out)⟩))
        have HF := Lib.hid (finish_any (t := t2.did x) (by rw [HD.out]; exact HR9.out) hB9 c HC2.out FEWD.out)
        clear HR9 HG8 HOWN8 fr8 k8 c4 f4 k2a y0 hB9
        go_wp2_with fail
        refine HF.out.mono ?_
        rintro e w5 ⟨rfl, hr5, hm5⟩
        have HR5 := Lib.hid hr5
        have HM5 := Lib.hid (HM9.out.trans hm5)
        clear hr5 hm5 HF HR3 HM3
        go_wp2
        go_ret
        exact ⟨rfl, HR5.out, HM5.out⟩

theorem names_any {B : Nat} {w : World} {r : Nat} {t : RS} {g : RV} (h : RRep B w r t g) (hB : B ≤ w.heap.size) (few : RFew t) (xv : Value) (x : RN) (hx : Prs B w xv x) (hxl : x.length ≤ 2) (bc : t.cutLeft ≤ 9223372036854775807) (bb : t.brk ≤ 9223372036854775807) (fewD : t.trap.1 = 1 → RFew (t.trap.2.did x) ∧ RCut (t.trap.2.did x)) :
    Calls Try.prog 55 #[.pointer (some ⟨r, 0, none⟩), .agg #[xv]] w (ROut B w r (t.names' x)) := by
  rcases trap_cases t with hc | hc | hc
  · exact names_done h hB few xv x hx hxl bc bb 0 hc (.inl rfl) (fun e => by cases e)
  · exact names_done h hB few xv x hx hxl bc bb 1 hc (.inr rfl) (fun _ => fewD hc)
  · exact names_full h hB xv x bc bb hc
end Go.Proofs.Ytadokmihabfbjaa
