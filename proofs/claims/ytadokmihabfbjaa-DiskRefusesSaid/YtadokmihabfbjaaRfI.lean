/- The reference: finish, names. -/
import Derived.Test.YtadokmihabfbjaaRfG
namespace Go.Proofs.Ytadokmihabfbjaa
open Go.RowKit Go.Maps
open DM

/-- what is asked of a cut that is to come -/
structure RCut (t : RS) : Prop where
  names : fits t.cutNames
  bytes : ∀ x ∈ t.cutBytes, fits x
  len : t.cutBytes.length ≤ 140737488355328

set_option maxHeartbeats 1000000 in
theorem finish_cut {B : Nat} {w : World} {r : Nat} {t : RS} {g : RV} (h : RRep B w r t g) (hB : B ≤ w.heap.size) (few : RFew t) (cut : RCut t) :
    Calls Try.prog 57 #[.pointer (some ⟨r, 0, none⟩), .int .i64 1] w (ROut B w r (t.finish 1)) := by
  have c7 : w.cell? ⟨r, 7, none⟩ = some (.int .i64 t.cutNames) := RHalf.cells h 7
  have c8 : w.cell? ⟨r, 8, none⟩ = some g.cv := RHalf.cells h 8
  have HF := Lib.hid (rfail_any (RRep.drew h) hB few t.cutNames cut.names g.cv t.cutBytes (RRep.drew h).body.crow cut.len cut.bytes)
  have HM := Lib.hid ((MovesR.refl B w).drew)
  have hf : t.finish 1 = (13, { t.fail t.cutNames t.cutBytes with off := true }) := by unfold RS.finish; rw [if_pos rfl]
  rw [hf]
  obtain ⟨tf, htf⟩ : ∃ tf, t.fail t.cutNames t.cutBytes = tf := ⟨_, rfl⟩
  rw [htf] at HF ⊢
  clear h few cut hf htf
  go_enter Try.func57, Try.ntmps57
  go_wp2_with fail
  go_region_with (
    go_at_call 31
    refine HF.out.mono ?_
    rintro e w2 ⟨rfl, ⟨g2, hr2⟩, hm2⟩
    have HR2 := Lib.hid hr2
    have HM2 := Lib.hid (HM.out.trans hm2)
    clear hr2 hm2)
  all_goals
    have c5 : w2.cell? ⟨r, 5, none⟩ = some (.bool tf.off) := RHalf.cells HR2.out 5
    have f5 := RHalf.frozen HR2.out 5
    have HR3 := Lib.hid (RRep.setOff HR2.out true)
    have HM3 := Lib.hid (HM2.out.set (Nat.le_trans hB HM2.out.size) HR2.out 5 (.bool true))
    clear HR2 HM2
    go_wp2
    go_ret
    exact ⟨rfl, ⟨_, HR3.out⟩, HM3.out⟩

theorem finish_full {B : Nat} {w : World} {r : Nat} {t : RS} {g : RV} (h : RRep B w r t g) :
    Calls Try.prog 57 #[.pointer (some ⟨r, 0, none⟩), .int .i64 2] w (ROut B w r (t.finish 2)) := by
  have hf : t.finish 2 = (12, t) := by unfold RS.finish; rw [if_neg (by decide), if_pos rfl]
  rw [hf]
  clear hf
  go_enter Try.func57, Try.ntmps57
  go_wp2
  go_ret
  exact ⟨rfl, ⟨_, h⟩, MovesR.refl _ _⟩
theorem finish_none {B : Nat} {w : World} {r : Nat} {t : RS} {g : RV} (h : RRep B w r t g) :
    Calls Try.prog 57 #[.pointer (some ⟨r, 0, none⟩), .int .i64 0] w (ROut B w r (t.finish 0)) := by
  have hf : t.finish 0 = (0, t) := by unfold RS.finish; rw [if_neg (by decide), if_neg (by decide)]
  rw [hf]
  clear hf
  go_enter Try.func57, Try.ntmps57
  go_wp2
  go_ret
  exact ⟨rfl, ⟨_, h⟩, MovesR.refl _ _⟩

theorem trap_cases (t : RS) : t.trap.1 = 0 ∨ t.trap.1 = 1 ∨ t.trap.1 = 2 := by
  show (if t.cutLeft = 1 then (1 : Int) else if t.brk = 1 then 2 else 0) = 0 ∨ (if t.cutLeft = 1 then (1 : Int) else if t.brk = 1 then 2 else 0) = 1 ∨ (if t.cutLeft = 1 then (1 : Int) else if t.brk = 1 then 2 else 0) = 2
  split
  · exact .inr (.inl rfl)
  · split
    · exact .inr (.inr rfl)
    · exact .inl rfl

theorem finish_any {B : Nat} {w : World} {r : Nat} {t : RS} {g : RV} (h : RRep B w r t g) (hB : B ≤ w.heap.size) (c : Int) (hc : c = 0 ∨ c = 1 ∨ c = 2) (few : c = 1 → RFew t ∧ RCut t) :
    Calls Try.prog 57 #[.pointer (some ⟨r, 0, none⟩), .int .i64 c] w (ROut B w r (t.finish c)) := by
  rcases hc with rfl | rfl | rfl
  · exact finish_none h
  · exact finish_cut h hB (few rfl).1 (few rfl).2
  · exact finish_full h

section
variable {B : Nat} {w w' : World} {r : Nat} {t : RS} {g : RV}
/-- what a call did to names is queued -/
theorem RRep.addQueue (h : RRep B w r t g) (hg : w.grownBy w' g.qv.ownBlock) {v xv : Value} {x : RN} (hq : w'.ownsRow B 91 1 v (t.queue.length + 1) (g.qs ++ [xv])) (hx : Prs B w xv x) : RRep B (w'.setCell ⟨r, 4, none⟩ v) r { t with queue := t.queue ++ [x] } { g with qv := v, qs := g.qs ++ [xv] } := by
  have hk : ∀ (y : Nat) (cs : Array Value) (ty : TypeId) (fr : Nat × Nat), w.heap[y]? = some (.cells cs ty fr) → ty ≠ 91 → w'.heap[y]? = some (.cells cs ty fr) := fun y cs ty fr hy hne =>
    (hg.block y (Array.getElem?_eq_some_iff.1 hy).1 (fun e => by
      rcases h.body.qrow.2 with ⟨h1, _⟩ | ⟨_, _, cur, h1, _, h3, _⟩
      · rw [h1] at e; cases e
      · rw [h1] at e
        have e' : y = _ := Option.some.inj e
        subst e'
        rw [h3] at hy
        injection hy with hy
        injection hy with _ hy
        exact hne hy.symm)).trans hy
  have hqs : g.qs.length = t.queue.length := by have := h.body.qrow.1; omega
  have hbody : RBody B w' t.files t.names t.lasts (t.queue ++ [x]) t.cutBytes { g with qv := v, qs := g.qs ++ [xv] } :=
    ⟨own_keep h.body.frow (fun y cs fr hy => hk y cs _ fr hy (by decide)), own_keep h.body.nrow (fun y cs fr hy => hk y cs _ fr hy (by decide)), own_keep h.body.lrow (fun y cs fr hy => hk y cs _ fr hy (by decide)), by rw [List.length_append]; exact hq, fun i hi => by
      rw [List.length_append] at hi
      by_cases hlt : i < t.queue.length
      · obtain ⟨u, h1, h2⟩ := h.body.ents i hlt
        refine ⟨u, ?_, ?_⟩
        · show (g.qs ++ [xv])[i]? = some u
          rw [List.getElem?_append_left (by omega)]; exact h1
        · rw [List.getElem_append_left hlt]
          exact own_keep h2 (fun y cs fr hy => hk y cs _ fr hy (by decide))
      · have hi' : i = t.queue.length := by simp at hi; omega
        subst hi'
        refine ⟨xv, ?_, ?_⟩
        · show (g.qs ++ [xv])[t.queue.length]? = some xv
          rw [List.getElem?_append_right (by omega), hqs, Nat.sub_self]; rfl
        · rw [List.getElem_append_right (Nat.le_refl _)]
          simp only [Nat.sub_self, List.getElem_cons_zero]
          exact own_keep hx (fun y cs fr hy => hk y cs _ fr hy (by decide)), own_keep h.body.crow (fun y cs fr hy => hk y cs _ fr hy (by decide))⟩
  have hh : RHalf B w' r t.files t.names t.lasts (t.queue ++ [x]) t.cutBytes { g with qv := v, qs := g.qs ++ [xv] } (rC t g) := ⟨hbody, hk _ _ _ _ h.at_ (by decide), h.le⟩
  have hs := hh.set 4 v
  exact ⟨hs.body, hs.at_, hs.le⟩
end

theorem info_done : (Try.prog.info? 91).map (fun i => (i.zero, i.size, i.bytes)) = some (some (.agg #[.slice none 0 0]), 1, 24) := by kernel_rfl
end Go.Proofs.Ytadokmihabfbjaa
