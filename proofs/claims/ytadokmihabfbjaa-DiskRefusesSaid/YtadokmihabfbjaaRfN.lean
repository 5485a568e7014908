/- The reference: SyncDir. -/
import Derived.Test.YtadokmihabfbjaaRfM
namespace Go.Proofs.Ytadokmihabfbjaa
open Go.RowKit Go.Maps
open DM

section
variable {B : Nat} {w w' : World} {r : Nat} {t : RS} {g : RV}
/-- the lasting names' row has grown -/
theorem RRep.growLasts (h : RRep B w r t g) (hg : w.grownBy w' g.lv.ownBlock) (hl : g.nv.ownBlock = none ∨ g.nv.ownBlock ≠ g.lv.ownBlock) (hq : ∀ v ∈ g.qs, v.ownBlock = none ∨ v.ownBlock ≠ g.lv.ownBlock) {v : Value} {L : RN} (hv : Prs B w' v L) : RRep B (w'.setCell ⟨r, 3, none⟩ v) r { t with lasts := L } { g with lv := v } := by
  have hk : ∀ (x : Nat) (cs : Array Value) (ty : TypeId) (fr : Nat × Nat), w.heap[x]? = some (.cells cs ty fr) → ty ≠ 58 → w'.heap[x]? = some (.cells cs ty fr) := fun x cs ty fr hx hne =>
    (hg.block x (Array.getElem?_eq_some_iff.1 hx).1 (fun e => by
      rcases h.body.lrow.2 with ⟨h1, _⟩ | ⟨_, _, cur, h1, _, h3, _⟩
      · rw [h1] at e; cases e
      · rw [h1] at e
        have e' : x = _ := Option.some.inj e
        subst e'
        rw [h3] at hx
        injection hx with hx
        injection hx with _ hx
        exact hne hx.symm)).trans hx
  have hbody : RBody B w' t.files t.names L t.queue t.cutBytes { g with lv := v } :=
    ⟨own_keep h.body.frow (fun x cs fr hx => hk x cs _ fr hx (by decide)), h.body.nrow.kept hg hl, hv, own_keep h.body.qrow (fun x cs fr hx => hk x cs _ fr hx (by decide)), fun i hi => by
      obtain ⟨u, h1, h2⟩ := h.body.ents i hi
      exact ⟨u, h1, World.ownsRow.kept h2 hg (hq u (List.mem_of_getElem? h1))⟩, own_keep h.body.crow (fun x cs fr hx => hk x cs _ fr hx (by decide))⟩
  have hh : RHalf B w' r t.files t.names L t.queue t.cutBytes { g with lv := v } (rC t g) := ⟨hbody, hk _ _ _ _ h.at_ (by decide), h.le⟩
  have hs := hh.set 3 v
  exact ⟨hs.body, hs.at_, hs.le⟩
end

set_option maxRecDepth 100000 in
set_option maxHeartbeats 8000000 in
theorem rsyncDir_any {B : Nat} {w : World} {r : Nat} {t : RS} {g : RV} (h : RRep B w r t g) (hB : B ≤ w.heap.size) (few : RFew t) (bc : t.cutLeft ≤ 9223372036854775807) (bb : t.brk ≤ 9223372036854775807) (done : t.trap.1 = 1 → RFew t.trap.2 ∧ RCut t.trap.2) :
    Calls Try.prog 25 #[.pointer (some ⟨r, 0, none⟩)] w (ROut B w r t.syncDir) := by
  have c5 : w.cell? ⟨r, 5, none⟩ = some (.bool t.off) := RHalf.cells h 5
  by_cases ho : t.off = true
  · have hr : t.syncDir = (13, t) := by unfold RS.syncDir; rw [if_pos ho]
    rw [hr]
    rw [ho] at c5
    clear hr ho few done
    go_enter Try.func25, Try.ntmps25
    go_wp2
    go_ret
    exact ⟨rfl, ⟨_, h⟩, MovesR.refl _ _⟩
  · have hof : t.off = false := by simpa using ho
    have hr : t.syncDir = (if t.trap.1 = 0 then { t.trap.2 with lasts := t.names, queue := [] } else t.trap.2).finish t.trap.1 := by unfold RS.syncDir; rw [if_neg ho]
    rw [hr]
    rw [hof] at c5
    have HT := Lib.hid (trap_any h hB bc bb)
    have hn4 := few.names
    have hnn : t.trap.2.names = t.names := rfl
    have DONE := Lib.hid done
    have hc3 := trap_cases t
    obtain ⟨c, hc⟩ : ∃ c, t.trap.1 = c := ⟨_, rfl⟩
    obtain ⟨t2, ht2⟩ : ∃ t2, t.trap.2 = t2 := ⟨_, rfl⟩
    rw [hc, ht2] at HT DONE ⊢
    rw [ht2] at hnn
    rw [← hnn] at hn4 ⊢
    rw [hc] at hc3
    have HC3 := Lib.hid hc3
    clear ho hof h few done hr hc ht2 bc bb hnn hc3
    by_cases hc0 : c = 0
    · subst hc0
      rw [if_pos rfl]
      obtain ⟨L, hL⟩ : ∃ L, t2.names = L := ⟨_, rfl⟩
      rw [hL] at hn4 ⊢
      have HLN := Lib.hid hL
      clear hL
      go_enter Try.func25, Try.ntmps25
      go_wp2_with fail
      refine HT.out.mono ?_
      rintro e w1 ⟨rfl, hr1, hm1, -⟩
      have c3 : w1.cell? ⟨r, 3, none⟩ = some g.lv := RHalf.cells hr1 3
      have f3 := RHalf.frozen hr1 3
      have hBw1 : B ≤ w1.heap.size := Nat.le_trans hB hm1.size
      have HRR : Hid (RRep B (w1.setCell ⟨r, 3, none⟩ (.slice none 0 0)) r { t2 with lasts := [] } { g with lv := .slice none 0 0 }) := Lib.hid (RRep.setLasts hr1 (World.ownsRow_nil _ _ _ _))
      have HMM : Hid (MovesR B w (w1.setCell ⟨r, 3, none⟩ (.slice none 0 0))) := Lib.hid (hm1.set hBw1 hr1 3 _)
      clear hr1 hm1 HT
      go_wp2_with fail
      generalize w1.setCell ⟨r, 3, none⟩ (.slice none 0 0) = W2 at HRR HMM ⊢
      clear c3 f3 hBw1
      have hBW : B ≤ W2.heap.size := Nat.le_trans hB HMM.out.size
      obtain ⟨LA, lc, hlv, -⟩ := Prs.slice HRR.out.body.nrow
      simp only at hlv
      rw [HLN.out] at hlv
      have hlb : ∀ u, u = g.nv ∨ u ∈ g.qs → u.ownBlock = none ∨ ∃ x, u.ownBlock = some x ∧ x < W2.heap.size := fun u hu => by
        rcases hu with rfl | hu
        · cases hx : g.nv.ownBlock with
          | none => exact .inl rfl
          | some x => exact .inr ⟨x, rfl, (World.ownsRow.lt HRR.out.body.nrow x hx).2⟩
        · obtain ⟨i, hi⟩ := List.getElem?_of_mem hu
          have hil := (List.getElem?_eq_some_iff.1 hi).1
          have hql : g.qs.length = t2.queue.length := by have := HRR.out.body.qrow.1; simp only at this; omega
          obtain ⟨v, h1, h2⟩ := HRR.out.body.ents i (by simp only; omega)
          simp only at h1 h2
          rw [hi] at h1
          cases h1
          cases hx : u.ownBlock with
          | none => exact .inl rfl
          | some x => exact .inr ⟨x, rfl, (World.ownsRow.lt h2 x hx).2⟩
      have HLB := Lib.hid hlb
      have HRW : Hid (r < W2.heap.size) := Lib.hid (RHalf.lt HRR.out)
      have HWW : Hid (w.heap.size ≤ W2.heap.size) := Lib.hid HMM.out.size
      have HNV := Lib.hid hlv
      clear hlb hlv
      obtain ⟨m, hm⟩ : ∃ m, L.length = m := ⟨_, rfl⟩
      have HMm := Lib.hid hm
      have START : Hid (W2.ownsRow W2.heap.size 58 2 (.slice none 0 0) (L.take 0).length (pc (L.take 0))) := Lib.hid (World.ownsRow_nil _ _ _ _)
      obtain ⟨i0, hi, hz0, hz1, hz2⟩ := info_parts info_name
      go_loopw [4] (fun i wr => ∃ (j : Nat) (nv : Value), j ≤ m ∧ i = .int .i64 j ∧ RRep B wr r { t2 with lasts := L.take j } { g with lv := nv } ∧ wr.ownsRow W2.heap.size 58 2 nv (L.take j).length (pc (L.take j)) ∧ W2.heap.size ≤ wr.heap.size ∧ MovesR B w wr) (fun i _ => m - (intOf i).toNat)
      case atStart => exact ⟨0, _, by omega, rfl, HRR.out, START.out, Nat.le_refl _, HMM.out⟩
      case round =>
        obtain ⟨i, nv, hij, rfl, hr, hown, hsz, hmv⟩ := hrel
        have HR := Lib.hid hr
        have HM := Lib.hid hmv
        have HOWN := Lib.hid hown
        have hBw : B ≤ wr.heap.size := Nat.le_trans hB hmv.size
        clear hr hmv hown START HRR HMM
        have c2 : wr.cell? ⟨r, 2, none⟩ = some (.slice LA m lc) := by
          have h1 := RHalf.cells HR.out 2
          rw [← hm, ← HNV.out]; exact h1
        by_cases hlt : i < m
        · have hil : i < L.length := by rw [HMm.out]; exact hlt
          obtain ⟨A2, cc, e2, hz⟩ := Prs.slice HR.out.body.nrow
          simp only at e2 hz
          rw [HLN.out] at e2
          simp only [HLN.out] at hz
          rw [HNV.out] at e2
          injection e2 with e2 _ _
          obtain ⟨b, hA, hbB, hbw, hc⟩ := hz (by omega)
          rw [hA] at e2
          obtain ⟨z1, z2⟩ := hc wr rfl i hil
          have htk : L.take (i + 1) = L.take i ++ [L[i]] := List.take_succ_eq_append_getElem hil
          have hXl : (L.take i).length = i := by rw [List.length_take]; omega
          obtain ⟨p, hp⟩ : ∃ p, L[i] = p := ⟨_, rfl⟩
          rw [hp] at z1 z2 htk
          obtain ⟨X, hX⟩ : ∃ X, L.take i = X := ⟨_, rfl⟩
          rw [hX] at HR HOWN htk hXl
          obtain ⟨tt, ht, htl⟩ : ∃ t : ByteArray, encS p.1 = .string t ∧ t.data.toList = p.1 := ⟨⟨p.1.toArray⟩, rfl, by simp⟩
          rw [ht] at z1
          have HT := Lib.hid ht
          have HTK := Lib.hid htk
          have HXL := Lib.hid hXl
          have hXm : X.length ≤ 4096 := by omega
          subst e2
          have g0 : (0 : Int) ≤ (i : Int) := by omega
          have g1 : (i : Int) < (m : Int) := by omega
          have c3 : wr.cell? ⟨r, 3, none⟩ = some nv := RHalf.cells HR.out 3
          have f3 := RHalf.frozen HR.out 3
          have hrl := RHalf.lt HR.out
          have HRL := Lib.hid hrl
          have hdq : some r ≠ nv.ownBlock := fun he => by
            have := (World.ownsRow.lt HOWN.out r he.symm).1
            have := HRW.out
            omega
          have HDQ := Lib.hid hdq
          have h1c : ∀ u ∈ [Value.string tt, .int .i64 p.2], u.oneCell' = true := by
            intro u hu
            simp only [List.mem_cons, List.not_mem_nil, or_false] at hu
            rcases hu with rfl | rfl <;> rfl
          have hm1 : X.length + 1 ≤ maxLen := by unfold maxLen; omega
          have hm2 : (X.length + 1) * 24 ≤ 140737488355328 := by omega
          have HFR : Hid (∀ o, (wr.alloc o).frozen? ⟨r, 3, none⟩ = false ∧ (wr.alloc o).cell? ⟨r, 3, none⟩ = some nv) := Lib.hid fun o =>
            ⟨(World.frozen?_of_block (w := wr) (Below.heap_alloc wr o r hrl)).trans f3, (World.cell?_of_block (w := wr) (Below.heap_alloc wr o r hrl)).trans c3⟩
          have k2a := (HFR.out (.cells #[.string tt, .int .i64 p.2] 58)).2
          clear hz hA hc htk hXl hp hX ht htl hrl hdq
          go_wp2_with fail
          go_region_law (
            refine step_append_lies _ (by rfl) _ _ 50 (by rfl) W2.heap.size 58 i0 _ 2 24 Try.underlying50 hi hz0 hz1 hz2 rfl (by omega) nv X.length (pc X) (by rfl) ?_ _ 1 1 [.string tt, .int .i64 p.2] (by rfl) (by rfl) ?_ h1c (by omega) hm1 hm2 ?_ _ (by rfl) ?_
            · first | exact own_drew (World.ownsRow.alloc HOWN.out _) | exact World.ownsRow.alloc (own_drew HOWN.out) _ | fail
            · refine World.news_of_block (cs := #[.string tt, .int .i64 p.2]) (t := 58) (fr := (0, 0)) ?_
              first | exact drew_at _ _ _ (alloc_at _ _ _ (by simp)) | exact alloc_at _ _ _ (by simp) | fail
            · simp; omega
            intro g1 c1 w8 hown8 hgrow8 hat8 hlt8
            have fr8 : w8.frozen? ⟨r, 3, none⟩ = false := by rw [hgrow8.frozen_far _ (by simp; exact Nat.lt_succ_of_lt HRL.out) HDQ.out]; exact (HFR.out _).1
            have k8 : w8.cell? ⟨r, 3, none⟩ = some nv := by rw [hgrow8.cell_far _ (by simp; exact Nat.lt_succ_of_lt HRL.out) HDQ.out]; exact (HFR.out _).2
            have HG8 : Hid (wr.grownBy w8 nv.ownBlock) := alloc_grown ⟨hgrow8.os, hgrow8.tape, hgrow8.output, hgrow8.size, hgrow8.block⟩
            have HOWN8 := Lib.hid hown8
            clear hgrow8 hown8 hat8)
          all_goals
            have hlne : ∀ u, u = g.nv ∨ u ∈ g.qs → u.ownBlock = none ∨ u.ownBlock ≠ nv.ownBlock := fun u hu => by
              rcases HLB.out u hu with h1 | ⟨x, hx, hx2⟩
              · exact .inl h1
              · refine .inr fun he => ?_
                rw [hx] at he
                have := (World.ownsRow.lt HOWN.out x he.symm).1
                omega
            have hown8 : w8.ownsRow W2.heap.size 58 2 (.slice (some ⟨g1, 0, none⟩) (X.length + 1) c1) (L.take (i + 1)).length (pc (L.take (i + 1))) := by
              rw [HTK.out, List.length_append, pc_snoc, HT.out]
              exact HOWN8.out
            have HRR : Hid (RRep B (w8.setCell ⟨r, 3, none⟩ (.slice (some ⟨g1, 0, none⟩) (X.length + 1) c1)) r { t2 with lasts := L.take (i + 1) } { g with lv := .slice (some ⟨g1, 0, none⟩) (X.length + 1) c1 }) :=
              Lib.hid (RRep.growLasts HR.out HG8.out (hlne g.nv (.inl rfl)) (fun u hu => hlne u (.inr hu)) (own_less hown8 hBW))
            have HO9 : Hid ((w8.setCell ⟨r, 3, none⟩ (.slice (some ⟨g1, 0, none⟩) (X.length + 1) c1)).ownsRow W2.heap.size 58 2 (.slice (some ⟨g1, 0, none⟩) (X.length + 1) c1) (L.take (i + 1)).length (pc (L.take (i + 1)))) :=
              Lib.hid (World.ownsRow.kept hown8 (grownBy_setCell w8 ⟨r, 3, none⟩ _) (.inr (by
                have h1 := (World.ownsRow.lt hown8 g1 rfl).1
                have h2 := HRW.out
                intro he
                have he' : g1 = r := Option.some.inj he
                omega)))
            have HS9 : Hid (W2.heap.size ≤ (w8.setCell ⟨r, 3, none⟩ (.slice (some ⟨g1, 0, none⟩) (X.length + 1) c1)).heap.size) := Lib.hid (by rw [setCell_size]; exact Nat.le_trans hsz HG8.out.size)
            have HMM : Hid (MovesR B w (w8.setCell ⟨r, 3, none⟩ (.slice (some ⟨g1, 0, none⟩) (X.length + 1) c1))) :=
              Lib.hid ((HM.out.grown HG8.out hBw (fun k e => ⟨by have := (World.ownsRow.lt HOWN.out k e).1; omega, Or.inr (by have := (World.ownsRow.lt HOWN.out k e).1; have := HWW.out; omega)⟩)).grown (grownBy_setCell w8 ⟨r, 3, none⟩ _) (Nat.le_trans hBw HG8.out.size) (fun k e => by cases e; exact ⟨HR.out.le, Or.inl (RRep.kinGrown HR.out HG8.out HDQ.out)⟩))
            clear hlne hown8 HR HM HOWN HG8 HOWN8 fr8 k8 c2 f3 c3 z1 z2 k2a
            go_wp2
            go_roundw
            case rel => exact ⟨i + 1, _, by omega, by go_num, HRR.out, HO9.out, HS9.out, HMM.out⟩
            case measure => simp [intOf]; omega
        · have him : i = m := by omega
          subst him
          have hLt : L.take i = L := List.take_of_length_le (by rw [HMm.out]; exact Nat.le_refl _)
          rw [hLt] at HR
          have c4 : wr.cell? ⟨r, 4, none⟩ = some g.qv := RHalf.cells HR.out 4
          have f4 := RHalf.frozen HR.out 4
          have HR4 := Lib.hid (RRep.noQueue HR.out)
          have HM3 := Lib.hid (HM.out.set hBw HR.out 4 (.slice none 0 0))
          have hB4 : B ≤ (wr.setCell ⟨r, 4, none⟩ (.slice none 0 0)).heap.size := by rw [setCell_size]; exact hBw
          have HFI := Lib.hid (finish_any HR4.out hB4 0 (Or.inl rfl) (fun e => by cases e))
          clear hLt HOWN HR HM HR4
          go_wp2_with fail
          refine HFI.out.mono ?_
          rintro e w5 ⟨rfl, hr5, hm5⟩
          have HR5 := Lib.hid hr5
          have HM5 := Lib.hid (HM3.out.trans hm5)
          clear hr5 hm5
          go_wp2
          go_ret
          exact ⟨rfl, HR5.out, HM5.out⟩
    · rw [if_neg hc0]
      have hcb : (c == 0) = false := by simp [hc0]
      clear hn4
      go_enter Try.func25, Try.ntmps25
      go_wp2_with fail
      refine HT.out.mono ?_
      rintro e w2 ⟨rfl, hr2, hm2, -⟩
      have HM3 := Lib.hid hm2
      have hBW2 : B ≤ w2.heap.size := Nat.le_trans hB hm2.size
      have HFI := Lib.hid (finish_any hr2 hBW2 c HC3.out DONE.out)
      clear hr2 hm2 hc0 HT
      go_wp2_with fail
      refine HFI.out.mono ?_
      rintro e w5 ⟨rfl, hr5, hm5⟩
      have HR5 := Lib.hid hr5
      have HM5 := Lib.hid (HM3.out.trans hm5)
      clear hr5 hm5
      go_wp2
      go_ret
      exact ⟨rfl, HR5.out, HM5.out⟩
end Go.Proofs.Ytadokmihabfbjaa
