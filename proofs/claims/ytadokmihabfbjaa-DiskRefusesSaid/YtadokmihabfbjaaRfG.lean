/- The reference: Fail. -/
import Derived.Test.YtadokmihabfbjaaRfH
import Derived.Deep.RegionWith
import Derived.Deep.RegionLaw
namespace Go.Proofs.Ytadokmihabfbjaa
open Go.RowKit Go.Maps
open DM

set_option maxRecDepth 100000 in
set_option maxHeartbeats 4000000 in
theorem rfail_any {B : Nat} {w : World} {r : Nat} {t : RS} {g : RV} (h : RRep B w r t g) (hB : B ≤ w.heap.size) (few : RFew t) (names : Int) (hn : fits names) (bv : Value) (l : List Int) (hb : w.ownsRow B 3 1 bv l.length (l.map (Value.int .i64))) (hl : l.length ≤ 140737488355328) (hfit : ∀ x ∈ l, fits x) :
    Calls Try.prog 31 #[.pointer (some ⟨r, 0, none⟩), .int .i64 names, bv] w (RVoid B w r (t.fail names l)) := by
  obtain ⟨QA, qc, hqv, -⟩ := own_at h.body.qrow
  obtain ⟨BA, bc, rfl, -⟩ := own_at hb
  obtain ⟨q, hq⟩ : ∃ q, t.queue.length = q := ⟨_, rfl⟩
  have hqf := few.queue
  have hk := rest_lt names (b := t.queue.length + 1) (by omega)
  obtain ⟨k, hkk⟩ : ∃ k, rest names (t.queue.length + 1) = k := ⟨_, rfl⟩
  have HREM : Hid (∀ W, Calls Try.prog 58 #[.int .i64 names, .int .i64 ((t.queue.length : Int) + 1)] W fun e w' => e = .returned (.int .i64 k) ∧ W = w') := Lib.hid fun W => by
    rw [← hkk]
    have := rrest_any names (t.queue.length + 1) W hn (by omega) (by omega)
    rwa [show ((t.queue.length + 1 : Nat) : Int) = (t.queue.length : Int) + 1 by omega] at this
  have c4 := RHalf.cells h 4
  simp only [rC] at c4
  change w.cell? ⟨r, 4, none⟩ = some g.qv at c4
  rw [hqv] at c4
  have H := Lib.hid h
  have FEW := Lib.hid few
  have HQ := Lib.hid hq
  have HKK := Lib.hid hkk
  have HBV := Lib.hid hb
  have HQV := Lib.hid hqv
  rw [hq] at HREM c4 hqf
  rw [hkk, hq] at hk
  clear h few hqv hb hn hq hkk
  go_enter Try.func31, Try.ntmps31
  go_wp2_with fail
  refine (HREM.out _).mono ?_
  rintro e w0 ⟨rfl, rfl⟩
  clear HREM c4
  go_wp2_with fail
  go_loopw [7] (fun i wr => ∃ (j : Nat) (v : Value), j ≤ k ∧ i = .int .i64 j ∧ RRep B wr r { t with lasts := rpre t.lasts t.queue j } { g with lv := v } ∧ MovesR B w wr) (fun i _ => k - (intOf i).toNat)
  case atStart => exact ⟨0, g.lv, by omega, rfl, H.out, MovesR.refl _ _⟩
  case round =>
    obtain ⟨j, v, hj, rfl, hr, hm⟩ := hrel
    have HR := Lib.hid hr
    have HM := Lib.hid hm
    have hBw : B ≤ wr.heap.size := Nat.le_trans hB hm.size
    clear hr hm
    by_cases hlt : j < k
    · have hjq : j < t.queue.length := by rw [HQ.out]; omega
      have c3 : wr.cell? ⟨r, 3, none⟩ = some v := RHalf.cells HR.out 3
      have f3 := RHalf.frozen HR.out 3
      have c4 : wr.cell? ⟨r, 4, none⟩ = some g.qv := RHalf.cells HR.out 4
      obtain ⟨QA', qc', hqv', hqe⟩ := own_at HR.out.body.qrow
      obtain ⟨ve, hve, hpe⟩ := HR.out.body.ents j hjq
      simp only at hqv' hqe hve hpe
      obtain ⟨b, rfl, hbB, hbw, hbc, -⟩ := hqe (by omega)
      have ce : wr.cell? ⟨b, j, none⟩ = some ve := (hbc j (by omega)).trans hve
      rw [hqv', HQ.out] at c4
      have hlen := FEW.out.pre j (by omega)
      have hx2 := FEW.out.ents _ (List.getElem_mem hjq)
      have hst := rpre_step (l := t.lasts) hjq
      obtain ⟨x, hx⟩ : ∃ x, t.queue[j] = x := ⟨_, rfl⟩
      rw [hx] at hx2 hst hpe
      obtain ⟨L, hL⟩ : ∃ L, rpre t.lasts t.queue j = L := ⟨_, rfl⟩
      rw [hL] at HR hlen hst
      have HAL : Hid (∀ W, Prs B W v L → Prs B W ve x → B ≤ W.heap.size → Calls Try.prog 59 #[v, .agg #[ve]] W fun e w' => ∃ A' n' c', e = .returned (.slice A' n' c') ∧ Prs B w' (.slice A' n' c') (rpre t.lasts t.queue (j + 1)) ∧ Below W.heap.size W w') := Lib.hid fun W h1 h2 h3 => by
        rw [hst]
        refine (rall_any v ve L x W h1 h2 h3 (by omega)).mono ?_
        rintro e w' ⟨v', rfl, h4, h5⟩
        obtain ⟨A', c', rfl, -⟩ := own_at h4
        exact ⟨_, _, _, rfl, h4, h5⟩
      have HP1 : Hid (Prs B wr v L) := HR.out.body.lrow
      have HP2 := Lib.hid hpe
      have hrl := RHalf.lt HR.out
      have HRL := Lib.hid hrl
      have g0 : (0 : Int) ≤ (j : Int) := by omega
      have g1 : (j : Int) < (q : Int) := by omega
      clear hqv' hqe hve hpe hbc hlen hx2 hst hx hL hrl
      go_wp2_with fail
      have HALD := Lib.hid (HAL.out wr.drew HP1.out HP2.out hBw)
      clear HAL
      go_region_with (
        go_at_call 59
        refine HALD.out.mono ?_
        rintro e w2 ⟨A', n', c', rfl, hrow, hB2⟩
        have z3 : w2.cell? ⟨r, 3, none⟩ = some v := (hB2.cell (p := ⟨r, 3, none⟩) HRL.out).trans c3
        have zf : w2.frozen? ⟨r, 3, none⟩ = false := (hB2.frozen (p := ⟨r, 3, none⟩) HRL.out).trans f3
        have HROW := Lib.hid hrow
        have HB2 := Lib.hid hB2
        clear hrow hB2)
      all_goals
        have HRR : Hid (RRep B (w2.setCell ⟨r, 3, none⟩ (.slice A' n' c')) r { t with lasts := rpre t.lasts t.queue (j + 1) } { g with lv := .slice A' n' c' }) :=
          Lib.hid (RRep.setLasts (RRep.below (RRep.drew HR.out) HB2.out) HROW.out)
        have HMM : Hid (MovesR B w (w2.setCell ⟨r, 3, none⟩ (.slice A' n' c'))) :=
          Lib.hid ((HM.out.drew.of_below HB2.out hBw).set (Nat.le_trans hBw HB2.out.size) (RRep.below (RRep.drew HR.out) HB2.out) 3 _)
        clear HR HM HROW HB2 HALD c3 f3 c4 ce z3 zf
        go_wp2
        go_roundw
        case rel => exact ⟨j + 1, _, by omega, by go_num, HRR.out, HMM.out⟩
        case measure => simp [intOf]; omega
    · have hjk : j = k := by omega
      subst hjk
      have HLL : Hid (rpre t.lasts t.queue j = (t.fail names l).lasts) := by
        unfold RS.fail
        rw [HKK.out]
        exact Lib.hid rfl
      have hL4 := FEW.out.pre j (by rw [HQ.out]; omega)
      obtain ⟨L, hL⟩ : ∃ L, rpre t.lasts t.queue j = L := ⟨_, rfl⟩
      rw [hL] at HR HLL hL4
      clear hL
      have c4 : wr.cell? ⟨r, 4, none⟩ = some g.qv := RHalf.cells HR.out 4
      have f4 := RHalf.frozen HR.out 4
      have c2 : wr.cell? ⟨r, 2, none⟩ = some g.nv := RHalf.cells HR.out 2
      have f2 := RHalf.frozen HR.out 2
      have HRR : Hid (RRep B ((wr.setCell ⟨r, 4, none⟩ (.slice none 0 0)).setCell ⟨r, 2, none⟩ (.slice none 0 0)) r { t with lasts := L, queue := [], names := [] } { g with lv := v, qv := .slice none 0 0, qs := [], nv := .slice none 0 0 }) :=
        Lib.hid (RRep.setNames (RRep.noQueue HR.out) (World.ownsRow_nil _ _ _ _))
      have HMM : Hid (MovesR B w ((wr.setCell ⟨r, 4, none⟩ (.slice none 0 0)).setCell ⟨r, 2, none⟩ (.slice none 0 0))) :=
        Lib.hid ((HM.out.set hBw HR.out 4 _).set (by rw [setCell_size]; exact hBw) (RRep.noQueue HR.out) 2 _)
      go_wp2_with fail
      generalize (wr.setCell ⟨r, 4, none⟩ (.slice none 0 0)).setCell ⟨r, 2, none⟩ (.slice none 0 0) = W2 at HRR HMM ⊢
      clear HR HM c4 f4 c2 f2 hBw
      have hBW : B ≤ W2.heap.size := Nat.le_trans hB HMM.out.size
      obtain ⟨LA, lc, hlv, hlz⟩ := Prs.slice HRR.out.body.lrow
      simp only at hlv hlz
      have hlb : v.ownBlock = none ∨ ∃ x, v.ownBlock = some x ∧ x < W2.heap.size := by
        cases hx : v.ownBlock with
        | none => exact .inl rfl
        | some x => exact .inr ⟨x, rfl, (World.ownsRow.lt HRR.out.body.lrow x hx).2⟩
      have HLB := Lib.hid hlb
      have HRW : Hid (r < W2.heap.size) := Lib.hid (RHalf.lt HRR.out)
      have HWW : Hid (w.heap.size ≤ W2.heap.size) := Lib.hid HMM.out.size
      clear hlz hlb
      subst hlv
      obtain ⟨m, hm⟩ : ∃ m, L.length = m := ⟨_, rfl⟩
      have HMm := Lib.hid hm
      have START : Hid (W2.ownsRow W2.heap.size 58 2 (.slice none 0 0) (L.take 0).length (pc (L.take 0))) := Lib.hid (World.ownsRow_nil _ _ _ _)
      obtain ⟨i0, hi, hz0, hz1, hz2⟩ := info_parts info_name
      go_loopw [8] (fun i wr => ∃ (j : Nat) (nv : Value), j ≤ m ∧ i = .int .i64 j ∧ RRep B wr r { t with lasts := L, queue := [], names := L.take j } { g with lv := .slice LA L.length lc, qv := .slice none 0 0, qs := [], nv := nv } ∧ wr.ownsRow W2.heap.size 58 2 nv (L.take j).length (pc (L.take j)) ∧ W2.heap.size ≤ wr.heap.size ∧ MovesR B w wr) (fun i _ => m - (intOf i).toNat)
      case atStart => exact ⟨0, _, by omega, rfl, HRR.out, START.out, Nat.le_refl _, HMM.out⟩
      case round =>
        obtain ⟨i, nv, hij, rfl, hr, hown, hsz, hmv⟩ := hrel
        have HR := Lib.hid hr
        have HM := Lib.hid hmv
        have HOWN := Lib.hid hown
        have hBw : B ≤ wr.heap.size := Nat.le_trans hB hmv.size
        clear hr hmv hown START HRR HMM
        have c3 : wr.cell? ⟨r, 3, none⟩ = some (.slice LA m lc) := by
          have := RHalf.cells HR.out 3
          rw [← hm]; exact this
        by_cases hlt : i < m
        · have hil : i < L.length := by rw [HMm.out]; exact hlt
          obtain ⟨A2, cc, e2, hz⟩ := Prs.slice HR.out.body.lrow
          simp only at e2 hz
          injection e2 with e2 _ _
          obtain ⟨b, hA, hbB, hbw, hc⟩ := hz (by omega)
          rw [hA] at e2
          obtain ⟨z1, z2⟩ := hc wr rfl i hil
          have htk : L.take (i + 1) = L.take i ++ [L[i]] := List.take_succ_eq_append_getElem hil
          have hXl : (L.take i).length = i := by rw [List.length_take]; omega
          obtain ⟨p, hp⟩ : ∃ p, L[i] = p := ⟨_, rfl⟩
          rw [hp] at z1 z2 htk
          obtain ⟨X, hX⟩ : ∃ X, L.take i = X := ⟨_, rfl⟩
          rw [hX] at HR HOWN htk hXl
          obtain ⟨tt, ht, htl⟩ : ∃ t : ByteArray, encS p.1 = .string t ∧ t.data.toList = p.1 := ⟨⟨p.1.toArray⟩, rfl, by simp⟩
          rw [ht] at z1
          have HT := Lib.hid ht
          have HTK := Lib.hid htk
          have HXL := Lib.hid hXl
          have hXm : X.length ≤ 4096 := by omega
          subst e2
          have g0 : (0 : Int) ≤ (i : Int) := by omega
          have g1 : (i : Int) < (m : Int) := by omega
          have c2 : wr.cell? ⟨r, 2, none⟩ = some nv := RHalf.cells HR.out 2
          have f2 := RHalf.frozen HR.out 2
          have hrl := RHalf.lt HR.out
          have HRL := Lib.hid hrl
          have hdq : some r ≠ nv.ownBlock := fun he => by
            have := (World.ownsRow.lt HOWN.out r he.symm).1
            have := HRW.out
            omega
          have HDQ := Lib.hid hdq
          have h1c : ∀ u ∈ [Value.string tt, .int .i64 p.2], u.oneCell' = true := by
            intro u hu
            simp only [List.mem_cons, List.not_mem_nil, or_false] at hu
            rcases hu with rfl | rfl <;> rfl
          have hm1 : X.length + 1 ≤ maxLen := by unfold maxLen; omega
          have hm2 : (X.length + 1) * 24 ≤ 140737488355328 := by omega
          have HFR : Hid (∀ o, (wr.alloc o).frozen? ⟨r, 2, none⟩ = false ∧ (wr.alloc o).cell? ⟨r, 2, none⟩ = some nv) := Lib.hid fun o =>
            ⟨(World.frozen?_of_block (w := wr) (Below.heap_alloc wr o r hrl)).trans f2, (World.cell?_of_block (w := wr) (Below.heap_alloc wr o r hrl)).trans c2⟩
          have k2a := (HFR.out (.cells #[.string tt, .int .i64 p.2] 58)).2
          clear hz hA hc htk hXl hp hX ht htl hrl hdq
          go_wp2_with fail
          go_region_law (
            refine step_append_lies _ (by rfl) _ _ 50 (by rfl) W2.heap.size 58 i0 _ 2 24 Try.underlying50 hi hz0 hz1 hz2 rfl (by omega) nv X.length (pc X) (by rfl) ?_ _ 1 1 [.string tt, .int .i64 p.2] (by rfl) (by rfl) ?_ h1c (by omega) hm1 hm2 ?_ _ (by rfl) ?_
            · first | exact own_drew (World.ownsRow.alloc HOWN.out _) | exact World.ownsRow.alloc (own_drew HOWN.out) _ | fail
            · refine World.news_of_block (cs := #[.string tt, .int .i64 p.2]) (t := 58) (fr := (0, 0)) ?_
              first | exact drew_at _ _ _ (alloc_at _ _ _ (by simp)) | exact alloc_at _ _ _ (by simp) | fail
            · simp; omega
            intro g1 c1 w8 hown8 hgrow8 hat8 hlt8
            have fr8 : w8.frozen? ⟨r, 2, none⟩ = false := by rw [hgrow8.frozen_far _ (by simp; exact Nat.lt_succ_of_lt HRL.out) HDQ.out]; exact (HFR.out _).1
            have k8 : w8.cell? ⟨r, 2, none⟩ = some nv := by rw [hgrow8.cell_far _ (by simp; exact Nat.lt_succ_of_lt HRL.out) HDQ.out]; exact (HFR.out _).2
            have HG8 : Hid (wr.grownBy w8 nv.ownBlock) := alloc_grown ⟨hgrow8.os, hgrow8.tape, hgrow8.output, hgrow8.size, hgrow8.block⟩
            have HOWN8 := Lib.hid hown8
            clear hgrow8 hown8 hat8)
          all_goals
            have hlne : (Value.slice (some ⟨b, 0, none⟩) L.length lc).ownBlock = none ∨ (Value.slice (some ⟨b, 0, none⟩) L.length lc).ownBlock ≠ nv.ownBlock := by
              rcases HLB.out with h1 | ⟨x, hx, hx2⟩
              · exact .inl h1
              · refine .inr fun he => ?_
                rw [hx] at he
                have := (World.ownsRow.lt HOWN.out x he.symm).1
                omega
            have hown8 : w8.ownsRow W2.heap.size 58 2 (.slice (some ⟨g1, 0, none⟩) (X.length + 1) c1) (L.take (i + 1)).length (pc (L.take (i + 1))) := by
              rw [HTK.out, List.length_append, pc_snoc, HT.out]
              exact HOWN8.out
            have HRR : Hid (RRep B (w8.setCell ⟨r, 2, none⟩ (.slice (some ⟨g1, 0, none⟩) (X.length + 1) c1)) r { t with lasts := L, queue := [], names := L.take (i + 1) } { g with lv := .slice (some ⟨b, 0, none⟩) L.length lc, qv := .slice none 0 0, qs := [], nv := .slice (some ⟨g1, 0, none⟩) (X.length + 1) c1 }) :=
              Lib.hid (RRep.growNames HR.out rfl HG8.out hlne (own_less hown8 hBW))
            have HO9 : Hid ((w8.setCell ⟨r, 2, none⟩ (.slice (some ⟨g1, 0, none⟩) (X.length + 1) c1)).ownsRow W2.heap.size 58 2 (.slice (some ⟨g1, 0, none⟩) (X.length + 1) c1) (L.take (i + 1)).length (pc (L.take (i + 1)))) :=
              Lib.hid (World.ownsRow.kept hown8 (grownBy_setCell w8 ⟨r, 2, none⟩ _) (.inr (by
                have h1 := (World.ownsRow.lt hown8 g1 rfl).1
                have h2 := HRW.out
                intro he
                have he' : g1 = r := Option.some.inj he
                omega)))
            have HS9 : Hid (W2.heap.size ≤ (w8.setCell ⟨r, 2, none⟩ (.slice (some ⟨g1, 0, none⟩) (X.length + 1) c1)).heap.size) := Lib.hid (by rw [setCell_size]; exact Nat.le_trans hsz HG8.out.size)
            have HMM : Hid (MovesR B w (w8.setCell ⟨r, 2, none⟩ (.slice (some ⟨g1, 0, none⟩) (X.length + 1) c1))) :=
              Lib.hid ((HM.out.grown HG8.out hBw (fun k e => ⟨by have := (World.ownsRow.lt HOWN.out k e).1; omega, Or.inr (by have := (World.ownsRow.lt HOWN.out k e).1; have := HWW.out; omega)⟩)).grown (grownBy_setCell w8 ⟨r, 2, none⟩ _) (Nat.le_trans hBw HG8.out.size) (fun k e => by cases e; exact ⟨HR.out.le, Or.inl (RRep.kinGrown HR.out HG8.out HDQ.out)⟩))
            clear hlne hown8 HR HM HOWN HG8 HOWN8 fr8 k8 c2 f2 c3 z1 z2
            go_wp2
            go_roundw
            case rel => exact ⟨i + 1, _, by omega, by go_num, HRR.out, HO9.out, HS9.out, HMM.out⟩
            case measure => simp [intOf]; omega
        · have him : i = m := by omega
          subst him
          have hLt : L.take i = L := List.take_of_length_le (by rw [HMm.out]; exact Nat.le_refl _)
          rw [hLt] at HR
          have HG3 : Hid (∃ G3 : RV, RRep B wr r { t with lasts := L, queue := [], names := L } G3) := Lib.hid ⟨_, HR.out⟩
          clear hLt HR HOWN
          obtain ⟨G3, hG3⟩ := HG3.out
          have HR3 := Lib.hid hG3
          clear hG3 HG3
          obtain ⟨fl, hfl⟩ : ∃ fl, t.files.length = fl := ⟨_, rfl⟩
          have HFL := Lib.hid hfl
          have hflf := FEW.out.files
          rw [hfl] at hflf
          have HST3 : Hid (RRep B wr r { t with lasts := L, queue := [], names := L, files := mx l t.files 0 } G3) := Lib.hid (by rw [mx_zero]; exact HR3.out)
          clear hfl
          go_wp2_with fail
          go_loopw [9] (fun i wr => ∃ (j : Nat), j ≤ fl ∧ i = .int .i64 j ∧ RRep B wr r { t with lasts := L, queue := [], names := L, files := mx l t.files j } G3 ∧ MovesR B w wr) (fun i _ => fl - (intOf i).toNat)
          case atStart => exact ⟨0, by omega, rfl, HST3.out, HM.out⟩
          case round =>
            obtain ⟨x3, hx3, rfl, hr3, hm3⟩ := hrel
            have HR := Lib.hid hr3
            have HM3 := Lib.hid hm3
            have hBw3 : B ≤ wr.heap.size := Nat.le_trans hB hm3.size
            clear hr3 hm3 HR3 HST3 HM hBw c3
            obtain ⟨FA, fc, hfv, hfz⟩ := own_at HR.out.body.frow
            simp only at hfv hfz
            rw [mx_len l t.files x3 (by rw [HFL.out]; exact hx3), HFL.out] at hfv hfz
            have c1 : wr.cell? ⟨r, 1, none⟩ = some (.slice FA fl fc) := by rw [← hfv]; exact RHalf.cells HR.out 1
            by_cases hlt : x3 < fl
            · have hxl : x3 < t.files.length := by rw [HFL.out]; exact hlt
              obtain ⟨b, rfl, hbB, hbw, hbc, hbf, -⟩ := hfz (by omega)
              have hml : x3 < (mx l t.files x3).length := by rw [mx_len l t.files x3 (by omega)]; exact hxl
              have hmat : (mx l t.files x3)[x3] = t.files[x3] := by
                have := mx_at l t.files x3 hxl
                rw [List.getElem?_eq_getElem hml] at this
                exact Option.some.inj this
              obtain ⟨z1, z2⟩ := fC_at (mx l t.files x3) x3 hml
              rw [hmat] at z1 z2
              have z1 := (hbc (x3 * 2) (by omega)).trans z1
              have z2 := (hbc (x3 * 2 + 1) (by omega)).trans z2
              have hok := FEW.out.file _ (List.getElem_mem hxl)
              have hst := mx_step l t.files x3 hxl
              obtain ⟨f, hf⟩ : ∃ f, t.files[x3] = f := ⟨_, rfl⟩
              rw [hf] at z1 z2 hok hst
              obtain ⟨tt, ht, htl⟩ : ∃ s : ByteArray, encS f.data = .string s ∧ s.data.toList = f.data := ⟨⟨f.data.toArray⟩, rfl, by simp⟩
              have hts : tt.size = f.data.length := by rw [← htl, size_list]
              rw [ht] at z1
              obtain ⟨x, hx⟩ : ∃ x, l.getD (x3 % l.length) 0 = x := ⟨_, rfl⟩
              have hxf : fits x := by
                rw [← hx, List.getD_eq_getElem?_getD]
                cases h : l[x3 % l.length]? with
                | none => simp [fits]
                | some y => exact hfit y (List.mem_of_getElem? h)
              have hrl := rest_lt x (b := f.data.length - f.sync + 1) (by omega)
              obtain ⟨R, hRr⟩ : ∃ R, rest x (f.data.length - f.sync + 1) = R := ⟨_, rfl⟩
              obtain ⟨K, hK⟩ : ∃ K, f.sync + R = K := ⟨_, rfl⟩
              have hlf : loseF l x3 f = ⟨f.data.take K, K⟩ := by unfold loseF; rw [hx, hRr, hK]
              rw [hlf] at hst
              rw [hRr] at hrl
              have HRM : Hid (∀ W, Calls Try.prog 58 #[.int .i64 x, .int .i64 ((f.data.length - f.sync + 1 : Nat) : Int)] W fun e w' => e = .returned (.int .i64 R) ∧ w' = W) := Lib.hid fun W => by
                rw [← hRr]; exact (rrest_any x _ W hxf (by omega) (by omega)).mono fun _ _ h => ⟨h.1, h.2.symm⟩
              have hR0 : x = 0 → R = 0 := fun e => by rw [← hRr, e]; simp [rest]
              have hKD : K ≤ f.data.length := by omega
              have hsl := fun W => s_head W tt K (by omega)
              have hex : Value.string (tt.extract 0 K) = encS (f.data.take K) := by
                unfold encS
                congr 1
                apply str_ext
                rw [Lib.extract_data, List.drop_zero, Nat.sub_zero, htl]
              obtain ⟨te, hte⟩ : ∃ te, tt.extract 0 K = te := ⟨_, rfl⟩
              rw [hte] at hsl hex
              have HFIN : Hid (∀ W, RRep B W r { t with lasts := L, queue := [], names := L, files := mx l t.files x3 } G3 → RRep B ((W.setCell ⟨b, x3 * 2, none⟩ (.string te)).setCell ⟨b, x3 * 2 + 1, none⟩ (.int .i64 K)) r { t with lasts := L, queue := [], names := L, files := mx l t.files (x3 + 1) } G3) := Lib.hid fun W hW => by
                have := RRep.fileBoth hW hfv x3 hml ⟨f.data.take K, K⟩
                rw [← hex] at this
                rw [hst]
                exact this
              have HKN : Hid (∀ W, RRep B W r { t with lasts := L, queue := [], names := L, files := mx l t.files x3 } G3 → MovesR B w W → B ≤ W.heap.size → MovesR B w ((W.setCell ⟨b, x3 * 2, none⟩ (.string te)).setCell ⟨b, x3 * 2 + 1, none⟩ (.int .i64 K))) := Lib.hid fun W hW hM hBW2 => by
                have hk1 := RRep.fileKin hW hfv
                have h1 := hM.grown (grownBy_setCell W ⟨b, x3 * 2, none⟩ (.string te)) hBW2 (fun k e => by cases e; exact ⟨hk1.2, Or.inl hk1.1⟩)
                have hcur := heap_kin hW hfv
                refine h1.grown (grownBy_setCell _ ⟨b, x3 * 2 + 1, none⟩ (.int .i64 K)) (by rw [setCell_size]; exact hBW2) (fun k e => by
                  cases e
                  obtain ⟨cur, hc⟩ := hcur
                  exact ⟨hk1.2, Or.inl (kinR_cells (heap_set_fr hc (x3 * 2) (.string te)) (by decide))⟩)
              have HWX := Lib.hid hx
              have HBF : Hid (∀ W, RRep B W r { t with lasts := L, queue := [], names := L, files := mx l t.files x3 } G3 → ∀ j, W.frozen? ⟨b, j, none⟩ = false) := Lib.hid fun W hW j => by
                obtain ⟨cur, hc⟩ := heap_kin hW hfv
                exact frozen_of_row _ _ _ _ _ hc
              have HBZ : Hid (∀ W, Below wr.heap.size wr W → W.cell? ⟨r, 1, none⟩ = some (.slice (some ⟨b, 0, none⟩) fl fc) ∧ W.cell? ⟨b, x3 * 2, none⟩ = some (.string tt) ∧ W.cell? ⟨b, x3 * 2 + 1, none⟩ = some (.int .i64 f.sync)) := Lib.hid fun W hW =>
                ⟨(hW.cell (p := ⟨r, 1, none⟩) (RHalf.lt HR.out)).trans c1, (hW.cell (p := ⟨b, x3 * 2, none⟩) hbw).trans z1, (hW.cell (p := ⟨b, x3 * 2 + 1, none⟩) hbw).trans z2⟩
              have hcb : wr.ownsRow B 3 1 (.slice BA l.length bc) l.length (l.map (Value.int .i64)) := own_keep HBV.out (fun b' c' fr' hb' => HM3.out.kept b' _ hb' (fun c'' t'' fr'' e => by injection e with _ e; rw [← e]; decide))
              obtain ⟨S, hS⟩ : ∃ S, f.sync = S := ⟨_, rfl⟩
              obtain ⟨D, hD⟩ : ∃ D, f.data.length = D := ⟨_, rfl⟩
              rw [hS] at hok hrl hK HRM z2 HBZ
              rw [hD] at hok hrl HRM hKD hts
              have HBX : Hid (Below wr.heap.size wr (wr.alloc (.cells #[.string tt, .int .i64 S] 60)) ∧ (wr.alloc (.cells #[.string tt, .int .i64 S] 60)).heap[wr.heap.size]? = some (.cells #[.string tt, .int .i64 S] 60 (0, 0))) := Lib.hid ⟨(Below.refl _ _).alloc (Nat.le_refl _) _, heap_alloc_new wr _⟩
              obtain ⟨M, hM⟩ : ∃ M, D - S + 1 = M := ⟨_, rfl⟩
              rw [hM] at HRM
              have v0 : IntKind.i64.wrap ((D : Int) - (S : Int)) = (D : Int) - (S : Int) := wrapN _ (by omega) (by omega)
              have v1 : (D : Int) - (S : Int) + 1 = (M : Int) := by omega
              have v1' : IntKind.i64.wrap (M : Int) = (M : Int) := wrapN _ (by omega) (by omega)
              have v2' : IntKind.i64.wrap (K : Int) = (K : Int) := wrapN _ (by omega) (by omega)
              have v2 : (S : Int) + (R : Int) = (K : Int) := by omega
              have i0 : (0 : Int) ≤ (x3 : Int) := by omega
              have i1 : (x3 : Int) < (fl : Int) := by omega
              have hKi : (0 : Int) ≤ (K : Int) := by omega
              clear hfv hfz hbc hbf hmat hst hf ht htl hx hxf hRr hlf hex hte hS hD hM hml
              by_cases h0 : l.length = 0
              · have hx0 : x = 0 := by
                  rw [← HWX.out, List.eq_nil_of_length_eq_zero h0]
                  rfl
                obtain rfl : R = 0 := hR0 hx0
                obtain rfl : S = K := by omega
                have n0 : ¬ (0 : Int) < (l.length : Int) := by omega
                have HBW : Hid (Below wr.heap.size wr (wr.alloc (.cells #[.string tt, .int .i64 S] 60))) := Lib.hid HBX.out.1
                have HRW3 := Lib.hid (RRep.below HR.out HBW.out)
                have HMW := Lib.hid (HM3.out.of_below HBW.out hBw3)
                have hBz : B ≤ (wr.alloc (.cells #[.string tt, .int .i64 S] 60)).heap.size := Nat.le_trans hBw3 HBW.out.size
                have x0 : (wr.alloc (.cells #[.string tt, .int .i64 S] 60)).cell? ⟨wr.heap.size, 0, none⟩ = some (.string tt) := cell_of_row _ _ _ _ _ _ HBX.out.2
                have x1 : (wr.alloc (.cells #[.string tt, .int .i64 S] 60)).cell? ⟨wr.heap.size, 1, none⟩ = some (.int .i64 S) := cell_of_row _ _ _ _ _ _ HBX.out.2
                clear HRM HWX hR0 h0
                go_wp2_with fail
                generalize wr.alloc (.cells #[.string tt, .int .i64 S] 60) = wb at HBW HRW3 HMW hBz x0 x1 ⊢
                clear HR HM3 HBX c1 z1 z2
                obtain ⟨y1', y2, y3⟩ := HBZ.out wb HBW.out
                have yf1 := HBF.out wb HRW3.out (x3 * 2)
                have yf2 := HBF.out wb HRW3.out (x3 * 2 + 1)
                have HEND := Lib.hid (And.intro (HFIN.out wb.drew (RRep.drew HRW3.out)) (HKN.out wb.drew (RRep.drew HRW3.out) HMW.out.drew hBz))
                clear HBZ HBF HFIN HKN HRW3 HMW HBW
                go_wp2_with fail
                go_region
                all_goals
                  go_wp2
                  go_roundw
                  case rel => exact ⟨x3 + 1, by omega, by go_num, HEND.out.1, HEND.out.2⟩
                  case measure => simp [intOf]; omega
              · obtain ⟨BA', bc', eb, hbz⟩ := own_at hcb
                injection eb with eb eb1 eb2
                clear eb1
                subst eb2
                obtain ⟨bb, hA, -, hbbw, hbbc, -, -⟩ := hbz (by omega)
                rw [hA] at eb
                have hmod : x3 % l.length < l.length := Nat.mod_lt _ (by omega)
                have hcx := hbbc (x3 % l.length) (by omega)
                have hgx : (l.map (Value.int .i64))[x3 % l.length]? = some (.int .i64 x) := by
                  rw [List.getElem?_map, List.getElem?_eq_getElem hmod, ← HWX.out, List.getD_eq_getElem?_getD, List.getElem?_eq_getElem hmod]
                  rfl
                rw [hgx] at hcx
                obtain ⟨ix, hix⟩ : ∃ i, x3 % l.length = i := ⟨_, rfl⟩
                rw [hix] at hcx hmod
                have hrem : (x3 : Int) % (l.length : Int) = (ix : Int) := by rw [← hix, Int.natCast_emod]
                have n1 : (1 : Int) ≤ (l.length : Int) := by omega
                have n0 : (0 : Int) < (l.length : Int) := by omega
                have j0 : (0 : Int) ≤ (ix : Int) := by omega
                have j1 : (ix : Int) < (l.length : Int) := by omega
                have hcxb := fun W (hW : Below wr.heap.size wr W) => (hW.cell (p := ⟨bb, ix, none⟩) hbbw).trans hcx
                have HCX := Lib.hid hcxb
                subst eb
                have HBW : Hid (Below wr.heap.size wr (wr.alloc (.cells #[.string tt, .int .i64 S] 60))) := Lib.hid HBX.out.1
                have HRW3 := Lib.hid (RRep.below HR.out HBW.out)
                have HMW := Lib.hid (HM3.out.of_below HBW.out hBw3)
                have hBz : B ≤ (wr.alloc (.cells #[.string tt, .int .i64 S] 60)).heap.size := Nat.le_trans hBw3 HBW.out.size
                have x0 : (wr.alloc (.cells #[.string tt, .int .i64 S] 60)).cell? ⟨wr.heap.size, 0, none⟩ = some (.string tt) := cell_of_row _ _ _ _ _ _ HBX.out.2
                have x1 : (wr.alloc (.cells #[.string tt, .int .i64 S] 60)).cell? ⟨wr.heap.size, 1, none⟩ = some (.int .i64 S) := cell_of_row _ _ _ _ _ _ HBX.out.2
                have hcy := HCX.out _ HBW.out
                clear HWX hbz hA hbbc hcx hgx hix hcb hcxb hR0 h0
                go_wp2_with fail
                generalize wr.alloc (.cells #[.string tt, .int .i64 S] 60) = wa at HBW HRW3 HMW hBz x0 x1 hcy ⊢
                clear HR HM3 HBX c1 z1 z2 HCX
                go_quiet ((go_at_call 58; exact Calls.quiet_of_same (HRM.out _)))
                have HBW2 : Hid (Below wr.heap.size wr (wa.drewN nq)) := Lib.hid (below_drewN HBW.out nq)
                have HRW4 := Lib.hid (RRep.drewN HRW3.out nq)
                have HMW4 := Lib.hid (HMW.out.drewN nq)
                have u0 : (wa.drewN nq).cell? ⟨wr.heap.size, 0, none⟩ = some (.string tt) := x0
                have u1 : (wa.drewN nq).cell? ⟨wr.heap.size, 1, none⟩ = some (.int .i64 S) := x1
                have hBWC : B ≤ (wa.drewN nq).heap.size := hBz
                clear HBW HRW3 HMW hBz x0 x1 hcy HRM
                generalize wa.drewN nq = wb at HBW2 HRW4 HMW4 hBWC u0 u1 ⊢
                have HBW := HBW2
                have HRW3 := HRW4
                have HMW := HMW4
                have hBz := hBWC
                clear HBW2 HRW4 HMW4 hBWC
                obtain ⟨y1', y2, y3⟩ := HBZ.out wb HBW.out
                have yf1 := HBF.out wb HRW3.out (x3 * 2)
                have yf2 := HBF.out wb HRW3.out (x3 * 2 + 1)
                have HEND := Lib.hid (And.intro (HFIN.out wb.drew (RRep.drew HRW3.out)) (HKN.out wb.drew (RRep.drew HRW3.out) HMW.out.drew hBz))
                clear HBZ HBF HFIN HKN HRW3 HMW HBW
                go_wp2_with fail
                go_region
                all_goals
                  go_wp2
                  go_roundw
                  case rel => exact ⟨x3 + 1, by omega, by go_num, HEND.out.1, HEND.out.2⟩
                  case measure => simp [intOf]; omega
            · have hxe : x3 = fl := by omega
              subst hxe
              have HE : Hid ({ t with lasts := L, queue := [], names := L, files := mx l t.files x3, cutLeft := 0, brk := 0 } = t.fail names l) := Lib.hid (by
                have h1 : mx l t.files x3 = t.files.mapIdx (loseF l) := by rw [← HFL.out, mx_end]
                have h2 := HLL.out
                rw [h1, h2]
                rfl)
              have c6 : wr.cell? ⟨r, 6, none⟩ = some (.int .i64 t.cutLeft) := RHalf.cells HR.out 6
              have f6 := RHalf.frozen HR.out 6
              have c9 : wr.cell? ⟨r, 9, none⟩ = some (.int .i64 t.brk) := RHalf.cells HR.out 9
              have f9 := RHalf.frozen HR.out 9
              have HEND : Hid (RRep B ((wr.setCell ⟨r, 6, none⟩ (.int .i64 0)).setCell ⟨r, 9, none⟩ (.int .i64 0)) r (t.fail names l) G3) := Lib.hid (by
                rw [← HE.out]
                exact RRep.setBrk (RRep.setCut HR.out 0 0 rfl) 0 0 rfl)
              have HME : Hid (MovesR B w ((wr.setCell ⟨r, 6, none⟩ (.int .i64 0)).setCell ⟨r, 9, none⟩ (.int .i64 0))) :=
                Lib.hid ((HM3.out.set hBw3 HR.out 6 _).set (by rw [setCell_size]; exact hBw3) (RRep.setCut HR.out 0 0 rfl) 9 _)
              clear HE hfv hfz HR HM3
              go_wp2
              go_end0
              exact ⟨rfl, ⟨_, HEND.out⟩, HME.out⟩
end Go.Proofs.Ytadokmihabfbjaa
