/- The reference: Create. Made by gen_rfo.py. -/
import Derived.Test.YtadokmihabfbjaaRfN
namespace Go.Proofs.Ytadokmihabfbjaa
open Go.RowKit Go.Maps
open DM

section
variable {B : Nat} {w w' : World} {r : Nat} {t : RS} {g : RV}
/-- the files' row has grown -/
theorem RRep.growFiles (h : RRep B w r t g) (hg : w.grownBy w' g.fv.ownBlock) {v : Value} {L : List F} (hv : w'.ownsRow B 60 2 v L.length (fC L)) : RRep B (w'.setCell ⟨r, 1, none⟩ v) r { t with files := L } { g with fv := v } := by
  have hk : ∀ (x : Nat) (cs : Array Value) (ty : TypeId) (fr : Nat × Nat), w.heap[x]? = some (.cells cs ty fr) → ty ≠ 60 → w'.heap[x]? = some (.cells cs ty fr) := fun x cs ty fr hx hne =>
    (hg.block x (Array.getElem?_eq_some_iff.1 hx).1 (fun e => by
      rcases h.body.frow.2 with ⟨h1, _⟩ | ⟨_, _, cur, h1, _, h3, _⟩
      · rw [h1] at e; cases e
      · rw [h1] at e
        have e' : x = _ := Option.some.inj e
        subst e'
        rw [h3] at hx
        injection hx with hx
        injection hx with _ hx
        exact hne hx.symm)).trans hx
  have hbody : RBody B w' L t.names t.lasts t.queue t.cutBytes { g with fv := v } :=
    ⟨hv, own_keep h.body.nrow (fun x cs fr hx => hk x cs _ fr hx (by decide)), own_keep h.body.lrow (fun x cs fr hx => hk x cs _ fr hx (by decide)), own_keep h.body.qrow (fun x cs fr hx => hk x cs _ fr hx (by decide)), fun i hi => by
      obtain ⟨u, h1, h2⟩ := h.body.ents i hi
      exact ⟨u, h1, own_keep h2 (fun x cs fr hx => hk x cs _ fr hx (by decide))⟩, own_keep h.body.crow (fun x cs fr hx => hk x cs _ fr hx (by decide))⟩
  have hh : RHalf B w' r L t.names t.lasts t.queue t.cutBytes { g with fv := v } (rC t g) := ⟨hbody, hk _ _ _ _ h.at_ (by decide), h.le⟩
  have hs := hh.set 1 v
  exact ⟨hs.body, hs.at_, hs.le⟩
end

theorem fC_snoc (l : List F) (f : F) : fC (l ++ [f]) = fC l ++ [encS f.data, .int .i64 f.sync] := by simp [fC]
theorem info_file : (Try.prog.info? 60).map (fun i => (i.zero, i.size, i.bytes)) = some (some (.agg #[.string ⟨#[]⟩, .int .i64 0]), 2, 24) := by kernel_rfl

set_option maxRecDepth 100000 in
set_option maxHeartbeats 8000000 in
theorem rcreate_any {B : Nat} {w : World} {r : Nat} {t : RS} {g : RV} (h : RRep B w r t g) (hB : B ≤ w.heap.size) (k : ByteArray) (few : RFew t)
    (goodA : t.names.length < 4096 → t.brk ≠ 1 ∨ t.cutLeft = 1 → RGood { t with files := t.files ++ [⟨[], 0⟩] } [(k.data.toList, (t.files.length : Int))]) (goodB : ¬ (t.brk ≠ 1 ∨ t.cutLeft = 1) → RGood t [(k.data.toList, (t.files.length : Int) - 1)]) :
    Calls Try.prog 22 #[.pointer (some ⟨r, 0, none⟩), .string k] w (ROut B w r (t.create k.data.toList)) := by
  have c5 : w.cell? ⟨r, 5, none⟩ = some (.bool t.off) := RHalf.cells h 5
  have c2 : w.cell? ⟨r, 2, none⟩ = some g.nv := RHalf.cells h 2
  by_cases ho : t.off = true
  · have hr : t.create k.data.toList = (13, t) := by unfold RS.create; rw [if_pos ho]
    rw [hr]
    rw [ho] at c5
    clear hr ho few goodA goodB
    go_enter Try.func22, Try.ntmps22
    go_wp2
    go_ret
    exact ⟨rfl, ⟨_, h⟩, MovesR.refl _ _⟩
  · have hof : t.off = false := by simpa using ho
    rw [hof] at c5
    by_cases hk0 : k.data.toList = []
    · have hr : t.create k.data.toList = (2, t) := by unfold RS.create; rw [if_neg ho, if_pos (Or.inl hk0)]
      rw [hr]
      have hk : k = ⟨#[]⟩ := str_ext hk0
      subst hk
      clear hr ho few goodA goodB hk0
      go_enter Try.func22, Try.ntmps22
      go_wp2
      go_ret
      exact ⟨rfl, ⟨_, h⟩, MovesR.refl _ _⟩
    · have hkn : (k.toList == []) = false := by rw [beq_eq_false_iff_ne, ByteArray.toList_eq]; exact hk0
      by_cases hk64 : 64 < k.data.toList.length
      · have hr : t.create k.data.toList = (2, t) := by unfold RS.create; rw [if_neg ho, if_pos (Or.inr hk64)]
        rw [hr]
        have hks : (64 : Int) < (k.size : Int) := by have := size_list k; omega
        clear hr ho few goodA goodB hk0 hk64
        go_enter Try.func22, Try.ntmps22
        go_wp2
        go_ret
        exact ⟨rfl, ⟨_, h⟩, MovesR.refl _ _⟩
      · have hks : ¬ (64 : Int) < (k.size : Int) := by have := size_list k; omega
        have hkb : ¬ (k.data.toList = [] ∨ 64 < k.data.toList.length) := by rintro (h1 | h1); exact hk0 h1; exact hk64 h1
        have HF := Lib.hid (rfind_any g.nv t.names k w h.body.nrow (by have := few.names; omega))
        rw [rfind_eq] at HF
        have H := Lib.hid h
        obtain ⟨NA, nc, hnv, -⟩ := Prs.slice h.body.nrow
        rw [hnv] at c2 HF
        have hn4 := few.names
        have hrl := RHalf.lt h
        obtain ⟨nl, hnl⟩ : ∃ n, t.names.length = n := ⟨_, rfl⟩
        rw [hnl] at c2 HF hn4
        have HC2 : Hid (∀ W, Below w.heap.size w W → W.cell? ⟨r, 2, none⟩ = some (.slice NA nl nc)) := Lib.hid fun W hW => (hW.cell (p := ⟨r, 2, none⟩) hrl).trans c2
        by_cases hf : 0 ≤ rfind' t.names k.data.toList
        · have hr : t.create k.data.toList = (11, t) := by unfold RS.create; rw [if_neg ho, if_neg hkb, if_pos hf]
          rw [hr]
          obtain ⟨f, hff⟩ : ∃ f, rfind' t.names k.data.toList = f := ⟨_, rfl⟩
          rw [hff] at HF hf
          clear hr ho hof few goodA goodB h hff hk0 hk64 hkb hnv hnl hrl
          go_enter Try.func22, Try.ntmps22
          go_wp2_with fail
          refine HF.out.mono ?_
          rintro e w1 ⟨rfl, hB1⟩
          have HB1 := Lib.hid hB1
          clear hB1
          go_wp2
          go_ret
          exact ⟨rfl, ⟨_, RRep.below H.out HB1.out⟩, (MovesR.refl B w).of_below HB1.out hB⟩
        · by_cases hfull : 4096 ≤ nl
          · have hr : t.create k.data.toList = (12, t) := by unfold RS.create; rw [if_neg ho, if_neg hkb, if_neg hf, if_pos (by rw [hnl]; exact hfull)]
            rw [hr]
            have hfi : (4096 : Int) ≤ (nl : Int) := by omega
            obtain ⟨f, hff⟩ : ∃ f, rfind' t.names k.data.toList = f := ⟨_, rfl⟩
            rw [hff] at HF hf
            clear hr ho hof few goodA goodB h hff hk0 hk64 hkb hnv hnl hrl
            go_enter Try.func22, Try.ntmps22
            go_wp2_with fail
            refine HF.out.mono ?_
            rintro e w1 ⟨rfl, hB1⟩
            have HB1 := Lib.hid hB1
            have d2 := HC2.out w1 hB1
            clear hB1
            go_wp2
            go_ret
            exact ⟨rfl, ⟨_, RRep.below H.out HB1.out⟩, (MovesR.refl B w).of_below HB1.out hB⟩
          · have hfi : ¬ (4096 : Int) ≤ (nl : Int) := by omega
            have c9 : w.cell? ⟨r, 9, none⟩ = some (.int .i64 t.brk) := RHalf.cells h 9
            have c6 : w.cell? ⟨r, 6, none⟩ = some (.int .i64 t.cutLeft) := RHalf.cells h 6
            obtain ⟨FA, fc, hfv, -⟩ := own_at h.body.frow
            have c1 : w.cell? ⟨r, 1, none⟩ = some g.fv := RHalf.cells h 1
            have HCL : Hid (∀ W, Below w.heap.size w W → W.cell? ⟨r, 9, none⟩ = some (.int .i64 t.brk) ∧ W.cell? ⟨r, 6, none⟩ = some (.int .i64 t.cutLeft) ∧ W.cell? ⟨r, 1, none⟩ = some g.fv) := Lib.hid fun W hW =>
              ⟨(hW.cell (p := ⟨r, 9, none⟩) hrl).trans c9, (hW.cell (p := ⟨r, 6, none⟩) hrl).trans c6, (hW.cell (p := ⟨r, 1, none⟩) hrl).trans c1⟩
            have hff := few.files
            by_cases hcond : t.brk ≠ 1 ∨ t.cutLeft = 1
            · have hr : t.create k.data.toList = ({ t with files := t.files ++ [⟨[], 0⟩] } : RS).names' [(k.data.toList, (t.files.length : Int))] := by
                unfold RS.create; rw [if_neg ho, if_neg hkb, if_neg hf, if_neg (by rw [hnl]; exact hfull), if_pos hcond]
              rw [hr]
              have ga := goodA (by omega) hcond
              have HN : Hid (∀ W g', RRep B W r { t with files := t.files ++ [⟨[], 0⟩] } g' → B ≤ W.heap.size → Calls Try.prog 55 #[.pointer (some ⟨r, 0, none⟩), .agg #[.slice (some ⟨W.heap.size, 0, none⟩) 1 1]] (W.alloc (.cells #[.string k, .int .i64 (t.files.length : Nat)] 58)) (ROut B (W.alloc (.cells #[.string k, .int .i64 (t.files.length : Nat)] 58)) r (({ t with files := t.files ++ [⟨[], 0⟩] } : RS).names' [(k.data.toList, (t.files.length : Int))]))) := Lib.hid fun W g' hW hBW =>
                names_any (RHalf.alloc hW _) (by simp; omega) ga.few _ [(k.data.toList, (t.files.length : Int))] (prs_new _ _ 1 rfl (by simp [pc, enc_str]) (by unfold maxLen; omega) hBW) (by simp) ga.bc ga.bb ga.done
              have HGF : Hid (∀ W W' v, RRep B W r t g → W.grownBy W' g.fv.ownBlock → W'.ownsRow B 60 2 v (t.files.length + 1) (fC t.files ++ [.string ⟨#[]⟩, .int .i64 0]) → RRep B (W'.setCell ⟨r, 1, none⟩ v) r { t with files := t.files ++ [⟨[], 0⟩] } { g with fv := v }) := Lib.hid fun W W' v hW hg hv => by
                refine RRep.growFiles hW hg ?_
                rw [List.length_append, fC_snoc]
                exact hv
              have HFR0 : Hid (∀ W, RRep B W r t g → W.ownsRow B 60 2 g.fv t.files.length (fC t.files)) := Lib.hid fun W hW => hW.body.frow
              obtain ⟨tA, htA⟩ : ∃ tA, ({ t with files := t.files ++ [⟨[], 0⟩] } : RS) = tA := ⟨_, rfl⟩
              rw [htA] at HN HGF ⊢
              have hb1 : ((t.brk : Int) != 1) = true ∨ (((t.brk : Int) != 1) = false ∧ ((t.cutLeft : Int) == 1) = true) := by
                by_cases hq : t.brk = 1
                · right
                  refine ⟨by rw [hq]; rfl, ?_⟩
                  rcases hcond with h1 | h1
                  · exact absurd hq h1
                  · rw [h1]; rfl
                · left
                  rw [bne_iff_ne]; omega
              obtain ⟨fl, hfl⟩ : ∃ n, t.files.length = n := ⟨_, rfl⟩
              rw [hfl] at HN HGF HFR0 hff ⊢
              have hvv : (fl : Int) + 1 - 1 = (fl : Int) := by omega
              obtain ⟨bk, hbk⟩ : ∃ b, (t.brk : Int) = b := ⟨_, rfl⟩
              obtain ⟨ck, hck⟩ : ∃ b, (t.cutLeft : Int) = b := ⟨_, rfl⟩
              rw [hbk, hck] at HCL hb1
              obtain ⟨f, hff2⟩ : ∃ f, rfind' t.names k.data.toList = f := ⟨_, rfl⟩
              rw [hff2] at HF hf
              obtain ⟨i0, hi, hz0, hz1, hz2⟩ := info_parts info_file
              have HXS : Hid (∀ W, RRep B W r t g → some r ≠ g.fv.ownBlock) := Lib.hid fun W hW he => by
                rcases own_ne hW.body.frow hW.at_ (by intro c e; injection e with _ e; exact absurd e (by decide)) with h1 | h1
                · rw [h1] at he; cases he
                · exact h1 he.symm
              have hm1 : fl + 1 ≤ maxLen := by unfold maxLen; omega
              have hm2 : (fl + 1) * 24 ≤ 140737488355328 := by omega
              clear hr ho hof few goodA goodB h hff2 hk0 hk64 hkb hnv hnl hrl ga htA hcond hfl hbk hck c9 c6 c1 hfv hfull
              rcases hb1 with hb1 | ⟨hb1, hb2⟩
              · go_enter Try.func22, Try.ntmps22
                go_wp2_with fail
                refine HF.out.mono ?_
                rintro e w1 ⟨rfl, hB1⟩
                have d2 := HC2.out w1 hB1
                obtain ⟨d9, d6, d1⟩ := HCL.out w1 hB1
                have HM1 := Lib.hid ((MovesR.refl B w).of_below hB1 hB)
                have hBW : B ≤ w1.heap.size := Nat.le_trans hB hB1.size
                have HR1 := Lib.hid (RRep.below H.out hB1)
                have f1 := RHalf.frozen HR1.out 1
                have hrl1 := RHalf.lt HR1.out
                have HRL1 := Lib.hid hrl1
                have HOW := Lib.hid (HFR0.out w1 HR1.out)
                have HDQ := Lib.hid (HXS.out w1 HR1.out)
                have HFR : Hid (∀ o, (w1.alloc o).frozen? ⟨r, 1, none⟩ = false ∧ (w1.alloc o).cell? ⟨r, 1, none⟩ = some g.fv) := Lib.hid fun o =>
                  ⟨(World.frozen?_of_block (w := w1) (Below.heap_alloc w1 o r hrl1)).trans f1, (World.cell?_of_block (w := w1) (Below.heap_alloc w1 o r hrl1)).trans d1⟩
                have k2a := (HFR.out (.cells #[.string ⟨#[]⟩, .int .i64 0] 60)).2
                have h1c : ∀ u ∈ [Value.string ⟨#[]⟩, .int .i64 0], u.oneCell' = true := by
                  intro u hu
                  simp only [List.mem_cons, List.not_mem_nil, or_false] at hu
                  rcases hu with rfl | rfl <;> rfl
                clear hB1 HF HCL HC2 hrl1 HFR0 HXS
                go_wp2_with (at_builtin; refine wpList_append_lies _ rfl _ _ 49 rfl B 60 i0 _ 2 24 Try.underlying49 hi hz0 hz1 hz2 rfl (by decide) g.fv fl (fC t.files) rfl (World.ownsRow.alloc HOW.out _) ⟨w1.heap.size, 0, none⟩ 1 1 [.string ⟨#[]⟩, .int .i64 0] rfl rfl (two_cells w1 _ _ _) h1c (by decide) hm1 hm2 ?c6 _ rfl ?_)
                case c6 =>
                  simp
                  try omega
                intro g1 c1 w8 hown8 hgrow8 hat8 hlt8
                have fr8 : w8.frozen? ⟨r, 1, none⟩ = false := by rw [hgrow8.frozen_far _ (by simp; exact Nat.lt_succ_of_lt HRL1.out) HDQ.out]; exact (HFR.out _).1
                have k8 : w8.cell? ⟨r, 1, none⟩ = some g.fv := by rw [hgrow8.cell_far _ (by simp; exact Nat.lt_succ_of_lt HRL1.out) HDQ.out]; exact (HFR.out _).2
                have HG8 : Hid (w1.grownBy w8 g.fv.ownBlock) := alloc_grown hgrow8
                have HOWN8 := Lib.hid hown8
                clear hgrow8 hown8 hat8
                have HR9 := Lib.hid (HGF.out w1 w8 (.slice (some ⟨g1, 0, none⟩) (fl + 1) c1) HR1.out HG8.out HOWN8.out)
                have hB9 : B ≤ (w8.setCell ⟨r, 1, none⟩ (.slice (some ⟨g1, 0, none⟩) (fl + 1) c1)).heap.size := by rw [setCell_size]; exact Nat.le_trans hBW HG8.out.size
                have HM9 : Hid (MovesR B w (w8.setCell ⟨r, 1, none⟩ (.slice (some ⟨g1, 0, none⟩) (fl + 1) c1))) :=
                  Lib.hid ((HM1.out.grown HG8.out hBW (fun k e => ⟨(World.ownsRow.lt HOW.out k e).1, Or.inl (own_kinR HOW.out (by decide) k e)⟩)).grown (grownBy_setCell w8 ⟨r, 1, none⟩ _) (Nat.le_trans hBW HG8.out.size) (fun k e => by cases e; exact ⟨HR1.out.le, Or.inl (RRep.kinGrown HR1.out HG8.out HDQ.out)⟩))
                have e1 : (w8.setCell ⟨r, 1, none⟩ (.slice (some ⟨g1, 0, none⟩) (fl + 1) c1)).cell? ⟨r, 1, none⟩ = some (.slice (some ⟨g1, 0, none⟩) (fl + 1) c1) := World.cell?_setCell_same _ _ _ k8
                have HN1 := Lib.hid (HN.out _ _ HR9.out hB9)
                rw [setCell_size] at HN1
                go_wp2_with fail
                refine HN1.out.mono ?_
                rintro e w2 ⟨rfl, hr2, hm2⟩
                have HR2 := Lib.hid hr2
                have HM2 := Lib.hid ((HM9.out.alloc hB9 _).trans hm2)
                clear hr2 hm2
                go_wp2
                go_ret
                exact ⟨rfl, HR2.out, HM2.out⟩
              · go_enter Try.func22, Try.ntmps22
                go_wp2_with fail
                refine HF.out.mono ?_
                rintro e w1 ⟨rfl, hB1⟩
                have d2 := HC2.out w1 hB1
                obtain ⟨d9, d6, d1⟩ := HCL.out w1 hB1
                have HM1 := Lib.hid ((MovesR.refl B w).of_below hB1 hB)
                have hBW : B ≤ w1.heap.size := Nat.le_trans hB hB1.size
                have HR1 := Lib.hid (RRep.below H.out hB1)
                have f1 := RHalf.frozen HR1.out 1
                have hrl1 := RHalf.lt HR1.out
                have HRL1 := Lib.hid hrl1
                have HOW := Lib.hid (HFR0.out w1 HR1.out)
                have HDQ := Lib.hid (HXS.out w1 HR1.out)
                have HFR : Hid (∀ o, (w1.alloc o).frozen? ⟨r, 1, none⟩ = false ∧ (w1.alloc o).cell? ⟨r, 1, none⟩ = some g.fv) := Lib.hid fun o =>
                  ⟨(World.frozen?_of_block (w := w1) (Below.heap_alloc w1 o r hrl1)).trans f1, (World.cell?_of_block (w := w1) (Below.heap_alloc w1 o r hrl1)).trans d1⟩
                have k2a := (HFR.out (.cells #[.string ⟨#[]⟩, .int .i64 0] 60)).2
                have h1c : ∀ u ∈ [Value.string ⟨#[]⟩, .int .i64 0], u.oneCell' = true := by
                  intro u hu
                  simp only [List.mem_cons, List.not_mem_nil, or_false] at hu
                  rcases hu with rfl | rfl <;> rfl
                clear hB1 HF HCL HC2 hrl1 HFR0 HXS
                go_wp2_with (at_builtin; refine wpList_append_lies _ rfl _ _ 49 rfl B 60 i0 _ 2 24 Try.underlying49 hi hz0 hz1 hz2 rfl (by decide) g.fv fl (fC t.files) rfl (World.ownsRow.alloc HOW.out _) ⟨w1.heap.size, 0, none⟩ 1 1 [.string ⟨#[]⟩, .int .i64 0] rfl rfl (two_cells w1 _ _ _) h1c (by decide) hm1 hm2 ?c6 _ rfl ?_)
                case c6 =>
                  simp
                  try omega
                intro g1 c1 w8 hown8 hgrow8 hat8 hlt8
                have fr8 : w8.frozen? ⟨r, 1, none⟩ = false := by rw [hgrow8.frozen_far _ (by simp; exact Nat.lt_succ_of_lt HRL1.out) HDQ.out]; exact (HFR.out _).1
                have k8 : w8.cell? ⟨r, 1, none⟩ = some g.fv := by rw [hgrow8.cell_far _ (by simp; exact Nat.lt_succ_of_lt HRL1.out) HDQ.out]; exact (HFR.out _).2
                have HG8 : Hid (w1.grownBy w8 g.fv.ownBlock) := alloc_grown hgrow8
                have HOWN8 := Lib.hid hown8
                clear hgrow8 hown8 hat8
                have HR9 := Lib.hid (HGF.out w1 w8 (.slice (some ⟨g1, 0, none⟩) (fl + 1) c1) HR1.out HG8.out HOWN8.out)
                have hB9 : B ≤ (w8.setCell ⟨r, 1, none⟩ (.slice (some ⟨g1, 0, none⟩) (fl + 1) c1)).heap.size := by rw [setCell_size]; exact Nat.le_trans hBW HG8.out.size
                have HM9 : Hid (MovesR B w (w8.setCell ⟨r, 1, none⟩ (.slice (some ⟨g1, 0, none⟩) (fl + 1) c1))) :=
                  Lib.hid ((HM1.out.grown HG8.out hBW (fun k e => ⟨(World.ownsRow.lt HOW.out k e).1, Or.inl (own_kinR HOW.out (by decide) k e)⟩)).grown (grownBy_setCell w8 ⟨r, 1, none⟩ _) (Nat.le_trans hBW HG8.out.size) (fun k e => by cases e; exact ⟨HR1.out.le, Or.inl (RRep.kinGrown HR1.out HG8.out HDQ.out)⟩))
                have e1 : (w8.setCell ⟨r, 1, none⟩ (.slice (some ⟨g1, 0, none⟩) (fl + 1) c1)).cell? ⟨r, 1, none⟩ = some (.slice (some ⟨g1, 0, none⟩) (fl + 1) c1) := World.cell?_setCell_same _ _ _ k8
                have HN1 := Lib.hid (HN.out _ _ HR9.out hB9)
                rw [setCell_size] at HN1
                go_wp2_with fail
                refine HN1.out.mono ?_
                rintro e w2 ⟨rfl, hr2, hm2⟩
                have HR2 := Lib.hid hr2
                have HM2 := Lib.hid ((HM9.out.alloc hB9 _).trans hm2)
                clear hr2 hm2
                go_wp2
                go_ret
                exact ⟨rfl, HR2.out, HM2.out⟩
            · have hr : t.create k.data.toList = t.names' [(k.data.toList, (t.files.length : Int) - 1)] := by
                unfold RS.create; rw [if_neg ho, if_neg hkb, if_neg hf, if_neg (by rw [hnl]; exact hfull), if_neg hcond]
              rw [hr]
              have gb := goodB hcond
              have HN : Hid (∀ W g', RRep B W r t g' → B ≤ W.heap.size → Calls Try.prog 55 #[.pointer (some ⟨r, 0, none⟩), .agg #[.slice (some ⟨W.heap.size, 0, none⟩) 1 1]] (W.alloc (.cells #[.string k, .int .i64 ((t.files.length : Int) - 1)] 58)) (ROut B (W.alloc (.cells #[.string k, .int .i64 ((t.files.length : Int) - 1)] 58)) r (t.names' [(k.data.toList, (t.files.length : Int) - 1)]))) := Lib.hid fun W g' hW hBW =>
                names_any (RHalf.alloc hW _) (by simp; omega) gb.few _ [(k.data.toList, (t.files.length : Int) - 1)] (prs_new _ _ 1 rfl (by simp [pc, enc_str]) (by unfold maxLen; omega) hBW) (by simp) gb.bc gb.bb gb.done
              have hb1 : ((t.brk : Int) != 1) = false := by
                by_cases hq : t.brk = 1
                · rw [hq]; rfl
                · exact absurd (Or.inl hq) hcond
              have hb2 : ((t.cutLeft : Int) == 1) = false := by
                by_cases hq : t.cutLeft = 1
                · exact absurd (Or.inr hq) hcond
                · rw [beq_eq_false_iff_ne]; omega
              rw [hfv] at HCL
              obtain ⟨fl, hfl⟩ : ∃ n, t.files.length = n := ⟨_, rfl⟩
              rw [hfl] at HN HCL hff ⊢
              obtain ⟨bk, hbk⟩ : ∃ b, (t.brk : Int) = b := ⟨_, rfl⟩
              obtain ⟨ck, hck⟩ : ∃ b, (t.cutLeft : Int) = b := ⟨_, rfl⟩
              rw [hbk] at HCL hb1
              rw [hck] at HCL hb2
              obtain ⟨f, hff2⟩ : ∃ f, rfind' t.names k.data.toList = f := ⟨_, rfl⟩
              rw [hff2] at HF hf
              clear hr ho hof few goodA goodB h hff2 hk0 hk64 hkb hnv hnl hrl gb hcond hfl hbk hck c9 c6 c1 hfv hfull
              go_enter Try.func22, Try.ntmps22
              go_wp2_with fail
              refine HF.out.mono ?_
              rintro e w1 ⟨rfl, hB1⟩
              have d2 := HC2.out w1 hB1
              obtain ⟨d9, d6, d1⟩ := HCL.out w1 hB1
              have HM1 := Lib.hid ((MovesR.refl B w).of_below hB1 hB)
              have hBW : B ≤ w1.heap.size := Nat.le_trans hB hB1.size
              have HN1 := Lib.hid (HN.out w1 g (RRep.below H.out hB1) hBW)
              clear hB1 HN HF HCL HC2
              go_wp2_with fail
              refine HN1.out.mono ?_
              rintro e w2 ⟨rfl, hr2, hm2⟩
              have HR2 := Lib.hid hr2
              have HM2 := Lib.hid ((HM1.out.alloc hBW _).trans hm2)
              clear hr2 hm2
              go_wp2
              go_ret
              exact ⟨rfl, HR2.out, HM2.out⟩
end Go.Proofs.Ytadokmihabfbjaa
