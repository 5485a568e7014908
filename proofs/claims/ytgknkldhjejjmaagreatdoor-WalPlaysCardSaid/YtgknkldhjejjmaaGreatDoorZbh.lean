/- Texts joined by bundle.py: RfO, RfP. -/
import Derived.Test.YtgknkldhjejjmaaGreatDoorZbg

/- The reference: Create. Made by gen_rfo.py. -/
namespace Go.Proofs.YtgknkldhjejjmaaGreatDoor
open Go.RowKit Go.Maps
open DM

section
variable {B : Nat} {w w' : World} {r : Nat} {t : RS} {g : RV}
/-- the files' row has grown -/
theorem RRep.growFiles (h : RRep B w r t g) (hg : w.grownBy w' g.fv.ownBlock) {v : Value} {L : List F} (hv : w'.ownsRow B 90 2 v L.length (fC L)) : RRep B (w'.setCell ⟨r, 1, none⟩ v) r { t with files := L } { g with fv := v } := by
  have hk : ∀ (x : Nat) (cs : Array Value) (ty : TypeId) (fr : Nat × Nat), w.heap[x]? = some (.cells cs ty fr) → ty ≠ 90 → w'.heap[x]? = some (.cells cs ty fr) := fun x cs ty fr hx hne =>
    (hg.block x (Array.getElem?_eq_some_iff.1 hx).1 (fun e => by
      rcases h.body.frow.2 with ⟨h1, _⟩ | ⟨_, _, cur, h1, _, h3, _⟩
      · rw [h1] at e; cases e
      · rw [h1] at e
        have e' : x = _ := Option.some.inj e
        subst e'
        rw [h3] at hx
        injection hx with hx
        injection hx with _ hx
        exact hne hx.symm)).trans hx
  have hbody : RBody B w' L t.names t.lasts t.queue t.cutBytes { g with fv := v } :=
    ⟨hv, own_keep h.body.nrow (fun x cs fr hx => hk x cs _ fr hx (by decide)), own_keep h.body.lrow (fun x cs fr hx => hk x cs _ fr hx (by decide)), own_keep h.body.qrow (fun x cs fr hx => hk x cs _ fr hx (by decide)), fun i hi => by
      obtain ⟨u, h1, h2⟩ := h.body.ents i hi
      exact ⟨u, h1, own_keep h2 (fun x cs fr hx => hk x cs _ fr hx (by decide))⟩, own_keep h.body.crow (fun x cs fr hx => hk x cs _ fr hx (by decide))⟩
  have hh : RHalf B w' r L t.names t.lasts t.queue t.cutBytes { g with fv := v } (rC t g) := ⟨hbody, hk _ _ _ _ h.at_ (by decide), h.le⟩
  have hs := hh.set 1 v
  exact ⟨hs.body, hs.at_, hs.le⟩
end

theorem fC_snoc (l : List F) (f : F) : fC (l ++ [f]) = fC l ++ [encS f.data, .int .i64 f.sync] := by simp [fC]
theorem info_file : (Tryz.prog.info? 90).map (fun i => (i.zero, i.size, i.bytes)) = some (some (.agg #[.string ⟨#[]⟩, .int .i64 0]), 2, 24) := by kernel_rfl

set_option maxRecDepth 100000 in
set_option maxHeartbeats 8000000 in
theorem rcreate_any {B : Nat} {w : World} {r : Nat} {t : RS} {g : RV} (h : RRep B w r t g) (hB : B ≤ w.heap.size) (k : ByteArray) (few : RFew t)
    (goodA : t.names.length < 4096 → t.brk ≠ 1 ∨ t.cutLeft = 1 → RGood { t with files := t.files ++ [⟨[], 0⟩] } [(k.data.toList, (t.files.length : Int))]) (goodB : ¬ (t.brk ≠ 1 ∨ t.cutLeft = 1) → RGood t [(k.data.toList, (t.files.length : Int) - 1)]) :
    Calls Tryz.prog 23 #[.pointer (some ⟨r, 0, none⟩), .string k] w (ROut B w r (t.create k.data.toList)) := by
  have c5 : w.cell? ⟨r, 5, none⟩ = some (.bool t.off) := RHalf.cells h 5
  have c2 : w.cell? ⟨r, 2, none⟩ = some g.nv := RHalf.cells h 2
  by_cases ho : t.off = true
  · have hr : t.create k.data.toList = (13, t) := by unfold RS.create; rw [if_pos ho]
    rw [hr]
    rw [ho] at c5
    clear hr ho few goodA goodB
    go_enter Tryz.func23, Tryz.ntmps23
    go_wp2
    go_ret
    exact ⟨rfl, ⟨_, h⟩, MovesR.refl _ _⟩
  · have hof : t.off = false := by simpa using ho
    rw [hof] at c5
    by_cases hk0 : k.data.toList = []
    · have hr : t.create k.data.toList = (2, t) := by unfold RS.create; rw [if_neg ho, if_pos (Or.inl hk0)]
      rw [hr]
      have hk : k = ⟨#[]⟩ := str_ext hk0
      subst hk
      clear hr ho few goodA goodB hk0
      go_enter Tryz.func23, Tryz.ntmps23
      go_wp2
      go_ret
      exact ⟨rfl, ⟨_, h⟩, MovesR.refl _ _⟩
    · have hkn : (k.toList == []) = false := by rw [beq_eq_false_iff_ne, ByteArray.toList_eq]; exact hk0
      by_cases hk64 : 64 < k.data.toList.length
      · have hr : t.create k.data.toList = (2, t) := by unfold RS.create; rw [if_neg ho, if_pos (Or.inr hk64)]
        rw [hr]
        have hks : (64 : Int) < (k.size : Int) := by have := size_list k; omega
        clear hr ho few goodA goodB hk0 hk64
        go_enter Tryz.func23, Tryz.ntmps23
        go_wp2
        go_ret
        exact ⟨rfl, ⟨_, h⟩, MovesR.refl _ _⟩
      · have hks : ¬ (64 : Int) < (k.size : Int) := by have := size_list k; omega
        have hkb : ¬ (k.data.toList = [] ∨ 64 < k.data.toList.length) := by rintro (h1 | h1); exact hk0 h1; exact hk64 h1
        have HF := Lib.hid (rfind_any g.nv t.names k w h.body.nrow (by have := few.names; omega))
        rw [rfind_eq] at HF
        have H := Lib.hid h
        obtain ⟨NA, nc, hnv, -⟩ := Prs.slice h.body.nrow
        rw [hnv] at c2 HF
        have hn4 := few.names
        have hrl := RHalf.lt h
        obtain ⟨nl, hnl⟩ : ∃ n, t.names.length = n := ⟨_, rfl⟩
        rw [hnl] at c2 HF hn4
        have HC2 : Hid (∀ W, Below w.heap.size w W → W.cell? ⟨r, 2, none⟩ = some (.slice NA nl nc)) := Lib.hid fun W hW => (hW.cell (p := ⟨r, 2, none⟩) hrl).trans c2
        by_cases hf : 0 ≤ rfind' t.names k.data.toList
        · have hr : t.create k.data.toList = (11, t) := by unfold RS.create; rw [if_neg ho, if_neg hkb, if_pos hf]
          rw [hr]
          obtain ⟨f, hff⟩ : ∃ f, rfind' t.names k.data.toList = f := ⟨_, rfl⟩
          rw [hff] at HF hf
          clear hr ho hof few goodA goodB h hff hk0 hk64 hkb hnv hnl hrl
          go_enter Tryz.func23, Tryz.ntmps23
          go_wp2_with fail
          refine HF.out.mono ?_
          rintro e w1 ⟨rfl, hB1⟩
          have HB1 := Lib.hid hB1
          clear hB1
          go_wp2
          go_ret
          exact ⟨rfl, ⟨_, RRep.below H.out HB1.out⟩, (MovesR.refl B w).of_below HB1.out hB⟩
        · by_cases hfull : 4096 ≤ nl
          · have hr : t.create k.data.toList = (12, t) := by unfold RS.create; rw [if_neg ho, if_neg hkb, if_neg hf, if_pos (by rw [hnl]; exact hfull)]
            rw [hr]
            have hfi : (4096 : Int) ≤ (nl : Int) := by omega
            obtain ⟨f, hff⟩ : ∃ f, rfind' t.names k.data.toList = f := ⟨_, rfl⟩
            rw [hff] at HF hf
            clear hr ho hof few goodA goodB h hff hk0 hk64 hkb hnv hnl hrl
            go_enter Tryz.func23, Tryz.ntmps23
            go_wp2_with fail
            refine HF.out.mono ?_
            rintro e w1 ⟨rfl, hB1⟩
            have HB1 := Lib.hid hB1
            have d2 := HC2.out w1 hB1
            clear hB1
            go_wp2
            go_ret
            exact ⟨rfl, ⟨_, RRep.below H.out HB1.out⟩, (MovesR.refl B w).of_below HB1.out hB⟩
          · have hfi : ¬ (4096 : Int) ≤ (nl : Int) := by omega
            have c9 : w.cell? ⟨r, 9, none⟩ = some (.int .i64 t.brk) := RHalf.cells h 9
            have c6 : w.cell? ⟨r, 6, none⟩ = some (.int .i64 t.cutLeft) := RHalf.cells h 6
            obtain ⟨FA, fc, hfv, -⟩ := own_at h.body.frow
            have c1 : w.cell? ⟨r, 1, none⟩ = some g.fv := RHalf.cells h 1
            have HCL : Hid (∀ W, Below w.heap.size w W → W.cell? ⟨r, 9, none⟩ = some (.int .i64 t.brk) ∧ W.cell? ⟨r, 6, none⟩ = some (.int .i64 t.cutLeft) ∧ W.cell? ⟨r, 1, none⟩ = some g.fv) := Lib.hid fun W hW =>
              ⟨(hW.cell (p := ⟨r, 9, none⟩) hrl).trans c9, (hW.cell (p := ⟨r, 6, none⟩) hrl).trans c6, (hW.cell (p := ⟨r, 1, none⟩) hrl).trans c1⟩
            have hff := few.files
            by_cases hcond : t.brk ≠ 1 ∨ t.cutLeft = 1
            · have hr : t.create k.data.toList = ({ t with files := t.files ++ [⟨[], 0⟩] } : RS).names' [(k.data.toList, (t.files.length : Int))] := by
                unfold RS.create; rw [if_neg ho, if_neg hkb, if_neg hf, if_neg (by rw [hnl]; exact hfull), if_pos hcond]
              rw [hr]
              have ga := goodA (by omega) hcond
              have HN : Hid (∀ W g', RRep B W r { t with files := t.files ++ [⟨[], 0⟩] } g' → B ≤ W.heap.size → Calls Tryz.prog 67 #[.pointer (some ⟨r, 0, none⟩), .agg #[.slice (some ⟨W.heap.size, 0, none⟩) 1 1]] (W.alloc (.cells #[.string k, .int .i64 (t.files.length : Nat)] 88)) (ROut B (W.alloc (.cells #[.string k, .int .i64 (t.files.length : Nat)] 88)) r (({ t with files := t.files ++ [⟨[], 0⟩] } : RS).names' [(k.data.toList, (t.files.length : Int))]))) := Lib.hid fun W g' hW hBW =>
                names_any (RHalf.alloc hW _) (by simp; omega) ga.few _ [(k.data.toList, (t.files.length : Int))] (prs_new _ _ 1 rfl (by simp [pc, enc_str]) (by unfold maxLen; omega) hBW) (by simp) ga.bc ga.bb ga.done
              have HGF : Hid (∀ W W' v, RRep B W r t g → W.grownBy W' g.fv.ownBlock → W'.ownsRow B 90 2 v (t.files.length + 1) (fC t.files ++ [.string ⟨#[]⟩, .int .i64 0]) → RRep B (W'.setCell ⟨r, 1, none⟩ v) r { t with files := t.files ++ [⟨[], 0⟩] } { g with fv := v }) := Lib.hid fun W W' v hW hg hv => by
                refine RRep.growFiles hW hg ?_
                rw [List.length_append, fC_snoc]
                exact hv
              have HFR0 : Hid (∀ W, RRep B W r t g → W.ownsRow B 90 2 g.fv t.files.length (fC t.files)) := Lib.hid fun W hW => hW.body.frow
              obtain ⟨tA, htA⟩ : ∃ tA, ({ t with files := t.files ++ [⟨[], 0⟩] } : RS) = tA := ⟨_, rfl⟩
              rw [htA] at HN HGF ⊢
              have hb1 : ((t.brk : Int) != 1) = true ∨ (((t.brk : Int) != 1) = false ∧ ((t.cutLeft : Int) == 1) = true) := by
                by_cases hq : t.brk = 1
                · right
                  refine ⟨by rw [hq]; rfl, ?_⟩
                  rcases hcond with h1 | h1
                  · exact absurd hq h1
                  · rw [h1]; rfl
                · left
                  rw [bne_iff_ne]; omega
              obtain ⟨fl, hfl⟩ : ∃ n, t.files.length = n := ⟨_, rfl⟩
              rw [hfl] at HN HGF HFR0 hff ⊢
              have hvv : (fl : Int) + 1 - 1 = (fl : Int) := by omega
              obtain ⟨bk, hbk⟩ : ∃ b, (t.brk : Int) = b := ⟨_, rfl⟩
              obtain ⟨ck, hck⟩ : ∃ b, (t.cutLeft : Int) = b := ⟨_, rfl⟩
              rw [hbk, hck] at HCL hb1
              obtain ⟨f, hff2⟩ : ∃ f, rfind' t.names k.data.toList = f := ⟨_, rfl⟩
              rw [hff2] at HF hf
              obtain ⟨i0, hi, hz0, hz1, hz2⟩ := info_parts info_file
              have HXS : Hid (∀ W, RRep B W r t g → some r ≠ g.fv.ownBlock) := Lib.hid fun W hW he => by
                rcases own_ne hW.body.frow hW.at_ (by intro c e; injection e with _ e; exact absurd e (by decide)) with h1 | h1
                · rw [h1] at he; cases he
                · exact h1 he.symm
              have hm1 : fl + 1 ≤ maxLen := by unfold maxLen; omega
              have hm2 : (fl + 1) * 24 ≤ 140737488355328 := by omega
              clear hr ho hof few goodA goodB h hff2 hk0 hk64 hkb hnv hnl hrl ga htA hcond hfl hbk hck c9 c6 c1 hfv hfull
              rcases hb1 with hb1 | ⟨hb1, hb2⟩
              · go_enter Tryz.func23, Tryz.ntmps23
                go_wp2_with fail
                refine HF.out.mono ?_
                rintro e w1 ⟨rfl, hB1⟩
                have d2 := HC2.out w1 hB1
                obtain ⟨d9, d6, d1⟩ := HCL.out w1 hB1
                have HM1 := Lib.hid ((MovesR.refl B w).of_below hB1 hB)
                have hBW : B ≤ w1.heap.size := Nat.le_trans hB hB1.size
                have HR1 := Lib.hid (RRep.below H.out hB1)
                have f1 := RHalf.frozen HR1.out 1
                have hrl1 := RHalf.lt HR1.out
                have HRL1 := Lib.hid hrl1
                have HOW := Lib.hid (HFR0.out w1 HR1.out)
                have HDQ := Lib.hid (HXS.out w1 HR1.out)
                have HFR : Hid (∀ o, (w1.alloc o).frozen? ⟨r, 1, none⟩ = false ∧ (w1.alloc o).cell? ⟨r, 1, none⟩ = some g.fv) := Lib.hid fun o =>
                  ⟨(World.frozen?_of_block (w := w1) (Below.heap_alloc w1 o r hrl1)).trans f1, (World.cell?_of_block (w := w1) (Below.heap_alloc w1 o r hrl1)).trans d1⟩
                have k2a := (HFR.out (.cells #[.string ⟨#[]⟩, .int .i64 0] 90)).2
                have h1c : ∀ u ∈ [Value.string ⟨#[]⟩, .int .i64 0], u.oneCell' = true := by
                  intro u hu
                  simp only [List.mem_cons, List.not_mem_nil, or_false] at hu
                  rcases hu with rfl | rfl <;> rfl
                clear hB1 HF HCL HC2 hrl1 HFR0 HXS
                go_wp2_with (at_builtin; refine wpList_append_lies _ rfl _ _ 52 rfl B 90 i0 _ 2 24 Tryz.underlying52 hi hz0 hz1 hz2 rfl (by decide) g.fv fl (fC t.files) rfl (World.ownsRow.alloc HOW.out _) ⟨w1.heap.size, 0, none⟩ 1 1 [.string ⟨#[]⟩, .int .i64 0] rfl rfl (two_cells w1 _ _ _) h1c (by decide) hm1 hm2 ?c6 _ rfl ?_)
                case c6 =>
                  simp
                  try omega
                intro g1 c1 w8 hown8 hgrow8 hat8 hlt8
                have fr8 : w8.frozen? ⟨r, 1, none⟩ = false := by rw [hgrow8.frozen_far _ (by simp; exact Nat.lt_succ_of_lt HRL1.out) HDQ.out]; exact (HFR.out _).1
                have k8 : w8.cell? ⟨r, 1, none⟩ = some g.fv := by rw [hgrow8.cell_far _ (by simp; exact Nat.lt_succ_of_lt HRL1.out) HDQ.out]; exact (HFR.out _).2
                have HG8 : Hid (w1.grownBy w8 g.fv.ownBlock) := alloc_grown hgrow8
                have HOWN8 := Lib.hid hown8
                clear hgrow8 hown8 hat8
                have HR9 := Lib.hid (HGF.out w1 w8 (.slice (some ⟨g1, 0, none⟩) (fl + 1) c1) HR1.out HG8.out HOWN8.out)
                have hB9 : B ≤ (w8.setCell ⟨r, 1, none⟩ (.slice (some ⟨g1, 0, none⟩) (fl + 1) c1)).heap.size := by rw [setCell_size]; exact Nat.le_trans hBW HG8.out.size
                have HM9 : Hid (MovesR B w (w8.setCell ⟨r, 1, none⟩ (.slice (some ⟨g1, 0, none⟩) (fl + 1) c1))) :=
                  Lib.hid ((HM1.out.grown HG8.out hBW (fun k e => ⟨(World.ownsRow.lt HOW.out k e).1, Or.inl (own_kinR HOW.out (by decide) k e)⟩)).grown (grownBy_setCell w8 ⟨r, 1, none⟩ _) (Nat.le_trans hBW HG8.out.size) (fun k e => by cases e; exact ⟨HR1.out.le, Or.inl (RRep.kinGrown HR1.out HG8.out HDQ.out)⟩))
                have e1 : (w8.setCell ⟨r, 1, none⟩ (.slice (some ⟨g1, 0, none⟩) (fl + 1) c1)).cell? ⟨r, 1, none⟩ = some (.slice (some ⟨g1, 0, none⟩) (fl + 1) c1) := World.cell?_setCell_same _ _ _ k8
                have HN1 := Lib.hid (HN.out _ _ HR9.out hB9)
                rw [setCell_size] at HN1
                go_wp2_with fail
                refine HN1.out.mono ?_
                rintro e w2 ⟨rfl, hr2, hm2⟩
                have HR2 := Lib.hid hr2
                have HM2 := Lib.hid ((HM9.out.alloc hB9 _).trans hm2)
                clear hr2 hm2
                go_wp2
                go_ret
                exact ⟨rfl, HR2.out, HM2.out⟩
              · go_enter Tryz.func23, Tryz.ntmps23
                go_wp2_with fail
                refine HF.out.mono ?_
                rintro e w1 ⟨rfl, hB1⟩
                have d2 := HC2.out w1 hB1
                obtain ⟨d9, d6, d1⟩ := HCL.out w1 hB1
                have HM1 := Lib.hid ((MovesR.refl B w).of_below hB1 hB)
                have hBW : B ≤ w1.heap.size := Nat.le_trans hB hB1.size
                have HR1 := Lib.hid (RRep.below H.out hB1)
                have f1 := RHalf.frozen HR1.out 1
                have hrl1 := RHalf.lt HR1.out
                have HRL1 := Lib.hid hrl1
                have HOW := Lib.hid (HFR0.out w1 HR1.out)
                have HDQ := Lib.hid (HXS.out w1 HR1.out)
                have HFR : Hid (∀ o, (w1.alloc o).frozen? ⟨r, 1, none⟩ = false ∧ (w1.alloc o).cell? ⟨r, 1, none⟩ = some g.fv) := Lib.hid fun o =>
                  ⟨(World.frozen?_of_block (w := w1) (Below.heap_alloc w1 o r hrl1)).trans f1, (World.cell?_of_block (w := w1) (Below.heap_alloc w1 o r hrl1)).trans d1⟩
                have k2a := (HFR.out (.cells #[.string ⟨#[]⟩, .int .i64 0] 90)).2
                have h1c : ∀ u ∈ [Value.string ⟨#[]⟩, .int .i64 0], u.oneCell' = true := by
                  intro u hu
                  simp only [List.mem_cons, List.not_mem_nil, or_false] at hu
                  rcases hu with rfl | rfl <;> rfl
                clear hB1 HF HCL HC2 hrl1 HFR0 HXS
                go_wp2_with (at_builtin; refine wpList_append_lies _ rfl _ _ 52 rfl B 90 i0 _ 2 24 Tryz.underlying52 hi hz0 hz1 hz2 rfl (by decide) g.fv fl (fC t.files) rfl (World.ownsRow.alloc HOW.out _) ⟨w1.heap.size, 0, none⟩ 1 1 [.string ⟨#[]⟩, .int .i64 0] rfl rfl (two_cells w1 _ _ _) h1c (by decide) hm1 hm2 ?c6 _ rfl ?_)
                case c6 =>
                  simp
                  try omega
                intro g1 c1 w8 hown8 hgrow8 hat8 hlt8
                have fr8 : w8.frozen? ⟨r, 1, none⟩ = false := by rw [hgrow8.frozen_far _ (by simp; exact Nat.lt_succ_of_lt HRL1.out) HDQ.out]; exact (HFR.out _).1
                have k8 : w8.cell? ⟨r, 1, none⟩ = some g.fv := by rw [hgrow8.cell_far _ (by simp; exact Nat.lt_succ_of_lt HRL1.out) HDQ.out]; exact (HFR.out _).2
                have HG8 : Hid (w1.grownBy w8 g.fv.ownBlock) := alloc_grown hgrow8
                have HOWN8 := Lib.hid hown8
                clear hgrow8 hown8 hat8
                have HR9 := Lib.hid (HGF.out w1 w8 (.slice (some ⟨g1, 0, none⟩) (fl + 1) c1) HR1.out HG8.out HOWN8.out)
                have hB9 : B ≤ (w8.setCell ⟨r, 1, none⟩ (.slice (some ⟨g1, 0, none⟩) (fl + 1) c1)).heap.size := by rw [setCell_size]; exact Nat.le_trans hBW HG8.out.size
                have HM9 : Hid (MovesR B w (w8.setCell ⟨r, 1, none⟩ (.slice (some ⟨g1, 0, none⟩) (fl + 1) c1))) :=
                  Lib.hid ((HM1.out.grown HG8.out hBW (fun k e => ⟨(World.ownsRow.lt HOW.out k e).1, Or.inl (own_kinR HOW.out (by decide) k e)⟩)).grown (grownBy_setCell w8 ⟨r, 1, none⟩ _) (Nat.le_trans hBW HG8.out.size) (fun k e => by cases e; exact ⟨HR1.out.le, Or.inl (RRep.kinGrown HR1.out HG8.out HDQ.out)⟩))
                have e1 : (w8.setCell ⟨r, 1, none⟩ (.slice (some ⟨g1, 0, none⟩) (fl + 1) c1)).cell? ⟨r, 1, none⟩ = some (.slice (some ⟨g1, 0, none⟩) (fl + 1) c1) := World.cell?_setCell_same _ _ _ k8
                have HN1 := Lib.hid (HN.out _ _ HR9.out hB9)
                rw [setCell_size] at HN1
                go_wp2_with fail
                refine HN1.out.mono ?_
                rintro e w2 ⟨rfl, hr2, hm2⟩
                have HR2 := Lib.hid hr2
                have HM2 := Lib.hid ((HM9.out.alloc hB9 _).trans hm2)
                clear hr2 hm2
                go_wp2
                go_ret
                exact ⟨rfl, HR2.out, HM2.out⟩
            · have hr : t.create k.data.toList = t.names' [(k.data.toList, (t.files.length : Int) - 1)] := by
                unfold RS.create; rw [if_neg ho, if_neg hkb, if_neg hf, if_neg (by rw [hnl]; exact hfull), if_neg hcond]
              rw [hr]
              have gb := goodB hcond
              have HN : Hid (∀ W g', RRep B W r t g' → B ≤ W.heap.size → Calls Tryz.prog 67 #[.pointer (some ⟨r, 0, none⟩), .agg #[.slice (some ⟨W.heap.size, 0, none⟩) 1 1]] (W.alloc (.cells #[.string k, .int .i64 ((t.files.length : Int) - 1)] 88)) (ROut B (W.alloc (.cells #[.string k, .int .i64 ((t.files.length : Int) - 1)] 88)) r (t.names' [(k.data.toList, (t.files.length : Int) - 1)]))) := Lib.hid fun W g' hW hBW =>
                names_any (RHalf.alloc hW _) (by simp; omega) gb.few _ [(k.data.toList, (t.files.length : Int) - 1)] (prs_new _ _ 1 rfl (by simp [pc, enc_str]) (by unfold maxLen; omega) hBW) (by simp) gb.bc gb.bb gb.done
              have hb1 : ((t.brk : Int) != 1) = false := by
                by_cases hq : t.brk = 1
                · rw [hq]; rfl
                · exact absurd (Or.inl hq) hcond
              have hb2 : ((t.cutLeft : Int) == 1) = false := by
                by_cases hq : t.cutLeft = 1
                · exact absurd (Or.inr hq) hcond
                · rw [beq_eq_false_iff_ne]; omega
              rw [hfv] at HCL
              obtain ⟨fl, hfl⟩ : ∃ n, t.files.length = n := ⟨_, rfl⟩
              rw [hfl] at HN HCL hff ⊢
              obtain ⟨bk, hbk⟩ : ∃ b, (t.brk : Int) = b := ⟨_, rfl⟩
              obtain ⟨ck, hck⟩ : ∃ b, (t.cutLeft : Int) = b := ⟨_, rfl⟩
              rw [hbk] at HCL hb1
              rw [hck] at HCL hb2
              obtain ⟨f, hff2⟩ : ∃ f, rfind' t.names k.data.toList = f := ⟨_, rfl⟩
              rw [hff2] at HF hf
              clear hr ho hof few goodA goodB h hff2 hk0 hk64 hkb hnv hnl hrl gb hcond hfl hbk hck c9 c6 c1 hfv hfull
              go_enter Tryz.func23, Tryz.ntmps23
              go_wp2_with fail
              refine HF.out.mono ?_
              rintro e w1 ⟨rfl, hB1⟩
              have d2 := HC2.out w1 hB1
              obtain ⟨d9, d6, d1⟩ := HCL.out w1 hB1
              have HM1 := Lib.hid ((MovesR.refl B w).of_below hB1 hB)
              have hBW : B ≤ w1.heap.size := Nat.le_trans hB hB1.size
              have HN1 := Lib.hid (HN.out w1 g (RRep.below H.out hB1) hBW)
              clear hB1 HN HF HCL HC2
              go_wp2_with fail
              refine HN1.out.mono ?_
              rintro e w2 ⟨rfl, hr2, hm2⟩
              have HR2 := Lib.hid hr2
              have HM2 := Lib.hid ((HM1.out.alloc hBW _).trans hm2)
              clear hr2 hm2
              go_wp2
              go_ret
              exact ⟨rfl, HR2.out, HM2.out⟩
end Go.Proofs.YtgknkldhjejjmaaGreatDoor

/- The reference: Part, Spoil. -/
namespace Go.Proofs.YtgknkldhjejjmaaGreatDoor
open Go.RowKit Go.Maps
open DM

theorem s_slice (W : World) (s : ByteArray) (a b : Nat) (h : a ≤ b) (hb : b ≤ s.size) :
    (Instr.slice 9 (.string s) (some (.int .i64 (a : Int))) (some (.int .i64 (b : Int))) none).run Tryz.prog W = .ok (.string (s.extract a b)) W := by
  have i0 : (0 : Int) ≤ (a : Int) := by omega
  have i1 : (0 : Int) ≤ (b : Int) := by omega
  have i3 : (a : Int) ≤ (b : Int) := by omega
  have i4 : (b : Int) ≤ (s.size : Int) := by omega
  simp [Instr.slice, run_underlying Tryz.underlying9, Instr.sliceBounds, run_sliceBound, i0, i1, i3, i4]

theorem read_le {t : RS} (few : RFew t) (k : Bs) : (t.read k).1.length ≤ 1048576 := by
  unfold RS.read
  split
  · simp
  · split
    · simp
    · exact few.lens _

set_option maxHeartbeats 4000000 in
theorem rpart_any {B : Nat} {w : World} {r : Nat} {t : RS} {g : RV} (h : RRep B w r t g) (few : RFew t) (k : ByteArray) (i n : Int) (hi : fits i) (hn : fits n) :
    Calls Tryz.prog 43 #[.pointer (some ⟨r, 0, none⟩), .string k, .int .i64 i, .int .i64 n] w (RText w (t.part k.data.toList i n)) := by
  have HR := Lib.hid (rread_any h few k)
  have hle := read_le few k.data.toList
  unfold RS.part
  unfold fits at hi hn
  obtain ⟨x, hx⟩ : ∃ x, t.read k.data.toList = x := ⟨_, rfl⟩
  rw [hx] at HR hle ⊢
  obtain ⟨D, e0⟩ := x
  simp only at hle ⊢
  obtain ⟨s, hs, hsd, hsz⟩ := enc_size D
  unfold RText at HR
  simp only [hs] at HR
  rw [← hsz] at hle
  clear h few hx
  by_cases he : e0 = 0
  · subst he
    rw [if_neg (by simp)]
    simp only [← hsz]
    by_cases hbad : i < 0 ∨ n < 0 ∨ (s.size : Int) < i ∨ (s.size : Int) - i < n
    · rw [if_pos hbad]
      by_cases h1 : i < 0
      · clear hbad
        go_enter Tryz.func43, Tryz.ntmps43
        go_wp2_with fail
        refine HR.out.mono ?_
        rintro e w1 ⟨rfl, hB1⟩
        have HB1 := Lib.hid hB1
        clear hB1
        go_wp2
        go_ret2
        exact ⟨rfl, HB1.out⟩
      · by_cases h2 : n < 0
        · clear hbad
          go_enter Tryz.func43, Tryz.ntmps43
          go_wp2_with fail
          refine HR.out.mono ?_
          rintro e w1 ⟨rfl, hB1⟩
          have HB1 := Lib.hid hB1
          clear hB1
          go_wp2
          go_ret2
          exact ⟨rfl, HB1.out⟩
        · by_cases h3 : (s.size : Int) < i
          · clear hbad
            go_enter Tryz.func43, Tryz.ntmps43
            go_wp2_with fail
            refine HR.out.mono ?_
            rintro e w1 ⟨rfl, hB1⟩
            have HB1 := Lib.hid hB1
            clear hB1
            go_wp2
            go_ret2
            exact ⟨rfl, HB1.out⟩
          · have h4 : (s.size : Int) - i < n := by omega
            have v0 : IntKind.i64.wrap ((s.size : Int) - i) = (s.size : Int) - i := wrapN _ (by omega) (by omega)
            clear hbad
            go_enter Tryz.func43, Tryz.ntmps43
            go_wp2_with fail
            refine HR.out.mono ?_
            rintro e w1 ⟨rfl, hB1⟩
            have HB1 := Lib.hid hB1
            clear hB1
            go_wp2
            go_ret2
            exact ⟨rfl, HB1.out⟩
    · rw [if_neg hbad]
      have h1 : ¬ i < 0 := fun h => hbad (Or.inl h)
      have h2 : ¬ n < 0 := fun h => hbad (Or.inr (Or.inl h))
      have h3 : ¬ (s.size : Int) < i := fun h => hbad (Or.inr (Or.inr (Or.inl h)))
      have h4 : ¬ (s.size : Int) - i < n := fun h => hbad (Or.inr (Or.inr (Or.inr h)))
      obtain ⟨I, rfl⟩ : ∃ I : Nat, i = (I : Int) := ⟨i.toNat, by omega⟩
      obtain ⟨N, rfl⟩ : ∃ N : Nat, n = (N : Int) := ⟨n.toNat, by omega⟩
      obtain ⟨J, hJ⟩ : ∃ J, I + N = J := ⟨_, rfl⟩
      have hJ2 : (I : Int) + (N : Int) = (J : Int) := by omega
      have hsl := fun W => s_slice W s I J (by omega) (by omega)
      have hres : encS (List.take N (List.drop I D)) = .string (s.extract I J) := by
        unfold encS
        congr 1
        apply str_ext
        rw [Lib.extract_data, hsd, ← hJ, show I + N - I = N by omega]
      have HRES := Lib.hid hres
      obtain ⟨te, hte⟩ : ∃ te, s.extract I J = te := ⟨_, rfl⟩
      rw [hte] at hsl HRES
      have v0 : IntKind.i64.wrap ((s.size : Int) - (I : Int)) = (s.size : Int) - (I : Int) := wrapN _ (by omega) (by omega)
      have v1 : IntKind.i64.wrap (J : Int) = (J : Int) := wrapN _ (by omega) (by omega)
      clear hbad hres hte hJ hs hsd hsz
      go_enter Tryz.func43, Tryz.ntmps43
      go_wp2_with fail
      refine HR.out.mono ?_
      rintro e w1 ⟨rfl, hB1⟩
      have HB1 := Lib.hid hB1
      clear hB1
      go_wp2
      go_ret2
      refine ⟨?_, HB1.out⟩
      show Ending.returned (.tuple #[.string te, .int .i64 0]) = Ending.returned (.tuple #[encS (List.take N (List.drop I D)), .int .i64 0])
      rw [HRES.out]
  · rw [if_pos he]
    have hne : (e0 != 0) = true := by simp [he]
    clear he
    go_enter Tryz.func43, Tryz.ntmps43
    go_wp2_with fail
    refine HR.out.mono ?_
    rintro e w1 ⟨rfl, hB1⟩
    have HB1 := Lib.hid hB1
    clear hB1
    go_wp2
    go_ret2
    exact ⟨rfl, HB1.out⟩

theorem spoil_row (w : World) (s : ByteArray) : ∃ (G : Nat) (W1 : World), (convert 9 97 (.string s)).run Tryz.prog w = .ok (.slice (some ⟨w.heap.size, 0, none⟩) s.size G) W1 ∧ Below w.heap.size w W1 ∧
    ∀ (J : Nat) (hJ : J < s.size), W1.cell? ⟨w.heap.size, J, none⟩ = some (.int .u8 (s[J].toNat : Int)) ∧ W1.frozen? ⟨w.heap.size, J, none⟩ = false ∧
    ∀ y : UInt8, (convert 97 9 (.slice (some ⟨w.heap.size, 0, none⟩) s.size G)).run Tryz.prog (W1.setCell ⟨w.heap.size, J, none⟩ (.int .u8 (y.toNat : Int))).drew = .ok (.string ⟨(s.data.toList.set J y).toArray⟩) (W1.setCell ⟨w.heap.size, J, none⟩ (.int .u8 (y.toNat : Int))).drew := by
  obtain ⟨G, W1, cs, fr, h1, h2, h3, h4⟩ := bytes_of_text w s
  refine ⟨G, W1, h1, h4, fun J hJ => ⟨?_, (h3 J hJ).2, fun y => ?_⟩⟩
  · rw [cell_of_row _ _ _ _ _ _ h2]
    exact (h3 J hJ).1
  · have hsz : (⟨(s.data.toList.set J y).toArray⟩ : ByteArray).size = s.size := by
      show (s.data.toList.set J y).toArray.size = s.data.size
      rw [List.size_toArray, List.length_set, Array.length_toList]
    have hg := heap_set_fr h2 J (.int .u8 (y.toNat : Int))
    have h := Lib.run_convert_whole (P := Tryz.prog) (W1.setCell ⟨w.heap.size, J, none⟩ (.int .u8 (y.toNat : Int))).drew 97 5 9 Tryz.underlying97 Tryz.underlying5 Tryz.underlying9 w.heap.size 0 ⟨(s.data.toList.set J y).toArray⟩ (fun i hi => by
      have hi' : i < s.size := by rw [← hsz]; exact hi
      rw [Nat.zero_add, cell_of_row _ _ _ _ _ _ (show (W1.setCell ⟨w.heap.size, J, none⟩ (.int .u8 (y.toNat : Int))).drew.heap[w.heap.size]? = _ from hg)]
      by_cases hij : i = J
      · subst hij
        have hlt : i < cs.size := (Array.getElem?_eq_some_iff.1 (h3 i hJ).1).1
        rw [Array.getElem?_setIfInBounds_self_of_lt hlt]
        have : (⟨(s.data.toList.set i y).toArray⟩ : ByteArray)[i] = y := by
          show (s.data.toList.set i y).toArray[i]'hi = y
          rw [List.getElem_toArray, List.getElem_set_self]
        rw [this]
      · rw [Array.getElem?_setIfInBounds_ne (fun e => hij e.symm), (h3 i hi').1]
        have : (⟨(s.data.toList.set J y).toArray⟩ : ByteArray)[i] = s[i] := by
          show (s.data.toList.set J y).toArray[i]'hi = s.data[i]'hi'
          rw [List.getElem_toArray, List.getElem_set_ne (fun e => hij e.symm), Array.getElem_toList]
        rw [this]) G
    rw [hsz] at h
    exact h

set_option maxRecDepth 100000 in
set_option maxHeartbeats 4000000 in
theorem rspoil_any {B : Nat} {w : World} {r : Nat} {t : RS} {g : RV} (h : RRep B w r t g) (hB : B ≤ w.heap.size) (few : RFew t) (k : ByteArray) (bit : Int) (hbit : fits bit) :
    Calls Tryz.prog 52 #[.pointer (some ⟨r, 0, none⟩), .string k, .int .i64 bit] w (RVoid B w r (t.spoil k.data.toList bit)) := by
  have c2 : w.cell? ⟨r, 2, none⟩ = some g.nv := RHalf.cells h 2
  have HF := Lib.hid (rfind_any g.nv t.names k w h.body.nrow (by have := few.names; omega))
  rw [rfind_eq] at HF
  have H := Lib.hid h
  by_cases hf : rfind' t.names k.data.toList < 0
  · have hr : t.spoil k.data.toList bit = t := by unfold RS.spoil; rw [if_pos hf]
    rw [hr]
    obtain ⟨f, hff⟩ : ∃ f, rfind' t.names k.data.toList = f := ⟨_, rfl⟩
    rw [hff] at HF hf
    clear hr few h hff
    go_enter Tryz.func52, Tryz.ntmps52
    go_wp2_with fail
    refine HF.out.mono ?_
    rintro e w1 ⟨rfl, hB1⟩
    have HB1 := Lib.hid hB1
    clear hB1
    go_wp2
    go_end0
    exact ⟨rfl, ⟨_, RRep.below H.out HB1.out⟩, (MovesR.refl B w).of_below HB1.out hB⟩
  · obtain ⟨p, hp, hpe⟩ := rfind_mem hf
    obtain ⟨p0, p1⟩ := few.nfile p hp
    rw [hpe] at p0 p1
    obtain ⟨m, hm⟩ : ∃ m : Nat, rfind' t.names k.data.toList = (m : Int) := ⟨(rfind' t.names k.data.toList).toNat, by omega⟩
    have hmf : m < t.files.length := by omega
    have hat := RS.at_nat t m hmf
    obtain ⟨s, hs, hsd, hsz⟩ := enc_size t.files[m].data
    have hdl := (few.file _ (List.getElem_mem hmf)).2
    rw [← hsz] at hdl
    have HIN : Hid (∀ W, RRep B W r t g → ∃ b c, g.fv = .slice (some ⟨b, 0, none⟩) t.files.length c ∧ b < W.heap.size ∧ W.cell? ⟨b, m * 2, none⟩ = some (.string s) ∧ W.cell? ⟨b, m * 2 + 1, none⟩ = some (.int .i64 t.files[m].sync) ∧ (∀ j, W.frozen? ⟨b, j, none⟩ = false)) := Lib.hid fun W hW => by rw [← hs]; exact RRep.fileIn hW m hmf
    have g2 : (0 : Int) ≤ (m : Int) := by omega
    by_cases hd : t.files[m].data = []
    · have hr : t.spoil k.data.toList bit = t := by unfold RS.spoil; rw [if_neg hf, hm, hat, if_pos hd]
      rw [hr]
      rw [hm] at HF p1 hf
      have h0 : s.size = 0 := by rw [hsz, hd]; rfl
      obtain ⟨S0, hS0⟩ : ∃ S0, t.files[m].sync = S0 := ⟨_, rfl⟩
      rw [hS0] at HIN
      obtain ⟨fl, hfl⟩ : ∃ fl, t.files.length = fl := ⟨_, rfl⟩
      rw [hfl] at HIN p1
      clear hr few h hp hpe p0 hm hat hs hsd hsz hd hS0 hfl hmf
      go_enter Tryz.func52, Tryz.ntmps52
      go_wp2_with fail
      refine HF.out.mono ?_
      rintro e w1 ⟨rfl, hB1⟩
      have HB1 := Lib.hid hB1
      have hr1 := RRep.below H.out hB1
      obtain ⟨fb, fc, hfv, -, z1, -, -⟩ := HIN.out w1 hr1
      have c1 : w1.cell? ⟨r, 1, none⟩ = some (.slice (some ⟨fb, 0, none⟩) fl fc) := by rw [← hfv]; exact RHalf.cells hr1 1
      clear hB1 hr1 hfv HIN
      go_wp2
      go_end0
      exact ⟨rfl, ⟨_, RRep.below H.out HB1.out⟩, (MovesR.refl B w).of_below HB1.out hB⟩
    · have hr : t.spoil k.data.toList bit = { t with files := t.files.set m ⟨flip t.files[m].data (rest bit (8 * t.files[m].data.length) / 8) (rest bit (8 * t.files[m].data.length) % 8), t.files[m].sync⟩ } := by
        unfold RS.spoil
        rw [if_neg hf, hm, hat, if_neg hd, RS.put_nat]
      rw [hr]
      rw [hm] at HF p1 hf
      rw [← hsz]
      have h0 : 0 < s.size := by rw [hsz]; exact List.length_pos_iff.2 hd
      have hR : rest bit (8 * s.size) < 8 * s.size := rest_lt _ (by omega)
      have HREM : Hid (∀ W, Calls Tryz.prog 80 #[.int .i64 bit, .int .i64 (8 * (s.size : Int))] W fun e w' => e = .returned (.int .i64 (rest bit (8 * s.size))) ∧ W = w') := Lib.hid fun W => by
        have := rrest_any bit (8 * s.size) W hbit (by omega) (by omega)
        rw [show ((8 * s.size : Nat) : Int) = 8 * (s.size : Int) from by omega] at this
        exact this
      obtain ⟨R, hRd⟩ : ∃ R, rest bit (8 * s.size) = R := ⟨_, rfl⟩
      rw [hRd] at hR HREM ⊢
      have q1 : (R : Int) / 8 = ((R / 8 : Nat) : Int) := by omega
      have q2 : (R : Int) % 8 = ((R % 8 : Nat) : Int) := by omega
      have hJ : R / 8 < s.size := by omega
      have i2 : R % 8 < 8 := by omega
      obtain ⟨J, hJd⟩ : ∃ J, R / 8 = J := ⟨_, rfl⟩
      obtain ⟨K, hKd⟩ : ∃ K, R % 8 = K := ⟨_, rfl⟩
      rw [hJd, hKd]
      rw [hJd] at q1 hJ
      rw [hKd] at q2 i2
      have hfb := flip_bit s[J] K i2
      have hget : t.files[m].data.getD J 0 = s[J] := by
        rw [← hsd]
        have hJ' : J < s.data.toList.length := by rw [size_list]; exact hJ
        rw [List.getD_eq_getElem?_getD, List.getElem?_eq_getElem hJ', Option.getD_some]
        rw [Array.getElem_toList]
        rfl
      have hfl' : flip t.files[m].data J K = s.data.toList.set J (s[J] ^^^ UInt8.ofNat (2 ^ K)) := by
        unfold DM.flip
        rw [hget, hsd]
      rw [hfl']
      obtain ⟨y, hy⟩ : ∃ y, s[J] ^^^ UInt8.ofNat (2 ^ K) = y := ⟨_, rfl⟩
      rw [hy] at hfb ⊢
      have hL : fC (t.files.set m ⟨s.data.toList.set J y, t.files[m].sync⟩) = (fC t.files).set (m * 2) (.string ⟨(s.data.toList.set J y).toArray⟩) := fC_data t.files m hmf _
      have hLn : (t.files.set m ⟨s.data.toList.set J y, t.files[m].sync⟩).length = t.files.length := by simp
      have HFC := Lib.hid (fun (W : World) (b n c : Nat) (hW : RRep B W r t g) (hv : g.fv = .slice (some ⟨b, 0, none⟩) n c) => And.intro (RRep.fileCell hW hv (m * 2) _ hL hLn) (RRep.fileKin hW hv))
      obtain ⟨fs', hfs'⟩ : ∃ fs', t.files.set m ⟨s.data.toList.set J y, t.files[m].sync⟩ = fs' := ⟨_, rfl⟩
      rw [hfs'] at HFC ⊢
      have HROW : Hid (∀ w : World, ∃ (G : Nat) (W1 : World) (x : UInt8), (convert 9 97 (.string s)).run Tryz.prog w = .ok (.slice (some ⟨w.heap.size, 0, none⟩) s.size G) W1 ∧ Below w.heap.size w W1 ∧ bits .xor .u8 (x.toNat : Int) ((2 : Int) ^ K % 256) = (y.toNat : Int) ∧
          W1.cell? ⟨w.heap.size, J, none⟩ = some (.int .u8 (x.toNat : Int)) ∧ W1.frozen? ⟨w.heap.size, J, none⟩ = false ∧
          (convert 97 9 (.slice (some ⟨w.heap.size, 0, none⟩) s.size G)).run Tryz.prog (W1.setCell ⟨w.heap.size, J, none⟩ (.int .u8 (y.toNat : Int))).drew = .ok (.string ⟨(s.data.toList.set J y).toArray⟩) (W1.setCell ⟨w.heap.size, J, none⟩ (.int .u8 (y.toNat : Int))).drew) := Lib.hid fun w => by
        obtain ⟨G, W1, h1, h2, h3⟩ := spoil_row w s
        obtain ⟨h4, h5, h6⟩ := h3 J hJ
        exact ⟨G, W1, s[J], h1, h2, hfb, h4, h5, h6 y⟩
      obtain ⟨S2, hS2⟩ : ∃ S2 : ByteArray, (⟨(s.data.toList.set J y).toArray⟩ : ByteArray) = S2 := ⟨_, rfl⟩
      rw [hS2] at HROW HFC
      obtain ⟨S0, hS0⟩ : ∃ S0, t.files[m].sync = S0 := ⟨_, rfl⟩
      rw [hS0] at HIN
      obtain ⟨fl, hfl⟩ : ∃ fl, t.files.length = fl := ⟨_, rfl⟩
      rw [hfl] at HIN p1
      have i0 : (0 : Int) ≤ (J : Int) := by omega
      have i1 : (J : Int) < (s.size : Int) := by omega
      have i3 : ¬ s.size = 0 := by omega
      clear hr few h hp hpe p0 hm hat hs hsd hsz hd hS0 hfl hRd hJd hKd hfb hget hfl' hy hL hLn hfs' hS2
      go_enter Tryz.func52, Tryz.ntmps52
      go_wp2_with fail
      refine HF.out.mono ?_
      rintro e w1 ⟨rfl, hB1⟩
      have hr1 := RRep.below H.out hB1
      have HR1 := Lib.hid hr1
      have HM1 := Lib.hid ((MovesR.refl B w).of_below hB1 hB)
      have hBW : B ≤ w1.heap.size := Nat.le_trans hB hB1.size
      obtain ⟨fb, fc, hfv, hfbw, z1, -, hfr⟩ := HIN.out w1 hr1
      have c1 : w1.cell? ⟨r, 1, none⟩ = some (.slice (some ⟨fb, 0, none⟩) fl fc) := by rw [← hfv]; exact RHalf.cells hr1 1
      have hrl := RHalf.lt hr1
      have HFV := Lib.hid hfv
      clear hB1 hr1 hfv HF
      go_wp2_with fail
      refine (HREM.out _).mono ?_
      rintro e w2 ⟨rfl, rfl⟩
      obtain ⟨G, W1, x, a1, a2, a3, a4, a5, a6⟩ := HROW.out w1
      have b2 := a2.setCell (p := ⟨w1.heap.size, J, none⟩) (Nat.le_refl _) (.int .u8 (y.toNat : Int))
      obtain ⟨W2, hW2⟩ : ∃ W2, W1.setCell ⟨w1.heap.size, J, none⟩ (.int .u8 (y.toNat : Int)) = W2 := ⟨_, rfl⟩
      rw [hW2] at a6 b2
      have HW2 := Lib.hid hW2
      have HM2 := Lib.hid (HM1.out.of_below b2 hBW)
      have hBW2 : B ≤ W2.heap.size := Nat.le_trans hBW b2.size
      have hr2 := RRep.below HR1.out b2
      have d1 : W2.cell? ⟨r, 1, none⟩ = some (.slice (some ⟨fb, 0, none⟩) fl fc) := (b2.cell (p := ⟨r, 1, none⟩) hrl).trans c1
      obtain ⟨fb', fc', hfv', -, z2, -, hfr2⟩ := HIN.out W2 hr2
      have hfe := HFV.out.symm.trans hfv'
      injection hfe with he1 he2 he3
      injection he1 with he1
      injection he1 with he1
      subst he1
      have f2 := hfr2 (m * 2)
      obtain ⟨hr3, hk3, hk3'⟩ := HFC.out W2.drew fb _ _ (RRep.drew hr2) HFV.out
      have HR3 := Lib.hid hr3
      have HM3 := Lib.hid (HM2.out.drew.grown (grownBy_setCell W2.drew ⟨fb, m * 2, none⟩ (.string S2)) hBW2 (fun k e => by cases e; exact ⟨hk3', Or.inl hk3⟩))
      clear a2 HREM hr2 hfr hfr2 hfv' hr3 hk3 hk3' hW2 b2 he2 he3 HIN HFC HROW
      go_wp2_with fail
      rw [HW2.out]
      clear HW2 a4 a5 a1
      go_region
      all_goals
        go_wp2
        go_end0
        exact ⟨rfl, ⟨_, HR3.out⟩, HM3.out⟩
end Go.Proofs.YtgknkldhjejjmaaGreatDoor

