/- The walks of Append$1, Sync$1, SyncDir$1. -/
import Derived.Test.YtgknkldhjejjmaaDoorDkG
namespace Go.Proofs.YtgknkldhjejjmaaDoor
open Go.RowKit Go.Maps
open DM

/-- a file's slice is stored anew: its row may have grown -/
theorem Half.appended {B : Nat} {w w1 : World} {d : Nat} {s : St} {g : Gh} {C : Array Value} (h : Half B w d s g C) (hlt : ∀ n, live s.lasts s.queue n → n < s.files.length) {n : Nat} (hn : live s.lasts s.queue n) {v : Value} {data : Bs}
    (ho : Row B w1 v data) (hg : w.grownBy w1 (g.row n).ownBlock) (hl : v.ownBlock = (g.row n).ownBlock ∨ v.ownBlock = some w.heap.size) :
    Half B (w1.setCell ⟨g.blk n, 1, none⟩ v) d { s with files := s.files.set n ⟨data, (fileAt s n).sync⟩ } { g with row := fun m => if m = n then v else g.row m } C := by
  have hfn := h.body.files n hn
  have hbr : ∀ c : Array Value, Obj.cells #[.int .i64 n, g.row n, .int .i64 (fileAt s n).sync] 70 (0, 0) ≠ .cells c 5 (0, 0) := fun c e => by injection e with _ e; exact absurd e (by decide)
  have hb1 : w1.heap[g.blk n]? = some (.cells #[.int .i64 n, g.row n, .int .i64 (fileAt s n).sync] 70 (0, 0)) :=
    (hg.block _ (Array.getElem?_eq_some_iff.1 hfn.2.1).1 (fun e => by
      rcases hfn.2.2.ne hfn.2.1 hbr with h1 | h1
      · rw [h1] at e; cases e
      · exact h1 e.symm)).trans hfn.2.1
  have hne : ∀ x, v.ownBlock = some x → x ≠ g.blk n := fun x hx e => by
    rcases ho.ne hb1 hbr with h1 | h1
    · rw [h1] at hx; cases hx
    · rw [← e] at h1; exact h1 hx
  refine h.file hlt hn (f := ⟨data, (fileAt s n).sync⟩) (v := v) (fun x o hx h1 h2 => ?_) ?_ ?_ ?_
  · rw [Below.heap_setCell _ _ _ _ h1]
    refine (hg.block x (Array.getElem?_eq_some_iff.1 hx).1 (fun e => ?_)).trans hx
    rcases hfn.2.2 with ⟨h3, _⟩ | ⟨r, cap, cur, h3, _, h5, _⟩
    · rw [h3] at e; cases e
    · rw [h3] at e h2
      have hxr : x = r := Option.some.inj e
      subst hxr
      rw [h5] at hx
      rcases h2 cur (0, 0) with h6 | h6
      · exact h6 (Option.some.inj hx).symm
      · exact h6 e
  · rw [heap_set_fr hb1 1 v]
    rfl
  · exact ho.kept (grownBy_setCell w1 ⟨g.blk n, 1, none⟩ v) (by
      cases hv : v.ownBlock with
      | none => exact .inl rfl
      | some x => exact .inr (fun e => hne x hv (Option.some.inj e)))
  · rcases hl with h1 | h1
    · exact .inr (.inl h1)
    · exact .inr (.inr ⟨_, h1, Nat.le_refl _⟩)

set_option maxRecDepth 100000 in
set_option maxHeartbeats 1000000 in
theorem append_do {B : Nat} {w : World} {d : Nat} {s : St} {g : Gh} (h : Rep B w d s g) (ok : Ok s) {b1 b2 : Nat} (e1 : g.m1 = some b1) (e2 : g.m2 = some b2) (hB : B ≤ w.heap.size) (K N : ByteArray) {n : Nat} (hfn : find s.names K.data.toList = some n)
    (hl : lens s.files n + N.size ≤ 1048576) (bf bs bd : Nat) (hf : Cap w bf (.pointer (some ⟨g.blk n, 0, none⟩)) 68) (hs : Cap w bs (.string N) 9) (hd : Cap w bd (.pointer (some ⟨d, 0, none⟩)) 31) :
    Calls Tryd.prog 61 #[.pointer (some ⟨bf, 0, none⟩), .pointer (some ⟨bs, 0, none⟩), .pointer (some ⟨bd, 0, none⟩)] w (DoOut B w d (doAppend n N.data.toList s)) := by
  have hnl := ok.names_live (find_some hfn)
  have hfile := h.body.files n hnl
  have hlen : lens s.files n = (fileAt s n).data.length := rfl
  obtain ⟨i0, hi, hz0, hz1, hz2⟩ := info_parts info_u8
  have cf := hf.cell
  have cs := hs.cell
  have cd := hd.cell
  have cb : w.cell? ⟨g.blk n, 1, none⟩ = some (g.row n) := cell_of_row _ _ _ _ _ _ hfile.2.1
  have frb : w.frozen? ⟨g.blk n, 1, none⟩ = false := frozen_of_row _ _ _ _ _ hfile.2.1
  have hbl := (Array.getElem?_eq_some_iff.1 hfile.2.1).1
  have HOWN := Lib.hid hfile.2.2
  have hbne : Hid (some (g.blk n) ≠ (g.row n).ownBlock) := fun e => by
    rcases hfile.2.2.ne hfile.2.1 (by intro c e; injection e with _ e; exact absurd e (by decide)) with h1 | h1
    · rw [h1] at e; cases e
    · exact h1 e.symm
  have hul : used s.files s.names ≤ 4294967296 := ok.used_le
  have hus : Hid (used (s.files.set n ⟨(fileAt s n).data ++ N.data.toList, (fileAt s n).sync⟩) s.names = used s.files s.names + N.size) := by
    have h1 := used_set (n := n) (fs := s.files) (f := ⟨(fileAt s n).data ++ N.data.toList, (fileAt s n).sync⟩) (ok.live_lt hnl) ok.gnames.sorted ok.gnames.one K.data.toList (find_some hfn)
    have h2 := size_list N
    have h3 : ((fileAt s n).data ++ N.data.toList).length = lens s.files n + N.size := by rw [List.length_append, h2, hlen]
    rw [h3] at h1
    unfold Hid
    omega
  have HH := Lib.hid h.half
  have HLT : Hid (∀ n, live s.lasts s.queue n → n < s.files.length) := fun n hn => ok.live_lt hn
  have HNL := Lib.hid hnl
  have HF := Lib.hid hf
  have HS := Lib.hid hs
  have HD := Lib.hid hd
  have hbb2 : B ≤ g.blk n := hfile.1
  have hbk1 : w.heap[g.blk n]? = some (.cells #[.int .i64 n, g.row n, .int .i64 (fileAt s n).sync] 70 (0, 0)) := hfile.2.1
  have HBLK := Lib.hid hbk1
  clear hbk1
  obtain ⟨L, hL⟩ : ∃ L, (fileAt s n).data.length = L := ⟨_, rfl⟩
  have HL := Lib.hid hL
  rw [hlen, hL] at hl
  obtain ⟨U, hU⟩ : ∃ U, used s.files s.names = U := ⟨_, rfl⟩
  have HU := Lib.hid hU
  rw [hU] at hul
  obtain ⟨bk, hbk⟩ : ∃ bk, g.blk n = bk := ⟨_, rfl⟩
  obtain ⟨rv, hrv⟩ : ∃ rv, g.row n = rv := ⟨_, rfl⟩
  have HBK := Lib.hid hbk
  have HRV := Lib.hid hrv
  rw [hbk] at cf cb frb hbl hbne hbb2 HBLK
  rw [hrv] at cb HOWN hbne
  have hml : N.size ≤ 1048576 := by omega
  have hfne : Hid (some bf ≠ rv.ownBlock) := fun e => by
    rcases HOWN.out.ne hf (by intro c e; injection e with _ e; exact absurd e (by decide)) with h1 | h1
    · rw [h1] at e; cases e
    · exact h1 e.symm
  have HE1 := Lib.hid e1
  have HE2 := Lib.hid e2
  have hbf := hf.lt
  have hbs := hs.lt
  clear h ok hfn hnl hfile hlen hf hs hd hL hU hbk hrv e1 e2
  go_enter Tryd.func61, Tryd.ntmps61
  go_wp2_with fail
  go_region_law (
    refine step_str rfl (.tmp 7) (.tmp 8) 51 9 rfl B i0 Tryd.underlying51 Tryd.underlying9 hi hz0 hz1 hz2 rv (fileAt s n).data rfl ?_ N rfl ?_ ?_ ?_
    · exact HOWN.out
    · rw [HL.out]; omega
    · exact hB
    rw [HL.out]
    intro A1 c1 w1 hown1 hgrow1 hloc1
    have fr1 : w1.frozen? ⟨bk, 1, none⟩ = false := by rw [hgrow1.frozen_far _ hbl hbne.out]; exact frb
    have k1 : w1.cell? ⟨bk, 1, none⟩ = some rv := by rw [hgrow1.cell_far _ hbl hbne.out]; exact cb
    have HG1 : Hid (w.grownBy w1 rv.ownBlock) := ⟨hgrow1.os, hgrow1.tape, hgrow1.output, hgrow1.size, hgrow1.block⟩
    have HO1 := Lib.hid hown1
    have HL1 : Hid ((Value.slice A1 (L + N.size) c1).ownBlock = rv.ownBlock ∨ (Value.slice A1 (L + N.size) c1).ownBlock = some w.heap.size) := hloc1
    have y1 : w1.cell? ⟨bf, 0, none⟩ = some (.pointer (some ⟨bk, 0, none⟩)) := by rw [hgrow1.cell_far _ hbf hfne.out]; exact cf
    clear hown1 hgrow1 hloc1)
  all_goals
    have hgb : w.grownBy w1 (g.row n).ownBlock := by rw [HRV.out]; exact HG1.out
    have H2 : Hid (Half B (w1.setCell ⟨bk, 1, none⟩ (.slice A1 (L + N.size) c1)) d (doAppend n N.data.toList s) { g with row := fun m => if m = n then .slice A1 (L + N.size) c1 else g.row m } (dC s g (used s.files s.names))) := by
      rw [← HBK.out]
      refine HH.out.appended HLT.out HNL.out (data := (fileAt s n).data ++ N.data.toList) ?_ hgb ?_
      · exact HO1.out
      · rw [HRV.out]; exact HL1.out
    have HM2 : Hid (Moves B w (w1.setCell ⟨bk, 1, none⟩ (.slice A1 (L + N.size) c1))) := by
      refine ((Moves.refl B w).grown HG1.out hB (fun q e => ⟨(HOWN.out.lt q e).1, HOWN.out.kin q e⟩)).setCell (p := ⟨bk, 1, none⟩) (by have := HG1.out.size; omega) hbb2 ?_ _
      exact kin_cells ((HG1.out.block bk hbl hbne.out).trans HBLK.out) (by decide)
    clear fr1 k1 y1 hgb
    generalize w1.setCell ⟨bk, 1, none⟩ (.slice A1 (L + N.size) c1) = w2 at H2 HM2 ⊢
    go_wp2_with fail
    refine wp_region_still_tail 9 (by kernel_rfl) (by kernel_rfl) ?_
    simp only [List.take_succ_cons, List.take_zero, List.drop_succ_cons, List.drop_zero]
    have H3 : Hid (Half B { w2 with drawn := w2.drawn + 1 } d (doAppend n N.data.toList s) { g with row := fun m => if m = n then .slice A1 (L + N.size) c1 else g.row m } (dC s g (used s.files s.names))) := H2.out.drew
    have HM3 : Hid (Moves B w { w2 with drawn := w2.drawn + 1 }) := HM2.out.drew
    generalize ({ w2 with drawn := w2.drawn + 1 } : World) = w3 at H3 HM3 ⊢
    clear H2 HM2 HG1 HO1 HL1
    have k1 : w3.cell? ⟨d, 1, none⟩ = some (.int .i64 U) := by rw [H3.out.cells 1, ← HU.out]; rfl
    have fr1 := H3.out.frozen 1
    have x1 := (HD.out.moved HM3.out (by decide)).cell
    have x2 := (HS.out.moved HM3.out (by decide)).cell
    repeat still_step
    refine wpStill_nil ?_
    go_wp2
    go_end0
    refine ⟨rfl, HM3.out.setCell (p := ⟨d, 1, none⟩) (by have := HM3.out.size; omega) H3.out.le H3.out.kin _, { g with row := fun m => if m = n then .slice A1 (L + N.size) c1 else g.row m }, b1, b2, HE1.out, HE2.out, ?_⟩
    have h4 := H3.out.set 1 (.int .i64 (U + N.size))
    refine ⟨h4.body, ?_, h4.le⟩
    rw [h4.at_]
    have hu4 : used (doAppend n N.data.toList s).files (doAppend n N.data.toList s).names = U + N.size := by rw [← HU.out]; exact hus.out
    have hl4 : (doAppend n N.data.toList s).files.length = s.files.length := by simp [doAppend]
    unfold dC
    rw [hu4, hl4]
    rfl

end Go.Proofs.YtgknkldhjejjmaaDoor
