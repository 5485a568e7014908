/- The walks of Sync$1, SyncDir$1. -/
import Derived.Test.YtgknkldhjejjmaaDoorDkH
namespace Go.Proofs.YtgknkldhjejjmaaDoor
open Go.RowKit Go.Maps
open DM

set_option maxRecDepth 100000 in
set_option maxHeartbeats 1000000 in
theorem sync_do {B : Nat} {w : World} {d : Nat} {s : St} {g : Gh} (h : Rep B w d s g) (ok : Ok s) {b1 b2 : Nat} (e1 : g.m1 = some b1) (e2 : g.m2 = some b2) (hB : B ≤ w.heap.size) (K : ByteArray) {n : Nat} (hfn : find s.names K.data.toList = some n)
    (bf : Nat) (hf : Cap w bf (.pointer (some ⟨g.blk n, 0, none⟩)) 68) :
    Calls Tryd.prog 62 #[.pointer (some ⟨bf, 0, none⟩)] w (DoOut B w d (doSync n s)) := by
  have hnl := ok.names_live (find_some hfn)
  have hfile := h.body.files n hnl
  obtain ⟨A, c, hrs⟩ := row_slice hfile
  have cf := hf.cell
  have cb : w.cell? ⟨g.blk n, 1, none⟩ = some (g.row n) := cell_of_row _ _ _ _ _ _ hfile.2.1
  have frb : w.frozen? ⟨g.blk n, 2, none⟩ = false := frozen_of_row _ _ _ _ _ hfile.2.1
  have hcb2 : w.cell? ⟨g.blk n, 2, none⟩ = some (.int .i64 (fileAt s n).sync) := cell_of_row _ _ _ _ _ _ hfile.2.1
  rw [hrs] at cb
  have hkin : Kin w (g.blk n) := kin_cells hfile.2.1 (by decide)
  have HEND : Hid (∀ W : World, W.grownBy W none → W.heap = w.heap → W.os = w.os → W.tape = w.tape → W.output = w.output → DoOut B w d (doSync n s) (.returned (.tuple #[])) (W.setCell ⟨g.blk n, 2, none⟩ (.int .i64 (fileAt s n).data.length))) := fun W _ e3 e4 e5 e6 => by
    have hgr : w.grownBy W none := ⟨e4, e5, e6, by rw [e3]; exact Nat.le_refl _, fun k _ _ => by rw [e3]⟩
    have hh := h.half.still hgr
    have hf2 := hh.body.files n hnl
    have hm : Moves B w W := (Moves.refl B w).of_below ⟨e4, e5, e6, by rw [e3]; exact Nat.le_refl _, fun k _ => by rw [e3]⟩ hB
    refine ⟨rfl, hm.setCell (p := ⟨g.blk n, 2, none⟩) (by rw [e3]; exact hB) hf2.1 (kin_cells hf2.2.1 (by decide)) _, g, b1, b2, e1, e2, ?_⟩
    have hfl := hh.file (w' := W.setCell ⟨g.blk n, 2, none⟩ (.int .i64 (fileAt s n).data.length)) (fun n hn => ok.live_lt hn) hnl (f := ⟨(fileAt s n).data, (fileAt s n).data.length⟩) (v := g.row n)
      (fun x o hx h1 _ => (Below.heap_setCell _ _ _ _ h1).trans hx) (by rw [heap_set_fr hf2.2.1 2]; rfl)
      (hf2.2.2.kept (grownBy_setCell W ⟨g.blk n, 2, none⟩ _) (hf2.2.2.ne hf2.2.1 (by intro c e; injection e with _ e; exact absurd e (by decide)))) (.inr (.inl rfl))
    have hrow : (fun m => if m = n then g.row n else g.row m) = g.row := by
      funext m
      by_cases hm : m = n
      · subst hm; rw [if_pos rfl]
      · rw [if_neg hm]
    rw [hrow] at hfl
    refine ⟨hfl.body, ?_, hfl.le⟩
    rw [hfl.at_]
    have hus := used_set (n := n) (fs := s.files) (f := ⟨(fileAt s n).data, (fileAt s n).data.length⟩) (ok.live_lt hnl) ok.gnames.sorted ok.gnames.one K.data.toList (find_some hfn)
    have hu4 : used (doSync n s).files (doSync n s).names = used s.files s.names := by
      show used (s.files.set n ⟨(fileAt s n).data, (fileAt s n).data.length⟩) s.names = _
      have : lens s.files n = (fileAt s n).data.length := rfl
      rw [this] at hus
      simp only at hus
      omega
    have hl4 : (doSync n s).files.length = s.files.length := by simp [doSync]
    unfold dC
    rw [hu4, hl4]
    rfl
  obtain ⟨bk, hbk⟩ : ∃ bk, g.blk n = bk := ⟨_, rfl⟩
  obtain ⟨L, hL⟩ : ∃ L, (fileAt s n).data.length = L := ⟨_, rfl⟩
  rw [hbk] at cf cb frb hcb2 HEND
  rw [hL] at cb HEND
  clear h ok e1 e2 hfn hf hnl hfile hrs hkin hbk hL
  go_enter Tryd.func62, Tryd.ntmps62
  go_wp2_with fail
  refine wp_region_still_tail 8 (by kernel_rfl) (by kernel_rfl) ?_
  simp only [List.take_succ_cons, List.take_zero, List.drop_succ_cons, List.drop_zero]
  have HE2 := Lib.hid (HEND.out { w with drawn := w.drawn + 1 } ⟨rfl, rfl, rfl, Nat.le_refl _, fun _ _ _ => rfl⟩ rfl rfl rfl rfl)
  have z1 : ({ w with drawn := w.drawn + 1 } : World).cell? ⟨bf, 0, none⟩ = some (.pointer (some ⟨bk, 0, none⟩)) := cf
  have z2 : ({ w with drawn := w.drawn + 1 } : World).cell? ⟨bk, 1, none⟩ = some (.slice A L c) := cb
  have z3 : ({ w with drawn := w.drawn + 1 } : World).cell? ⟨bk, 2, none⟩ = some (.int .i64 (fileAt s n).sync) := hcb2
  have z4 : ({ w with drawn := w.drawn + 1 } : World).frozen? ⟨bk, 2, none⟩ = false := frb
  generalize ({ w with drawn := w.drawn + 1 } : World) = w3 at HE2 z1 z2 z3 z4 ⊢
  clear HEND cf cb frb hcb2
  repeat still_step
  refine wpStill_nil ?_
  go_wp2
  go_end0
  exact HE2.out

theorem q_slice {B : Nat} {w : World} {d : Nat} {s : St} {g : Gh} {C : Array Value} (h : Half B w d s g C) : ∃ A c, g.q = .slice A s.queue.length c := by
  rcases h.body.queue.2 with ⟨e, h0⟩ | ⟨r, c, _, e, _⟩
  · exact ⟨none, 0, by rw [e, h0]⟩
  · exact ⟨_, c, e⟩

set_option maxRecDepth 100000 in
set_option maxHeartbeats 1000000 in
theorem syncDir_do {B : Nat} {w : World} {d : Nat} {s : St} {g : Gh} (h : Rep B w d s g) (ok : Ok s) {b1 b2 : Nat} (e1 : g.m1 = some b1) (e2 : g.m2 = some b2) (hB : B ≤ w.heap.size) (hq : s.queue.length < 1099511627776)
    (bd : Nat) (hd : Cap w bd (.pointer (some ⟨d, 0, none⟩)) 31) :
    Calls Tryd.prog 57 #[.pointer (some ⟨bd, 0, none⟩)] w (DoOut B w d (doSyncDir s)) := by
  obtain ⟨A, c, hqs⟩ := q_slice h.half
  have HH : Hid (Half B { w with drawn := w.drawn + 1 } d s g (dC s g (used s.files s.names))) := h.half.drew
  have HM : Hid (Moves B w { w with drawn := w.drawn + 1 }) := (Moves.refl B w).drew
  have HST : Hid (∀ W, B ≤ W.heap.size → Half B W d s g (dC s g (used s.files s.names)) → Moves B w W → Calls Tryd.prog 58 #[.pointer (some ⟨d, 0, none⟩), .int .i64 s.queue.length] W (DoOut B w d (doSyncDir s))) := fun W hBW hh hm => by
    refine (settle_any hh ok hBW rfl rfl s.queue.length (Nat.le_refl _) hq).mono fun e w' ⟨he, hm2, hf⟩ => ⟨he, hm.trans hm2, { g with q := .slice none 0 0 }, b1, b2, e1, e2, ⟨hf.body, ?_, hf.le⟩⟩
    rw [hf.at_]
    simp [dC, doSyncDir]
  have z1 := hd.cell
  have z2 : w.cell? ⟨d, 5, none⟩ = some g.q := h.cells.2.2.2.2.2.1
  rw [hqs] at z2
  obtain ⟨q, hqn⟩ : ∃ q, s.queue.length = q := ⟨_, rfl⟩
  rw [hqn] at z2 HST
  clear h ok e1 e2 hd hqs hqn
  go_enter Tryd.func57, Tryd.ntmps57
  go_wp2_with fail
  refine wp_region_still_tail 6 (by kernel_rfl) (by kernel_rfl) ?_
  simp only [List.take_succ_cons, List.take_zero, List.drop_succ_cons, List.drop_zero]
  have y1 : ({ w with drawn := w.drawn + 1 } : World).cell? ⟨bd, 0, none⟩ = some (.pointer (some ⟨d, 0, none⟩)) := z1
  have y2 : ({ w with drawn := w.drawn + 1 } : World).cell? ⟨d, 5, none⟩ = some (.slice A q c) := z2
  have hB3 : B ≤ ({ w with drawn := w.drawn + 1 } : World).heap.size := hB
  generalize ({ w with drawn := w.drawn + 1 } : World) = w3 at HH HM y1 y2 hB3 ⊢
  clear z1 z2
  repeat still_step
  refine wpStill_nil ?_
  go_wp2_with fail
  refine (HST.out w3 hB3 HH.out HM.out).mono ?_
  rintro e w4 hdo
  have HDO := Lib.hid hdo
  obtain ⟨rfl, hm2, hr2⟩ := HDO.out
  clear hdo hm2 hr2
  go_wp2
  go_end0
  exact HDO.out
end Go.Proofs.YtgknkldhjejjmaaDoor
