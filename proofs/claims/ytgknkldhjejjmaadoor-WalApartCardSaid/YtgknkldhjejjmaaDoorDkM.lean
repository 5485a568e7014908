/- change: a call that changes. -/
import Derived.Test.YtgknkldhjejjmaaDoorDkL
import Derived.Deep.RegionWith
namespace Go.Proofs.YtgknkldhjejjmaaDoor
open Go.RowKit Go.Maps
open DM

theorem set_same {C : Array Value} {j : Nat} {v : Value} (h : C[j]? = some v) : C.setIfInBounds j v = C := by
  apply Array.ext_getElem?
  intro i
  by_cases hij : j = i
  · subst hij
    rw [Array.getElem?_setIfInBounds_self_of_lt (Array.getElem?_eq_some_iff.1 h).1, h]
  · rw [Array.getElem?_setIfInBounds_ne hij]

/-- what countDown leaves -/
def CountOut (B : Nat) (w : World) (d : Nat) (s : St) (g : Gh) (C : Array Value) (j n : Nat) (e : Ending) (w' : World) : Prop :=
  e = .returned (.bool (decide (n = 1))) ∧ Moves B w w' ∧ Half B w' d s g (C.setIfInBounds j (.int .i64 ((n - 1 : Nat) : Int)))

theorem count_half {B : Nat} {w : World} {d : Nat} {s : St} {g : Gh} {C : Array Value} (h : Half B w d s g C) (hB : B ≤ w.heap.size) {j n : Nat} (hj : C[j]? = some (.int .i64 n)) (hn : n ≤ 9223372036854775807) :
    Calls Tryd.prog 81 #[.pointer (some ⟨d, j, none⟩)] w (CountOut B w d s g C j n) := by
  have hc := (h.cells j).trans hj
  cases n with
  | zero =>
    refine (count_zero d j w hc).mono fun e w' ⟨he, hw⟩ => ?_
    subst hw
    refine ⟨he, Moves.refl _ _, ?_⟩
    have : C.setIfInBounds j (.int .i64 ((0 - 1 : Nat) : Int)) = C := set_same hj
    rw [this]
    exact h
  | succ m =>
    refine (count_pos d j m w hc (h.frozen j) (by omega)).mono fun e w' ⟨he, hw⟩ => ?_
    subst hw
    refine ⟨?_, (Moves.refl B w).setCell (p := ⟨d, j, none⟩) hB h.le h.kin _, ?_⟩
    · rw [he]
      congr 2
      simp
    · have : m + 1 - 1 = m := by omega
      rw [this]
      exact h.set j _

theorem counted_rep {B : Nat} {w : World} {d : Nat} {s : St} {g : Gh} (h : Half B w d s g (((dC s g (used s.files s.names)).setIfInBounds 7 (.int .i64 ((s.cutN - 1 : Nat) : Int))).setIfInBounds 10 (.int .i64 ((s.brk - 1 : Nat) : Int)))) (hb : s.brk ≤ 9223372036854775807) :
    Rep B w d (counted s) { g with bk := ((s.brk - 1 : Nat) : Int) } := by
  refine ⟨⟨h.body.maps, h.body.queue, h.body.files, h.body.apart, h.body.cut, fun _ => rfl, by show (0 : Int) ≤ ((s.brk - 1 : Nat) : Int); omega, by show ((s.brk - 1 : Nat) : Int) ≤ _; omega⟩, ?_, h.le⟩
  rw [h.at_]
  simp [dC, counted]

/-- what a call that changes leaves -/
def ChangeOut (B : Nat) (w : World) (d : Nat) (r : Int × St) (e : Ending) (w' : World) : Prop :=
  e = .returned (.int .i64 r.1) ∧ Moves B w w' ∧ ∃ g, Rep B w' d r.2 g

theorem off_rep {B : Nat} {w0 w W : World} {d : Nat} {s : St} {g : Gh} (h : Rep B w d s g) (hB : B ≤ w.heap.size) (hm : Moves B w0 w)
    (hW : W = ((((w.setCell ⟨d, 6, none⟩ (.bool true)).setCell ⟨d, 7, none⟩ (.int .i64 0)).setCell ⟨d, 8, none⟩ (.int .i64 0)).setCell ⟨d, 9, none⟩ (.slice none 0 0))) :
    Moves B w0 W ∧ ∃ g, Rep B W d { s with off := true, cutN := 0, cutNames := 0, cutBytes := [], brk := 0 } g := by
  subst hW
  have h6 := h.half.set 6 (.bool true)
  have h7 := h6.set 7 (.int .i64 0)
  have h8 := h7.set 8 (.int .i64 0)
  have h9 := h8.set 9 (.slice none 0 0)
  refine ⟨(((hm.setCell (p := ⟨d, 6, none⟩) hB h.le h.half.kin _).setCell (p := ⟨d, 7, none⟩) (by simpa [setCell_size] using hB) h.le h6.kin _).setCell (p := ⟨d, 8, none⟩) (by simpa [setCell_size] using hB) h.le h7.kin _).setCell (p := ⟨d, 9, none⟩) (by simpa [setCell_size] using hB) h.le h8.kin _, { g with cv := .slice none 0 0 }, ?_, ?_, h9.le⟩
  · exact ⟨h9.body.maps, h9.body.queue, h9.body.files, h9.body.apart, World.ownsRow_nil _ _ _ _, fun e => (by cases e), h9.body.bk.2.1, h9.body.bk.2.2⟩
  · rw [h9.at_]
    simp [dC]

theorem cut_stays {B : Nat} {w : World} {s : St} {g : Gh} (h : Body B w s g) : ∃ A c, g.cv = .slice A s.cutBytes.length c ∧ Stays B w A s.cutBytes := by
  rcases h.cut.2 with ⟨e, h0⟩ | ⟨r, c, cur, e, _, hr, _, _, _, htk⟩
  · exact ⟨none, 0, by rw [e, h0], fun h1 => by omega⟩
  · refine ⟨_, c, e, fun _ => ⟨r, 0, rfl, fun w' hm j hj => ?_⟩⟩
    rw [cell_of_row _ _ _ _ _ _ (hm.kept _ _ _ _ hr (by decide)), Nat.zero_add, ← Array.getElem?_toList]
    have h2 : (cur.toList.take (s.cutBytes.length * 1))[j]? = (s.cutBytes.map (Value.int .i64))[j]? := by rw [htk]
    rw [List.getElem?_take_of_lt (by omega)] at h2
    rw [h2]
    simp [hj]

set_option maxRecDepth 100000 in
set_option maxHeartbeats 2000000 in
theorem change_any {B : Nat} {w : World} {d : Nat} {s : St} {g : Gh} (h : Rep B w d s g) (ok : Ok s) (hB : B ≤ w.heap.size) (hoff : s.off = false) (ahead : Bool) (fn : FuncId) (caps : Array Value) (go : St → St)
    (okg : Ok (go (counted s))) (hgc : (go (counted s)).cutNames = s.cutNames ∧ (go (counted s)).cutBytes = s.cutBytes) (hq : (go (counted s)).queue.length < 1099511627776) (hfl : (go (counted s)).files.length < 1099511627776) (hq0 : s.queue.length < 1099511627776) (hfl0 : s.files.length < 1099511627776) (hcb : s.cutBytes.length ≤ 4611686018427387904)
    (hcf : ∀ W, (callFunc fn caps).run Tryd.prog W = .ok (.enter fn caps) W)
    (hdo : ∀ W k, Rep B W d (counted s) { g with bk := k } → Moves B w W → B ≤ W.heap.size → Calls Tryd.prog fn caps W (DoOut B W d (go (counted s)))) :
    Calls Tryd.prog 53 #[.pointer (some ⟨d, 0, none⟩), .bool ahead, .func (.func fn) #[] caps] w (ChangeOut B w d (change ahead go s)) := by
  have hbk : g.bk = s.brk := h.body.bk.1 hoff
  have HC1 := Lib.hid (fun W (hh : Half B W d s g (dC s g (used s.files s.names))) (hBW : B ≤ W.heap.size) => count_half hh hBW (j := 7) (n := s.cutN) rfl ok.cutN)
  have HC2 := Lib.hid (fun W (hh : Half B W d s g ((dC s g (used s.files s.names)).setIfInBounds 7 (.int .i64 ((s.cutN - 1 : Nat) : Int)))) (hBW : B ≤ W.heap.size) => count_half hh hBW (j := 10) (n := s.brk) (by rw [Array.getElem?_setIfInBounds_ne (by decide)]; show some (Value.int .i64 g.bk) = _; rw [hbk]) ok.brk)
  have HH := Lib.hid h.half
  have HDO := Lib.hid hdo
  go_enter Tryd.func53, Tryd.ntmps53
  go_wp2_with fail
  go_region_held3 (fun _ => True) (trivial)
    (first
      | (go_at_call 81
         (with_reducible refine (HC1.out _ ?_ ?_).mono ?_)
         · exact HH.out.drew
         · exact hB
         rintro e w1 hco1
         have HCO1 := Lib.hid hco1
         obtain ⟨rfl, hm1, hh1⟩ := HCO1.out
         clear hco1 hm1 hh1)
      | (go_at_call 81
         (with_reducible refine (HC2.out _ ?_ ?_).mono ?_)
         · exact HCO1.out.2.2
         · exact Nat.le_trans hB HCO1.out.2.1.size
         rintro e w2 hco2
         have HCO2 := Lib.hid hco2
         obtain ⟨rfl, hm2, hh2⟩ := HCO2.out
         clear hco2 hm2 hh2)
      | fail)
  have HR2 : Hid (Rep B w2 d (counted s) { g with bk := ((s.brk - 1 : Nat) : Int) }) := counted_rep HCO2.out.2.2 ok.brk
  have HM2 : Hid (Moves B w w2) := by
    have h1 : Moves B w w1 := (Moves.refl B w).drew.trans HCO1.out.2.1
    exact h1.trans HCO2.out.2.1
  have HB2 : Hid (B ≤ w2.heap.size) := Nat.le_trans hB HM2.out.size
  have okc := ok_counted ok
  have HCB := Lib.hid hcb
  have HGC := Lib.hid hgc
  have HOKG := Lib.hid okg
  have HOKC := Lib.hid okc
  clear HCO1 HCO2 HC1 HC2 HH hdo h ok hoff hbk hcb hgc okg okc
  by_cases h1 : s.cutN = 1
  · have d1 : decide (s.cutN = 1) = true := decide_eq_true h1
    rw [d1]
    have hch : Hid (change ahead go s = (13, { fail (if ahead then go (counted s) else counted s) s.cutNames s.cutBytes with off := true })) := by
      unfold change
      rw [if_pos h1]
      exact rfl
    clear d1 h1
    have key : ∀ (s2 : St) (g3 : Gh) (w3 : World), Rep B w3 d s2 g3 → Moves B w w3 → Ok s2 → s2.cutNames = s.cutNames ∧ s2.cutBytes = s.cutBytes → s2.queue.length < 1099511627776 → s2.files.length < 1099511627776 →
        ∃ A c, g3.cv = .slice A s.cutBytes.length c ∧ Calls Tryd.prog 35 #[.pointer (some ⟨d, 0, none⟩), .int .i64 s.cutNames, .slice A s.cutBytes.length c] { w3 with drawn := w3.drawn + 1 } (LoseOut B { w3 with drawn := w3.drawn + 1 } d (loseS s2 s.cutNames s.cutBytes)) := fun s2 g3 w3 hr hm hok hcc hq2 hf2 => by
      obtain ⟨A, c, h1, h2⟩ := cut_stays hr.body
      rw [hcc.2] at h1 h2
      have hr' : Rep B { w3 with drawn := w3.drawn + 1 } d s2 g3 := hr.still ⟨rfl, rfl, rfl, Nat.le_refl _, fun _ _ _ => rfl⟩
      have hfi := hok.cutBytes
      have hnm := hok.cutNames
      rw [hcc.1] at hnm
      rw [hcc.2] at hfi
      exact ⟨A, c, h1, lose_any hr' hok (Nat.le_trans hB hm.size) s.cutNames hnm A c s.cutBytes HCB.out (h2.moved (Moves.refl _ _).drew) hfi hq2 hf2⟩
    have KEY := Lib.hid key
    clear key
    obtain ⟨s2, hs2⟩ : ∃ s2, (if ahead then go (counted s) else counted s) = s2 := ⟨_, rfl⟩
    have HS2 := Lib.hid hs2
    have HE : Hid (∀ W, (Moves B w W ∧ ∃ g, Rep B W d { loseS s2 s.cutNames s.cutBytes with off := true, cutN := 0, cutNames := 0, cutBytes := [], brk := 0 } g) → ChangeOut B w d (change ahead go s) (.returned (.int .i64 13)) W) := fun W hW => by
      rw [hch.out, hs2]
      exact ⟨rfl, hW.1, hW.2⟩
    clear hs2 hch
    cases ahead
    · have hs2 : counted s = s2 := HS2.out
      have HR3 : Hid (∃ g3, Rep B w2 d s2 g3) := by rw [← hs2]; exact ⟨_, HR2.out⟩
      have HOK2 : Hid (Ok s2) := by rw [← hs2]; exact HOKC.out
      have HCC : Hid (s2.cutNames = s.cutNames ∧ s2.cutBytes = s.cutBytes) := by rw [← hs2]; exact ⟨rfl, rfl⟩
      have HQ2 : Hid (s2.queue.length < 1099511627776 ∧ s2.files.length < 1099511627776) := by rw [← hs2]; exact ⟨hq0, hfl0⟩
      have HM3 := HM2
      clear hs2
      obtain ⟨w3, hw3⟩ : ∃ w3, w2 = w3 := ⟨_, rfl⟩
      rw [hw3] at HR3 HM3
      go_wp2_with fail
      clear HR2 HM2 HB2 HDO hw3 hcf
      obtain ⟨g3, hr3⟩ := HR3.out
      obtain ⟨A, c, hcv, hcl⟩ := KEY.out s2 g3 w3 hr3 HM3.out HOK2.out HCC.out HQ2.out.1 HQ2.out.2
      have HCL := Lib.hid hcl
      have k8 : ({ w3 with drawn := w3.drawn + 1 } : World).cell? ⟨d, 8, none⟩ = some (.int .i64 s.cutNames) := by rw [← HCC.out.1]; exact hr3.cells.2.2.2.2.2.2.2.2.1
      have k9 : ({ w3 with drawn := w3.drawn + 1 } : World).cell? ⟨d, 9, none⟩ = some (.slice A s.cutBytes.length c) := by rw [← hcv]; exact hr3.cells.2.2.2.2.2.2.2.2.2.1
      have hm4 : Hid (Moves B w { w3 with drawn := w3.drawn + 1 }) := HM3.out.drew
      refine wp_region_still_tail 11 (by kernel_rfl) (by kernel_rfl) ?_
      simp only [List.take_succ_cons, List.take_zero, List.drop_succ_cons, List.drop_zero]
      generalize ({ w3 with drawn := w3.drawn + 1 } : World) = w4 at HCL k8 k9 hm4 ⊢
      clear hcl hcv hr3 HR3 HM3 KEY
      repeat still_step
      refine wpStill_nil ?_
      go_wp2_with fail
      refine HCL.out.mono ?_
      rintro e w5 ⟨rfl, hm5, g5, hr5⟩
      have HOFF := Lib.hid (fun W hW => @off_rep B w w5 W d _ g5 hr5 (Nat.le_trans hB (Nat.le_trans hm4.out.size hm5.size)) (hm4.out.trans hm5) hW)
      have j6 := hr5.half.frozen 6
      have j7 := hr5.half.frozen 7
      have j8 := hr5.half.frozen 8
      have j9 := hr5.half.frozen 9
      obtain ⟨-, -, -, -, -, -, i6, i7, i8, i9, -⟩ := hr5.cells
      clear hm5 hr5 HCL k8 k9
      go_wp2
      go_ret
      exact HE.out _ (HOFF.out _ rfl)
    · have hs2 : go (counted s) = s2 := HS2.out
      have HGD : Hid (∀ e W, DoOut B w2 d (go (counted s)) e W → (∃ g3, Rep B W d s2 g3) ∧ Moves B w W) := fun e W hd => by
        rw [← hs2]
        obtain ⟨_, hm, g3, _, _, _, _, hr⟩ := hd
        exact ⟨⟨g3, hr⟩, HM2.out.trans hm⟩
      have HOK2 : Hid (Ok s2) := by rw [← hs2]; exact HOKG.out
      have HCC : Hid (s2.cutNames = s.cutNames ∧ s2.cutBytes = s.cutBytes) := by rw [← hs2]; exact HGC.out
      have HQ2 : Hid (s2.queue.length < 1099511627776 ∧ s2.files.length < 1099511627776) := by rw [← hs2]; exact ⟨hq, hfl⟩
      clear hs2
      go_wp2_with fail
      refine (HDO.out w2 _ HR2.out HM2.out HB2.out).mono ?_
      rintro e w3 hd3
      obtain ⟨h3a, h3b⟩ := HGD.out _ _ hd3
      have HR3 := Lib.hid h3a
      have HM3 := Lib.hid h3b
      obtain ⟨rfl, hm3, hr3⟩ := hd3
      clear hm3 hr3 h3a h3b HGD HR2 HM2 HB2 HDO hcf
      go_wp2_with fail
      obtain ⟨g3, hr3⟩ := HR3.out
      obtain ⟨A, c, hcv, hcl⟩ := KEY.out s2 g3 w3 hr3 HM3.out HOK2.out HCC.out HQ2.out.1 HQ2.out.2
      have HCL := Lib.hid hcl
      have k8 : ({ w3 with drawn := w3.drawn + 1 } : World).cell? ⟨d, 8, none⟩ = some (.int .i64 s.cutNames) := by rw [← HCC.out.1]; exact hr3.cells.2.2.2.2.2.2.2.2.1
      have k9 : ({ w3 with drawn := w3.drawn + 1 } : World).cell? ⟨d, 9, none⟩ = some (.slice A s.cutBytes.length c) := by rw [← hcv]; exact hr3.cells.2.2.2.2.2.2.2.2.2.1
      have hm4 : Hid (Moves B w { w3 with drawn := w3.drawn + 1 }) := HM3.out.drew
      refine wp_region_still_tail 11 (by kernel_rfl) (by kernel_rfl) ?_
      simp only [List.take_succ_cons, List.take_zero, List.drop_succ_cons, List.drop_zero]
      generalize ({ w3 with drawn := w3.drawn + 1 } : World) = w4 at HCL k8 k9 hm4 ⊢
      clear hcl hcv hr3 HR3 HM3 KEY
      repeat still_step
      refine wpStill_nil ?_
      go_wp2_with fail
      refine HCL.out.mono ?_
      rintro e w5 ⟨rfl, hm5, g5, hr5⟩
      have HOFF := Lib.hid (fun W hW => @off_rep B w w5 W d _ g5 hr5 (Nat.le_trans hB (Nat.le_trans hm4.out.size hm5.size)) (hm4.out.trans hm5) hW)
      have j6 := hr5.half.frozen 6
      have j7 := hr5.half.frozen 7
      have j8 := hr5.half.frozen 8
      have j9 := hr5.half.frozen 9
      obtain ⟨-, -, -, -, -, -, i6, i7, i8, i9, -⟩ := hr5.cells
      clear hm5 hr5 HCL k8 k9
      go_wp2
      go_ret
      exact HE.out _ (HOFF.out _ rfl)
  · have d1 : decide (s.cutN = 1) = false := decide_eq_false h1
    rw [d1]
    by_cases h2 : s.brk = 1
    · have d2 : decide (s.brk = 1) = true := decide_eq_true h2
      rw [d2]
      have HE : Hid (ChangeOut B w d (change ahead go s) (.returned (.int .i64 12)) w2) := by
        unfold change
        rw [if_neg h1, if_pos h2]
        exact ⟨rfl, HM2.out, _, HR2.out⟩
      clear h1 h2 d1 d2 hq hfl hq0 hfl0
      go_wp2
      go_ret
      exact HE.out
    · have d2 : decide (s.brk = 1) = false := decide_eq_false h2
      rw [d2]
      have HE : Hid (∀ e W, DoOut B w2 d (go (counted s)) e W → ChangeOut B w d (change ahead go s) (.returned (.int .i64 0)) W) := fun e W hd => by
        unfold change
        rw [if_neg h1, if_neg h2]
        obtain ⟨_, hm, g3, _, _, _, _, hr⟩ := hd
        exact ⟨rfl, HM2.out.trans hm, g3, hr⟩
      clear h1 h2 d1 d2 hq hfl hq0 hfl0
      go_wp2_with fail
      refine (HDO.out w2 _ HR2.out HM2.out HB2.out).mono ?_
      rintro e w3 hd3
      have HE3 := Lib.hid (HE.out _ _ hd3)
      obtain ⟨rfl, hm3, hr3⟩ := hd3
      clear hm3 hr3 HE
      go_wp2
      go_ret
      exact HE3.out
end Go.Proofs.YtgknkldhjejjmaaDoor
