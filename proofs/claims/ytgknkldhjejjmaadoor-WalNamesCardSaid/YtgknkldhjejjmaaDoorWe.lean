/- WalNames: every kind and number have the document's name, and every name the document's number of a kind. The walk. -/
import Derived.Test.YtgknkldhjejjmaaDoorWd
import Derived.Test.YtgknkldhjejjmaaDoorWp
import Derived.Test.YtgknkldhjejjmaaDoorLd
import Derived.Test.YtgknkldhjejjmaaDoorLaw
namespace Go.Proofs.YtgknkldhjejjmaaDoor
open Go.ChangeShapes Go.WideShapes Go.ChangeAt Go.RowKit Go.Maps
open DM
namespace lawNames

set_option maxRecDepth 100000 in
set_option maxHeartbeats 2000000 in
theorem walk (k name : ByteArray) (n : Int) (w : World) (hk : k.size ≤ 140737488351232) (hname : name.size ≤ 140737488351232) (hn : -9223372036854775808 ≤ n ∧ n ≤ 9223372036854775807) (ht : Tab w) (he : Errs w) :
    Calls Tryd.prog 3 #[.string k, .string name, .int .i64 n] w fun e w' => e = .returned (.bool true) ∧ Below w.heap.size w w' := by
  obtain ⟨B, hB⟩ : ∃ B, w.heap.size = B := ⟨_, rfl⟩
  have HT : Hid (∀ W, Below B w W → Tab W) := Lib.hid fun W h => ht.below (by rw [hB]; exact h)
  have HE : Hid (∀ W, Below B w W → Errs W) := Lib.hid fun W h => he.below (by rw [hB]; exact h)
  obtain ⟨a, o, hao⟩ : ∃ a o, WN.number k.data.toList name.data.toList = (a, o) := ⟨_, _, rfl⟩
  obtain ⟨f, hf, -⟩ := encS_text (l := WN.file k.data.toList n)
  obtain ⟨g, hg, -⟩ := encS_text (l := WN.file [108, 111, 103] n)
  have HN1 : Hid (∀ W, Below B w W → Calls Tryd.prog 7 #[.string k, .string name] W fun e w' => e = .returned (.tuple #[.int .i64 a, .bool o]) ∧ Below B w w') :=
    Lib.hid fun W h => (wnumber_any k name W (by omega) (by omega) (HT.out W h) (HE.out W h)).mono fun e w' ⟨he, hb⟩ => ⟨by rw [he, hao], h.trans (hb.mono (by rw [← hB] at h ⊢; exact h.size))⟩
  have HN2 : Hid (∀ W, Below B w W → Calls Tryd.prog 8 #[.string k, .string name] W fun e w' => e = .returned (.tuple #[.int .i64 a, .bool o]) ∧ Below B w w') :=
    Lib.hid fun W h => (rnumber_any k name W (by omega) (by omega)).mono fun e w' ⟨he, hb⟩ => ⟨by rw [he, hao], h.trans (hb.mono (by rw [← hB] at h ⊢; exact h.size))⟩
  have HWK : Hid (∀ W, Below B w W → Calls Tryd.prog 9 #[] W fun e w' => e = .returned (.bool true) ∧ Below B w w') :=
    Lib.hid fun W h => (wakes_any W (HT.out W h)).mono fun e w' ⟨he, hb⟩ => ⟨he, h.trans (hb.mono (by rw [← hB] at h ⊢; exact h.size))⟩
  have HF1 : Hid (∀ W, Below B w W → Calls Tryd.prog 10 #[.string k, .int .i64 n] W fun e w' => e = .returned (.string f) ∧ Below B w w') :=
    Lib.hid fun W h => (wfile_any k n W (by omega) hn (HT.out W h)).mono fun e w' ⟨he, hb⟩ => ⟨by rw [he, hf], h.trans (hb.mono (by rw [← hB] at h ⊢; exact h.size))⟩
  have HF2 : Hid (∀ W, Below B w W → Calls Tryd.prog 11 #[.string k, .int .i64 n] W fun e w' => e = .returned (.string f) ∧ Below B w w') :=
    Lib.hid fun W h => (rfile_any k n W (by omega) hn).mono fun e w' ⟨he, hb⟩ => ⟨by rw [he, hf], h.trans (hb.mono (by rw [← hB] at h ⊢; exact h.size))⟩
  have HF3 : Hid (∀ W, Below B w W → Calls Tryd.prog 12 #[.int .i64 n] W fun e w' => e = .returned (.string g) ∧ Below B w w') :=
    Lib.hid fun W h => (wname_any n W hn (HT.out W h)).mono fun e w' ⟨he, hb⟩ => ⟨by rw [he, hg], h.trans (hb.mono (by rw [← hB] at h ⊢; exact h.size))⟩
  have HF4 : Hid (∀ W, Below B w W → Calls Tryd.prog 11 #[.string ⟨#[108, 111, 103]⟩, .int .i64 n] W fun e w' => e = .returned (.string g) ∧ Below B w w') :=
    Lib.hid fun W h => (rfile_any ⟨#[108, 111, 103]⟩ n W (by decide) hn).mono fun e w' ⟨he, hb⟩ => ⟨by rw [he, ← hg], h.trans (hb.mono (by rw [← hB] at h ⊢; exact h.size))⟩
  have HB0 : Hid (Below B w w) := Lib.hid (by rw [← hB]; exact Below.refl _ _)
  rw [hB]
  clear hao hf hg ht he HT HE
  go_enter Tryd.func3, Tryd.ntmps3
  go_wp2_with fail
  refine (HN1.out _ HB0.out).mono ?_
  rintro e w1 ⟨rfl, hb⟩
  have HB1 := Lib.hid hb
  clear hb HN1
  go_wp2_with fail
  refine (HN2.out _ HB1.out).mono ?_
  rintro e w2 ⟨rfl, hb⟩
  have HB2 := Lib.hid hb
  clear hb HN2
  go_wp2_with fail
  refine (HWK.out _ HB2.out).mono ?_
  rintro e w3 ⟨rfl, hb⟩
  have HB3 := Lib.hid hb
  clear hb HWK
  go_wp2_with fail
  refine (HF1.out _ HB3.out).mono ?_
  rintro e w4 ⟨rfl, hb⟩
  have HB4 := Lib.hid hb
  clear hb HF1
  go_wp2_with fail
  refine (HF2.out _ HB4.out).mono ?_
  rintro e w5 ⟨rfl, hb⟩
  have HB5 := Lib.hid hb
  clear hb HF2
  go_wp2_with fail
  refine (HF3.out _ HB5.out).mono ?_
  rintro e w6 ⟨rfl, hb⟩
  have HB6 := Lib.hid hb
  clear hb HF3
  go_wp2_with fail
  refine (HF4.out _ HB6.out).mono ?_
  rintro e w7 ⟨rfl, hb⟩
  have HB7 := Lib.hid hb
  clear hb HF4
  go_wp2
  go_ret
  exact ⟨rfl, HB7.out⟩

theorem facts {W : World} (h : laidMetH Tryd.prog Rows.walNamesRow.laid W) : Tab W ∧ Errs W := by
  rw [MakeChecks.laidMetH_plain _ _ _ (by kernel_rfl)] at h
  exact ⟨tab_of_laid h, errs_of_laid h⟩

set_option maxRecDepth 100000 in
set_option maxHeartbeats 1000000 in
theorem contract (H : Type) (enc : TypeId × Value → H) (W : World) (base : Nat) (args : Array Value) (ds gs : List (DataW H)) (before : List MemPlace)
    (hval : ∀ (j : Nat) t v, Tryd.f3.params[j]? = some t → args[j]? = some v → Value.okWide Tryd.prog W .any base t v)
    (hW : DataW.Whole enc Tryd.prog Tryd.f3.params.toList Rows.walNamesSpec.vars false W args.toList ds gs before)
    (hz : (DataW.weightsEach Tryd.prog Tryd.f3.params.toList (ds ++ gs)).all (· ≤ reachBytes) = true)
    (hL : laidMetH Tryd.prog Rows.walNamesRow.laid W) :
    Calls Tryd.prog 3 args W fun e W' => ∃ v, e = .returned v ∧ Rows.walNamesSpec.post enc Tryd.prog Tryd.f3 false true false false W args v W' := by
  have hW' := hW
  obtain ⟨p, q, hA0, hV, rfl, hfz, hnd⟩ := hW
  have hA : DataW.TrodAll enc Tryd.prog W 0 (fun _ => true) true Tryd.f3.params.toList args.toList ds p := hA0
  rw [Tryd.params3] at hA hval hz
  obtain ⟨v0, vs0, d0, ds0, p0, q0, hargs, rfl, rfl, h0, r0⟩ := trodAll_cons hA
  obtain ⟨v1, vs1, d1, ds1, p1, q1, rfl, rfl, rfl, h1, r1⟩ := trodAll_cons r0
  obtain ⟨v2, vs2, d2, ds2, p2, q2, rfl, rfl, rfl, h2, r2⟩ := trodAll_cons r1
  obtain ⟨rfl, rfl, rfl⟩ := trodAll_nil r2
  obtain rfl : args = #[v0, v1, v2] := by cases args; simp_all
  obtain ⟨rfl, rfl⟩ := trodVars_none hV
  obtain ⟨kind, rfl, rfl, rfl, hmax0⟩ := Go.ChangeMaps.open_string Tryd.underlying9 (hval 0 9 v0 rfl rfl) h0
  have hkind : kind.size ≤ 140737488351232 := by
    have h := sized_string hz (j := 0) rfl rfl
    have hl : kind.data.toList.length = kind.size := by simp
    unfold reachBytes at h
    omega
  obtain ⟨name, rfl, rfl, rfl, hmax1⟩ := Go.ChangeMaps.open_string Tryd.underlying9 (hval 1 9 v1 rfl rfl) h1
  have hname : name.size ≤ 140737488351232 := by
    have h := sized_string hz (j := 1) rfl rfl
    have hl : name.data.toList.length = name.size := by simp
    unfold reachBytes at h
    omega
  obtain ⟨n, rfl, rfl, rfl, wn⟩ := open_int Tryd.underlying2 (hval 2 2 v2 rfl rfl) h2
  have hn : -9223372036854775808 ≤ n ∧ n ≤ 9223372036854775807 := by simpa [Lit.wf, IntKind.min, IntKind.max, IntKind.signed, IntKind.bits] using wn
  have hf := facts hL
  refine (walk kind name n W hkind hname hn hf.1 hf.2).mono fun e W' ⟨he, hB⟩ => ?_
  subst he
  exact ⟨_, rfl, law_post Tryd.laidOut (by kernel_rfl) rfl rfl Tryd.underlying4 hW' rfl hB⟩

set_option maxRecDepth 100000 in
theorem lifted (os : Os) (started : os.Started) (H : Type) (enc : TypeId × Value → H) :
    ReturnsInHanded {} Tryd.checked os 3 .any (fun w args => (Rows.walNamesSpec.pre enc Tryd.prog Tryd.f3 [] false w args ∧ laidMetH Tryd.prog Rows.walNamesRow.laid w) ∧ sizedMet enc Tryd.prog Tryd.f3 (OpenSpec.ofChange Rows.walNamesSpec) false w args) (Rows.walNamesSpec.post enc Tryd.prog Tryd.f3 false true false false) := by
  refine returnsInHanded_of_change_and (C := Tryd.checked) (X := fun w _ => laidMetH Tryd.prog Rows.walNamesRow.laid w) (fun _ _ _ hh h => h.of_heap hh) Tryd.own started (by kernel_rfl) Tryd.func3
    (ChangeSpec.witness_shaped (enc := enc) (C := Tryd.checked) (os := os) (X := fun w _ => laidMetH Tryd.prog Rows.walNamesRow.laid w) false (World.laidAll Tryd.prog os Rows.walNamesRow.laid) #[.string ⟨#[]⟩, .string ⟨#[]⟩, .int .i64 0] 8 (World.laidAll_os _ _ _) (World.shaped_of_ZipB (by kernel_rfl) (by kernel_rfl)) (by kernel_rfl) (by kernel_rfl) (by kernel_rfl)
      (by rw [MakeChecks.laidMetH_plain _ _ _ (by kernel_rfl)]; exact laidMet_laidAll _ (by kernel_rfl) (by kernel_rfl))) ?_
  intro W base args ds gs before hval hW _ hz hL _
  exact contract H enc W base args ds gs before hval hW hz hL

theorem proved : Rows.WalNamesSaid :=
  OpenClaim.holds_of_wide 3 Tryd.f3 rfl rfl rfl rfl rfl rfl rfl ⟨rfl, rfl, rfl, rfl, rfl⟩ rfl rfl rfl rfl rfl (by kernel_rfl) Tryd.func3 (by kernel_rfl)
    (of_decide_eq_true (by kernel_rfl)) (by unfold Func.isWrapper; first | (rw [if_pos (by decide +kernel)]; kernel_rfl) | (rw [if_neg (by decide +kernel)]; exact ⟨rfl, rfl⟩))
    (fun os started H enc _ => lifted os started H enc)

set_option maxRecDepth 100000 in
theorem card : Rows.WalNamesCardSaid :=
  Claim7.holds_tied_plain_at .later [] _ true _ true
    proved (fun _ h => by cases h) (by kernel_rfl) (fun _ h => by cases h) walNames_row_tie rfl ⟨rfl, rfl⟩ (by kernel_rfl) rfl
    (fun f fn hf hfn => by
      obtain rfl : f = 3 := Option.some.inj ((show Tryd.prog.funcNamed "oxbow/oxbowlaw08.WalNames" = some 3 by kernel_rfl).symm.trans hf) |>.symm
      obtain rfl : fn = Tryd.f3 := (Option.some.inj (Tryd.func3.symm.trans hfn)).symm
      exact ⟨by kernel_rfl, fun j t ht => by
        rw [Tryd.params3] at ht
        have hm : t ∈ [9, 9, 2] := by simpa using Array.mem_of_getElem? ht
        have hall : ([9, 9, 2].all fun u => !Tryd.prog.wantsStandIn u) = true := by kernel_rfl
        exact (show Tryd.prog.wantsStandIn t = false by simpa using List.all_eq_true.1 hall t hm)⟩)
    (by kernel_rfl)
end lawNames
end Go.Proofs.YtgknkldhjejjmaaDoor
