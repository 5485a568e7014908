/- MergeMerges: every lists in order are merged as the document says. For every entries. -/
import Derived.Test.YtfbhdggmefacjaaWk
import Derived.Test.YtfbhdggmefacjaaRe
import Derived.Test.YtfbhdggmefacjaaOq
import Derived.Test.YtfbhdggmefacjaaLaw
namespace Go.Proofs.Ytfbhdggmefacjaa
open Go.ChangeShapes Go.WideShapes Go.ChangeAt Go.RowKit
open SK HP VB

theorem lists3 {W : World} {b : Nat} {t : TypeId} {A1 A2 A3 : Option Addr} {c1 c2 c3 : Nat} {o1 o2 o3 : List SK.E} (hr : W.heap[b]? = some (.cells #[.slice A1 o1.length c1, .slice A2 o2.length c2, .slice A3 o3.length c3] t (0, 0)))
    (h1 : EntsIn W A1 o1) (k1 : o1.length ≤ c1) (h2 : EntsIn W A2 o2) (k2 : o2.length ≤ c2) (h3 : EntsIn W A3 o3) (k3 : o3.length ≤ c3) : ListsIn W (some ⟨b, 0, none⟩) [⟨A1, c1, o1⟩, ⟨A2, c2, o2⟩, ⟨A3, c3, o3⟩] := by
  refine ⟨fun x hx => ?_, fun _ => ⟨_, _, rfl, (Array.getElem?_eq_some_iff.1 hr).1, fun j hj => ?_⟩⟩
  · rcases (by simpa using hx) with rfl | rfl | rfl
    · exact ⟨h1, k1⟩
    · exact ⟨h2, k2⟩
    · exact ⟨h3, k3⟩
  · rcases (by simp at hj; omega : j = 0 ∨ j = 1 ∨ j = 2) with rfl | rfl | rfl <;> simp [World.cell?, hr]

namespace lawMerges

set_option maxRecDepth 100000 in
set_option maxHeartbeats 4000000 in
theorem walk (A : Option Addr) (n cap : Nat) (l : List E) (A' : Option Addr) (n' cap' : Nat) (l' : List E) (A'' : Option Addr) (n'' cap'' : Nat) (l'' : List E) (w : World) (hn : l.length = n) (hin : EntsIn w A l) (hb : n * 56 ≤ reachBytes) (hc : n ≤ cap)
    (hn' : l'.length = n') (hin' : EntsIn w A' l') (hb' : n' * 56 ≤ reachBytes) (hc' : n' ≤ cap') (hn'' : l''.length = n'') (hin'' : EntsIn w A'' l'') (hb'' : n'' * 56 ≤ reachBytes) (hc'' : n'' ≤ cap'') :
    Calls Try.prog 3 #[.slice A n cap, .slice A' n' cap', .slice A'' n'' cap''] w fun e w' => e = .returned (.bool true) ∧ Below w.heap.size w w' := by
  have HO1 := Lib.hid (ordered_any A n cap l w hn hin hc (by unfold reachBytes at hb; omega))
  have HO2 := Lib.hid (fun W (hW : Below w.heap.size w W) => ordered_any A' n' cap' l' W hn' (hin'.below hW) hc' (by unfold reachBytes at hb'; omega))
  have HO3 := Lib.hid (fun W (hW : Below w.heap.size w W) => ordered_any A'' n'' cap'' l'' W hn'' (hin''.below hW) hc'' (by unfold reachBytes at hb''; omega))
  have s1 := od_sorted l
  have s2 := od_sorted l'
  have s3 := od_sorted l''
  have k1 := od_len l
  have k2 := od_len l'
  have k3 := od_len l''
  obtain ⟨o1, ho1⟩ : ∃ o, od l = o := ⟨_, rfl⟩
  obtain ⟨o2, ho2⟩ : ∃ o, od l' = o := ⟨_, rfl⟩
  obtain ⟨o3, ho3⟩ : ∃ o, od l'' = o := ⟨_, rfl⟩
  rw [ho1] at HO1 s1 k1
  rw [ho2] at HO2 s2 k2
  rw [ho3] at HO3 s3 k3
  have hfl : (List.map (fun (x : LE) => x.l) [⟨A, cap, o1⟩, ⟨A', cap', o2⟩, ⟨A'', cap'', o3⟩]).flatten.length ≤ 1000000 := by simp; omega
  obtain ⟨R, hR⟩ : ∃ R, mrg (o1 ++ (o2 ++ (o3 ++ []))) = R := ⟨_, rfl⟩
  have hRl : R.length ≤ 1000000 := by
    have := mrg_len (o1 ++ (o2 ++ (o3 ++ [])))
    rw [hR] at this
    simp at this
    omega
  have HM : Hid (∀ W b B1 c1 B2 c2 B3 c3, W.heap[b]? = some (.cells #[.slice B1 o1.length c1, .slice B2 o2.length c2, .slice B3 o3.length c3] 23 (0, 0)) → EntsIn W B1 o1 → o1.length ≤ c1 → EntsIn W B2 o2 → o2.length ≤ c2 → EntsIn W B3 o3 → o3.length ≤ c3 →
      Calls Try.prog 12 #[.slice (some ⟨b, 0, none⟩) 3 3] W fun e w' => ∃ B c, e = .returned (.slice B R.length c) ∧ EntsIn w' B R ∧ Below W.heap.size W w') := Lib.hid fun W b B1 c1 B2 c2 B3 c3 hr e1 q1 e2 q2 e3 q3 => by
    refine (merge_any (some ⟨b, 0, none⟩) 3 3 _ W rfl (lists3 hr e1 q1 e2 q2 e3 q3) (by decide) (fun x hx => ?_) (by simp; omega)).mono ?_
    · rcases (by simpa using hx) with rfl | rfl | rfl
      · exact s1
      · exact s2
      · exact s3
    · rintro e w' ⟨v, rfl, ho, hbb⟩
      simp only [List.map_cons, List.map_nil, List.flatten_cons, List.flatten_nil, hR] at ho
      obtain ⟨B, c, rfl, h1, -, -⟩ := own_ents (fun x hx => by
        rcases List.mem_append.1 (mrg_sub _ x (by rw [hR]; exact hx)) with h | h
        · exact e1.wf x h
        · rcases List.mem_append.1 h with h | h
          · exact e2.wf x h
          · exact e3.wf x (by simpa using h)) rfl ho
      exact ⟨B, c, rfl, h1, hbb⟩
  have HRM : Hid (∀ W b B1 c1 B2 c2 B3 c3, W.heap[b]? = some (.cells #[.slice B1 o1.length c1, .slice B2 o2.length c2, .slice B3 o3.length c3] 32 (0, 0)) → EntsIn W B1 o1 → o1.length ≤ c1 → EntsIn W B2 o2 → o2.length ≤ c2 → EntsIn W B3 o3 → o3.length ≤ c3 →
      Calls Try.prog 13 #[.slice (some ⟨b, 0, none⟩) 3 3] W fun e w' => ∃ B c, e = .returned (.slice B R.length c) ∧ EntsIn w' B R ∧ Below W.heap.size W w') := Lib.hid fun W b B1 c1 B2 c2 B3 c3 hr e1 q1 e2 q2 e3 q3 => by
    refine (rmerge_any (some ⟨b, 0, none⟩) 3 3 _ W rfl (lists3 hr e1 q1 e2 q2 e3 q3) (by decide) (by simp; omega)).mono ?_
    rintro e w' ⟨v, rfl, ho, hbb⟩
    simp only [List.map_cons, List.map_nil, List.flatten_cons, List.flatten_nil, hR] at ho
    obtain ⟨B, c, rfl, h1, -, -⟩ := own_ents (fun x hx => by
      rcases List.mem_append.1 (mrg_sub _ x (by rw [hR]; exact hx)) with h | h
      · exact e1.wf x h
      · rcases List.mem_append.1 h with h | h
        · exact e2.wf x h
        · exact e3.wf x (by simpa using h)) rfl ho
    exact ⟨B, c, rfl, h1, hbb⟩
  have HM0 : Hid (∀ W, Calls Try.prog 12 #[.slice none 0 0] W fun e w' => ∃ B c, e = .returned (.slice B 0 c) ∧ Below W.heap.size W w') := Lib.hid fun W => (merge_any none 0 0 [] W rfl ⟨by simp, by simp⟩ (by decide) (by simp) (by simp)).mono fun e w' ⟨v, h1, h2, h3⟩ => by
    obtain ⟨B, c, rfl⟩ := own_shape h2
    exact ⟨B, c, h1, h3⟩
  have HSM : Hid (∀ W B c B' c', EntsIn W B R → EntsIn W B' R → Calls Try.prog 11 #[.slice B R.length c, .slice B' R.length c'] W fun e w' => e = .returned (.bool true) ∧ Below W.heap.size W w') := Lib.hid fun W B c B' c' h1 h2 => same_any B B' R.length c c' R W rfl h1 h2 hRl
  have HW := Lib.hid wakes_any
  clear hn hin hb hc hn' hin' hb' hc' hn'' hin'' hb'' hc'' s1 s2 s3 hfl hR hRl ho1 ho2 ho3
  obtain ⟨N, hN⟩ : ∃ N, R.length = N := ⟨_, rfl⟩
  rw [hN] at HM HRM HSM
  clear hN
  go_enter Try.func3, Try.ntmps3
  go_wp2_with fail
  refine HO1.out.mono ?_
  rintro e w1 ⟨A1, c1, D1, d1, rfl, h1, q1, r1, t1, hb1⟩
  have HB1 := Lib.hid hb1
  clear HO1
  go_wp2_with fail
  refine (HO2.out w1 HB1.out).mono ?_
  rintro e w2 ⟨A2, c2, D2, d2, rfl, h2, q2, r2, t2, hb2⟩
  have HB2 := Lib.hid (HB1.out.trans (hb2.mono HB1.out.size))
  have H1 := Lib.hid (h1.below hb2)
  have R1 := Lib.hid (r1.below hb2)
  clear HO2 h1 r1 hb1 hb2
  go_wp2_with fail
  refine (HO3.out w2 HB2.out).mono ?_
  rintro e w3 ⟨A3, c3, D3, d3, rfl, h3, q3, r3, t3, hb3⟩
  have HB3 := Lib.hid (HB2.out.trans (hb3.mono HB2.out.size))
  have H1 := Lib.hid (H1.out.below hb3)
  have R1 := Lib.hid (R1.out.below hb3)
  have H2 := Lib.hid (h2.below hb3)
  have R2 := Lib.hid (r2.below hb3)
  clear HO3 h2 r2 hb3
  go_wp2_with fail
  refine (HW.out _).mono ?_
  rintro e w4 ⟨rfl, hb4⟩
  have HB4 := Lib.hid (HB3.out.trans (hb4.mono HB3.out.size))
  have hal := hb4.alloc hb4.size (.cells #[.slice A1 o1.length c1, .slice A2 o2.length c2, .slice A3 o3.length c3] 23)
  have H1 := Lib.hid (H1.out.below hal)
  have H2 := Lib.hid (H2.out.below hal)
  have H3 := Lib.hid (h3.below hal)
  have R1 := Lib.hid (R1.out.below hb4)
  have R2 := Lib.hid (R2.out.below hb4)
  have R3 := Lib.hid (r3.below hb4)
  clear h3 r3 hb4 hal
  go_wp2_with fail
  refine (HM.out _ _ _ _ _ _ _ _ (heap_alloc_new w4 _) H1.out q1 H2.out q2 H3.out q3).mono ?_
  rintro e w5 ⟨B5, c5, rfl, he5, hb5⟩
  have hb45 : Below w4.heap.size w4 w5 := ((Below.refl w4.heap.size w4).alloc (Nat.le_refl _) _).trans (hb5.mono (by simp))
  have HB5 := Lib.hid (HB4.out.trans (hb45.mono HB4.out.size))
  have hal := hb45.alloc hb45.size (.cells #[.slice D1 o1.length d1, .slice D2 o2.length d2, .slice D3 o3.length d3] 32)
  have R1 := Lib.hid (R1.out.below hal)
  have R2 := Lib.hid (R2.out.below hal)
  have R3 := Lib.hid (R3.out.below hal)
  have HE5 := Lib.hid he5
  clear he5 hb5 hb45 hal HM H1 H2 H3
  go_wp2_with fail
  refine (HRM.out _ _ _ _ _ _ _ _ (heap_alloc_new w5 _) R1.out t1 R2.out t2 R3.out t3).mono ?_
  rintro e w6 ⟨B6, c6, rfl, he6, hb6⟩
  have hb56 : Below w5.heap.size w5 w6 := ((Below.refl w5.heap.size w5).alloc (Nat.le_refl _) _).trans (hb6.mono (by simp))
  have HB6 := Lib.hid (HB5.out.trans (hb56.mono HB5.out.size))
  have HE5 := Lib.hid (HE5.out.below hb56)
  have HE6 := Lib.hid he6
  clear he6 hb6 hb56 HRM R1 R2 R3
  go_wp2_with fail
  refine (HSM.out _ _ _ _ _ HE5.out HE6.out).mono ?_
  rintro e w7 ⟨rfl, hb7⟩
  have HB7 := Lib.hid (HB6.out.trans (hb7.mono HB6.out.size))
  clear hb7
  go_wp2_with fail
  refine (HM0.out _).mono ?_
  rintro e w8 ⟨B8, c8, rfl, hb8⟩
  have HB8 := Lib.hid (HB7.out.trans (hb8.mono HB7.out.size))
  clear hb8
  go_wp2
  go_ret
  exact ⟨rfl, HB8.out⟩

set_option maxRecDepth 100000 in
theorem contract (H : Type) (enc : TypeId × Value → H) (W : World) (base : Nat) (args : Array Value) (ds gs : List (DataW H)) (before : List MemPlace)
    (hval : ∀ (j : Nat) t v, Try.f3.params[j]? = some t → args[j]? = some v → Value.okWide Try.prog W .any base t v)
    (hW : DataW.Whole enc Try.prog Try.f3.params.toList Rows.mergeMergesSpec.vars false W args.toList ds gs before)
    (hz : (DataW.weightsEach Try.prog Try.f3.params.toList (ds ++ gs)).all (· ≤ reachBytes) = true) :
    Calls Try.prog 3 args W fun e W' => ∃ v, e = .returned v ∧ Rows.mergeMergesSpec.post enc Try.prog Try.f3 false true false false W args v W' := by
  have hW' := hW
  obtain ⟨p, q, hA0, hV, rfl, hfz, hnd⟩ := hW
  have hA : DataW.TrodAll enc Try.prog W 0 (fun _ => true) true Try.f3.params.toList args.toList ds p := hA0
  rw [Try.params3] at hA hval hz
  obtain ⟨v0, vs0, d0, ds0, p0, q0, hargs, rfl, rfl, h0, r0⟩ := trodAll_cons hA
  obtain ⟨v1, vs1, d1, ds1, p1, q1, rfl, rfl, rfl, h1, r1⟩ := trodAll_cons r0
  obtain ⟨v2, vs2, d2, ds2, p2, q2, rfl, rfl, rfl, h2, r2⟩ := trodAll_cons r1
  obtain ⟨rfl, rfl, rfl⟩ := trodAll_nil r2
  obtain rfl : args = #[v0, v1, v2] := by cases args; simp_all
  obtain ⟨rfl, rfl⟩ := trodVars_none hV
  obtain ⟨aA, aN, aC, a, rfl, hlena, hina, hba, hcapa⟩ := open_ents (hval 0 22 v0 rfl rfl) h0 (parts_sized hz (j := 0) rfl rfl)
  obtain ⟨bA, bN, bC, b, rfl, hlenb, hinb, hbb, hcapb⟩ := open_ents (hval 1 22 v1 rfl rfl) h1 (parts_sized hz (j := 1) rfl rfl)
  obtain ⟨cA, cN, cC, c, rfl, hlenc, hinc, hbc, hcapc⟩ := open_ents (hval 2 22 v2 rfl rfl) h2 (parts_sized hz (j := 2) rfl rfl)
  refine (walk aA aN aC a bA bN bC b cA cN cC c W hlena hina hba hcapa hlenb hinb hbb hcapb hlenc hinc hbc hcapc).mono fun e W' ⟨he, hB⟩ => ?_
  subst he
  exact ⟨_, rfl, law_post Try.laidOut (by kernel_rfl) rfl rfl Try.underlying4 hW' rfl hB⟩

set_option maxRecDepth 100000 in
theorem lifted (os : Os) (started : os.Started) (H : Type) (enc : TypeId × Value → H) :
    ReturnsInHanded {} Try.checked os 3 .any (Rows.mergeMergesSpec.pre6 enc Try.prog Try.f3 Rows.mergeMergesRow.domain false) (Rows.mergeMergesSpec.post enc Try.prog Try.f3 false true false false) := by
  refine returnsInHanded_of_change_sized (C := Try.checked) Try.own started (by kernel_rfl) Try.func3
    (ChangeSpec.witness6 (enc := enc) (C := Try.checked) false ⟨#[], #[.slice none 0 0, .slice none 0 0, .slice none 0 0], []⟩ 8 (by kernel_rfl) (by kernel_rfl) (by kernel_rfl) (by kernel_rfl)) ?_
  intro W base args ds gs before hval hW _ hz _
  exact contract H enc W base args ds gs before hval hW hz

theorem proved : Rows.MergeMergesSaid :=
  OpenClaim.holds_of_wide 3 Try.f3 rfl rfl rfl rfl rfl rfl rfl ⟨rfl, rfl, rfl, rfl, rfl⟩ rfl rfl rfl rfl rfl (by kernel_rfl) Try.func3 (by kernel_rfl)
    (of_decide_eq_true (by kernel_rfl)) (by unfold Func.isWrapper; first | (rw [if_pos (by decide +kernel)]; kernel_rfl) | (rw [if_neg (by decide +kernel)]; exact ⟨rfl, rfl⟩))
    (fun os started H enc _ => lifted os started H enc)
end lawMerges
end Go.Proofs.Ytfbhdggmefacjaa
