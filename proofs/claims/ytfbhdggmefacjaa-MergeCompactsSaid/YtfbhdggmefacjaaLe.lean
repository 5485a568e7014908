/- MergeCompacts: of every entries in order what is left for any snaps is the document's answer. For every entries and numbers. -/
import Derived.Test.YtfbhdggmefacjaaLc
import Derived.Test.YtfbhdggmefacjaaRi
namespace Go.Proofs.Ytfbhdggmefacjaa
open Go.ChangeShapes Go.WideShapes Go.ChangeAt Go.RowKit Go.Shelf
open SK HP VB

namespace lawCompacts

set_option maxRecDepth 100000 in
set_option maxHeartbeats 4000000 in
theorem walk (A : Option Addr) (n cap : Nat) (l : List E) (X : Option Addr) (m0 d : Nat) (ys : List Int) (now : Int) (w : World) (hn : l.length = n) (hin : EntsIn w A l) (hb : n * 56 ≤ reachBytes) (hc : n ≤ cap) (hm0 : ys.length = m0) (hx : I64In w X ys) (hb8 : m0 * 8 ≤ reachBytes) (hd : m0 ≤ d) :
    Calls Try.prog 5 #[.slice A n cap, .slice X m0 d, .int .i64 now] w fun e w' => e = .returned (.bool true) ∧ Below w.heap.size w w' := by
  have HO1 := Lib.hid (ordered_any A n cap l w hn hin hc (by unfold reachBytes at hb; omega))
  have hso := od_sorted l
  have hol := od_len l
  obtain ⟨o, ho⟩ : ∃ o, od l = o := ⟨_, rfl⟩
  rw [ho] at HO1 hso hol
  obtain ⟨m, hm⟩ : ∃ m, min m0 20 = m := ⟨_, rfl⟩
  have hmin : min (m0 : Int) 20 = (m : Int) := by omega
  have hsl := fun W => i64_head W X m0 d m (by omega)
  have hx2 := hx.take m
  obtain ⟨xs, hxs⟩ : ∃ xs, ys.take m = xs := ⟨_, rfl⟩
  have hxm : xs.length = m := by rw [← hxs, List.length_take]; omega
  rw [hxs] at hx2
  have hm6 : m ≤ 20 := by omega
  have hm47 : m0 ≤ 140737488351232 := by unfold reachBytes at hb8; omega
  have k0 := cpt_sub xs now false hso
  have k1 := cpt_sub xs now true hso
  have HC : Hid (∀ W B c bot, Below w.heap.size w W → EntsIn W B o → o.length ≤ c → Calls Try.prog 18 #[.slice B o.length c, .slice X m d, .int .i64 now, .bool bot] W fun e w' => ∃ B' c', e = .returned (.slice B' (cpt xs now bot o).length c') ∧ EntsIn w' B' (cpt xs now bot o) ∧ (cpt xs now bot o).length ≤ c' ∧ Below W.heap.size W w') := Lib.hid fun W B c bot hW he hc => compact_in hso (by omega) hc hxm (by omega) he (hx2.below hW)
  have HR : Hid (∀ W B c bot, Below w.heap.size w W → EntsIn W B o → Calls Try.prog 19 #[.slice B o.length c, .slice X m d, .int .i64 now, .bool bot] W fun e w' => ∃ B' c', e = .returned (.slice B' (cpt xs now bot o).length c') ∧ EntsIn w' B' (cpt xs now bot o) ∧ Below W.heap.size W w') := Lib.hid fun W B c bot hW he => by
    have := rcompact_any B X o.length c m d o xs now bot W rfl (by omega) hxm (by omega) hso he (hx2.below hW)
    cases bot with
    | false => rw [cpt_false xs now hso]; exact this
    | true => rw [cpt_true xs now hso]; exact this
  have HS : Hid (∀ W B c B' c' (V : List SK.E), EntsIn W B V → EntsIn W B' V → V.length ≤ 100 → Calls Try.prog 11 #[.slice B V.length c, .slice B' V.length c'] W fun e w' => e = .returned (.bool true) ∧ Below W.heap.size W w') := Lib.hid fun W B c B' c' V h1 h2 h3 => same_any B B' _ c c' V W rfl h1 h2 (by omega)
  have l0 : (cpt xs now false o).length ≤ 100 := by have := k0.length_le; omega
  have l1 : (cpt xs now true o).length ≤ 100 := by have := k1.length_le; omega
  obtain ⟨N, hN⟩ : ∃ k, o.length = k := ⟨_, rfl⟩
  rw [hN] at HO1 HC HR hol
  have HW := Lib.hid wakes_any
  clear hn hin hb hc hm0 hx hd hb8 hso ho hx2 hxs hxm k0 k1 hN hm
  go_enter Try.func5, Try.ntmps5
  go_wp2_with fail
  refine HO1.out.mono ?_
  rintro e w1 ⟨A1, c1, D1, d1, rfl, h1, q1, r1, t1, hb1⟩
  have HB1 := Lib.hid hb1
  have H1 := Lib.hid h1
  have R1 := Lib.hid r1
  clear HO1 h1 r1 hb1 t1
  go_wp2_with fail
  refine (HW.out _).mono ?_
  rintro e w2 ⟨rfl, hb2⟩
  have HB2 := Lib.hid (HB1.out.trans (hb2.mono HB1.out.size))
  have H1 := Lib.hid (H1.out.below hb2)
  have R1 := Lib.hid (R1.out.below hb2)
  clear hb2
  go_wp2_with fail
  refine (HC.out w2 A1 c1 false HB2.out H1.out q1).mono ?_
  rintro e w3 ⟨B3, c3, rfl, he3, -, hb3⟩
  have HB3 := Lib.hid (HB2.out.trans (hb3.mono HB2.out.size))
  have H1 := Lib.hid (H1.out.below hb3)
  have R1 := Lib.hid (R1.out.below hb3)
  have HE3 := Lib.hid he3
  clear hb3 he3
  go_wp2_with fail
  refine (HR.out w3 D1 d1 false HB3.out R1.out).mono ?_
  rintro e w4 ⟨B4, c4, rfl, he4, hb4⟩
  have HB4 := Lib.hid (HB3.out.trans (hb4.mono HB3.out.size))
  have H1 := Lib.hid (H1.out.below hb4)
  have R1 := Lib.hid (R1.out.below hb4)
  have HE3 := Lib.hid (HE3.out.below hb4)
  have HE4 := Lib.hid he4
  clear hb4 he4
  go_wp2_with fail
  refine (HS.out _ _ _ _ _ _ HE3.out HE4.out l0).mono ?_
  rintro e w5 ⟨rfl, hb5⟩
  have HB5 := Lib.hid (HB4.out.trans (hb5.mono HB4.out.size))
  have H1 := Lib.hid (H1.out.below hb5)
  have R1 := Lib.hid (R1.out.below hb5)
  clear hb5 HE3 HE4
  go_wp2_with fail
  refine (HC.out w5 A1 c1 true HB5.out H1.out q1).mono ?_
  rintro e w6 ⟨B6, c6, rfl, he6, -, hb6⟩
  have HB6 := Lib.hid (HB5.out.trans (hb6.mono HB5.out.size))
  have R1 := Lib.hid (R1.out.below hb6)
  have HE6 := Lib.hid he6
  clear hb6 he6
  go_wp2_with fail
  refine (HR.out w6 D1 d1 true HB6.out R1.out).mono ?_
  rintro e w7 ⟨B7, c7, rfl, he7, hb7⟩
  have HB7 := Lib.hid (HB6.out.trans (hb7.mono HB6.out.size))
  have HE6 := Lib.hid (HE6.out.below hb7)
  have HE7 := Lib.hid he7
  clear hb7 he7
  go_wp2_with fail
  refine (HS.out _ _ _ _ _ _ HE6.out HE7.out l1).mono ?_
  rintro e w8 ⟨rfl, hb8⟩
  have HB8 := Lib.hid (HB7.out.trans (hb8.mono HB7.out.size))
  clear hb8
  go_wp2
  go_ret
  exact ⟨rfl, HB8.out⟩

set_option maxRecDepth 100000 in
theorem contract (H : Type) (enc : TypeId × Value → H) (W : World) (base : Nat) (args : Array Value) (ds gs : List (DataW H)) (before : List MemPlace)
    (hval : ∀ (j : Nat) t v, Try.f5.params[j]? = some t → args[j]? = some v → Value.okWide Try.prog W .any base t v)
    (hW : DataW.Whole enc Try.prog Try.f5.params.toList Rows.mergeCompactsSpec.vars false W args.toList ds gs before)
    (hz : (DataW.weightsEach Try.prog Try.f5.params.toList (ds ++ gs)).all (· ≤ reachBytes) = true) :
    Calls Try.prog 5 args W fun e W' => ∃ v, e = .returned v ∧ Rows.mergeCompactsSpec.post enc Try.prog Try.f5 false true false false W args v W' := by
  have hW' := hW
  obtain ⟨p, q, hA0, hV, rfl, hfz, hnd⟩ := hW
  have hA : DataW.TrodAll enc Try.prog W 0 (fun _ => true) true Try.f5.params.toList args.toList ds p := hA0
  rw [Try.params5] at hA hval hz
  obtain ⟨v0, vs0, d0, ds0, p0, q0, hargs, rfl, rfl, h0, r0⟩ := trodAll_cons hA
  obtain ⟨v1, vs1, d1, ds1, p1, q1, rfl, rfl, rfl, h1, r1⟩ := trodAll_cons r0
  obtain ⟨v2, vs2, d2, ds2, p2, q2, rfl, rfl, rfl, h2, r2⟩ := trodAll_cons r1
  obtain ⟨rfl, rfl, rfl⟩ := trodAll_nil r2
  obtain rfl : args = #[v0, v1, v2] := by cases args; simp_all
  obtain ⟨rfl, rfl⟩ := trodVars_none hV
  obtain ⟨lA, lN, lC, l, rfl, hlenl, hinl, hbl, hcapl⟩ := open_ents (hval 0 22 v0 rfl rfl) h0 (parts_sized hz (j := 0) rfl rfl)
  obtain ⟨sA, sN, sC, s, rfl, hlens, hins, hfits, hbs, hcaps⟩ := open_n64 Try.underlying43 Try.underlying2 (by kernel_rfl) (by kernel_rfl) (hval 1 43 v1 rfl rfl) h1 (parts_sized hz (j := 1) rfl rfl)
  obtain ⟨t, rfl, rfl, rfl, wt⟩ := open_int Try.underlying2 (hval 2 2 v2 rfl rfl) h2
  have ht : -9223372036854775808 ≤ t ∧ t ≤ 9223372036854775807 := by simpa [Lit.wf, IntKind.min, IntKind.max, IntKind.signed, IntKind.bits] using wt
  refine (walk lA lN lC l sA sN sC s t W hlenl hinl hbl hcapl hlens hins hbs hcaps).mono fun e W' ⟨he, hB⟩ => ?_
  subst he
  exact ⟨_, rfl, law_post Try.laidOut (by kernel_rfl) rfl rfl Try.underlying4 hW' rfl hB⟩

set_option maxRecDepth 100000 in
theorem lifted (os : Os) (started : os.Started) (H : Type) (enc : TypeId × Value → H) :
    ReturnsInHanded {} Try.checked os 5 .any (Rows.mergeCompactsSpec.pre6 enc Try.prog Try.f5 Rows.mergeCompactsRow.domain false) (Rows.mergeCompactsSpec.post enc Try.prog Try.f5 false true false false) := by
  refine returnsInHanded_of_change_sized (C := Try.checked) Try.own started (by kernel_rfl) Try.func5
    (ChangeSpec.witness6 (enc := enc) (C := Try.checked) false ⟨#[], #[.slice none 0 0, .slice none 0 0, .int .i64 0], []⟩ 8 (by kernel_rfl) (by kernel_rfl) (by kernel_rfl) (by kernel_rfl)) ?_
  intro W base args ds gs before hval hW _ hz _
  exact contract H enc W base args ds gs before hval hW hz

theorem proved : Rows.MergeCompactsSaid :=
  OpenClaim.holds_of_wide 5 Try.f5 rfl rfl rfl rfl rfl rfl rfl ⟨rfl, rfl, rfl, rfl, rfl⟩ rfl rfl rfl rfl rfl (by kernel_rfl) Try.func5 (by kernel_rfl)
    (of_decide_eq_true (by kernel_rfl)) (by unfold Func.isWrapper; first | (rw [if_pos (by decide +kernel)]; kernel_rfl) | (rw [if_neg (by decide +kernel)]; exact ⟨rfl, rfl⟩))
    (fun os started H enc _ => lifted os started H enc)
end lawCompacts
end Go.Proofs.Ytfbhdggmefacjaa
