/- BlockEvery: how often keys are told whole makes no difference to what is read. For every entries and every two numbers. -/
import Derived.Test.YtcmnbfcceeljpaaBa
namespace Go.Proofs.Ytcmnbfcceeljpaa
open Go.ChangeShapes Go.WideShapes Go.ChangeAt Go.RowKit
open SK
namespace lawEvery

set_option maxRecDepth 100000 in
set_option maxHeartbeats 4000000 in
theorem walk (A : Option Addr) (n cap : Nat) (l : List E) (one two : Int) (w : World) (hn : l.length = n) (hin : EntsIn w A l) (hb : n * 56 ≤ reachBytes) (h1 : -9223372036854775808 ≤ one ∧ one ≤ 9223372036854775807) (h2 : -9223372036854775808 ≤ two ∧ two ≤ 9223372036854775807) :
    Calls Try.prog 9 #[.slice A n cap, .int .i64 one, .int .i64 two] w fun e w' => e = .returned (.bool true) ∧ Below w.heap.size w w' := by
  have HL := Lib.hid (lists_in A n cap l w hn hin hb)
  have hn47 : n ≤ 140737488351232 := by unfold reachBytes at hb; omega
  have HW : Hid (∀ W, Calls Try.prog 13 #[] W fun r w' => r = .returned (.bool true) ∧ Below W.heap.size W w') := fun W => wakes_any W
  obtain ⟨v1, ha1, hb1, hc1⟩ := one64 one
  obtain ⟨v2, ha2, hb2, hc2⟩ := one64 two
  obtain ⟨x1, y1⟩ := BK.build_all l v1 ha1 hb1
  obtain ⟨x2, y2⟩ := BK.build_all l v2 ha2 hb2
  have HP : Hid (∀ W A1 c1, EntsIn W A1 l ∧ n ≤ c1 → Calls Try.prog 14 #[.slice A1 n c1, .int .i64 v1] W fun e w' => e = .returned (.tuple #[.string ⟨(BK.buildOut l v1).1.toArray⟩, .int .i64 (BK.buildOut l v1).2]) ∧ Below W.heap.size W w') := fun W A1 c1 h => build_any A1 n c1 l v1 W hn h.2 h.1 hn47
  have HQ : Hid (∀ W A1 c1, EntsIn W A1 l ∧ n ≤ c1 → Calls Try.prog 14 #[.slice A1 n c1, .int .i64 v2] W fun e w' => e = .returned (.tuple #[.string ⟨(BK.buildOut l v2).1.toArray⟩, .int .i64 (BK.buildOut l v2).2]) ∧ Below W.heap.size W w') := fun W A1 c1 h => build_any A1 n c1 l v2 W hn h.2 h.1 hn47
  have hG1 : BK.buildC l = 0 → n ≤ 4096 ∧ ∀ W, Calls Try.prog 16 #[.string ⟨(BK.buildOut l v1).1.toArray⟩] W fun e w' => ∃ A c, e = .returned (.tuple #[.slice A n c, .int .i64 0]) ∧ EntsIn w' A l ∧ (∀ x ∈ fb A, W.heap.size ≤ x ∧ x < w'.heap.size) ∧ Below W.heap.size W w' := fun h0 => by
    obtain ⟨r1, r2, r3⟩ := y1 h0
    rw [r3, ← hn]
    exact ⟨r1, fun W => back_any l v1 r1 r2 hin.wf W⟩
  have hG2 : BK.buildC l = 0 → ∀ W, Calls Try.prog 16 #[.string ⟨(BK.buildOut l v2).1.toArray⟩] W fun e w' => ∃ A c, e = .returned (.tuple #[.slice A n c, .int .i64 0]) ∧ EntsIn w' A l ∧ (∀ x ∈ fb A, W.heap.size ≤ x ∧ x < w'.heap.size) ∧ Below W.heap.size W w' := fun h0 => by
    obtain ⟨r1, r2, r3⟩ := y2 h0
    rw [r3, ← hn]
    exact fun W => back_any l v2 r1 r2 hin.wf W
  rw [x1] at HP
  rw [x2] at HQ
  obtain ⟨C, hC⟩ : ∃ C, BK.buildC l = C := ⟨_, rfl⟩
  obtain ⟨S1, hS1⟩ : ∃ S : ByteArray, (⟨(BK.buildOut l v1).1.toArray⟩ : ByteArray) = S := ⟨_, rfl⟩
  obtain ⟨S2, hS2⟩ : ∃ S : ByteArray, (⟨(BK.buildOut l v2).1.toArray⟩ : ByteArray) = S := ⟨_, rfl⟩
  rw [hC] at HP HQ hG1 hG2
  rw [hS1] at HP hG1
  rw [hS2] at HQ hG2
  have HG1 := Lib.hid hG1
  have HG2 := Lib.hid hG2
  have HLN := Lib.hid hn
  have HC1 := Lib.hid hc1
  have HC2 := Lib.hid hc2
  have hCC : (C == C) = true := beq_self_eq_true _
  have hCN : (C != C) = false := by rw [bne, hCC]; rfl
  clear hC hS1 hS2 hn hin hb hn47 x1 x2 y1 y2 hG1 hG2 ha1 ha2 hb1 hb2 hc1 hc2
  go_enter Try.func9, Try.ntmps9
  go_wp2_with fail
  refine HL.out.mono ?_
  rintro e w1 ⟨A1, c1, A2, c2, rfl, h1, h2, hb1, hs1⟩
  have H1 := Lib.hid h1
  have HB1 := Lib.hid hb1
  have HS1 := Lib.hid hs1
  clear h1 h2 hb1 hs1 HL
  go_wp2_with fail
  rw [HC1.out, HC2.out]
  refine (HP.out _ _ _ H1.out).mono ?_
  rintro e w2 ⟨rfl, hb2⟩
  have H12 : Hid (EntsIn w2 A1 l ∧ n ≤ c1) := Lib.hid ⟨H1.out.1.below hb2, H1.out.2⟩
  have HB2 : Hid (Below w.heap.size w w2) := Lib.hid (HB1.out.trans (hb2.mono HS1.out))
  have HS2 : Hid (w.heap.size ≤ w2.heap.size) := Lib.hid (Nat.le_trans HS1.out hb2.size)
  clear hb2 HP
  go_wp2_with fail
  refine (HQ.out _ _ _ H12.out).mono ?_
  rintro e w3 ⟨rfl, hb3⟩
  have HB3 : Hid (Below w.heap.size w w3) := Lib.hid (HB2.out.trans (hb3.mono HS2.out))
  have HS3 : Hid (w.heap.size ≤ w3.heap.size) := Lib.hid (Nat.le_trans HS2.out hb3.size)
  clear hb3 HQ
  go_wp2_with fail
  refine (HW.out _).mono ?_
  rintro r w4 ⟨rfl, hb4⟩
  have HB4 : Hid (Below w.heap.size w w4) := Lib.hid (HB3.out.trans (hb4.mono HS3.out))
  have HS4 : Hid (w.heap.size ≤ w4.heap.size) := Lib.hid (Nat.le_trans HS3.out hb4.size)
  clear hb4
  by_cases h0 : C = 0
  · subst h0
    obtain ⟨hn4, hp1⟩ := HG1.out rfl
    have HR1 := Lib.hid hp1
    have HR2 := Lib.hid (HG2.out rfl)
    have HN4 := Lib.hid hn4
    clear hn4 hp1 HG1 HG2
    go_wp2_with fail
    refine (HR1.out _).mono ?_
    rintro r w5 ⟨A3, c3, rfl, h3, -, hb5⟩
    have H35 := Lib.hid h3
    have HB5 : Hid (Below w.heap.size w w5) := Lib.hid (HB4.out.trans (hb5.mono HS4.out))
    have HS5 : Hid (w.heap.size ≤ w5.heap.size) := Lib.hid (Nat.le_trans HS4.out hb5.size)
    clear h3 hb5 HR1
    go_wp2_with fail
    refine (HR2.out _).mono ?_
    rintro r w6 ⟨A4, c4, rfl, h4, -, hb6⟩
    have H36 := Lib.hid (H35.out.below hb6)
    have H46 := Lib.hid h4
    have HB6 : Hid (Below w.heap.size w w6) := Lib.hid (HB5.out.trans (hb6.mono HS5.out))
    clear h4 hb6 HR2
    have hnn : ((n : Int) == (n : Int)) = true := beq_self_eq_true _
    go_wp2_with fail
    go_loopw [83] (fun i wr => ∃ j : Nat, j ≤ n ∧ i = .int .i64 j ∧ Below w.heap.size w wr ∧ Below w6.heap.size w6 wr) (fun i _ => n - (intOf i).toNat)
    case atStart => exact ⟨0, by omega, rfl, HB6.out, Below.refl _ _⟩
    case round =>
      obtain ⟨j, hj, rfl, hbw, hk⟩ := hrel
      by_cases hlt : j < n
      · have hjl : j < l.length := by rw [HLN.out]; omega
        obtain ⟨b, off, hA, hbl, hc⟩ := (H36.out.below hk).at_ (by omega)
        obtain ⟨z0, z1, z2, z3, z4⟩ := hc j hjl
        obtain ⟨b', off', hA', hbl', hc'⟩ := (H46.out.below hk).at_ (by omega)
        obtain ⟨y0, y1, y2, y3, y4⟩ := hc' j hjl
        obtain ⟨e, he⟩ : ∃ e, l[j] = e := ⟨_, rfl⟩
        rw [he] at z0 z1 z2 z3 z4 y0 y1 y2 y3 y4
        subst hA hA'
        obtain ⟨k2, q2, g2, v2, t2⟩ := e
        simp only at z0 z1 z2 z3 z4 y0 y1 y2 y3 y4
        have hee1 := fun W => ent_any W k2 k2 q2 q2 g2 g2 v2 v2 t2 t2
        have heq1 : eqB ⟨k2, q2, g2, v2, t2⟩ ⟨k2, q2, g2, v2, t2⟩ = true := (eqB_iff _ _).2 rfl
        simp only [heq1, Bool.not_true] at hee1
        have g0 : (0 : Int) ≤ (j : Int) := by omega
        have g1 : (j : Int) < (n : Int) := by omega
        have hn4 : n ≤ 4096 := HN4.out
        have HB7 := Lib.hid hbw
        have HK7 := Lib.hid hk
        clear hk hbw hbl hbl' hc hc' he heq1
        go_wp2_with fail
        go_quiet (fail)
        go_wp2
        go_roundw
        case rel => exact ⟨j + 1, by omega, by go_num, below_drewN HB7.out _, below_drewN HK7.out _⟩
        case measure => simp [intOf]; omega
      · have HB7 := Lib.hid hbw
        have hjn : j = n := by omega
        subst hjn
        clear hbw hk
        go_wp2
        go_ret
        exact ⟨rfl, HB7.out⟩
  · have hbe : (C == 0) = false := by simpa using h0
    have hbn : (C != 0) = true := by simpa using h0
    go_wp2_with (go_at_call 13; refine (HW.out _).mono ?_; rintro r w5 ⟨rfl, hb5⟩
                 have HB5 : Hid (Below w.heap.size w w5) := Lib.hid (HB4.out.trans (hb5.mono HS4.out))
                 clear hb5)
    go_ret
    exact ⟨rfl, HB5.out⟩

set_option maxRecDepth 100000 in
theorem contract (H : Type) (enc : TypeId × Value → H) (W : World) (base : Nat) (args : Array Value) (ds gs : List (DataW H)) (before : List MemPlace)
    (hval : ∀ (j : Nat) t v, Try.f9.params[j]? = some t → args[j]? = some v → Value.okWide Try.prog W .any base t v)
    (hW : DataW.Whole enc Try.prog Try.f9.params.toList Rows.blockEverySpec.vars false W args.toList ds gs before)
    (hz : (DataW.weightsEach Try.prog Try.f9.params.toList (ds ++ gs)).all (· ≤ reachBytes) = true) :
    Calls Try.prog 9 args W fun e W' => ∃ v, e = .returned v ∧ Rows.blockEverySpec.post enc Try.prog Try.f9 false true false false W args v W' := by
  have hW' := hW
  obtain ⟨p, q, hA0, hV, rfl, hfz, hnd⟩ := hW
  have hA : DataW.TrodAll enc Try.prog W 0 (fun _ => true) true Try.f9.params.toList args.toList ds p := hA0
  rw [Try.params9] at hA hval hz
  obtain ⟨v0, vs0, d0, ds0, p0, q0, hargs, rfl, rfl, h0, r0⟩ := trodAll_cons hA
  obtain ⟨v1, vs1, d1, ds1, p1, q1, rfl, rfl, rfl, h1, r1⟩ := trodAll_cons r0
  obtain ⟨v2, vs2, d2, ds2, p2, q2, rfl, rfl, rfl, h2, r2⟩ := trodAll_cons r1
  obtain ⟨rfl, rfl, rfl⟩ := trodAll_nil r2
  obtain rfl : args = #[v0, v1, v2] := by cases args; simp_all
  obtain ⟨rfl, rfl⟩ := trodVars_none hV
  obtain ⟨lA, lN, lC, l, rfl, hlenl, hinl, hbl, hcapl⟩ := open_ents (hval 0 22 v0 rfl rfl) h0 (parts_sized hz (j := 0) rfl rfl)
  obtain ⟨one, rfl, rfl, rfl, wone⟩ := open_int Try.underlying3 (hval 1 3 v1 rfl rfl) h1
  have hone : -9223372036854775808 ≤ one ∧ one ≤ 9223372036854775807 := by simpa [Lit.wf, IntKind.min, IntKind.max, IntKind.signed, IntKind.bits] using wone
  obtain ⟨two, rfl, rfl, rfl, wtwo⟩ := open_int Try.underlying3 (hval 2 3 v2 rfl rfl) h2
  have htwo : -9223372036854775808 ≤ two ∧ two ≤ 9223372036854775807 := by simpa [Lit.wf, IntKind.min, IntKind.max, IntKind.signed, IntKind.bits] using wtwo
  refine (walk lA lN lC l one two W hlenl hinl hbl hone htwo).mono fun e W' ⟨he, hB⟩ => ?_
  subst he
  exact ⟨_, rfl, law_post Try.laidOut (by kernel_rfl) rfl rfl Try.underlying4 hW' rfl hB⟩

set_option maxRecDepth 100000 in
theorem lifted (os : Os) (started : os.Started) (H : Type) (enc : TypeId × Value → H) :
    ReturnsInHanded {} Try.checked os 9 .any (Rows.blockEverySpec.pre6 enc Try.prog Try.f9 Rows.blockEveryRow.domain false) (Rows.blockEverySpec.post enc Try.prog Try.f9 false true false false) := by
  refine returnsInHanded_of_change_sized (C := Try.checked) Try.own started (by kernel_rfl) Try.func9
    (ChangeSpec.witness6 (enc := enc) (C := Try.checked) false ⟨#[], #[.slice none 0 0, .int .i64 0, .int .i64 0], []⟩ 8 (by kernel_rfl) (by kernel_rfl) (by kernel_rfl) (by kernel_rfl)) ?_
  intro W base args ds gs before hval hW _ hz _
  exact contract H enc W base args ds gs before hval hW hz

theorem proved : Rows.BlockEverySaid :=
  OpenClaim.holds_of_wide 9 Try.f9 rfl rfl rfl rfl rfl rfl rfl ⟨rfl, rfl, rfl, rfl, rfl⟩ rfl rfl rfl rfl rfl (by kernel_rfl) Try.func9 (by kernel_rfl)
    (of_decide_eq_true (by kernel_rfl)) (by unfold Func.isWrapper; first | (rw [if_pos (by decide +kernel)]; kernel_rfl) | (rw [if_neg (by decide +kernel)]; exact ⟨rfl, rfl⟩))
    (fun os started H enc _ => lifted os started H enc)
end lawEvery
end Go.Proofs.Ytcmnbfcceeljpaa
