/- BlockParses: every bytes are the document's entries, or its error. For every text. -/
import Derived.Test.YtcmnbfcceeljpaaRp
import Derived.Test.YtcmnbfcceeljpaaEq
import Derived.Test.YtcmnbfcceeljpaaWk
import Derived.Test.YtcmnbfcceeljpaaLaw
namespace Go.Proofs.Ytcmnbfcceeljpaa
open Go.ChangeShapes Go.WideShapes Go.ChangeAt Go.RowKit
open SK
namespace lawParses

set_option maxRecDepth 100000 in
set_option maxHeartbeats 4000000 in
theorem walk (s : ByteArray) (w : World) (hs : s.size ≤ 140737488351232) :
    Calls Try.prog 5 #[.string s] w fun e w' => e = .returned (.bool true) ∧ Below w.heap.size w w' := by
  have HG := Lib.hid (fun W => parse_any s W (by omega))
  have HR := Lib.hid (fun W => rparse_any s W hs)
  have HW : Hid (∀ W, Calls Try.prog 13 #[] W fun r w' => r = .returned (.bool true) ∧ Below W.heap.size W w') := fun W => wakes_any W
  unfold RefOut at HR
  have hbnd : (BK.getL s.data.toList).length ≤ 4096 := by
    by_cases h0 : BK.getC s.data.toList = 0
    · exact (BK.get_ok (BK.getC_zero h0)).1
    · rw [BK.getL_none h0]; decide
  obtain ⟨L, hL⟩ : ∃ L, BK.getL s.data.toList = L := ⟨_, rfl⟩
  obtain ⟨C, hC⟩ : ∃ C, BK.getC s.data.toList = C := ⟨_, rfl⟩
  simp only [hL, hC] at HG HR hbnd
  obtain ⟨n, hn⟩ : ∃ n, L.length = n := ⟨_, rfl⟩
  simp only [hn] at HG HR hbnd
  have HLN := Lib.hid hn
  have hCC : (C == C) = true := beq_self_eq_true _
  have hnn : ((n : Int) == (n : Int)) = true := beq_self_eq_true _
  clear hL hC hn hs
  go_enter Try.func5, Try.ntmps5
  go_wp2_with fail
  refine (HG.out _).mono ?_
  rintro e w1 ⟨A1, c1, rfl, h1, -, hb1⟩
  have H1 := Lib.hid h1
  have HB1 := Lib.hid hb1
  have HS1 : Hid (w.heap.size ≤ w1.heap.size) := Lib.hid hb1.size
  clear h1 hb1 HG
  go_wp2_with fail
  refine (HR.out _).mono ?_
  rintro e w2 ⟨A2, c2, rfl, h2, hb2⟩
  have H12 := Lib.hid (H1.out.below hb2)
  have H22 := Lib.hid h2
  have HB2 : Hid (Below w.heap.size w w2) := Lib.hid (HB1.out.trans (hb2.mono HS1.out))
  have HS2 : Hid (w.heap.size ≤ w2.heap.size) := Lib.hid (Nat.le_trans HS1.out hb2.size)
  clear h2 hb2 HR
  go_wp2_with fail
  refine (HW.out _).mono ?_
  rintro r w3 ⟨rfl, hb3⟩
  have H13 := Lib.hid (H12.out.below hb3)
  have H23 := Lib.hid (H22.out.below hb3)
  have HB3 : Hid (Below w.heap.size w w3) := Lib.hid (HB2.out.trans (hb3.mono HS2.out))
  clear hb3
  go_wp2_with fail
  go_loopw [34] (fun i wr => ∃ j : Nat, j ≤ n ∧ i = .int .i64 j ∧ Below w.heap.size w wr ∧ Below w3.heap.size w3 wr) (fun i _ => n - (intOf i).toNat)
  case atStart => exact ⟨0, by omega, rfl, HB3.out, Below.refl _ _⟩
  case round =>
    obtain ⟨j, hj, rfl, hbw, hk⟩ := hrel
    by_cases hlt : j < n
    · have hjl : j < L.length := by rw [HLN.out]; omega
      obtain ⟨b, off, hA, hbl, hc⟩ := (H13.out.below hk).at_ (by omega)
      obtain ⟨z0, z1, z2, z3, z4⟩ := hc j hjl
      obtain ⟨b', off', hA', hbl', hc'⟩ := (H23.out.below hk).at_ (by omega)
      obtain ⟨y0, y1, y2, y3, y4⟩ := hc' j hjl
      obtain ⟨e, he⟩ : ∃ e, L[j] = e := ⟨_, rfl⟩
      rw [he] at z0 z1 z2 z3 z4 y0 y1 y2 y3 y4
      subst hA hA'
      obtain ⟨k2, q2, g2, v2, t2⟩ := e
      simp only at z0 z1 z2 z3 z4 y0 y1 y2 y3 y4
      have hee1 := fun W => rent_any W k2 k2 q2 q2 g2 g2 v2 v2 t2 t2
      have heq1 : eqB ⟨k2, q2, g2, v2, t2⟩ ⟨k2, q2, g2, v2, t2⟩ = true := (eqB_iff _ _).2 rfl
      simp only [heq1, Bool.not_true] at hee1
      have g0 : (0 : Int) ≤ (j : Int) := by omega
      have g1 : (j : Int) < (n : Int) := by omega
      have HB5 := Lib.hid hbw
      have HK5 := Lib.hid hk
      clear hk hbw hbl hbl' hc hc' he heq1
      go_wp2_with fail
      go_quiet (fail)
      go_wp2
      go_roundw
      case rel => exact ⟨j + 1, by omega, by go_num, below_drewN HB5.out _, below_drewN HK5.out _⟩
      case measure => simp [intOf]; omega
    · have HB5 := Lib.hid hbw
      have hjn : j = n := by omega
      subst hjn
      clear hbw hk
      go_wp2
      go_ret
      exact ⟨rfl, HB5.out⟩

set_option maxRecDepth 100000 in
theorem contract (H : Type) (enc : TypeId × Value → H) (W : World) (base : Nat) (args : Array Value) (ds gs : List (DataW H)) (before : List MemPlace)
    (hval : ∀ (j : Nat) t v, Try.f5.params[j]? = some t → args[j]? = some v → Value.okWide Try.prog W .any base t v)
    (hW : DataW.Whole enc Try.prog Try.f5.params.toList Rows.blockParsesSpec.vars false W args.toList ds gs before)
    (hz : (DataW.weightsEach Try.prog Try.f5.params.toList (ds ++ gs)).all (· ≤ reachBytes) = true) :
    Calls Try.prog 5 args W fun e W' => ∃ v, e = .returned v ∧ Rows.blockParsesSpec.post enc Try.prog Try.f5 false true false false W args v W' := by
  have hW' := hW
  obtain ⟨p, q, hA0, hV, rfl, hfz, hnd⟩ := hW
  have hA : DataW.TrodAll enc Try.prog W 0 (fun _ => true) true Try.f5.params.toList args.toList ds p := hA0
  rw [Try.params5] at hA hval hz
  obtain ⟨v0, vs0, d0, ds0, p0, q0, hargs, rfl, rfl, h0, r0⟩ := trodAll_cons hA
  obtain ⟨rfl, rfl, rfl⟩ := trodAll_nil r0
  obtain rfl : args = #[v0] := by cases args; simp_all
  obtain ⟨rfl, rfl⟩ := trodVars_none hV
  obtain ⟨s, rfl, rfl, rfl, hmax0⟩ := Go.ChangeMaps.open_string Try.underlying9 (hval 0 9 v0 rfl rfl) h0
  have hs : s.size ≤ 140737488351232 := by
    have h := sized_string hz (j := 0) rfl rfl
    have hl : s.data.toList.length = s.size := by simp
    unfold reachBytes at h
    omega
  refine (walk s W hs).mono fun e W' ⟨he, hB⟩ => ?_
  subst he
  exact ⟨_, rfl, law_post Try.laidOut (by kernel_rfl) rfl rfl Try.underlying4 hW' rfl hB⟩

set_option maxRecDepth 100000 in
theorem lifted (os : Os) (started : os.Started) (H : Type) (enc : TypeId × Value → H) :
    ReturnsInHanded {} Try.checked os 5 .any (Rows.blockParsesSpec.pre6 enc Try.prog Try.f5 Rows.blockParsesRow.domain false) (Rows.blockParsesSpec.post enc Try.prog Try.f5 false true false false) := by
  refine returnsInHanded_of_change_sized (C := Try.checked) Try.own started (by kernel_rfl) Try.func5
    (ChangeSpec.witness6 (enc := enc) (C := Try.checked) false ⟨#[], #[.string ⟨#[]⟩], []⟩ 8 (by kernel_rfl) (by kernel_rfl) (by kernel_rfl) (by kernel_rfl)) ?_
  intro W base args ds gs before hval hW _ hz _
  exact contract H enc W base args ds gs before hval hW hz

theorem proved : Rows.BlockParsesSaid :=
  OpenClaim.holds_of_wide 5 Try.f5 rfl rfl rfl rfl rfl rfl rfl ⟨rfl, rfl, rfl, rfl, rfl⟩ rfl rfl rfl rfl rfl (by kernel_rfl) Try.func5 (by kernel_rfl)
    (of_decide_eq_true (by kernel_rfl)) (by unfold Func.isWrapper; first | (rw [if_pos (by decide +kernel)]; kernel_rfl) | (rw [if_neg (by decide +kernel)]; exact ⟨rfl, rfl⟩))
    (fun os started H enc _ => lifted os started H enc)
end lawParses
end Go.Proofs.Ytcmnbfcceeljpaa
