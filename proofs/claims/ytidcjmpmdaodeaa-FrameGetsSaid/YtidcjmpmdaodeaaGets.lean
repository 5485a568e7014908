/- FrameGets: what stands at every place of every bytes is the document's body, or its error. For every text and every int. -/
import Derived.Test.YtidcjmpmdaodeaaRGet
import Derived.Test.YtidcjmpmdaodeaaLaw
import Derived.SizedLaws
namespace Go.Proofs.Ytidcjmpmdaodeaa
open Go.ChangeShapes Go.WideShapes Go.ChangeAt Go.RowKit
namespace lawGets

theorem get_a : getOut ⟨#[0, 1, 255, 254, 232, 183, 190, 67, 97]⟩ 0 = .tuple #[.string ⟨#[97]⟩, .int .i64 9, .int .i64 0] := by
  have h : vget (⟨#[0, 1, 255, 254, 232, 183, 190, 67, 97]⟩ : ByteArray).data.toList 0 = ([97], 9, 0) := by decide +kernel
  rw [getOut_of h]

theorem walk (s : ByteArray) (p : Int) (w : World) (hs : s.size ≤ 140737488351232) (hp0 : -9223372036854775808 ≤ p) (hp1 : p ≤ 9223372036854775807) :
    Calls Try.prog 5 #[.string s, .int .i64 p] w fun e w' => e = .returned (.bool true) ∧ Below w.heap.size w w' := by
  have H1 := Lib.hid (fun W => get_any ⟨#[0, 1, 255, 254, 232, 183, 190, 67, 97]⟩ 0 W (by decide) (by decide) (by decide))
  rw [get_a] at H1
  have H2 := Lib.hid (fun W => get_any s p W (by omega) hp0 hp1)
  have H3 := Lib.hid (fun W => rget_any s p W (by omega) hp0 hp1)
  unfold getOut at H2 H3
  obtain ⟨b, n, c, hv⟩ : ∃ b n c, vget s.data.toList p = (b, n, c) := ⟨_, _, _, rfl⟩
  rw [hv] at H2 H3
  obtain ⟨t, ht⟩ : ∃ t : ByteArray, (⟨b.toArray⟩ : ByteArray) = t := ⟨_, rfl⟩
  simp only [ht] at H2 H3
  clear hv ht
  go_enter Try.func5, Try.ntmps5
  go_wp2_with fail
  refine (H2.out _).mono ?_
  rintro e w1 ⟨rfl, hB1⟩
  go_wp2_with fail
  refine (H3.out _).mono ?_
  rintro e w2 ⟨rfl, hB2⟩
  go_wp2_with fail
  refine (H1.out _).mono ?_
  rintro e w3 ⟨rfl, hB3⟩
  have hss : (t.toList == t.toList) = true := by simp
  go_wp2
  go_ret
  exact ⟨rfl, (hB1.trans (hB2.mono hB1.size)).trans (hB3.mono (Nat.le_trans hB1.size hB2.size))⟩

theorem contract (H : Type) (enc : TypeId × Value → H) (W : World) (base : Nat) (args : Array Value) (ds gs : List (DataW H)) (before : List MemPlace)
    (hval : ∀ (j : Nat) t v, Try.f5.params[j]? = some t → args[j]? = some v → Value.okWide Try.prog W .any base t v)
    (hW : DataW.Whole enc Try.prog Try.f5.params.toList Rows.frameGetsSpec.vars false W args.toList ds gs before)
    (hz : (DataW.weightsEach Try.prog Try.f5.params.toList (ds ++ gs)).all (· ≤ reachBytes) = true) :
    Calls Try.prog 5 args W fun e W' => ∃ v, e = .returned v ∧ Rows.frameGetsSpec.post enc Try.prog Try.f5 false true false false W args v W' := by
  have hW' := hW
  obtain ⟨p, q, hA0, hV, rfl, hfz, hnd⟩ := hW
  have hA : DataW.TrodAll enc Try.prog W 0 (fun _ => true) true Try.f5.params.toList args.toList ds p := hA0
  rw [Try.params5] at hA hval hz
  obtain ⟨v0, vs0, d0, ds0, p0, q0, hargs, rfl, rfl, h0, r0⟩ := trodAll_cons hA
  obtain ⟨v1, vs1, d1, ds1, p1, q1, rfl, rfl, rfl, h1, r1⟩ := trodAll_cons r0
  obtain ⟨rfl, rfl, rfl⟩ := trodAll_nil r1
  obtain rfl : args = #[v0, v1] := by cases args; simp_all
  obtain ⟨rfl, rfl⟩ := trodVars_none hV
  obtain ⟨s, rfl, rfl, rfl, hmax0⟩ := Go.ChangeMaps.open_string Try.underlying9 (hval 0 9 v0 rfl rfl) h0
  have hs : s.size ≤ 140737488351232 := by
    have h := sized_string hz (j := 0) rfl rfl
    have hl : s.data.toList.length = s.size := by simp
    unfold reachBytes at h
    omega
  obtain ⟨p, rfl, rfl, rfl, wp⟩ := open_int Try.underlying3 (hval 1 3 v1 rfl rfl) h1
  have hp : -9223372036854775808 ≤ p ∧ p ≤ 9223372036854775807 := by simpa [Lit.wf, IntKind.min, IntKind.max, IntKind.signed, IntKind.bits] using wp
  refine (walk s p W hs hp.1 hp.2).mono fun e W' ⟨he, hB⟩ => ?_
  subst he
  exact ⟨_, rfl, law_post Try.laidOut (by kernel_rfl) rfl rfl Try.underlying4 hW' rfl hB⟩

set_option maxRecDepth 100000 in
theorem lifted (os : Os) (started : os.Started) (H : Type) (enc : TypeId × Value → H) :
    ReturnsInHanded {} Try.checked os 5 .any (Rows.frameGetsSpec.pre6 enc Try.prog Try.f5 Rows.frameGetsRow.domain false) (Rows.frameGetsSpec.post enc Try.prog Try.f5 false true false false) := by
  refine returnsInHanded_of_change_sized (C := Try.checked) Try.own started (by kernel_rfl) Try.func5
    (ChangeSpec.witness6 (enc := enc) (C := Try.checked) false ⟨#[], #[.string .empty, .int .i64 0], []⟩ 8 (by kernel_rfl) (by kernel_rfl) (by kernel_rfl) (by kernel_rfl)) ?_
  intro W base args ds gs before hval hW _ hz _
  exact contract H enc W base args ds gs before hval hW hz

theorem proved : Rows.FrameGetsSaid :=
  OpenClaim.holds_of_wide 5 Try.f5 rfl rfl rfl rfl rfl rfl rfl ⟨rfl, rfl, rfl, rfl, rfl⟩ rfl rfl rfl rfl rfl (by kernel_rfl) Try.func5 (by kernel_rfl)
    (of_decide_eq_true (by kernel_rfl)) (by unfold Func.isWrapper; first | (rw [if_pos (by decide +kernel)]; kernel_rfl) | (rw [if_neg (by decide +kernel)]; exact ⟨rfl, rfl⟩))
    (fun os started H enc _ => lifted os started H enc)
end lawGets
end Go.Proofs.Ytidcjmpmdaodeaa
