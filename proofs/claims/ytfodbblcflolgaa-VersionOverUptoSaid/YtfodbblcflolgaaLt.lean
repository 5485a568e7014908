/- VersionOver: which tables may hold a key of a span, and which files there are, is the document's answer. Condition: what comes in is of a bulk of at most 1048576 (the Upto form). -/
import Derived.Test.YtfodbblcflolgaaLp
import Derived.Test.YtfodbblcflolgaaOs
import Derived.Test.YtfodbblcflolgaaLaw
import Derived.SizedLaws
import Derived.Deep.CondSized
import Derived.Deep.QuietTactic
import Derived.BigQuiet
namespace Go.Proofs.Ytfodbblcflolgaa
open Go.ChangeShapes Go.WideShapes Go.ChangeAt Go.RowKit Go.Deep
open VS
namespace lawOver
set_option maxRecDepth 100000 in
theorem contract (H : Type) (enc : TypeId × Value → H) (W : World) (base : Nat) (args : Array Value) (ds gs : List (DataW H)) (before : List MemPlace)
    (hval : ∀ (j : Nat) t v, Try.f6.params[j]? = some t → args[j]? = some v → Value.okWide Try.prog W .any base t v)
    (hW : DataW.Whole enc Try.prog Try.f6.params.toList Rows.versionOverSpec.vars false W args.toList ds gs before)
    (hz : (DataW.weightsEach Try.prog Try.f6.params.toList (ds ++ gs)).all (· ≤ reachBytes) = true)
    (hk : Rows.uptoSmall H (ds ++ gs) = true) :
    Calls Try.prog 6 args W fun e W' => ∃ v, e = .returned v ∧ Rows.versionOverSpec.post enc Try.prog Try.f6 false true false false W args v W' := by
  have hW' := hW
  obtain ⟨p, q, hA0, hV, rfl, hfz, hnd⟩ := hW
  have hA : DataW.TrodAll enc Try.prog W 0 (fun _ => true) true Try.f6.params.toList args.toList ds p := hA0
  rw [Try.params6] at hA hval hz
  obtain ⟨v0, vs0, d0, ds0, p0, q0, hargs, rfl, rfl, h0, r0⟩ := trodAll_cons hA
  obtain ⟨v1, vs1, d1, ds1, p1, q1, rfl, rfl, rfl, h1, r1⟩ := trodAll_cons r0
  obtain ⟨v2, vs2, d2, ds2, p2, q2, rfl, rfl, rfl, h2, r2⟩ := trodAll_cons r1
  obtain ⟨rfl, rfl, rfl⟩ := trodAll_nil r2
  obtain rfl : args = #[v0, v1, v2] := by cases args; simp_all
  obtain ⟨rfl, rfl⟩ := trodVars_none hV
  obtain ⟨lA, lN, lC, l, rfl, hlenl, hinl, hcapl, hsuml⟩ := open_edits (hval 0 22 v0 rfl rfl) h0 (blk_mem hk (by simp))
  obtain ⟨lv, rfl, rfl, rfl, wlv⟩ := open_int Try.underlying3 (hval 1 3 v1 rfl rfl) h1
  have hlv : -9223372036854775808 ≤ lv ∧ lv ≤ 9223372036854775807 := by simpa [Lit.wf, IntKind.min, IntKind.max, IntKind.signed, IntKind.bits] using wlv
  obtain ⟨sp0, sp1, rfl, rfl, rfl, -, -⟩ := open_strs2 Try.underlying59 Try.underlying9 (by kernel_rfl) (by kernel_rfl) (hval 2 59 v2 rfl rfl) h2
  have hsp : sp0.size ≤ 140737488351232 ∧ sp1.size ≤ 140737488351232 := by
    have h := sized_strs2 hz (j := 2) rfl rfl Try.underlying59
    have hl0 : sp0.data.toList.length = sp0.size := by simp
    have hl1 : sp1.data.toList.length = sp1.size := by simp
    unfold reachBytes at h
    omega
  refine (walk lA lN lC l lv sp0 sp1 W hlenl hinl hcapl hsuml).mono fun e W' ⟨he, hB⟩ => ?_
  subst he
  exact ⟨_, rfl, law_post Try.laidOut (by kernel_rfl) rfl rfl Try.underlying4 hW' rfl hB⟩

set_option maxRecDepth 100000 in
theorem lifted (os : Os) (started : os.Started) (H : Type) (enc : TypeId × Value → H) (F : Stop.Interp) :
    ReturnsInHanded {} Try.checked os 6 .any ((Rows.OpenSpec.upto Rows.versionOverSpec).pre6 enc Try.prog Try.f6 Rows.versionOverUptoRow.domain false) (((Rows.OpenSpec.upto Rows.versionOverSpec).at F).post enc Try.prog Try.f6 false true false false) := by
  refine returnsInHanded_of_cond_sized (C := Try.checked) (s := Rows.OpenSpec.upto Rows.versionOverSpec) (k := Rows.uptoSmall) rfl Try.own started (by kernel_rfl) Try.func6
    (OpenSpec.witness (enc := enc) (C := Try.checked) (s := Rows.OpenSpec.upto Rows.versionOverSpec) (k := Rows.uptoSmall) rfl false ⟨#[], #[.slice none 0 0, .int .i64 0, .agg #[.string ⟨#[]⟩, .string ⟨#[]⟩]], []⟩ 8 (by kernel_rfl) (by kernel_rfl) (by kernel_rfl)
      (x := ([.nil, .lit (.int .i64 0), .agg [.lit (.string []), .lit (.string [])]], [], [])) (by kernel_rfl) rfl (by kernel_rfl)) ?_
  intro W base args ds gs before hval hW _ hk hz _
  exact contract H enc W base args ds gs before hval hW hz hk

theorem proved : Rows.VersionOverUptoSaid :=
  OpenClaim.holds_of_cond 6 Try.f6 rfl rfl rfl rfl rfl rfl rfl ⟨rfl, rfl, rfl, rfl, rfl⟩ rfl rfl rfl rfl rfl (by kernel_rfl) Try.func6 (by kernel_rfl)
    (of_decide_eq_true (by kernel_rfl)) (by unfold Func.isWrapper; first | (rw [if_pos (by decide +kernel)]; kernel_rfl) | (rw [if_neg (by decide +kernel)]; exact ⟨rfl, rfl⟩))
    (fun os started H enc _ F => lifted os started H enc F)
end lawOver
end Go.Proofs.Ytfodbblcflolgaa
