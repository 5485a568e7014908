/- VarintPrefixes: bytes that are cut off within a number are told as cut off. For every int64 and every int. -/
import Derived.Test.YtdhgikcinofpaaaVarD
import Derived.Test.YtdhgikcinofpaaaLaw
namespace Go.Proofs.Ytdhgikcinofpaaa
open Go.ChangeShapes Go.WideShapes Go.ChangeAt Go.RowKit
namespace lawPrefixes

theorem walk (n c : Int) (w : World) (h0 : -9223372036854775808 ≤ n) (h1 : n ≤ 9223372036854775807) (c0 : -9223372036854775808 ≤ c) (c1 : c ≤ 9223372036854775807) :
    Calls Try.prog 8 #[.int .i64 n, .int .i64 c] w fun e w' => e = .returned (.bool true) ∧ Below w.heap.size w w' := by
  have hen := VM.enc_len h0 h1
  obtain ⟨l, hl⟩ : ∃ l : List UInt8, VM.enc n = l := ⟨_, rfl⟩
  rw [hl] at hen
  obtain ⟨hen1, hen2⟩ := hen
  have HP := Lib.hid (fun W => put_any n W h0 h1)
  rw [hl] at HP
  have HL := Lib.hid hl
  clear hl
  have hne : ((l.length : Int) == 0) = false := beq_eq_false_iff_ne.2 (by omega)
  obtain ⟨k, hk⟩ : ∃ k : Nat, max 0 c % (l.length : Int) = (k : Int) :=
    ⟨(max 0 c % (l.length : Int)).toNat, (Int.toNat_of_nonneg (Int.emod_nonneg _ (by omega))).symm⟩
  have hkl : k < l.length := by
    have := Int.emod_lt_of_pos (max 0 c) (show (0 : Int) < (l.length : Int) by omega)
    rw [hk] at this
    omega
  have hex : ((⟨l.toArray⟩ : ByteArray).extract 0 k).data.toList = l.take k := by rw [Lib.extract_data]; simp
  have hv : VM.vget ((⟨l.toArray⟩ : ByteArray).extract 0 k).data.toList 0 = (0, 0, 3) := by
    rw [hex, ← HL.out]
    exact VM.vget_cut h0 h1 (by rw [HL.out]; exact hkl)
  have HG := Lib.hid (fun W => get_any ((⟨l.toArray⟩ : ByteArray).extract 0 k) 0 W (by rw [ByteArray.size_extract]; omega) (by decide) (by decide))
  have HV := Lib.hid hv
  clear hex hv
  go_enter Try.func8, Try.ntmps8
  go_wp2_with fail
  refine (HP.out _).mono ?_
  rintro e w1 ⟨rfl, hB1⟩
  go_wp2_with fail
  refine (HG.out _).mono ?_
  rintro e w2 ⟨he, rfl⟩
  unfold GetOut at he
  rw [HV.out] at he
  subst he
  go_wp2
  go_ret
  exact ⟨rfl, hB1⟩

theorem contract (H : Type) (enc : TypeId × Value → H) (W : World) (base : Nat) (args : Array Value) (ds gs : List (DataW H)) (before : List MemPlace)
    (hval : ∀ (j : Nat) t v, Try.f8.params[j]? = some t → args[j]? = some v → Value.okWide Try.prog W .any base t v)
    (hW : DataW.Whole enc Try.prog Try.f8.params.toList Rows.varintPrefixesSpec.vars false W args.toList ds gs before) :
    Calls Try.prog 8 args W fun e W' => ∃ v, e = .returned v ∧ Rows.varintPrefixesSpec.post enc Try.prog Try.f8 false true false false W args v W' := by
  have hW' := hW
  obtain ⟨p, q, hA0, hV, rfl, hfz, hnd⟩ := hW
  have hA : DataW.TrodAll enc Try.prog W 0 (fun _ => true) true Try.f8.params.toList args.toList ds p := hA0
  rw [Try.params8] at hA hval
  obtain ⟨v0, v1, d0, d1, p0, p1, rfl, rfl, rfl, h0, h1⟩ := trodAll_two hA
  obtain ⟨rfl, rfl⟩ := trodVars_none hV
  obtain ⟨n, rfl, rfl, rfl, wn⟩ := open_int Try.underlying2 (hval 0 2 v0 rfl rfl) h0
  obtain ⟨c, rfl, rfl, rfl, wc⟩ := open_int Try.underlying3 (hval 1 3 v1 rfl rfl) h1
  have hn : -9223372036854775808 ≤ n ∧ n ≤ 9223372036854775807 := by simpa [Lit.wf, IntKind.min, IntKind.max, IntKind.signed, IntKind.bits] using wn
  have hc : -9223372036854775808 ≤ c ∧ c ≤ 9223372036854775807 := by simpa [Lit.wf, IntKind.min, IntKind.max, IntKind.signed, IntKind.bits] using wc
  refine (walk n c W hn.1 hn.2 hc.1 hc.2).mono fun e W' ⟨he, hB⟩ => ?_
  subst he
  exact ⟨_, rfl, law_post Try.laidOut (by kernel_rfl) rfl rfl Try.underlying4 hW' rfl hB⟩

set_option maxRecDepth 100000 in
theorem lifted (os : Os) (started : os.Started) (H : Type) (enc : TypeId × Value → H) :
    ReturnsInHanded {} Try.checked os 8 .any (Rows.varintPrefixesSpec.pre6 enc Try.prog Try.f8 Rows.varintPrefixesRow.domain false) (Rows.varintPrefixesSpec.post enc Try.prog Try.f8 false true false false) := by
  refine returnsInHanded_of_change (C := Try.checked) Try.own started (by kernel_rfl) Try.func8
    (ChangeSpec.witness6 (enc := enc) (C := Try.checked) false ⟨#[], #[.int .i64 0, .int .i64 0], []⟩ 8 (by kernel_rfl) (by kernel_rfl) (by kernel_rfl) (by kernel_rfl)) ?_
  intro W base args ds gs before hval hW _ _
  exact contract H enc W base args ds gs before hval hW

theorem proved : Rows.VarintPrefixesSaid :=
  OpenClaim.holds_of_wide 8 Try.f8 rfl rfl rfl rfl rfl rfl rfl ⟨rfl, rfl, rfl, rfl, rfl⟩ rfl rfl rfl rfl rfl (by kernel_rfl) Try.func8 (by kernel_rfl)
    (of_decide_eq_true (by kernel_rfl)) (by unfold Func.isWrapper; first | (rw [if_pos (by decide +kernel)]; kernel_rfl) | (rw [if_neg (by decide +kernel)]; exact ⟨rfl, rfl⟩))
    (fun os started H enc _ => lifted os started H enc)
end lawPrefixes
end Go.Proofs.Ytdhgikcinofpaaa
