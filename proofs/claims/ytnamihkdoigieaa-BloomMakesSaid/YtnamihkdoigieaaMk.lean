/- BloomMakes: every keys have the document's filter, or its error. For every int and every list of texts. -/
import Derived.Test.YtnamihkdoigieaaRn
import Derived.Test.YtnamihkdoigieaaWk
namespace Go.Proofs.Ytnamihkdoigieaa
open Go.ChangeShapes Go.WideShapes Go.ChangeAt Go.RowKit
namespace lawMakes

set_option maxRecDepth 100000 in
theorem walk (b : Int) (A : Option Addr) (n cap : Nat) (l : List ByteArray) (w : World) (hb0 : -9223372036854775808 ≤ b) (hb1 : b ≤ 9223372036854775807) (hn : l.length = n) (hz : StrsIn w w.heap.size A l) (hnb : n * 16 ≤ reachBytes) (hs : ∀ q ∈ l, q.size ≤ reachBytes) :
    Calls Try.prog 4 #[.int .i64 b, .slice A n cap] w fun e w' => e = .returned (.bool true) ∧ Below w.heap.size w w' := by
  have hsr : ∀ q ∈ l, q.size ≤ 140737488351232 := fun q hq => Nat.le_trans (hs q hq) (by decide)
  have H1 := Lib.hid (new_any b A n cap l w hb0 hb1 hn hz hnb hsr)
  have H2 : Hid (∀ W, Below w.heap.size w W → Calls Try.prog 12 #[.int .i64 b, .slice A n cap] W (NewOut b l W)) := Lib.hid fun W hW => rnew_any b A n cap l W hb0 hb1 hn ((hz.below hW).more hW.size) hnb hsr
  unfold NewOut at H1 H2
  obtain ⟨F, E, hv⟩ : ∃ F E, BL.new b (keysOf l) = (F, E) := ⟨_, _, rfl⟩
  rw [hv] at H1 H2
  have HW := Lib.hid (fun W => wakes_any W)
  obtain ⟨f, hf⟩ : ∃ f : ByteArray, (⟨F.toArray⟩ : ByteArray) = f := ⟨_, rfl⟩
  simp only [hf] at H1 H2
  have hss : (f.toList == f.toList) = true := by simp
  clear hn hz hnb hs hsr hv hf
  go_enter Try.func4, Try.ntmps4
  go_wp2_with fail
  refine H1.out.mono ?_
  rintro e w1 ⟨rfl, hB1⟩
  have HB1 := Lib.hid hB1
  clear hB1
  go_wp2_with fail
  refine (H2.out _ HB1.out).mono ?_
  rintro e w2 ⟨rfl, hB2⟩
  have HB2 := Lib.hid (HB1.out.trans (hB2.mono HB1.out.size))
  clear hB2
  go_wp2_with fail
  refine (HW.out _).mono ?_
  rintro e w3 ⟨rfl, hB3⟩
  have HB3 := Lib.hid (HB2.out.trans (hB3.mono HB2.out.size))
  clear hB3
  go_wp2
  go_ret
  exact ⟨rfl, HB3.out⟩

theorem contract (H : Type) (enc : TypeId × Value → H) (W : World) (base : Nat) (args : Array Value) (ds gs : List (DataW H)) (before : List MemPlace)
    (hval : ∀ (j : Nat) t v, Try.f4.params[j]? = some t → args[j]? = some v → Value.okWide Try.prog W .any base t v)
    (hW : DataW.Whole enc Try.prog Try.f4.params.toList Rows.bloomMakesSpec.vars false W args.toList ds gs before)
    (hz : (DataW.weightsEach Try.prog Try.f4.params.toList (ds ++ gs)).all (· ≤ reachBytes) = true) :
    Calls Try.prog 4 args W fun e W' => ∃ v, e = .returned v ∧ Rows.bloomMakesSpec.post enc Try.prog Try.f4 false true false false W args v W' := by
  have hW' := hW
  obtain ⟨p, q, hA0, hV, rfl, hfz, hnd⟩ := hW
  have hA : DataW.TrodAll enc Try.prog W 0 (fun _ => true) true Try.f4.params.toList args.toList ds p := hA0
  rw [Try.params4] at hA hval hz
  obtain ⟨v0, vs0, d0, ds0, p0, q0, hargs, rfl, rfl, h0, r0⟩ := trodAll_cons hA
  obtain ⟨v1, vs1, d1, ds1, p1, q1, rfl, rfl, rfl, h1, r1⟩ := trodAll_cons r0
  obtain ⟨rfl, rfl, rfl⟩ := trodAll_nil r1
  obtain rfl : args = #[v0, v1] := by cases args; simp_all
  obtain ⟨rfl, rfl⟩ := trodVars_none hV
  obtain ⟨b, rfl, rfl, rfl, wb⟩ := open_int Try.underlying3 (hval 0 3 v0 rfl rfl) h0
  have hb : -9223372036854775808 ≤ b ∧ b ≤ 9223372036854775807 := by simpa [Lit.wf, IntKind.min, IntKind.max, IntKind.signed, IntKind.bits] using wb
  obtain ⟨lA, lN, lC, l, rfl, hlenl, hinl, hcapl, hbl, hsl⟩ := open_texts (hval 1 26 v1 rfl rfl) h1 (texts_sized hz (j := 1) rfl rfl)
  refine (walk b lA lN lC l W hb.1 hb.2 hlenl hinl hbl hsl).mono fun e W' ⟨he, hB⟩ => ?_
  subst he
  exact ⟨_, rfl, law_post Try.laidOut (by kernel_rfl) rfl rfl Try.underlying4 hW' rfl hB⟩

set_option maxRecDepth 100000 in
theorem lifted (os : Os) (started : os.Started) (H : Type) (enc : TypeId × Value → H) :
    ReturnsInHanded {} Try.checked os 4 .any (Rows.bloomMakesSpec.pre6 enc Try.prog Try.f4 Rows.bloomMakesRow.domain false) (Rows.bloomMakesSpec.post enc Try.prog Try.f4 false true false false) := by
  refine returnsInHanded_of_change_sized (C := Try.checked) Try.own started (by kernel_rfl) Try.func4
    (ChangeSpec.witness6 (enc := enc) (C := Try.checked) false ⟨#[], #[.int .i64 0, .slice none 0 0], []⟩ 8 (by kernel_rfl) (by kernel_rfl) (by kernel_rfl) (by kernel_rfl)) ?_
  intro W base args ds gs before hval hW _ hz _
  exact contract H enc W base args ds gs before hval hW hz

theorem proved : Rows.BloomMakesSaid :=
  OpenClaim.holds_of_wide 4 Try.f4 rfl rfl rfl rfl rfl rfl rfl ⟨rfl, rfl, rfl, rfl, rfl⟩ rfl rfl rfl rfl rfl (by kernel_rfl) Try.func4 (by kernel_rfl)
    (of_decide_eq_true (by kernel_rfl)) (by unfold Func.isWrapper; first | (rw [if_pos (by decide +kernel)]; kernel_rfl) | (rw [if_neg (by decide +kernel)]; exact ⟨rfl, rfl⟩))
    (fun os started H enc _ => lifted os started H enc)
end lawMakes
end Go.Proofs.Ytnamihkdoigieaa
