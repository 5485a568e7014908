/- BatchPuts: every items have the document's bytes, or its error. For every items. -/
import Derived.Test.YtonoapgajgcjlaaPr
import Derived.Test.YtonoapgajgcjlaaWk
import Derived.Test.YtonoapgajgcjlaaLaw
namespace Go.Proofs.Ytonoapgajgcjlaa
open Go.ChangeShapes Go.WideShapes Go.ChangeAt Go.RowKit
open SK

/-- lists, its answers as slices -/
theorem lists_in (A : Option Addr) (n cap : Nat) (l : List E) (w : World) (hn : l.length = n) (hz : EntsIn w A l) (hb : n * 56 ≤ reachBytes) :
    Calls Try.prog 8 #[.slice A n cap] w fun e w' => ∃ A1 c1 A2 c2, e = .returned (.tuple #[.slice A1 n c1, .slice A2 n c2]) ∧ EntsIn w' A1 l ∧ EntsIn w' A2 l ∧ (∀ x ∈ fb A1, w.heap.size ≤ x ∧ x < w'.heap.size) ∧ (∀ x ∈ fb A2, w.heap.size ≤ x ∧ x < w'.heap.size) ∧ Below w.heap.size w w' ∧ w.heap.size ≤ w'.heap.size ∧
      w'.ownsRow w.heap.size 40 5 (.slice A1 n c1) n (ecs l) := by
  refine (lists_any A n cap l w hn hz (by unfold reachBytes at hb; omega)).mono ?_
  rintro e w1 ⟨a, b, rfl, ht⟩
  obtain ⟨A1, c1, rfl, h1, h1b⟩ := own_ents hz.wf hn ht.own1
  obtain ⟨A2, c2, rfl, h2, h2b⟩ := own_ents hz.wf hn ht.own2
  exact ⟨A1, c1, A2, c2, rfl, h1, h2, h1b, h2b, ht.below, ht.base_le, ht.own1⟩

namespace lawPuts

set_option maxRecDepth 100000 in
set_option maxHeartbeats 4000000 in
theorem walk (A : Option Addr) (n cap : Nat) (l : List E) (w : World) (hn : l.length = n) (hin : EntsIn w A l) (hb : n * 56 ≤ reachBytes) :
    Calls Try.prog 3 #[.slice A n cap] w fun e w' => e = .returned (.bool true) ∧ Below w.heap.size w w' := by
  have HL := Lib.hid (lists_in A n cap l w hn hin hb)
  have HP : Hid (∀ W A1 c1, EntsIn W A1 l → Calls Try.prog 9 #[.slice A1 n c1] W fun e w' => e = .returned (.tuple #[.string ⟨(BK.putOut l).1.toArray⟩, .int .i64 (BK.putOut l).2]) ∧ Below W.heap.size W w') := fun W A1 c1 h => bput_any A1 n c1 l W hn h
  have HQ : Hid (∀ W A1 c1, EntsIn W A1 l → Calls Try.prog 10 #[.slice A1 n c1] W fun e w' => e = .returned (.tuple #[.string ⟨(BK.putOut l).1.toArray⟩, .int .i64 (BK.putOut l).2]) ∧ Below W.heap.size W w') := fun W A1 c1 h => rput_any A1 n c1 l W hn h
  have HW : Hid (∀ W, Calls Try.prog 11 #[] W fun r w' => r = .returned (.bool true) ∧ Below W.heap.size W w') := fun W => wakes_any W
  obtain ⟨T, hT⟩ : ∃ T : ByteArray, (⟨(BK.putOut l).1.toArray⟩ : ByteArray) = T := ⟨_, rfl⟩
  obtain ⟨C, hC⟩ : ∃ C, (BK.putOut l).2 = C := ⟨_, rfl⟩
  rw [hT, hC] at HP HQ
  have hCC : (C == C) = true := beq_self_eq_true _
  have hTT : (T.toList == T.toList) = true := beq_self_eq_true _
  clear hT hC hn hin hb
  go_enter Try.func3, Try.ntmps3
  go_wp2_with fail
  refine HL.out.mono ?_
  rintro e w1 ⟨A1, c1, A2, c2, rfl, h1, h2, -, -, hb1, hs1, -⟩
  have H1 := Lib.hid h1
  have H2 := Lib.hid h2
  have HB1 := Lib.hid hb1
  have HS1 := Lib.hid hs1
  clear h1 h2 hb1 hs1 HL
  go_wp2_with fail
  refine (HP.out _ _ _ H1.out).mono ?_
  rintro e w2 ⟨rfl, hb2⟩
  have H22 := Lib.hid (H2.out.below hb2)
  have HB2 : Hid (Below w.heap.size w w2) := Lib.hid (HB1.out.trans (hb2.mono HS1.out))
  have HS2 : Hid (w.heap.size ≤ w2.heap.size) := Lib.hid (Nat.le_trans HS1.out hb2.size)
  clear hb2 HP
  go_wp2_with fail
  refine (HQ.out _ _ _ H22.out).mono ?_
  rintro e w3 ⟨rfl, hb3⟩
  have HB3 : Hid (Below w.heap.size w w3) := Lib.hid (HB2.out.trans (hb3.mono HS2.out))
  have HS3 : Hid (w.heap.size ≤ w3.heap.size) := Lib.hid (Nat.le_trans HS2.out hb3.size)
  clear hb3 HQ
  go_wp2_with (go_at_call 11; refine (HW.out _).mono ?_; rintro r w4 ⟨rfl, hb4⟩
               have HB4 : Hid (Below w.heap.size w w4) := Lib.hid (HB3.out.trans (hb4.mono HS3.out))
               clear hb4)
  go_ret
  exact ⟨rfl, HB4.out⟩

set_option maxRecDepth 100000 in
theorem contract (H : Type) (enc : TypeId × Value → H) (W : World) (base : Nat) (args : Array Value) (ds gs : List (DataW H)) (before : List MemPlace)
    (hval : ∀ (j : Nat) t v, Try.f3.params[j]? = some t → args[j]? = some v → Value.okWide Try.prog W .any base t v)
    (hW : DataW.Whole enc Try.prog Try.f3.params.toList Rows.batchPutsSpec.vars false W args.toList ds gs before)
    (hz : (DataW.weightsEach Try.prog Try.f3.params.toList (ds ++ gs)).all (· ≤ reachBytes) = true) :
    Calls Try.prog 3 args W fun e W' => ∃ v, e = .returned v ∧ Rows.batchPutsSpec.post enc Try.prog Try.f3 false true false false W args v W' := by
  have hW' := hW
  obtain ⟨p, q, hA0, hV, rfl, hfz, hnd⟩ := hW
  have hA : DataW.TrodAll enc Try.prog W 0 (fun _ => true) true Try.f3.params.toList args.toList ds p := hA0
  rw [Try.params3] at hA hval hz
  obtain ⟨v0, vs0, d0, ds0, p0, q0, hargs, rfl, rfl, h0, r0⟩ := trodAll_cons hA
  obtain ⟨rfl, rfl, rfl⟩ := trodAll_nil r0
  obtain rfl : args = #[v0] := by cases args; simp_all
  obtain ⟨rfl, rfl⟩ := trodVars_none hV
  obtain ⟨lA, lN, lC, l, rfl, hlenl, hinl, hbl, hcapl⟩ := open_ents (hval 0 22 v0 rfl rfl) h0 (parts_sized hz (j := 0) rfl rfl)
  refine (walk lA lN lC l W hlenl hinl hbl).mono fun e W' ⟨he, hB⟩ => ?_
  subst he
  exact ⟨_, rfl, law_post Try.laidOut (by kernel_rfl) rfl rfl Try.underlying4 hW' rfl hB⟩

set_option maxRecDepth 100000 in
theorem lifted (os : Os) (started : os.Started) (H : Type) (enc : TypeId × Value → H) :
    ReturnsInHanded {} Try.checked os 3 .any (Rows.batchPutsSpec.pre6 enc Try.prog Try.f3 Rows.batchPutsRow.domain false) (Rows.batchPutsSpec.post enc Try.prog Try.f3 false true false false) := by
  refine returnsInHanded_of_change_sized (C := Try.checked) Try.own started (by kernel_rfl) Try.func3
    (ChangeSpec.witness6 (enc := enc) (C := Try.checked) false ⟨#[], #[.slice none 0 0], []⟩ 8 (by kernel_rfl) (by kernel_rfl) (by kernel_rfl) (by kernel_rfl)) ?_
  intro W base args ds gs before hval hW _ hz _
  exact contract H enc W base args ds gs before hval hW hz

theorem proved : Rows.BatchPutsSaid :=
  OpenClaim.holds_of_wide 3 Try.f3 rfl rfl rfl rfl rfl rfl rfl ⟨rfl, rfl, rfl, rfl, rfl⟩ rfl rfl rfl rfl rfl (by kernel_rfl) Try.func3 (by kernel_rfl)
    (of_decide_eq_true (by kernel_rfl)) (by unfold Func.isWrapper; first | (rw [if_pos (by decide +kernel)]; kernel_rfl) | (rw [if_neg (by decide +kernel)]; exact ⟨rfl, rfl⟩))
    (fun os started H enc _ => lifted os started H enc)
end lawPuts
end Go.Proofs.Ytonoapgajgcjlaa
