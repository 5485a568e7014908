/- BlockOrdered: the first entry that isn't good, or not in order, is the document's answer. For every entries. Made by gen_la.py. -/
import Derived.Test.YtcmnbfcceeljpaaWk
namespace Go.Proofs.Ytcmnbfcceeljpaa
open Go.ChangeShapes Go.WideShapes Go.ChangeAt Go.RowKit
open SK
namespace lawOrdered

set_option maxRecDepth 100000 in
set_option maxHeartbeats 4000000 in
theorem walk (A : Option Addr) (n cap : Nat) (l : List E) (w : World) (hn : l.length = n) (hin : EntsIn w A l) (hb : n * 56 ≤ reachBytes) :
    Calls Try.prog 3 #[.slice A n cap] w fun e w' => e = .returned (.bool true) ∧ Below w.heap.size w w' := by
  have HL := Lib.hid (lists_in A n cap l w hn hin hb)
  have hn47 : n ≤ 140737488351232 := by unfold reachBytes at hb; omega
  have HW : Hid (∀ W, Calls Try.prog 13 #[] W fun r w' => r = .returned (.bool true) ∧ Below W.heap.size W w') := fun W => wakes_any W
  have HP : Hid (∀ W A1 c1, EntsIn W A1 l ∧ n ≤ c1 → Calls Try.prog 11 #[.slice A1 n c1] W fun e w' => e = .returned (.tuple #[.int .i64 (BK.ord l).1, .int .i64 (BK.ord l).2]) ∧ Below W.heap.size W w') := fun W A1 c1 h => bord_any A1 n c1 l W hn h.2 h.1 hn47
  have HQ : Hid (∀ W A1 c1, EntsIn W A1 l ∧ n ≤ c1 → Calls Try.prog 12 #[.slice A1 n c1] W fun e w' => e = .returned (.tuple #[.int .i64 (BK.ord l).1, .int .i64 (BK.ord l).2]) ∧ Below W.heap.size W w') := fun W A1 c1 h => rord_any A1 n c1 l W hn h.2 h.1 hn47
  obtain ⟨T, hT⟩ : ∃ T, (BK.ord l).1 = T := ⟨_, rfl⟩
  obtain ⟨C, hC⟩ : ∃ C, (BK.ord l).2 = C := ⟨_, rfl⟩
  rw [hT, hC] at HP HQ
  have hCC : (C == C) = true := beq_self_eq_true _
  have hTT : (T == T) = true := beq_self_eq_true _
  clear hT hC hn hin hb hn47
  go_enter Try.func3, Try.ntmps3
  go_wp2_with fail
  refine HL.out.mono ?_
  rintro e w1 ⟨A1, c1, A2, c2, rfl, h1, h2, hb1, hs1⟩
  have H1 := Lib.hid h1
  have H2 := Lib.hid h2
  have HB1 := Lib.hid hb1
  have HS1 := Lib.hid hs1
  clear h1 h2 hb1 hs1 HL
  go_wp2_with fail
  refine (HP.out _ _ _ H1.out).mono ?_
  rintro e w2 ⟨rfl, hb2⟩
  have H22 : Hid (EntsIn w2 A2 l ∧ n ≤ c2) := Lib.hid ⟨H2.out.1.below hb2, H2.out.2⟩
  have HB2 : Hid (Below w.heap.size w w2) := Lib.hid (HB1.out.trans (hb2.mono HS1.out))
  have HS2 : Hid (w.heap.size ≤ w2.heap.size) := Lib.hid (Nat.le_trans HS1.out hb2.size)
  clear hb2 HP
  go_wp2_with fail
  refine (HQ.out _ _ _ H22.out).mono ?_
  rintro e w3 ⟨rfl, hb3⟩
  have HB3 : Hid (Below w.heap.size w w3) := Lib.hid (HB2.out.trans (hb3.mono HS2.out))
  have HS3 : Hid (w.heap.size ≤ w3.heap.size) := Lib.hid (Nat.le_trans HS2.out hb3.size)
  clear hb3 HQ
  go_wp2_with (go_at_call 13; refine (HW.out _).mono ?_; rintro r w4 ⟨rfl, hb4⟩
               have HB4 : Hid (Below w.heap.size w w4) := Lib.hid (HB3.out.trans (hb4.mono HS3.out))
               clear hb4)
  go_ret
  exact ⟨rfl, HB4.out⟩

set_option maxRecDepth 100000 in
theorem contract (H : Type) (enc : TypeId × Value → H) (W : World) (base : Nat) (args : Array Value) (ds gs : List (DataW H)) (before : List MemPlace)
    (hval : ∀ (j : Nat) t v, Try.f3.params[j]? = some t → args[j]? = some v → Value.okWide Try.prog W .any base t v)
    (hW : DataW.Whole enc Try.prog Try.f3.params.toList Rows.blockOrderedSpec.vars false W args.toList ds gs before)
    (hz : (DataW.weightsEach Try.prog Try.f3.params.toList (ds ++ gs)).all (· ≤ reachBytes) = true) :
    Calls Try.prog 3 args W fun e W' => ∃ v, e = .returned v ∧ Rows.blockOrderedSpec.post enc Try.prog Try.f3 false true false false W args v W' := by
  have hW' := hW
  obtain ⟨p, q, hA0, hV, rfl, hfz, hnd⟩ := hW
  have hA : DataW.TrodAll enc Try.prog W 0 (fun _ => true) true Try.f3.params.toList args.toList ds p := hA0
  rw [Try.params3] at hA hval hz
  obtain ⟨v0, vs0, d0, ds0, p0, q0, hargs, rfl, rfl, h0, r0⟩ := trodAll_cons hA
  obtain ⟨rfl, rfl, rfl⟩ := trodAll_nil r0
  obtain rfl : args = #[v0] := by cases args; simp_all
  obtain ⟨rfl, rfl⟩ := trodVars_none hV
  obtain ⟨lA, lN, lC, l, rfl, hlenl, hinl, hbl, hcapl⟩ := open_ents (hval 0 22 v0 rfl rfl) h0 (parts_sized hz (j := 0) rfl rfl)
  refine (walk lA lN lC l W hlenl hinl hbl).mono fun e W' ⟨he, hB⟩ => ?_
  subst he
  exact ⟨_, rfl, law_post Try.laidOut (by kernel_rfl) rfl rfl Try.underlying4 hW' rfl hB⟩

set_option maxRecDepth 100000 in
theorem lifted (os : Os) (started : os.Started) (H : Type) (enc : TypeId × Value → H) :
    ReturnsInHanded {} Try.checked os 3 .any (Rows.blockOrderedSpec.pre6 enc Try.prog Try.f3 Rows.blockOrderedRow.domain false) (Rows.blockOrderedSpec.post enc Try.prog Try.f3 false true false false) := by
  refine returnsInHanded_of_change_sized (C := Try.checked) Try.own started (by kernel_rfl) Try.func3
    (ChangeSpec.witness6 (enc := enc) (C := Try.checked) false ⟨#[], #[.slice none 0 0], []⟩ 8 (by kernel_rfl) (by kernel_rfl) (by kernel_rfl) (by kernel_rfl)) ?_
  intro W base args ds gs before hval hW _ hz _
  exact contract H enc W base args ds gs before hval hW hz

theorem proved : Rows.BlockOrderedSaid :=
  OpenClaim.holds_of_wide 3 Try.f3 rfl rfl rfl rfl rfl rfl rfl ⟨rfl, rfl, rfl, rfl, rfl⟩ rfl rfl rfl rfl rfl (by kernel_rfl) Try.func3 (by kernel_rfl)
    (of_decide_eq_true (by kernel_rfl)) (by unfold Func.isWrapper; first | (rw [if_pos (by decide +kernel)]; kernel_rfl) | (rw [if_neg (by decide +kernel)]; exact ⟨rfl, rfl⟩))
    (fun os started H enc _ => lifted os started H enc)
end lawOrdered
end Go.Proofs.Ytcmnbfcceeljpaa
