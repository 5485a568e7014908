/- BatchCuts: the bytes of items, cut off anywhere, are no items; nor are they with more behind them. For every items, place and text. -/
import Derived.Test.YtonoapgajgcjlaaGg
import Derived.Test.YtonoapgajgcjlaaPuts
namespace Go.Proofs.Ytonoapgajgcjlaa
open Go.ChangeShapes Go.WideShapes Go.ChangeAt Go.RowKit
open SK

theorem str_head (W : World) (s : ByteArray) (b : Nat) (h : b ≤ s.size) :
    (Instr.slice 9 (.string s) none (some (.int .i64 (b : Int))) none).run Try.prog W = .ok (.string (s.extract 0 b)) W := by
  have i1 : (0 : Int) ≤ (b : Int) := by omega
  have i4 : (b : Int) ≤ (s.size : Int) := by omega
  simp [Instr.slice, run_underlying Try.underlying9, Instr.sliceBounds, run_sliceBound, i1, i4]

namespace BK
theorem put_cases (l : List E) : ((putOut l).2 ≠ 0 ∧ (putOut l).1 = []) ∨ (l.length ≤ 64 ∧ bad l = 0 ∧ putOut l = (putB l, 0)) := by
  unfold putOut
  by_cases h1 : 64 < l.length
  · rw [if_pos h1]; exact Or.inl ⟨by decide, rfl⟩
  · rw [if_neg h1]
    by_cases h2 : bad l = 0
    · rw [if_neg (by simp [h2])]; exact Or.inr ⟨by omega, h2, rfl⟩
    · rw [if_pos h2]; exact Or.inl ⟨h2, rfl⟩
theorem putB_len {l : List E} (hn : l.length ≤ 64) (hb : bad l = 0) (hw : ∀ e ∈ l, e.wf) : (putB l).length ≤ 40000 := by
  have h1 := allB_len (l := l) fun e he => ⟨bad_zero hb e he, (hw e he).til.2⟩
  have h2 := (VM.enc_len (n := (l.length : Int)) (by omega) (by omega)).2
  unfold putB
  rw [List.length_append]; omega
end BK

namespace lawCuts

set_option maxRecDepth 100000 in
set_option maxHeartbeats 4000000 in
theorem walk (A : Option Addr) (n cap : Nat) (l : List E) (p : Int) (m : ByteArray) (w : World) (hn : l.length = n) (hin : EntsIn w A l) (hb : n * 56 ≤ reachBytes) (hp : -9223372036854775808 ≤ p ∧ p ≤ 9223372036854775807) (hm : m.size ≤ 140737488351232) :
    Calls Try.prog 7 #[.slice A n cap, .int .i64 p, .string m] w fun e w' => e = .returned (.bool true) ∧ Below w.heap.size w w' := by
  have HL := Lib.hid (lists_in A n cap l w hn hin hb)
  have HP : Hid (∀ W A1 c1, EntsIn W A1 l → Calls Try.prog 9 #[.slice A1 n c1] W fun e w' => e = .returned (.tuple #[.string ⟨(BK.putOut l).1.toArray⟩, .int .i64 (BK.putOut l).2]) ∧ Below W.heap.size W w') := fun W A1 c1 h => bput_any A1 n c1 l W hn h
  have HW : Hid (∀ W, Calls Try.prog 11 #[] W fun r w' => r = .returned (.bool true) ∧ Below W.heap.size W w') := fun W => wakes_any W
  rcases BK.put_cases l with ⟨h1, h2⟩ | ⟨h1, h2, h3⟩
  · obtain ⟨T, hT⟩ : ∃ T : ByteArray, (⟨(BK.putOut l).1.toArray⟩ : ByteArray) = T := ⟨_, rfl⟩
    obtain ⟨C, hC⟩ : ∃ C, (BK.putOut l).2 = C := ⟨_, rfl⟩
    rw [hC] at h1
    rw [hT, hC] at HP
    have hbe : (C == 0) = false := by simpa using h1
    have hbn : (C != 0) = true := by simpa using h1
    clear hT hC hn hin hb h2 hp hm
    go_enter Try.func7, Try.ntmps7
    go_wp2_with fail
    refine HL.out.mono ?_
    rintro e w1 ⟨A1, c1, A2, c2, rfl, h1, -, -, -, hb1, hs1, -⟩
    have H1 := Lib.hid h1
    have HB1 := Lib.hid hb1
    have HS1 := Lib.hid hs1
    clear h1 hb1 hs1 HL
    go_wp2_with fail
    refine (HP.out _ _ _ H1.out).mono ?_
    rintro e w2 ⟨rfl, hb2⟩
    have HB2 : Hid (Below w.heap.size w w2) := Lib.hid (HB1.out.trans (hb2.mono HS1.out))
    have HS2 : Hid (w.heap.size ≤ w2.heap.size) := Lib.hid (Nat.le_trans HS1.out hb2.size)
    clear hb2 HP
    go_wp2_with fail
    refine (HW.out _).mono ?_
    rintro r w3 ⟨rfl, hb3⟩
    have HB3 : Hid (Below w.heap.size w w3) := Lib.hid (HB2.out.trans (hb3.mono HS2.out))
    have HS3 : Hid (w.heap.size ≤ w3.heap.size) := Lib.hid (Nat.le_trans HS2.out hb3.size)
    clear hb3
    go_wp2_with fail
    refine (HW.out _).mono ?_
    rintro r w4 ⟨rfl, hb4⟩
    have HB4 : Hid (Below w.heap.size w w4) := Lib.hid (HB3.out.trans (hb4.mono HS3.out))
    clear hb4
    go_wp2
    go_ret
    exact ⟨rfl, HB4.out⟩
  · have hwt : ∀ e ∈ l, e.til ≤ 9223372036854775807 := fun e he => (hin.wf e he).til.2
    have hlen := BK.putB_len h1 h2 hin.wf
    have hpos := BK.putB_pos l
    have hcut := fun k (hk : k < (BK.putB l).length) => BK.get_cut h1 h2 hwt hk
    have hmore := BK.get_put h1 h2 hwt m.data.toList
    rw [h3] at HP
    obtain ⟨T, hT⟩ : ∃ T : ByteArray, (⟨(BK.putB l).toArray⟩ : ByteArray) = T := ⟨_, rfl⟩
    have hTd : T.data.toList = BK.putB l := by rw [← hT]
    have hTs : T.size = (BK.putB l).length := by rw [← size_list T, hTd]
    simp only [hT] at HP
    rw [← hTs] at hlen hpos hcut
    rw [← hTd] at hcut hmore
    obtain ⟨P, hP⟩ : ∃ P, p.toNat = P := ⟨_, rfl⟩
    have hmax : max p (0 : Int) = (P : Int) := by omega
    have hmax' : max (0 : Int) p = (P : Int) := by omega
    clear hP
    obtain ⟨K, hK⟩ : ∃ K, P % T.size = K := ⟨_, rfl⟩
    have hKT : K < T.size := by rw [← hK]; exact Nat.mod_lt P hpos
    have hrem : (P : Int) % (T.size : Int) = (K : Int) := by rw [← hK, Int.natCast_emod]
    have hsl := fun W => str_head W T K (by omega)
    have hcd : (T.extract 0 K).data.toList = T.data.toList.take K := by rw [Lib.extract_data, List.drop_zero, Nat.sub_zero]
    have hcs : (T.extract 0 K).size ≤ 40000 := by rw [ByteArray.size_extract]; omega
    obtain ⟨U, hU⟩ : ∃ U, T.extract 0 K = U := ⟨_, rfl⟩
    rw [hU] at hsl hcd hcs
    have hg1 : BK.getC U.data.toList = 3 ∧ BK.getL U.data.toList = [] := BK.getC_err (by rw [hcd]; exact hcut K hKT)
    have hmt : (T ++ m).data.toList = T.data.toList ++ m.data.toList := str_app T m
    have hms : (T ++ m).size = T.size + m.size := by simp
    have HG1 := Lib.hid (fun W => bget_any U W (by omega))
    have HG2 := Lib.hid (fun W => bget_any (T ++ m) W (by omega))
    rw [hg1.1, hg1.2] at HG1
    have hm0 : (m.toList == ([] : List UInt8)) = decide (m.size = 0) := text_none m
    have hT0 : (T.toList == ([] : List UInt8)) = false := by rw [text_none]; exact decide_eq_false (by omega)
    have hcat : ¬ 9223372036854775807 < T.size + m.size := by omega
    rw [hmt] at HG2
    have hT1 : ((T.size : Int) == 0) = false := beq_eq_false_iff_ne.2 (by omega)
    have hT2 : ¬ (T.size : Int) = 0 := by omega
    have hgC : BK.getC (T.data.toList ++ m.data.toList) = if m.size = 0 then 0 else 4 := by
      by_cases h0 : m.size = 0
      · rw [if_pos h0]
        have hn0 : m.data.toList = [] := List.length_eq_zero_iff.1 (by rw [size_list]; exact h0)
        rw [hn0] at hmore ⊢
        rw [if_pos rfl] at hmore
        exact (BK.getC_ok hmore).1
      · rw [if_neg h0]
        have hn0 : m.data.toList ≠ [] := fun h => h0 (by rw [← size_list, h]; rfl)
        rw [if_neg hn0] at hmore
        exact (BK.getC_err hmore).1
    obtain ⟨D, hD⟩ : ∃ D, BK.getC (T.data.toList ++ m.data.toList) = D := ⟨_, rfl⟩
    obtain ⟨ML, hML⟩ : ∃ ML, BK.getL (T.data.toList ++ m.data.toList) = ML := ⟨_, rfl⟩
    rw [hD, hML] at HG2
    rw [hD] at hgC
    have HGC := Lib.hid hgC
    have HTP := Lib.hid hpos
    clear hn hin hb h1 h2 h3 hwt hlen hcut hmore hT hTd hTs hK hcd hcs hU hg1 hmt hms hgC hD hML
    go_enter Try.func7, Try.ntmps7
    go_wp2_with fail
    refine HL.out.mono ?_
    rintro e w1 ⟨A1, c1, A2, c2, rfl, h1, -, -, -, hb1, hs1, -⟩
    have H1 := Lib.hid h1
    have HB1 := Lib.hid hb1
    have HS1 := Lib.hid hs1
    clear h1 hb1 hs1 HL
    go_wp2_with fail
    refine (HP.out _ _ _ H1.out).mono ?_
    rintro e w2 ⟨rfl, hb2⟩
    have HB2 : Hid (Below w.heap.size w w2) := Lib.hid (HB1.out.trans (hb2.mono HS1.out))
    have HS2 : Hid (w.heap.size ≤ w2.heap.size) := Lib.hid (Nat.le_trans HS1.out hb2.size)
    clear hb2 HP
    go_wp2_with fail
    refine (HW.out _).mono ?_
    rintro r w3 ⟨rfl, hb3⟩
    have HB3 : Hid (Below w.heap.size w w3) := Lib.hid (HB2.out.trans (hb3.mono HS2.out))
    have HS3 : Hid (w.heap.size ≤ w3.heap.size) := Lib.hid (Nat.le_trans HS2.out hb3.size)
    clear hb3
    go_wp2_with fail
    refine (HG1.out _).mono ?_
    rintro r w4 ⟨A4, c4, rfl, -, -, hb4⟩
    have HB4 : Hid (Below w.heap.size w w4) := Lib.hid (HB3.out.trans (hb4.mono HS3.out))
    have HS4 : Hid (w.heap.size ≤ w4.heap.size) := Lib.hid (Nat.le_trans HS3.out hb4.size)
    clear hb4
    go_wp2_with fail
    refine (HG2.out _).mono ?_
    rintro r w5 ⟨A5, c5, rfl, -, -, hb5⟩
    have HB5 : Hid (Below w.heap.size w w5) := Lib.hid (HB4.out.trans (hb5.mono HS4.out))
    clear hb5
    by_cases h0 : m.size = 0
    · have hD : D = 0 := by rw [HGC.out, if_pos h0]
      have hm1 : (m.toList == ([] : List UInt8)) = true := by rw [hm0]; simp [h0]
      subst hD
      clear hm0 h0
      go_wp2
      go_ret
      exact ⟨rfl, HB5.out⟩
    · have hD : D = 4 := by rw [HGC.out, if_neg h0]
      have hm1 : (m.toList == ([] : List UInt8)) = false := by rw [hm0]; simp [h0]
      subst hD
      clear hm0 h0
      go_wp2
      go_ret
      exact ⟨rfl, HB5.out⟩

set_option maxRecDepth 100000 in
theorem contract (H : Type) (enc : TypeId × Value → H) (W : World) (base : Nat) (args : Array Value) (ds gs : List (DataW H)) (before : List MemPlace)
    (hval : ∀ (j : Nat) t v, Try.f7.params[j]? = some t → args[j]? = some v → Value.okWide Try.prog W .any base t v)
    (hW : DataW.Whole enc Try.prog Try.f7.params.toList Rows.batchCutsSpec.vars false W args.toList ds gs before)
    (hz : (DataW.weightsEach Try.prog Try.f7.params.toList (ds ++ gs)).all (· ≤ reachBytes) = true) :
    Calls Try.prog 7 args W fun e W' => ∃ v, e = .returned v ∧ Rows.batchCutsSpec.post enc Try.prog Try.f7 false true false false W args v W' := by
  have hW' := hW
  obtain ⟨p, q, hA0, hV, rfl, hfz, hnd⟩ := hW
  have hA : DataW.TrodAll enc Try.prog W 0 (fun _ => true) true Try.f7.params.toList args.toList ds p := hA0
  rw [Try.params7] at hA hval hz
  obtain ⟨v0, vs0, d0, ds0, p0, q0, hargs, rfl, rfl, h0, r0⟩ := trodAll_cons hA
  obtain ⟨v1, vs1, d1, ds1, p1, q1, rfl, rfl, rfl, h1, r1⟩ := trodAll_cons r0
  obtain ⟨v2, vs2, d2, ds2, p2, q2, rfl, rfl, rfl, h2, r2⟩ := trodAll_cons r1
  obtain ⟨rfl, rfl, rfl⟩ := trodAll_nil r2
  obtain rfl : args = #[v0, v1, v2] := by cases args; simp_all
  obtain ⟨rfl, rfl⟩ := trodVars_none hV
  obtain ⟨lA, lN, lC, l, rfl, hlenl, hinl, hbl, hcapl⟩ := open_ents (hval 0 22 v0 rfl rfl) h0 (parts_sized hz (j := 0) rfl rfl)
  obtain ⟨p, rfl, rfl, rfl, wp⟩ := open_int Try.underlying3 (hval 1 3 v1 rfl rfl) h1
  have hp : -9223372036854775808 ≤ p ∧ p ≤ 9223372036854775807 := by simpa [Lit.wf, IntKind.min, IntKind.max, IntKind.signed, IntKind.bits] using wp
  obtain ⟨m, rfl, rfl, rfl, hmax2⟩ := Go.ChangeMaps.open_string Try.underlying9 (hval 2 9 v2 rfl rfl) h2
  have hm : m.size ≤ 140737488351232 := by
    have h := sized_string hz (j := 2) rfl rfl
    have hl : m.data.toList.length = m.size := by simp
    unfold reachBytes at h
    omega
  refine (walk lA lN lC l p m W hlenl hinl hbl hp hm).mono fun e W' ⟨he, hB⟩ => ?_
  subst he
  exact ⟨_, rfl, law_post Try.laidOut (by kernel_rfl) rfl rfl Try.underlying4 hW' rfl hB⟩

set_option maxRecDepth 100000 in
theorem lifted (os : Os) (started : os.Started) (H : Type) (enc : TypeId × Value → H) :
    ReturnsInHanded {} Try.checked os 7 .any (Rows.batchCutsSpec.pre6 enc Try.prog Try.f7 Rows.batchCutsRow.domain false) (Rows.batchCutsSpec.post enc Try.prog Try.f7 false true false false) := by
  refine returnsInHanded_of_change_sized (C := Try.checked) Try.own started (by kernel_rfl) Try.func7
    (ChangeSpec.witness6 (enc := enc) (C := Try.checked) false ⟨#[], #[.slice none 0 0, .int .i64 0, .string ⟨#[]⟩], []⟩ 8 (by kernel_rfl) (by kernel_rfl) (by kernel_rfl) (by kernel_rfl)) ?_
  intro W base args ds gs before hval hW _ hz _
  exact contract H enc W base args ds gs before hval hW hz

theorem proved : Rows.BatchCutsSaid :=
  OpenClaim.holds_of_wide 7 Try.f7 rfl rfl rfl rfl rfl rfl rfl ⟨rfl, rfl, rfl, rfl, rfl⟩ rfl rfl rfl rfl rfl (by kernel_rfl) Try.func7 (by kernel_rfl)
    (of_decide_eq_true (by kernel_rfl)) (by unfold Func.isWrapper; first | (rw [if_pos (by decide +kernel)]; kernel_rfl) | (rw [if_neg (by decide +kernel)]; exact ⟨rfl, rfl⟩))
    (fun os started H enc _ => lifted os started H enc)
end lawCuts
end Go.Proofs.Ytonoapgajgcjlaa
