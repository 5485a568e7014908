/- BatchBack: items are read back from their bytes; bytes that are read as items are these items' bytes. For every items and every text. Made by gen_bk.py. -/
import Derived.Test.YtonoapgajgcjlaaCt
import Derived.Test.YtonoapgajgcjlaaEq
namespace Go.Proofs.Ytonoapgajgcjlaa
open Go.ChangeShapes Go.WideShapes Go.ChangeAt Go.RowKit
open SK
namespace lawBack

set_option maxRecDepth 100000 in
set_option maxHeartbeats 4000000 in
theorem walk (A : Option Addr) (n cap : Nat) (l : List E) (s : ByteArray) (w : World) (hn : l.length = n) (hin : EntsIn w A l) (hb : n * 56 ≤ reachBytes) (hs : s.size ≤ 140737488351232) :
    Calls Try.prog 5 #[.slice A n cap, .string s] w fun e w' => e = .returned (.bool true) ∧ Below w.heap.size w w' := by
  have HL := Lib.hid (lists_in A n cap l w hn hin hb)
  have HP : Hid (∀ W A1 c1, EntsIn W A1 l → Calls Try.prog 9 #[.slice A1 n c1] W fun e w' => e = .returned (.tuple #[.string ⟨(BK.putOut l).1.toArray⟩, .int .i64 (BK.putOut l).2]) ∧ Below W.heap.size W w') := fun W A1 c1 h => bput_any A1 n c1 l W hn h
  have HW : Hid (∀ W, Calls Try.prog 11 #[] W fun r w' => r = .returned (.bool true) ∧ Below W.heap.size W w') := fun W => wakes_any W
  have HG2 := Lib.hid (fun W => bget_any s W (by omega))
  obtain ⟨D, hD⟩ : ∃ D, BK.getC s.data.toList = D := ⟨_, rfl⟩
  obtain ⟨ML, hML⟩ : ∃ ML, (BK.getL s.data.toList).length = ML := ⟨_, rfl⟩
  have HN : Hid (D ≠ 0 → ML = 0) := Lib.hid (fun h => by rw [← hML, BK.getL_none (by rw [hD]; exact h)]; rfl)
  have HZ : Hid (D = 0 → ML ≤ 64 ∧ ∀ W A1 c1, EntsIn W A1 (BK.getL s.data.toList) → Calls Try.prog 9 #[.slice A1 ML c1] W fun e w' => e = .returned (.tuple #[.string s, .int .i64 0]) ∧ Below W.heap.size W w') := Lib.hid (fun h => by
    have h1 := BK.getC_zero (l := s.data.toList) (by rw [hD]; exact h)
    obtain ⟨h2, h3, h4, h5⟩ := BK.get_ok h1
    refine ⟨by rw [← hML]; exact h2, fun W A1 c1 hE => (bput_any A1 ML c1 _ W hML hE).mono fun e w' ⟨he, hb⟩ => ⟨?_, hb⟩⟩
    rw [he]
    have h6 : BK.putOut (BK.getL s.data.toList) = (s.data.toList, 0) := by
      unfold BK.putOut
      rw [if_neg (by omega), if_neg (by simp [h3]), h5]
    rw [h6])
  rw [hD, hML] at HG2
  obtain ⟨GL, hGL⟩ : ∃ GL, BK.getL s.data.toList = GL := ⟨_, rfl⟩
  rw [hGL] at HG2 HZ
  clear hD hML hGL
  rcases BK.put_cases l with ⟨h1, h2⟩ | ⟨h1, h2, h3⟩
  · obtain ⟨T, hT⟩ : ∃ T : ByteArray, (⟨(BK.putOut l).1.toArray⟩ : ByteArray) = T := ⟨_, rfl⟩
    obtain ⟨C, hC⟩ : ∃ C, (BK.putOut l).2 = C := ⟨_, rfl⟩
    rw [hC] at h1
    rw [hT, hC] at HP
    have hbe : (C == 0) = false := by simpa using h1
    have hbn : (C != 0) = true := by simpa using h1
    clear hT hC hn hin hb h2 hs
    go_enter Try.func5, Try.ntmps5
    go_wp2_with fail
    refine HL.out.mono ?_
    rintro e w1 ⟨A1, c1, A2, c2, rfl, h1, -, -, -, hb1, hs1, -⟩
    have H1 := Lib.hid h1
    have HB1 := Lib.hid hb1
    have HS1 := Lib.hid hs1
    clear h1 hb1 hs1 HL
    go_wp2_with fail
    refine (HP.out _ _ _ H1.out).mono ?_
    rintro e w2 ⟨rfl, hb2⟩
    have HBX : Hid (Below w.heap.size w w2) := Lib.hid (HB1.out.trans (hb2.mono HS1.out))
    have HSX : Hid (w.heap.size ≤ w2.heap.size) := Lib.hid (Nat.le_trans HS1.out hb2.size)
    clear hb2 HP
    go_wp2_with fail
    refine (HG2.out _).mono ?_
    rintro r w11 ⟨A5, c5, rfl, hen, -, hb11⟩
    have HEN := Lib.hid hen
    have HB11 : Hid (Below w.heap.size w w11) := Lib.hid (HBX.out.trans (hb11.mono HSX.out))
    have HS11 : Hid (w.heap.size ≤ w11.heap.size) := Lib.hid (Nat.le_trans HSX.out hb11.size)
    clear hb11 hen
    by_cases hD : D = 0
    · subst hD
      obtain ⟨HML, HPM⟩ := HZ.out rfl
      go_wp2_with fail
      refine (HW.out _).mono ?_
      rintro r w12 ⟨rfl, hb12⟩
      have HEN2 := Lib.hid (HEN.out.below hb12)
      have HB12 : Hid (Below w.heap.size w w12) := Lib.hid (HB11.out.trans (hb12.mono HS11.out))
      have HS12 : Hid (w.heap.size ≤ w12.heap.size) := Lib.hid (Nat.le_trans HS11.out hb12.size)
      clear hb12
      go_wp2_with fail
      refine (HPM _ _ _ HEN2.out).mono ?_
      rintro r w13 ⟨rfl, hb13⟩
      have HB13 : Hid (Below w.heap.size w w13) := Lib.hid (HB12.out.trans (hb13.mono HS12.out))
      have hss : (s.toList == s.toList) = true := beq_self_eq_true _
      clear hb13 HZ HPM
      go_wp2
      go_ret
      exact ⟨rfl, HB13.out⟩
    · have HML0 : Hid (ML = 0) := Lib.hid (HN.out hD)
      have hbe : (D == 0) = false := by simpa using hD
      have hbn : (D != 0) = true := by simpa using hD
      have hml := HML0.out
      subst hml
      clear HZ HN
      go_wp2_with fail
      refine (HW.out _).mono ?_
      rintro r w12 ⟨rfl, hb12⟩
      have HB12 : Hid (Below w.heap.size w w12) := Lib.hid (HB11.out.trans (hb12.mono HS11.out))
      have HS12 : Hid (w.heap.size ≤ w12.heap.size) := Lib.hid (Nat.le_trans HS11.out hb12.size)
      clear hb12
      go_wp2_with (go_at_call 11; refine (HW.out _).mono ?_; rintro r w13 ⟨rfl, hb13⟩
                   have HB13 : Hid (Below w.heap.size w w13) := Lib.hid (HB12.out.trans (hb13.mono HS12.out))
                   clear hb13)
      go_ret
      exact ⟨rfl, HB13.out⟩
  · have hwt : ∀ e ∈ l, e.til ≤ 9223372036854775807 := fun e he => (hin.wf e he).til.2
    have hlen := BK.putB_len h1 h2 hin.wf
    have hback := BK.get_put h1 h2 hwt []
    rw [if_pos rfl, List.append_nil] at hback
    obtain ⟨hb1, hb2⟩ := BK.getC_ok hback
    rw [h3] at HP
    obtain ⟨T, hT⟩ : ∃ T : ByteArray, (⟨(BK.putB l).toArray⟩ : ByteArray) = T := ⟨_, rfl⟩
    have hTd : T.data.toList = BK.putB l := by rw [← hT]
    have hTs : T.size ≤ 40000 := by rw [← size_list T, hTd]; exact hlen
    simp only [hT] at HP
    have HG1 := Lib.hid (fun W => bget_any T W (by omega))
    rw [hTd, hb1, hb2, List.length_map, hn] at HG1
    have HLN := Lib.hid hn
    have HN64 : Hid (n ≤ 64) := Lib.hid (by omega)
    clear hn hin hb h1 h2 h3 hwt hlen hback hb1 hb2 hT hTd hTs hs
    go_enter Try.func5, Try.ntmps5
    go_wp2_with fail
    refine HL.out.mono ?_
    rintro e w1 ⟨A1, c1, A2, c2, rfl, h1, -, -, -, hb1, hs1, -⟩
    have H1 := Lib.hid h1
    have HB1 := Lib.hid hb1
    have HS1 := Lib.hid hs1
    clear h1 hb1 hs1 HL
    go_wp2_with fail
    refine (HP.out _ _ _ H1.out).mono ?_
    rintro e w2 ⟨rfl, hb2⟩
    have H12 := Lib.hid (H1.out.below hb2)
    have HB2 : Hid (Below w.heap.size w w2) := Lib.hid (HB1.out.trans (hb2.mono HS1.out))
    have HS2 : Hid (w.heap.size ≤ w2.heap.size) := Lib.hid (Nat.le_trans HS1.out hb2.size)
    clear hb2 HP
    go_wp2_with fail
    refine (HG1.out _).mono ?_
    rintro r w3 ⟨A3, c3, rfl, h3, -, hb3⟩
    have H13 := Lib.hid (H12.out.below hb3)
    have H33 := Lib.hid h3
    have HB3 : Hid (Below w.heap.size w w3) := Lib.hid (HB2.out.trans (hb3.mono HS2.out))
    have HS3 : Hid (w.heap.size ≤ w3.heap.size) := Lib.hid (Nat.le_trans HS2.out hb3.size)
    clear hb3 h3 HG1
    have hnn : ((n : Int) == (n : Int)) = true := beq_self_eq_true _
    go_wp2_with fail
    go_loopw [45] (fun i wr => ∃ j : Nat, j ≤ n ∧ i = .int .i64 j ∧ Below w.heap.size w wr ∧ Below w3.heap.size w3 wr ∧ w3.heap.size ≤ wr.heap.size) (fun i _ => n - (intOf i).toNat)
    case atStart => exact ⟨0, by omega, rfl, HB3.out, Below.refl _ _, Nat.le_refl _⟩
    case round =>
      obtain ⟨j, hj, rfl, hbw, hb3, hsz⟩ := hrel
      by_cases hlt : j < n
      · have hjl : j < l.length := by rw [HLN.out]; exact hlt
        have hjm : j < (l.map BK.z).length := by rw [List.length_map]; exact hjl
        obtain ⟨b, off, hA, hbl, hc⟩ := (H13.out.below hb3).at_ (by omega)
        obtain ⟨z0, z1, z2, z3, z4⟩ := hc j hjl
        obtain ⟨b', off', hA', hbl', hc'⟩ := (H33.out.below hb3).at_ (by omega)
        obtain ⟨y0, y1, y2, y3, y4⟩ := hc' j hjm
        have hzz : (l.map BK.z)[j] = BK.z l[j] := by rw [List.getElem_map]
        rw [hzz] at y0 y1 y2 y3 y4
        obtain ⟨e, he⟩ : ∃ e, l[j] = e := ⟨_, rfl⟩
        rw [he] at z0 z1 z2 z3 z4 y0 y1 y2 y3 y4
        subst hA hA'
        obtain ⟨k2, q2, g2, v2, t2⟩ := e
        simp only [BK.z] at z0 z1 z2 z3 z4 y0 y1 y2 y3 y4
        have hee := fun W => ent_any W k2 k2 0 0 g2 g2 v2 v2 t2 t2
        have heq : eqB ⟨k2, 0, g2, v2, t2⟩ ⟨k2, 0, g2, v2, t2⟩ = true := (eqB_iff _ _).2 rfl
        simp only [heq, Bool.not_true] at hee
        have g0 : (0 : Int) ≤ (j : Int) := by omega
        have g1 : (j : Int) < (n : Int) := by omega
        have hm64 : n ≤ 64 := HN64.out
        obtain ⟨x, hx⟩ : ∃ x, wr.heap.size = x := ⟨_, rfl⟩
        have HBW : Hid (Below w.heap.size w (wr.alloc (.cells #[.string k2, .int .i64 0, .bool g2, .string v2, .int .i64 t2] 40))) := Lib.hid (hbw.alloc (by have := HS3.out; omega) _)
        have HB3W : Hid (Below w3.heap.size w3 (wr.alloc (.cells #[.string k2, .int .i64 0, .bool g2, .string v2, .int .i64 t2] 40))) := Lib.hid (hb3.alloc hsz _)
        have HSZ : Hid (w3.heap.size ≤ (wr.alloc (.cells #[.string k2, .int .i64 0, .bool g2, .string v2, .int .i64 t2] 40)).heap.size) := Lib.hid (by simp; omega)
        have hal := fun (a : Addr) (h : a.block < wr.heap.size) => ((Below.refl wr.heap.size wr).alloc (Nat.le_refl _) (.cells #[.string k2, .int .i64 0, .bool g2, .string v2, .int .i64 t2] 40)).cell (p := a) h
        have r0 := (hal ⟨b', off' + j * 5, none⟩ hbl').trans y0
        have r1 := (hal ⟨b', off' + j * 5 + 1, none⟩ hbl').trans y1
        have r2 := (hal ⟨b', off' + j * 5 + 2, none⟩ hbl').trans y2
        have r3 := (hal ⟨b', off' + j * 5 + 3, none⟩ hbl').trans y3
        have r4 := (hal ⟨b', off' + j * 5 + 4, none⟩ hbl').trans y4
        have hrow := heap_alloc_new wr (.cells #[.string k2, .int .i64 0, .bool g2, .string v2, .int .i64 t2] 40)
        have s0 := cell_of_row _ _ 0 _ _ _ hrow
        have s1 := cell_of_row _ _ 1 _ _ _ hrow
        have s2 := cell_of_row _ _ 2 _ _ _ hrow
        have s3 := cell_of_row _ _ 3 _ _ _ hrow
        have s4 := cell_of_row _ _ 4 _ _ _ hrow
        clear hbw hb3 hsz hc hc' hbl hbl' hzz he heq hal hrow
        go_wp2_with fail
        generalize wr.alloc _ = w5 at HBW HB3W HSZ r0 r1 r2 r3 r4 s0 s1 s2 s3 s4 ⊢
        rw [hx] at s0 s1 s2 s3 s4
        clear hx
        go_quiet (fail)
        go_wp2
        go_roundw
        case rel => exact ⟨j + 1, by omega, by go_num, below_drewN HBW.out _, below_drewN HB3W.out _, HSZ.out⟩
        case measure => simp [intOf]; omega
      · have hjn : j = n := by omega
        subst hjn
        have HBX : Hid (Below w.heap.size w wr) := Lib.hid hbw
        have HSX : Hid (w.heap.size ≤ wr.heap.size) := Lib.hid (by have := HS3.out; omega)
        clear hbw hb3 hsz
        go_wp2_with fail
        refine (HG2.out _).mono ?_
        rintro r w11 ⟨A5, c5, rfl, hen, -, hb11⟩
        have HEN := Lib.hid hen
        have HB11 : Hid (Below w.heap.size w w11) := Lib.hid (HBX.out.trans (hb11.mono HSX.out))
        have HS11 : Hid (w.heap.size ≤ w11.heap.size) := Lib.hid (Nat.le_trans HSX.out hb11.size)
        clear hb11 hen
        by_cases hD : D = 0
        · subst hD
          obtain ⟨HML, HPM⟩ := HZ.out rfl
          go_wp2_with fail
          refine (HW.out _).mono ?_
          rintro r w12 ⟨rfl, hb12⟩
          have HEN2 := Lib.hid (HEN.out.below hb12)
          have HB12 : Hid (Below w.heap.size w w12) := Lib.hid (HB11.out.trans (hb12.mono HS11.out))
          have HS12 : Hid (w.heap.size ≤ w12.heap.size) := Lib.hid (Nat.le_trans HS11.out hb12.size)
          clear hb12
          go_wp2_with fail
          refine (HPM _ _ _ HEN2.out).mono ?_
          rintro r w13 ⟨rfl, hb13⟩
          have HB13 : Hid (Below w.heap.size w w13) := Lib.hid (HB12.out.trans (hb13.mono HS12.out))
          have hss : (s.toList == s.toList) = true := beq_self_eq_true _
          clear hb13 HZ HPM
          go_wp2
          go_ret
          exact ⟨rfl, HB13.out⟩
        · have HML0 : Hid (ML = 0) := Lib.hid (HN.out hD)
          have hbe : (D == 0) = false := by simpa using hD
          have hbn : (D != 0) = true := by simpa using hD
          have hml := HML0.out
          subst hml
          clear HZ HN
          go_wp2_with fail
          refine (HW.out _).mono ?_
          rintro r w12 ⟨rfl, hb12⟩
          have HB12 : Hid (Below w.heap.size w w12) := Lib.hid (HB11.out.trans (hb12.mono HS11.out))
          have HS12 : Hid (w.heap.size ≤ w12.heap.size) := Lib.hid (Nat.le_trans HS11.out hb12.size)
          clear hb12
          go_wp2_with (go_at_call 11; refine (HW.out _).mono ?_; rintro r w13 ⟨rfl, hb13⟩
                       have HB13 : Hid (Below w.heap.size w w13) := Lib.hid (HB12.out.trans (hb13.mono HS12.out))
                       clear hb13)
          go_ret
          exact ⟨rfl, HB13.out⟩

set_option maxRecDepth 100000 in
theorem contract (H : Type) (enc : TypeId × Value → H) (W : World) (base : Nat) (args : Array Value) (ds gs : List (DataW H)) (before : List MemPlace)
    (hval : ∀ (j : Nat) t v, Try.f5.params[j]? = some t → args[j]? = some v → Value.okWide Try.prog W .any base t v)
    (hW : DataW.Whole enc Try.prog Try.f5.params.toList Rows.batchBackSpec.vars false W args.toList ds gs before)
    (hz : (DataW.weightsEach Try.prog Try.f5.params.toList (ds ++ gs)).all (· ≤ reachBytes) = true) :
    Calls Try.prog 5 args W fun e W' => ∃ v, e = .returned v ∧ Rows.batchBackSpec.post enc Try.prog Try.f5 false true false false W args v W' := by
  have hW' := hW
  obtain ⟨p, q, hA0, hV, rfl, hfz, hnd⟩ := hW
  have hA : DataW.TrodAll enc Try.prog W 0 (fun _ => true) true Try.f5.params.toList args.toList ds p := hA0
  rw [Try.params5] at hA hval hz
  obtain ⟨v0, vs0, d0, ds0, p0, q0, hargs, rfl, rfl, h0, r0⟩ := trodAll_cons hA
  obtain ⟨v1, vs1, d1, ds1, p1, q1, rfl, rfl, rfl, h1, r1⟩ := trodAll_cons r0
  obtain ⟨rfl, rfl, rfl⟩ := trodAll_nil r1
  obtain rfl : args = #[v0, v1] := by cases args; simp_all
  obtain ⟨rfl, rfl⟩ := trodVars_none hV
  obtain ⟨lA, lN, lC, l, rfl, hlenl, hinl, hbl, hcapl⟩ := open_ents (hval 0 22 v0 rfl rfl) h0 (parts_sized hz (j := 0) rfl rfl)
  obtain ⟨s, rfl, rfl, rfl, hmax1⟩ := Go.ChangeMaps.open_string Try.underlying9 (hval 1 9 v1 rfl rfl) h1
  have hs : s.size ≤ 140737488351232 := by
    have h := sized_string hz (j := 1) rfl rfl
    have hl : s.data.toList.length = s.size := by simp
    unfold reachBytes at h
    omega
  refine (walk lA lN lC l s W hlenl hinl hbl hs).mono fun e W' ⟨he, hB⟩ => ?_
  subst he
  exact ⟨_, rfl, law_post Try.laidOut (by kernel_rfl) rfl rfl Try.underlying4 hW' rfl hB⟩

set_option maxRecDepth 100000 in
theorem lifted (os : Os) (started : os.Started) (H : Type) (enc : TypeId × Value → H) :
    ReturnsInHanded {} Try.checked os 5 .any (Rows.batchBackSpec.pre6 enc Try.prog Try.f5 Rows.batchBackRow.domain false) (Rows.batchBackSpec.post enc Try.prog Try.f5 false true false false) := by
  refine returnsInHanded_of_change_sized (C := Try.checked) Try.own started (by kernel_rfl) Try.func5
    (ChangeSpec.witness6 (enc := enc) (C := Try.checked) false ⟨#[], #[.slice none 0 0, .string ⟨#[]⟩], []⟩ 8 (by kernel_rfl) (by kernel_rfl) (by kernel_rfl) (by kernel_rfl)) ?_
  intro W base args ds gs before hval hW _ hz _
  exact contract H enc W base args ds gs before hval hW hz

theorem proved : Rows.BatchBackSaid :=
  OpenClaim.holds_of_wide 5 Try.f5 rfl rfl rfl rfl rfl rfl rfl ⟨rfl, rfl, rfl, rfl, rfl⟩ rfl rfl rfl rfl rfl (by kernel_rfl) Try.func5 (by kernel_rfl)
    (of_decide_eq_true (by kernel_rfl)) (by unfold Func.isWrapper; first | (rw [if_pos (by decide +kernel)]; kernel_rfl) | (rw [if_neg (by decide +kernel)]; exact ⟨rfl, rfl⟩))
    (fun os started H enc _ => lifted os started H enc)
end lawBack
end Go.Proofs.Ytonoapgajgcjlaa
