/- KeyOrders: keys stand in the order of the parts that they are made of. For every two lists of parts. -/
import Derived.Test.YtnkofinielabkaaCmp
import Derived.Test.YtnkofinielabkaaOpen
import Derived.Test.YtnkofinielabkaaLaw
namespace Go.Proofs.Ytnkofinielabkaa
open Go.ChangeShapes Go.WideShapes Go.ChangeAt Go.RowKit
namespace lawOrders

theorem mk_range (l : List KM.KP) : (KM.mk l).2 = 0 ∧ (KM.mk l).1 = l.flatMap KM.penc ∨ (KM.mk l).2 = 5 := by
  unfold KM.mk
  split
  · right; rfl
  · left; exact ⟨rfl, rfl⟩

set_option maxRecDepth 100000 in
set_option maxHeartbeats 1000000 in
theorem walk (A : Option Addr) (n cap : Nat) (l : List KM.KP) (B : Option Addr) (m cap2 : Nat) (k : List KM.KP) (w : World) (hn : l.length = n) (hz : PartsIn w w.heap.size A l) (hb : n * 32 ≤ reachBytes)
    (hm : k.length = m) (hk : PartsIn w w.heap.size B k) (hb2 : m * 32 ≤ reachBytes) :
    Calls Try.prog 5 #[.slice A n cap, .slice B m cap2] w fun e w' => e = .returned (.bool true) ∧ Below w.heap.size w w' := by
  unfold reachBytes at hb hb2
  have HL := Lib.hid (lists_any A n cap l w hn hz (by omega))
  have HN := Lib.hid hn
  have HZ := Lib.hid hz
  have HM := Lib.hid hm
  have HK := Lib.hid hk
  clear hn hz hm hk
  go_enter Try.func5, Try.ntmps5
  go_wp2_with fail
  refine HL.out.mono ?_
  rintro e w1 ⟨a, b, rfl, hT⟩
  obtain ⟨A1, c1, rfl, hz1⟩ := parts_of_own HZ.out.1 HN.out hT.own1
  obtain ⟨A2, c2, rfl, -⟩ := parts_of_own HZ.out.1 HN.out hT.own2
  have HB1 := Lib.hid hT.below
  have HZ1 := Lib.hid hz1
  have hs1 := hT.below.size
  have HL2 := Lib.hid (lists_any B m cap2 k w1 HM.out ((HK.out.below hT.below).more hs1) (by omega))
  clear hT hz1
  go_wp2_with fail
  refine HL2.out.mono ?_
  rintro e w2 ⟨a, b, rfl, hT⟩
  obtain ⟨A3, c3, rfl, hz3⟩ := parts_of_own HK.out.1 HM.out hT.own1
  obtain ⟨A4, c4, rfl, -⟩ := parts_of_own HK.out.1 HM.out hT.own2
  have hs2 := hT.below.size
  have HB2 := Lib.hid (HB1.out.trans (hT.below.mono hs1))
  have HZ1b := Lib.hid ((HZ1.out.below hT.below).more hs2)
  have HZ3 := Lib.hid hz3
  have HM1 := Lib.hid (make_any A1 n c1 l w2 HN.out HZ1b.out (by omega))
  clear hT hz3
  obtain ⟨s, e1, hmk1⟩ : ∃ s e1, KM.mk l = (s, e1) := ⟨_, _, rfl⟩
  have HR1 := Lib.hid (mk_range l)
  rw [hmk1] at HM1 HR1
  clear hmk1
  go_wp2_with fail
  refine HM1.out.mono ?_
  rintro e w3 ⟨rfl, hB3⟩
  have hs3 := hB3.size
  have HB3 := Lib.hid (HB2.out.trans (hB3.mono (by omega)))
  have HZ1c := Lib.hid ((HZ1b.out.below hB3).more hs3)
  have HZ3c := Lib.hid ((HZ3.out.below hB3).more hs3)
  have HM2 := Lib.hid (make_any A3 m c3 k w3 HM.out HZ3c.out (by omega))
  clear hB3
  obtain ⟨t, e2, hmk2⟩ : ∃ s e1, KM.mk k = (s, e1) := ⟨_, _, rfl⟩
  have HR2 := Lib.hid (mk_range k)
  rw [hmk2] at HM2 HR2
  clear hmk2
  go_wp2_with fail
  refine HM2.out.mono ?_
  rintro e w4 ⟨rfl, hB4⟩
  have hs4 := hB4.size
  have HB4 := Lib.hid (HB3.out.trans (hB4.mono (by omega)))
  have HZ1d := Lib.hid ((HZ1c.out.below hB4).more hs4)
  have HZ3d := Lib.hid ((HZ3c.out.below hB4).more hs4)
  clear hB4
  rcases HR1.out with ⟨he1, hk1⟩ | he1
  · obtain rfl : e1 = 0 := he1
    rcases HR2.out with ⟨he2, hk2⟩ | he2
    · obtain rfl : e2 = 0 := he2
      have hord := KM.encs_order HZ.out.1 HK.out.1
      have hk1' : s = l.flatMap KM.penc := hk1
      have hk2' : t = k.flatMap KM.penc := hk2
      rw [← hk1', ← hk2'] at hord
      have HO := Lib.hid hord
      have hls : ∀ x : List UInt8, (⟨x.toArray⟩ : ByteArray).toList = x := fun x => by rw [Lib.toList_data]
      have HS := Lib.hid (hls s)
      have HT := Lib.hid (hls t)
      obtain ⟨S, hS⟩ : ∃ S : ByteArray, (⟨s.toArray⟩ : ByteArray) = S := ⟨_, rfl⟩
      obtain ⟨T, hT⟩ : ∃ T : ByteArray, (⟨t.toArray⟩ : ByteArray) = T := ⟨_, rfl⟩
      rw [hS] at HS
      rw [hT] at HT
      rw [hS, hT]
      clear hS hT hls hk1 hk2 hk1' hk2' hord
      obtain ⟨z, hz⟩ : ∃ z, KM.cmpList l k = z := ⟨_, rfl⟩
      rw [hz] at HO
      have HZZ := Lib.hid hz
      clear hz
      rcases HO.out with ⟨rfl, l1, -, -⟩ | ⟨rfl, heq⟩ | ⟨rfl, l1, -, hne⟩
      · have b1 : Op.bytesLess S.toList T.toList = true := by rw [HS.out, HT.out]; exact l1
        clear l1
        go_wp2_with fail
        refine (wakes_any _).mono ?_
        rintro e w5 ⟨rfl, hB5⟩
        have hs5 := hB5.size
        have HB5 := Lib.hid (HB4.out.trans (hB5.mono (by omega)))
        have HC := Lib.hid (compare_any A1 A3 n c1 m c3 l k w5 HN.out HM.out ((HZ1d.out.below hB5).more hs5) ((HZ3d.out.below hB5).more hs5) (by omega) (by omega))
        rw [HZZ.out] at HC
        clear hB5
        go_wp2_with fail
        refine HC.out.mono ?_
        rintro e w6 ⟨rfl, hB6⟩
        go_wp2
        go_ret
        exact ⟨rfl, HB5.out.trans (hB6.mono (by omega))⟩
      · have b1 : Op.bytesLess S.toList T.toList = false := by rw [HS.out, HT.out, heq]; exact KM.less_irrefl _
        have b2 : (S.toList == T.toList) = true := by rw [HS.out, HT.out, heq]; simp
        clear heq
        go_wp2_with fail
        refine (wakes_any _).mono ?_
        rintro e w5 ⟨rfl, hB5⟩
        have hs5 := hB5.size
        have HB5 := Lib.hid (HB4.out.trans (hB5.mono (by omega)))
        have HC := Lib.hid (compare_any A1 A3 n c1 m c3 l k w5 HN.out HM.out ((HZ1d.out.below hB5).more hs5) ((HZ3d.out.below hB5).more hs5) (by omega) (by omega))
        rw [HZZ.out] at HC
        clear hB5
        go_wp2_with fail
        refine HC.out.mono ?_
        rintro e w6 ⟨rfl, hB6⟩
        go_wp2
        go_ret
        exact ⟨rfl, HB5.out.trans (hB6.mono (by omega))⟩
      · have b1 : Op.bytesLess S.toList T.toList = false := by rw [HS.out, HT.out]; exact l1
        have b2 : (S.toList == T.toList) = false := by rw [HS.out, HT.out]; simpa using hne
        clear l1 hne
        go_wp2_with fail
        refine (wakes_any _).mono ?_
        rintro e w5 ⟨rfl, hB5⟩
        have hs5 := hB5.size
        have HB5 := Lib.hid (HB4.out.trans (hB5.mono (by omega)))
        have HC := Lib.hid (compare_any A1 A3 n c1 m c3 l k w5 HN.out HM.out ((HZ1d.out.below hB5).more hs5) ((HZ3d.out.below hB5).more hs5) (by omega) (by omega))
        rw [HZZ.out] at HC
        clear hB5
        go_wp2_with fail
        refine HC.out.mono ?_
        rintro e w6 ⟨rfl, hB6⟩
        go_wp2
        go_ret
        exact ⟨rfl, HB5.out.trans (hB6.mono (by omega))⟩
    · obtain rfl : e2 = 5 := he2
      go_wp2_with fail
      refine (wakes_any _).mono ?_
      rintro e w5 ⟨rfl, hB5⟩
      have hs5 := hB5.size
      have HB5 := Lib.hid (HB4.out.trans (hB5.mono (by omega)))
      clear hB5
      go_wp2_with fail
      refine (wakes_any _).mono ?_
      rintro e w6 ⟨rfl, hB6⟩
      go_wp2
      go_ret
      exact ⟨rfl, HB5.out.trans (hB6.mono (by omega))⟩
  · obtain rfl : e1 = 5 := he1
    go_wp2_with fail
    refine (wakes_any _).mono ?_
    rintro e w5 ⟨rfl, hB5⟩
    have hs5 := hB5.size
    have HB5 := Lib.hid (HB4.out.trans (hB5.mono (by omega)))
    clear hB5
    go_wp2_with fail
    refine (wakes_any _).mono ?_
    rintro e w6 ⟨rfl, hB6⟩
    go_wp2
    go_ret
    exact ⟨rfl, HB5.out.trans (hB6.mono (by omega))⟩

theorem contract (H : Type) (enc : TypeId × Value → H) (W : World) (base : Nat) (args : Array Value) (ds gs : List (DataW H)) (before : List MemPlace)
    (hval : ∀ (j : Nat) t v, Try.f5.params[j]? = some t → args[j]? = some v → Value.okWide Try.prog W .any base t v)
    (hW : DataW.Whole enc Try.prog Try.f5.params.toList Rows.keyOrdersSpec.vars false W args.toList ds gs before)
    (hz : (DataW.weightsEach Try.prog Try.f5.params.toList (ds ++ gs)).all (· ≤ reachBytes) = true) :
    Calls Try.prog 5 args W fun e W' => ∃ v, e = .returned v ∧ Rows.keyOrdersSpec.post enc Try.prog Try.f5 false true false false W args v W' := by
  have hW' := hW
  obtain ⟨p, q, hA0, hV, rfl, hfz, hnd⟩ := hW
  have hA : DataW.TrodAll enc Try.prog W 0 (fun _ => true) true Try.f5.params.toList args.toList ds p := hA0
  rw [Try.params5] at hA hval hz
  obtain ⟨v0, vs0, d0, ds0, p0, q0, hargs, rfl, rfl, h0, r0⟩ := trodAll_cons hA
  obtain ⟨v1, vs1, d1, ds1, p1, q1, rfl, rfl, rfl, h1, r1⟩ := trodAll_cons r0
  obtain ⟨rfl, rfl, rfl⟩ := trodAll_nil r1
  obtain rfl : args = #[v0, v1] := by cases args; simp_all
  obtain ⟨rfl, rfl⟩ := trodVars_none hV
  obtain ⟨lA, lN, lC, l, rfl, hlenl, hinl, hbl, hsl⟩ := open_parts (hval 0 22 v0 rfl rfl) h0 (parts_sized hz (j := 0) rfl rfl)
  obtain ⟨mA, mN, mC, m, rfl, hlenm, hinm, hbm, hsm⟩ := open_parts (hval 1 22 v1 rfl rfl) h1 (parts_sized hz (j := 1) rfl rfl)
  refine (walk lA lN lC l mA mN mC m W hlenl hinl hbl hlenm hinm hbm).mono fun e W' ⟨he, hB⟩ => ?_
  subst he
  exact ⟨_, rfl, law_post Try.laidOut (by kernel_rfl) rfl rfl Try.underlying4 hW' rfl hB⟩

set_option maxRecDepth 100000 in
theorem lifted (os : Os) (started : os.Started) (H : Type) (enc : TypeId × Value → H) :
    ReturnsInHanded {} Try.checked os 5 .any (Rows.keyOrdersSpec.pre6 enc Try.prog Try.f5 Rows.keyOrdersRow.domain false) (Rows.keyOrdersSpec.post enc Try.prog Try.f5 false true false false) := by
  refine returnsInHanded_of_change_sized (C := Try.checked) Try.own started (by kernel_rfl) Try.func5
    (ChangeSpec.witness6 (enc := enc) (C := Try.checked) false ⟨#[], #[.slice none 0 0, .slice none 0 0], []⟩ 8 (by kernel_rfl) (by kernel_rfl) (by kernel_rfl) (by kernel_rfl)) ?_
  intro W base args ds gs before hval hW _ hz _
  exact contract H enc W base args ds gs before hval hW hz

theorem proved : Rows.KeyOrdersSaid :=
  OpenClaim.holds_of_wide 5 Try.f5 rfl rfl rfl rfl rfl rfl rfl ⟨rfl, rfl, rfl, rfl, rfl⟩ rfl rfl rfl rfl rfl (by kernel_rfl) Try.func5 (by kernel_rfl)
    (of_decide_eq_true (by kernel_rfl)) (by unfold Func.isWrapper; first | (rw [if_pos (by decide +kernel)]; kernel_rfl) | (rw [if_neg (by decide +kernel)]; exact ⟨rfl, rfl⟩))
    (fun os started H enc _ => lifted os started H enc)
end lawOrders
end Go.Proofs.Ytnkofinielabkaa
