/- KeyCompares: the order of every two lists of parts is the document's. For every two lists of parts. -/
import Derived.Test.YtnkofinielabkaaCmpRef
import Derived.Test.YtnkofinielabkaaOpen
import Derived.Test.YtnkofinielabkaaLaw
namespace Go.Proofs.Ytnkofinielabkaa
open Go.ChangeShapes Go.WideShapes Go.ChangeAt Go.RowKit
namespace lawCompares

set_option maxRecDepth 100000 in
set_option maxHeartbeats 1000000 in
theorem walk (A : Option Addr) (n cap : Nat) (l : List KM.KP) (B : Option Addr) (m cap2 : Nat) (k : List KM.KP) (w : World) (hn : l.length = n) (hz : PartsIn w w.heap.size A l) (hb : n * 32 ≤ reachBytes) (hs : ∀ q ∈ l, q.s.size ≤ reachBytes)
    (hm : k.length = m) (hk : PartsIn w w.heap.size B k) (hb2 : m * 32 ≤ reachBytes) (hs2 : ∀ q ∈ k, q.s.size ≤ reachBytes) :
    Calls Try.prog 4 #[.slice A n cap, .slice B m cap2] w fun e w' => e = .returned (.bool true) ∧ Below w.heap.size w w' := by
  unfold reachBytes at hb hs hb2 hs2
  have hs' : ∀ q ∈ l, q.s.size ≤ 9223372036854775807 := fun q hq => Nat.le_trans (hs q hq) (by decide)
  have hs2' : ∀ q ∈ k, q.s.size ≤ 9223372036854775807 := fun q hq => Nat.le_trans (hs2 q hq) (by decide)
  have HS := Lib.hid hs'
  have HS2 := Lib.hid hs2'
  have HL := Lib.hid (lists_any A n cap l w hn hz (by omega))
  have HN := Lib.hid hn
  have HZ := Lib.hid hz
  have HM := Lib.hid hm
  have HK := Lib.hid hk
  clear hs hs2 hs' hs2' hn hz hm hk
  go_enter Try.func4, Try.ntmps4
  go_wp2_with fail
  refine HL.out.mono ?_
  rintro e w1 ⟨a, b, rfl, hT⟩
  obtain ⟨A1, c1, rfl, hz1⟩ := parts_of_own HZ.out.1 HN.out hT.own1
  obtain ⟨A2, c2, rfl, hz2⟩ := parts_of_own HZ.out.1 HN.out hT.own2
  have HB1 := Lib.hid hT.below
  have HZ1 := Lib.hid hz1
  have HZ2 := Lib.hid hz2
  have hs1 := hT.below.size
  have HL2 := Lib.hid (lists_any B m cap2 k w1 HM.out ((HK.out.below hT.below).more hs1) (by omega))
  clear hT hz1 hz2
  go_wp2_with fail
  refine HL2.out.mono ?_
  rintro e w2 ⟨a, b, rfl, hT⟩
  obtain ⟨A3, c3, rfl, hz3⟩ := parts_of_own HK.out.1 HM.out hT.own1
  obtain ⟨A4, c4, rfl, hz4⟩ := parts_of_own HK.out.1 HM.out hT.own2
  have hs2 := hT.below.size
  have HB2 := Lib.hid (HB1.out.trans (hT.below.mono hs1))
  have HZ1b := Lib.hid ((HZ1.out.below hT.below).more hs2)
  have HZ2b := Lib.hid ((HZ2.out.below hT.below).more hs2)
  have HZ3 := Lib.hid hz3
  have HZ4 := Lib.hid hz4
  clear hT hz3 hz4
  go_wp2_with fail
  refine (wakes_any _).mono ?_
  rintro e w3 ⟨rfl, hB3⟩
  have hs3 := hB3.size
  have HB3 := Lib.hid (HB2.out.trans (hB3.mono (by omega)))
  have HC := Lib.hid (compare_any A1 A3 n c1 m c3 l k w3 HN.out HM.out ((HZ1b.out.below hB3).more hs3) ((HZ3.out.below hB3).more hs3) (by omega) (by omega))
  have HZ2c := Lib.hid ((HZ2b.out.below hB3).more hs3)
  have HZ4c := Lib.hid ((HZ4.out.below hB3).more hs3)
  obtain ⟨z, hzz⟩ : ∃ z, KM.cmpList l k = z := ⟨_, rfl⟩
  have HZZ := Lib.hid hzz
  rw [hzz] at HC
  clear hB3 hzz
  go_wp2_with fail
  refine HC.out.mono ?_
  rintro e w4 ⟨rfl, hB4⟩
  have hs4 := hB4.size
  have HB4 := Lib.hid (HB3.out.trans (hB4.mono (by omega)))
  have HD := Lib.hid (rcompare_any A2 A4 n c2 m c4 l k w4 HN.out HM.out ((HZ2c.out.below hB4).more hs4) ((HZ4c.out.below hB4).more hs4) (by omega) (by omega) HS.out HS2.out)
  rw [HZZ.out] at HD
  clear hB4
  go_wp2_with fail
  refine HD.out.mono ?_
  rintro e w5 ⟨rfl, hB5⟩
  go_wp2
  go_ret
  exact ⟨rfl, HB4.out.trans (hB5.mono (by omega))⟩

theorem contract (H : Type) (enc : TypeId × Value → H) (W : World) (base : Nat) (args : Array Value) (ds gs : List (DataW H)) (before : List MemPlace)
    (hval : ∀ (j : Nat) t v, Try.f4.params[j]? = some t → args[j]? = some v → Value.okWide Try.prog W .any base t v)
    (hW : DataW.Whole enc Try.prog Try.f4.params.toList Rows.keyComparesSpec.vars false W args.toList ds gs before)
    (hz : (DataW.weightsEach Try.prog Try.f4.params.toList (ds ++ gs)).all (· ≤ reachBytes) = true) :
    Calls Try.prog 4 args W fun e W' => ∃ v, e = .returned v ∧ Rows.keyComparesSpec.post enc Try.prog Try.f4 false true false false W args v W' := by
  have hW' := hW
  obtain ⟨p, q, hA0, hV, rfl, hfz, hnd⟩ := hW
  have hA : DataW.TrodAll enc Try.prog W 0 (fun _ => true) true Try.f4.params.toList args.toList ds p := hA0
  rw [Try.params4] at hA hval hz
  obtain ⟨v0, vs0, d0, ds0, p0, q0, hargs, rfl, rfl, h0, r0⟩ := trodAll_cons hA
  obtain ⟨v1, vs1, d1, ds1, p1, q1, rfl, rfl, rfl, h1, r1⟩ := trodAll_cons r0
  obtain ⟨rfl, rfl, rfl⟩ := trodAll_nil r1
  obtain rfl : args = #[v0, v1] := by cases args; simp_all
  obtain ⟨rfl, rfl⟩ := trodVars_none hV
  obtain ⟨lA, lN, lC, l, rfl, hlenl, hinl, hbl, hsl⟩ := open_parts (hval 0 22 v0 rfl rfl) h0 (parts_sized hz (j := 0) rfl rfl)
  obtain ⟨mA, mN, mC, m, rfl, hlenm, hinm, hbm, hsm⟩ := open_parts (hval 1 22 v1 rfl rfl) h1 (parts_sized hz (j := 1) rfl rfl)
  refine (walk lA lN lC l mA mN mC m W hlenl hinl hbl hsl hlenm hinm hbm hsm).mono fun e W' ⟨he, hB⟩ => ?_
  subst he
  exact ⟨_, rfl, law_post Try.laidOut (by kernel_rfl) rfl rfl Try.underlying4 hW' rfl hB⟩

set_option maxRecDepth 100000 in
theorem lifted (os : Os) (started : os.Started) (H : Type) (enc : TypeId × Value → H) :
    ReturnsInHanded {} Try.checked os 4 .any (Rows.keyComparesSpec.pre6 enc Try.prog Try.f4 Rows.keyComparesRow.domain false) (Rows.keyComparesSpec.post enc Try.prog Try.f4 false true false false) := by
  refine returnsInHanded_of_change_sized (C := Try.checked) Try.own started (by kernel_rfl) Try.func4
    (ChangeSpec.witness6 (enc := enc) (C := Try.checked) false ⟨#[], #[.slice none 0 0, .slice none 0 0], []⟩ 8 (by kernel_rfl) (by kernel_rfl) (by kernel_rfl) (by kernel_rfl)) ?_
  intro W base args ds gs before hval hW _ hz _
  exact contract H enc W base args ds gs before hval hW hz

theorem proved : Rows.KeyComparesSaid :=
  OpenClaim.holds_of_wide 4 Try.f4 rfl rfl rfl rfl rfl rfl rfl ⟨rfl, rfl, rfl, rfl, rfl⟩ rfl rfl rfl rfl rfl (by kernel_rfl) Try.func4 (by kernel_rfl)
    (of_decide_eq_true (by kernel_rfl)) (by unfold Func.isWrapper; first | (rw [if_pos (by decide +kernel)]; kernel_rfl) | (rw [if_neg (by decide +kernel)]; exact ⟨rfl, rfl⟩))
    (fun os started H enc _ => lifted os started H enc)
end lawCompares
end Go.Proofs.Ytnkofinielabkaa
