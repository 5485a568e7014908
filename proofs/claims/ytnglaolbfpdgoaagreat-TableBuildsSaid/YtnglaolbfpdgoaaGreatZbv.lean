/- Texts joined by bundle.py: Lu. -/
import Derived.Test.YtnglaolbfpdgoaaGreatZbs
import Derived.Test.YtnglaolbfpdgoaaGreatZbu

/- TableBuilds: every entries have the document's table, or its error. For every entries and every two numbers. -/
namespace Go.Proofs.YtnglaolbfpdgoaaGreat
open Go.ChangeShapes Go.WideShapes Go.ChangeAt Go.RowKit
open SK
open TB (Bs Sp)

set_option maxRecDepth 100000 in
set_option maxHeartbeats 1000000 in
theorem rbuildT_any (A : Option Addr) (n cap : Nat) (l : List E) (size bits : Int) (w : World) (hn : l.length = n) (hcap : n ≤ cap) (hin : EntsIn w A l) (hb : n ≤ 65536) (s0 : -9223372036854775808 ≤ size) (s1 : size ≤ 9223372036854775807) (b0 : -9223372036854775808 ≤ bits) (b1 : bits ≤ 9223372036854775807) :
    Calls Tryz.prog 8 #[.slice A n cap, .int .i64 size, .int .i64 bits] w fun e w' => e = .returned (buildV (TB.tabOut l size bits)) ∧ Below w.heap.size w w' := by
  have hX : TB.tabOut l size bits = if size < 1 ∨ 4096 < size ∨ bits < 1 ∨ 16 < bits then ([], 2) else if (BK.ord l).2 ≠ 0 then ([], (BK.ord l).2) else if 65535 < (TB.ixOf size.toNat l).length ∨ 65535 < (TB.flOf bits.toNat l).length then ([], 5) else (TB.bytes size.toNat bits.toNat l, 0) := by
    unfold TB.tabOut
    rw [if_neg (c := 65536 < l.length) (by omega)]
  obtain ⟨X, hXX⟩ : ∃ X, TB.tabOut l size bits = X := ⟨_, rfl⟩
  rw [hXX] at hX ⊢
  have HX := Lib.hid hX
  have BAD : Hid (∀ (_ : size < 1 ∨ 4096 < size ∨ bits < 1 ∨ 16 < bits), X = ([], 2)) := Lib.hid fun h => by rw [HX.out, if_pos h]
  clear hX hXX
  by_cases c1 : size < 1
  · have hF := BAD.out (Or.inl c1)
    have d1 : decide (size < 1) = true := by simpa using c1
    clear HX BAD
    subst hF
    go_enter Tryz.func8, Tryz.ntmps8
    go_wp2
    go_ret2
    exact ⟨rfl, Below.refl _ _⟩
  · have d1 : decide (size < 1) = false := by simpa using c1
    by_cases c2 : 4096 < size
    · have hF := BAD.out (Or.inr (Or.inl c2))
      have d2 : decide (4096 < size) = true := by simpa using c2
      clear HX BAD
      subst hF
      go_enter Tryz.func8, Tryz.ntmps8
      go_wp2
      go_ret2
      exact ⟨rfl, Below.refl _ _⟩
    · have d2 : decide (4096 < size) = false := by simpa using c2
      by_cases c3 : bits < 1
      · have hF := BAD.out (Or.inr (Or.inr (Or.inl c3)))
        have d3 : decide (bits < 1) = true := by simpa using c3
        clear HX BAD
        subst hF
        go_enter Tryz.func8, Tryz.ntmps8
        go_wp2
        go_ret2
        exact ⟨rfl, Below.refl _ _⟩
      · have d3 : decide (bits < 1) = false := by simpa using c3
        by_cases c4 : 16 < bits
        · have hF := BAD.out (Or.inr (Or.inr (Or.inr c4)))
          have d4 : decide (16 < bits) = true := by simpa using c4
          clear HX BAD
          subst hF
          go_enter Tryz.func8, Tryz.ntmps8
          go_wp2
          go_ret2
          exact ⟨rfl, Below.refl _ _⟩
        · have d4 : decide (16 < bits) = false := by simpa using c4
          by_cases ho : (BK.ord l).2 = 0
          · have hok : BK.OkF [] l := BK.okF_ord _ _ ho
            obtain ⟨S, rfl⟩ : ∃ S : Nat, size = (S : Int) := ⟨size.toNat, by omega⟩
            obtain ⟨b, rfl⟩ : ∃ b : Nat, bits = (b : Int) := ⟨bits.toNat, by omega⟩
            have hF : X = if 65535 < (TB.ixOf S l).length ∨ 65535 < (TB.flOf b l).length then ([], 5) else (TB.bytes S b l, 0) := by rw [HX.out, if_neg (by omega), if_neg (by simpa using ho)]; rfl
            rw [hF]
            exact rbuildT_good A n cap S b l w hn hcap hin (fine_of hin hok) hok hb (by omega) (by omega) (by omega) (by omega)
          · have hF : X = ([], (BK.ord l).2) := by rw [HX.out, if_neg (by omega), if_pos ho]
            have hord := rord_any A n cap l w hn hcap hin (by omega)
            obtain ⟨o1, o2, hoo⟩ : ∃ o1 o2, BK.ord l = (o1, o2) := ⟨_, _, rfl⟩
            rw [hoo] at hord hF ho
            simp only at hord hF ho
            have HORD := Lib.hid hord
            have e1 : (o2 == 0) = false := by simpa using ho
            have e2 : (o2 != 0) = true := by simpa using ho
            have d5 : decide ((65536 : Int) < (n : Int)) = false := decide_eq_false (by omega)
            have d5' : decide (65536 < n) = false := decide_eq_false (by omega)
            clear HX BAD hord hoo ho hin hn
            subst hF
            go_enter Tryz.func8, Tryz.ntmps8
            go_wp2_with fail
            refine HORD.out.mono ?_
            rintro e w1 ⟨rfl, hb1⟩
            have HB1 := Lib.hid hb1
            clear hb1 HORD
            go_wp2
            go_ret2
            exact ⟨rfl, HB1.out⟩

namespace lawBuilds

set_option maxRecDepth 100000 in
set_option maxHeartbeats 1000000 in
theorem walk (A : Option Addr) (n0 cap : Nat) (l : List E) (size bits : Int) (w : World) (hn : l.length = n0) (hz : EntsIn w A l) (hcap : n0 ≤ cap) (hb0 : n0 ≤ 140737488351232) (s0 : -9223372036854775808 ≤ size) (s1 : size ≤ 9223372036854775807) (b0 : -9223372036854775808 ≤ bits) (b1 : bits ≤ 9223372036854775807) :
    Calls Tryz.prog 3 #[.slice A n0 cap, .int .i64 size, .int .i64 bits] w fun e w' => e = .returned (.bool true) ∧ Below w.heap.size w w' := by
  obtain ⟨n, hnn⟩ : ∃ n, n = min n0 3000 := ⟨_, rfl⟩
  have hL := lists_in A n0 cap n (l.take n) w (by rw [List.length_take]; omega) (hz.take n) hcap hnn hb0
  have HL := Lib.hid hL
  have hlt : (l.take n).length = n := by rw [List.length_take]; omega
  have HLT := Lib.hid hlt
  have HW : Hid (∀ W, Calls Tryz.prog 9 #[] W fun r w' => r = .returned (.bool true) ∧ Below W.heap.size W w') := fun W => wakes_any W
  obtain ⟨L, hLL⟩ : ∃ L, l.take n = L := ⟨_, rfl⟩
  rw [hLL] at HL HLT
  have HPB : Hid (∀ W A c, n ≤ c → EntsIn W A L → Calls Tryz.prog 7 #[.slice A n c, .int .i64 size, .int .i64 bits] W fun e w' => e = .returned (buildV (TB.tabOut L size bits)) ∧ Below W.heap.size W w') := Lib.hid fun W A c hc h => tbuild_any A n c L size bits W HLT.out hc h (by omega) s0 s1 b0 b1
  have HRB : Hid (∀ W A c, n ≤ c → EntsIn W A L → Calls Tryz.prog 8 #[.slice A n c, .int .i64 size, .int .i64 bits] W fun e w' => e = .returned (buildV (TB.tabOut L size bits)) ∧ Below W.heap.size W w') := Lib.hid fun W A c hc h => rbuildT_any A n c L size bits W HLT.out hc h (by omega) s0 s1 b0 b1
  obtain ⟨T, C, hTC⟩ : ∃ T C, buildV (TB.tabOut L size bits) = .tuple #[.string T, .int .i64 C] := ⟨_, _, rfl⟩
  rw [hTC] at HPB HRB
  have t1 : (T.toList == T.toList) = true := beq_self_eq_true _
  have e1 : (C == C) = true := beq_self_eq_true _
  clear hn hz hcap hb0 hnn hL hlt hLL hTC s0 s1 b0 b1
  go_enter Tryz.func3, Tryz.ntmps3
  go_wp2_with fail
  refine HL.out.mono ?_
  rintro e w1 ⟨A1, c1, A2, c2, rfl, ⟨h1, h1c⟩, ⟨h2, h2c⟩, hb, -⟩
  have HB1 := Lib.hid hb
  have H1 := Lib.hid h1
  have H2 := Lib.hid h2
  have HC1 := Lib.hid h1c
  have HC2 := Lib.hid h2c
  clear hb h1 h2 h1c h2c HL
  go_wp2_with fail
  refine (HPB.out _ _ _ HC1.out H1.out).mono ?_
  rintro e w2 ⟨rfl, hb2⟩
  have HB2 := Lib.hid (HB1.out.trans (hb2.mono HB1.out.size))
  have H22 := Lib.hid (H2.out.below hb2)
  clear hb2 HPB H1 H2
  go_wp2_with fail
  refine (HRB.out _ _ _ HC2.out H22.out).mono ?_
  rintro e w3 ⟨rfl, hb3⟩
  have HB3 := Lib.hid (HB2.out.trans (hb3.mono HB2.out.size))
  clear hb3 HRB H22
  go_wp2_with fail
  refine (HW.out _).mono ?_
  rintro e w4 ⟨rfl, hb4⟩
  have HB4 := Lib.hid (HB3.out.trans (hb4.mono HB3.out.size))
  clear hb4
  go_wp2
  go_ret
  exact ⟨rfl, HB4.out⟩

set_option maxRecDepth 100000 in
theorem contract (H : Type) (enc : TypeId × Value → H) (W : World) (base : Nat) (args : Array Value) (ds gs : List (DataW H)) (before : List MemPlace)
    (hval : ∀ (j : Nat) t v, Tryz.f3.params[j]? = some t → args[j]? = some v → Value.okWide Tryz.prog W .any base t v)
    (hW : DataW.Whole enc Tryz.prog Tryz.f3.params.toList Rows.tableBuildsSpec.vars false W args.toList ds gs before)
    (hz : (DataW.weightsEach Tryz.prog Tryz.f3.params.toList (ds ++ gs)).all (· ≤ reachBytes) = true) :
    Calls Tryz.prog 3 args W fun e W' => ∃ v, e = .returned v ∧ Rows.tableBuildsSpec.post enc Tryz.prog Tryz.f3 false true false false W args v W' := by
  have hW' := hW
  obtain ⟨p, q, hA0, hV, rfl, hfz, hnd⟩ := hW
  have hA : DataW.TrodAll enc Tryz.prog W 0 (fun _ => true) true Tryz.f3.params.toList args.toList ds p := hA0
  rw [Tryz.params3] at hA hval hz
  obtain ⟨v0, vs0, d0, ds0, p0, q0, hargs, rfl, rfl, h0, r0⟩ := trodAll_cons hA
  obtain ⟨v1, vs1, d1, ds1, p1, q1, rfl, rfl, rfl, h1, r1⟩ := trodAll_cons r0
  obtain ⟨v2, vs2, d2, ds2, p2, q2, rfl, rfl, rfl, h2, r2⟩ := trodAll_cons r1
  obtain ⟨rfl, rfl, rfl⟩ := trodAll_nil r2
  obtain rfl : args = #[v0, v1, v2] := by cases args; simp_all
  obtain ⟨rfl, rfl⟩ := trodVars_none hV
  obtain ⟨lA, lN, lC, l, rfl, hlenl, hinl, hbl, hcapl⟩ := open_ents (hval 0 22 v0 rfl rfl) h0 (parts_sized hz (j := 0) rfl rfl)
  obtain ⟨size, rfl, rfl, rfl, wsize⟩ := open_int Tryz.underlying3 (hval 1 3 v1 rfl rfl) h1
  have hsize : -9223372036854775808 ≤ size ∧ size ≤ 9223372036854775807 := by simpa [Lit.wf, IntKind.min, IntKind.max, IntKind.signed, IntKind.bits] using wsize
  obtain ⟨bits, rfl, rfl, rfl, wbits⟩ := open_int Tryz.underlying3 (hval 2 3 v2 rfl rfl) h2
  have hbits : -9223372036854775808 ≤ bits ∧ bits ≤ 9223372036854775807 := by simpa [Lit.wf, IntKind.min, IntKind.max, IntKind.signed, IntKind.bits] using wbits
  refine (walk lA lN lC l size bits W hlenl hinl hcapl (by have h47 : Go.reachBytes = 140737488351232 := rfl; omega) hsize.1 hsize.2 hbits.1 hbits.2).mono fun e W' ⟨he, hB⟩ => ?_
  subst he
  exact ⟨_, rfl, law_post Tryz.laidOut (by kernel_rfl) rfl rfl Tryz.underlying4 hW' rfl hB⟩

set_option maxRecDepth 100000 in
theorem lifted (os : Os) (started : os.Started) (H : Type) (enc : TypeId × Value → H) :
    ReturnsInHanded {} Tryz.checked os 3 .any (Rows.tableBuildsSpec.pre6 enc Tryz.prog Tryz.f3 Rows.tableBuildsRow.domain false) (Rows.tableBuildsSpec.post enc Tryz.prog Tryz.f3 false true false false) := by
  refine returnsInHanded_of_change_sized (C := Tryz.checked) Tryz.own started (by kernel_rfl) Tryz.func3
    (ChangeSpec.witness6 (enc := enc) (C := Tryz.checked) false ⟨#[], #[.slice none 0 0, .int .i64 0, .int .i64 0], []⟩ 8 (by kernel_rfl) (by kernel_rfl) (by kernel_rfl) (by kernel_rfl)) ?_
  intro W base args ds gs before hval hW _ hz _
  exact contract H enc W base args ds gs before hval hW hz

theorem proved : Rows.TableBuildsSaid :=
  OpenClaim.holds_of_wide 3 Tryz.f3 rfl rfl rfl rfl rfl rfl rfl ⟨rfl, rfl, rfl, rfl, rfl⟩ rfl rfl rfl rfl rfl (by kernel_rfl) Tryz.func3 (by kernel_rfl)
    (of_decide_eq_true (by kernel_rfl)) (by unfold Func.isWrapper; first | (rw [if_pos (by decide +kernel)]; kernel_rfl) | (rw [if_neg (by decide +kernel)]; exact ⟨rfl, rfl⟩))
    (fun os started H enc _ => lifted os started H enc)
end lawBuilds
end Go.Proofs.YtnglaolbfpdgoaaGreat

