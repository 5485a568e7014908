/- BudgetPlays: behind every calls, with any numbers, the budget answers and tells what the document says, step by step. For every limit and every calls. -/
import Derived.Test.YtapncnbildampaaOpen
namespace Go.Proofs.Ytapncnbildampaa
open Go.ChangeShapes Go.WideShapes Go.ChangeAt Go.RowKit
open BM
namespace lawPlays

theorem bo_new {W w : World} {b : Nat} {s : S} (h : Lv W w b s) (l : Int) (hs : s = new l) :
    Calls Try.prog 9 #[.int .i64 l] w fun e w' => ∃ r, e = .returned (.pointer (some ⟨r, 0, none⟩)) ∧ Bo W w' b r s s := by
  subst hs
  exact (rnew_any l w).mono fun _ _ ⟨he, ha, hb⟩ => ⟨_, he, h.trans hb, ha, h.below.size, ok_new l⟩

set_option maxRecDepth 100000 in
set_option maxHeartbeats 4000000 in
theorem walk (l : Int) (A : Option Addr) (n cap : Nat) (sc : List AC) (w : World) (hlen : sc.length = n) (hin : ActsIn w w.heap.size A sc) (hb : n * 24 ≤ reachBytes) :
    Calls Try.prog 3 #[.int .i64 l, .slice A n cap] w fun e w' => e = .returned (.bool true) ∧ Below w.heap.size w w' := by
  have hn : n ≤ 9223372036854775807 := by unfold reachBytes at hb; omega
  have HIN := Lib.hid hin
  have HLEN := Lib.hid hlen
  clear hin hb hlen
  go_enter Try.func3, Try.ntmps3
  go_wp2_with fail
  refine (lv_made (Below.refl _ w) l).mono ?_
  rintro e w1 ⟨b, rfl, h1, -, -⟩
  have H1 := Lib.hid h1
  clear h1
  go_wp2_with fail
  refine (bo_new H1.out l rfl).mono ?_
  rintro e w2 ⟨r, rfl, h2⟩
  have H2 := Lib.hid h2
  clear h2 H1
  go_wp2_with fail
  refine (wakes_any _).mono ?_
  rintro e w3 ⟨rfl, hB⟩
  have H3 := Lib.hid (H2.out.below hB)
  clear hB H2
  go_wp2_with fail
  refine (same_any H3.out).mono ?_
  rintro e w4 ⟨rfl, hB⟩
  have H4 := Lib.hid (H3.out.below hB)
  clear hB H3
  go_wp2_with fail
  go_loopw [23] (fun i wr => ∃ (k : Nat) (s : S), k ≤ n ∧ i = .int .i64 k ∧ Bo w wr b r s s) (fun i _ => n - (intOf i).toNat)
  case atStart => exact ⟨0, _, by omega, rfl, H4.out⟩
  case round =>
    obtain ⟨k, s, hk, rfl, hbo⟩ := hrel
    have HBO := Lib.hid hbo
    clear hbo
    by_cases hlt : k < n
    · have hkl : k < sc.length := by rw [HLEN.out]; exact hlt
      obtain ⟨q, off, hA, hql, hc⟩ := (HIN.out.below HBO.out.lv.below).2 (by omega)
      obtain ⟨c0, c1, c2⟩ := hc k hkl
      obtain ⟨a, ha⟩ : ∃ a, sc[k] = a := ⟨_, rfl⟩
      have hwf : a.wf := HIN.out.1 a (by rw [← ha]; exact List.getElem_mem hkl)
      rw [ha] at c0 c1 c2
      have hal := HBO.out.alloc (.cells #[.int .i64 a.d, .int .i64 a.k, .int .i64 a.n] 30)
      have HAC : Hid (Calls Try.prog 12 #[.pointer (some ⟨b, 0, none⟩), .pointer (some ⟨r, 0, none⟩), .agg #[.int .i64 a.d, .int .i64 a.k, .int .i64 a.n]] (wr.alloc (.cells #[.int .i64 a.d, .int .i64 a.k, .int .i64 a.n] 30)) fun e w' => e = .returned (.bool true) ∧ Bo w w' b r (a.step s).2 (a.step s).2) := act_any hal a hwf
      obtain ⟨s', hs'⟩ : ∃ s', (a.step s).2 = s' := ⟨_, rfl⟩
      rw [hs'] at HAC
      obtain ⟨d, kk, nn⟩ := a
      simp only at c0 c1 c2 HAC
      subst hA
      clear hc ha hwf hs' hal
      go_wp2_with fail
      refine HAC.out.mono ?_
      rintro e w5 ⟨rfl, h5⟩
      have H5 := Lib.hid h5
      clear h5
      go_wp2_with fail
      refine (same_any H5.out).mono ?_
      rintro e w6 ⟨rfl, hB⟩
      have H6 := Lib.hid (H5.out.below hB)
      clear hB H5
      go_wp2
      go_roundw
      case rel => exact ⟨k + 1, s', by omega, by go_num, H6.out⟩
      case measure => simp [intOf]; omega
    · have hkn : k = n := by omega
      subst hkn
      have HO4 : Hid (∀ W', BAt W' b 0 s → Calls Try.prog 13 #[.pointer (some ⟨b, 0, none⟩), .int .i64 4] W' fun e w' => e = .returned (.int .i64 0) ∧ W' = w') := fun W' hB => of_any hB 4
      have HO5 : Hid (∀ W', BAt W' b 0 s → Calls Try.prog 13 #[.pointer (some ⟨b, 0, none⟩), .int .i64 (-1)] W' fun e w' => e = .returned (.int .i64 0) ∧ W' = w') := fun W' hB => of_any hB (-1)
      go_wp2_with fail
      refine (HO4.out _ HBO.out.lv.at_).mono ?_
      rintro e w7 ⟨rfl, rfl⟩
      go_wp2_with fail
      refine (HO5.out _ HBO.out.lv.at_).mono ?_
      rintro e w7 ⟨rfl, rfl⟩
      go_wp2
      go_ret
      exact ⟨rfl, HBO.out.lv.below⟩

set_option maxRecDepth 100000 in
theorem contract (H : Type) (enc : TypeId × Value → H) (W : World) (base : Nat) (args : Array Value) (ds gs : List (DataW H)) (before : List MemPlace)
    (hval : ∀ (j : Nat) t v, Try.f3.params[j]? = some t → args[j]? = some v → Value.okWide Try.prog W .any base t v)
    (hW : DataW.Whole enc Try.prog Try.f3.params.toList Rows.budgetPlaysSpec.vars false W args.toList ds gs before)
    (hz : (DataW.weightsEach Try.prog Try.f3.params.toList (ds ++ gs)).all (· ≤ reachBytes) = true) :
    Calls Try.prog 3 args W fun e W' => ∃ v, e = .returned v ∧ Rows.budgetPlaysSpec.post enc Try.prog Try.f3 false true false false W args v W' := by
  have hW' := hW
  obtain ⟨p, q, hA0, hV, rfl, hfz, hnd⟩ := hW
  have hA : DataW.TrodAll enc Try.prog W 0 (fun _ => true) true Try.f3.params.toList args.toList ds p := hA0
  rw [Try.params3] at hA hval hz
  obtain ⟨v0, vs0, d0, ds0, p0, q0, hargs, rfl, rfl, h0, r0⟩ := trodAll_cons hA
  obtain ⟨v1, vs1, d1, ds1, p1, q1, rfl, rfl, rfl, h1, r1⟩ := trodAll_cons r0
  obtain ⟨rfl, rfl, rfl⟩ := trodAll_nil r1
  obtain rfl : args = #[v0, v1] := by cases args; simp_all
  obtain ⟨rfl, rfl⟩ := trodVars_none hV
  obtain ⟨l, rfl, rfl, rfl, wl⟩ := open_int Try.underlying2 (hval 0 2 v0 rfl rfl) h0
  have hl : -9223372036854775808 ≤ l ∧ l ≤ 9223372036854775807 := by simpa [Lit.wf, IntKind.min, IntKind.max, IntKind.signed, IntKind.bits] using wl
  obtain ⟨scA, scN, scC, sc, rfl, hlensc, hinsc, hbsc⟩ := open_acts (hval 1 22 v1 rfl rfl) h1 (parts_sized hz (j := 1) rfl rfl)
  refine (walk l scA scN scC sc W hlensc hinsc hbsc).mono fun e W' ⟨he, hB⟩ => ?_
  subst he
  exact ⟨_, rfl, law_post Try.laidOut (by kernel_rfl) rfl rfl Try.underlying4 hW' rfl hB⟩

set_option maxRecDepth 100000 in
theorem lifted (os : Os) (started : os.Started) (H : Type) (enc : TypeId × Value → H) :
    ReturnsInHanded {} Try.checked os 3 .any (Rows.budgetPlaysSpec.pre6 enc Try.prog Try.f3 Rows.budgetPlaysRow.domain false) (Rows.budgetPlaysSpec.post enc Try.prog Try.f3 false true false false) := by
  refine returnsInHanded_of_change_sized (C := Try.checked) Try.own started (by kernel_rfl) Try.func3
    (ChangeSpec.witness6 (enc := enc) (C := Try.checked) false ⟨#[], #[.int .i64 0, .slice none 0 0], []⟩ 8 (by kernel_rfl) (by kernel_rfl) (by kernel_rfl) (by kernel_rfl)) ?_
  intro W base args ds gs before hval hW _ hz _
  exact contract H enc W base args ds gs before hval hW hz

theorem proved : Rows.BudgetPlaysSaid :=
  OpenClaim.holds_of_wide 3 Try.f3 rfl rfl rfl rfl rfl rfl rfl ⟨rfl, rfl, rfl, rfl, rfl⟩ rfl rfl rfl rfl rfl (by kernel_rfl) Try.func3 (by kernel_rfl)
    (of_decide_eq_true (by kernel_rfl)) (by unfold Func.isWrapper; first | (rw [if_pos (by decide +kernel)]; kernel_rfl) | (rw [if_neg (by decide +kernel)]; exact ⟨rfl, rfl⟩))
    (fun os started H enc _ => lifted os started H enc)
end lawPlays
end Go.Proofs.Ytapncnbildampaa
