/- VersionWhole: a version is made out of none by one edit. -/
import Derived.Test.YtiflkilfkdpecaaLk
import Derived.Test.YtiflkilfkdpecaaLaw
import Derived.SizedLaws
import Derived.Deep.CondSized
import Derived.Deep.QuietTactic
import Derived.BigQuiet
namespace Go.Proofs.Ytiflkilfkdpecaa
open Go.RowKit Go.Maps
open VS
attribute [local go_sem ↓] Go.wp_at_zero Go.wp_at_succ

namespace lawWhole
set_option maxRecDepth 100000 in
set_option maxHeartbeats 4000000 in
theorem walk (A0 : Option Addr) (n0 c0 : Nat) (l : List EX) (w : World) (hl : l.length = n0) (hin : EdsIn w A0 l) (hc : n0 ≤ c0) (hs : (l.map fun x => x.e.wt).sum ≤ 1048576) :
    Calls Try.prog 5 #[.slice A0 n0 c0] w fun r w' => r = .returned (.bool true) ∧ Below w.heap.size w w' := by
  have HAF := Lib.hid (after_any A0 n0 c0 l w hl hin hc hs)
  have HWK := Lib.hid wakes_any
  clear hl hin hc hs
  go_enter Try.func5, Try.ntmps5
  go_wp2_with fail
  refine HAF.out.mono ?_
  rintro r w1 ⟨⟨A, N, C, A5, n5, c5, v, rfl, hv, h5, hn, hn6, hok, hnum⟩, hb1⟩
  have HV := Lib.hid hv
  have H5 := Lib.hid h5
  have HN := Lib.hid (And.intro hn hn6)
  have HOK := Lib.hid hok
  have HNUM := Lib.hid hnum
  have HB1 := Lib.hid hb1
  clear hv h5 hn hn6 hok hnum hb1
  go_upto_region 2 with fail
  have hb2 : Below w1.heap.size w1 ((w1.alloc (.cells #[.slice (A 0) (N 0) (C 0), .slice (A 1) (N 1) (C 1), .slice (A 2) (N 2) (C 2), .slice (A 3) (N 3) (C 3), .int .i64 v.log, .int .i64 v.next, .int .i64 v.seq] 26)).alloc (.cells #[.slice A5 n5 c5, .int .i64 v.log, .int .i64 v.next, .int .i64 v.seq] 29)) := ((Below.refl _ w1).alloc (Nat.le_refl _) _).alloc (by simp) _
  have hr0 : ((w1.alloc (.cells #[.slice (A 0) (N 0) (C 0), .slice (A 1) (N 1) (C 1), .slice (A 2) (N 2) (C 2), .slice (A 3) (N 3) (C 3), .int .i64 v.log, .int .i64 v.next, .int .i64 v.seq] 26)).alloc (.cells #[.slice A5 n5 c5, .int .i64 v.log, .int .i64 v.next, .int .i64 v.seq] 29)).heap[w1.heap.size]? = some (.cells #[.slice (A 0) (N 0) (C 0), .slice (A 1) (N 1) (C 1), .slice (A 2) (N 2) (C 2), .slice (A 3) (N 3) (C 3), .int .i64 v.log, .int .i64 v.next, .int .i64 v.seq] 26 (0, 0)) := (Below.heap_alloc _ _ _ (by simp)).trans (heap_alloc_new w1 _)
  have hr1 : ((w1.alloc (.cells #[.slice (A 0) (N 0) (C 0), .slice (A 1) (N 1) (C 1), .slice (A 2) (N 2) (C 2), .slice (A 3) (N 3) (C 3), .int .i64 v.log, .int .i64 v.next, .int .i64 v.seq] 26)).alloc (.cells #[.slice A5 n5 c5, .int .i64 v.log, .int .i64 v.next, .int .i64 v.seq] 29)).heap[w1.heap.size + 1]? = some (.cells #[.slice A5 n5 c5, .int .i64 v.log, .int .i64 v.next, .int .i64 v.seq] 29 (0, 0)) := by
    have := heap_alloc_new (w1.alloc (.cells #[.slice (A 0) (N 0) (C 0), .slice (A 1) (N 1) (C 1), .slice (A 2) (N 2) (C 2), .slice (A 3) (N 3) (C 3), .int .i64 v.log, .int .i64 v.next, .int .i64 v.seq] 26)) (.cells #[.slice A5 n5 c5, .int .i64 v.log, .int .i64 v.next, .int .i64 v.seq] 29)
    simpa using this
  generalize (w1.alloc (.cells #[.slice (A 0) (N 0) (C 0), .slice (A 1) (N 1) (C 1), .slice (A 2) (N 2) (C 2), .slice (A 3) (N 3) (C 3), .int .i64 v.log, .int .i64 v.next, .int .i64 v.seq] 26)).alloc (.cells #[.slice A5 n5 c5, .int .i64 v.log, .int .i64 v.next, .int .i64 v.seq] 29) = w2 at hb2 hr0 hr1 ⊢
  obtain ⟨p, hp⟩ : ∃ p, w1.heap.size = p := ⟨_, rfl⟩
  have HV2 := Lib.hid (HV.out.below hb2)
  have H52 := Lib.hid (H5.out.below hb2)
  have HB2 : Hid (Below w.heap.size w w2) := Lib.hid (HB1.out.trans (hb2.mono HB1.out.size))
  rw [hp] at hr0 hr1 ⊢
  have HR1 := Lib.hid hr1
  have HLT : Hid (p + 1 < w2.heap.size) := Lib.hid (Array.getElem?_eq_some_iff.1 hr1).1
  have hf4 : front v.L 4 = v.L := by rw [front_four]; exact HOK.out.levs
  have HF4 := Lib.hid hf4
  have ra0 : w2.cell? ⟨p, 0, none⟩ = some (.slice (A 0) (N 0) (C 0)) := cell_of_row _ _ _ _ _ _ hr0
  have ra1 : w2.cell? ⟨p, 1, none⟩ = some (.slice (A 1) (N 1) (C 1)) := cell_of_row _ _ _ _ _ _ hr0
  have ra2 : w2.cell? ⟨p, 2, none⟩ = some (.slice (A 2) (N 2) (C 2)) := cell_of_row _ _ _ _ _ _ hr0
  have ra3 : w2.cell? ⟨p, 3, none⟩ = some (.slice (A 3) (N 3) (C 3)) := cell_of_row _ _ _ _ _ _ hr0
  have ra4 : w2.cell? ⟨p, 4, none⟩ = some (.int .i64 v.log) := cell_of_row _ _ _ _ _ _ hr0
  have ra5 : w2.cell? ⟨p, 5, none⟩ = some (.int .i64 v.next) := cell_of_row _ _ _ _ _ _ hr0
  have ra6 : w2.cell? ⟨p, 6, none⟩ = some (.int .i64 v.seq) := cell_of_row _ _ _ _ _ _ hr0
  clear hb2 hr0 hr1 hp hf4
  go_wp2_with fail
  refine (whole_any A N C v.L v.log v.next v.seq w2 HV2.out (by have := HN.out; omega) HF4.out HNUM.out.1).mono ?_
  rintro r w3 ⟨A1, c1, rfl, he, hb3⟩
  have HE := Lib.hid he
  have H53 := Lib.hid (H52.out.below hb3)
  have HB3 : Hid (Below w.heap.size w w3) := Lib.hid (HB2.out.trans (hb3.mono HB2.out.size))
  have HR13 := Lib.hid ((hb3.block (p + 1) HLT.out).trans HR1.out)
  have HLT3 : Hid (p + 1 < w3.heap.size) := Lib.hid (by have := hb3.size; have := HLT.out; omega)
  clear he hb3 ra0 ra1 ra2 ra3 ra4 ra5 ra6
  go_wp2_with fail
  refine (apply_any nilA nilN nilN V.none A1 v.L.length c1 none 0 0 (whole v) w3 (VerIn.nil w3) ok_none (by decide) HE.out (by have := HN.out; omega) (by decide)).mono ?_
  rintro r w4 ⟨ha, hb4⟩
  unfold ApplyOut at ha
  rw [whole_ok HOK.out HNUM.out.2.1 HNUM.out.2.2.1 HNUM.out.2.2.2] at ha
  obtain ⟨A7, N7, C7, rfl, hv7, -⟩ := ha
  simp only at hv7
  have HV7 := Lib.hid hv7
  have H54 := Lib.hid (H53.out.below hb4)
  have HB4 : Hid (Below w.heap.size w w4) := Lib.hid (HB3.out.trans (hb4.mono HB3.out.size))
  have HR14 := Lib.hid ((hb4.block (p + 1) HLT3.out).trans HR13.out)
  have HLT4 : Hid (p + 1 < w4.heap.size) := Lib.hid (by have := hb4.size; have := HLT3.out; omega)
  clear hv7 hb4
  go_upto_region 3 with fail
  have hb5 : Below w4.heap.size w4 (w4.alloc (.cells #[.slice (A7 0) (N7 0) (C7 0), .slice (A7 1) (N7 1) (C7 1), .slice (A7 2) (N7 2) (C7 2), .slice (A7 3) (N7 3) (C7 3), .int .i64 v.log, .int .i64 v.next, .int .i64 v.seq] 26)) := (Below.refl _ w4).alloc (Nat.le_refl _) _
  have hrq := heap_alloc_new w4 (.cells #[.slice (A7 0) (N7 0) (C7 0), .slice (A7 1) (N7 1) (C7 1), .slice (A7 2) (N7 2) (C7 2), .slice (A7 3) (N7 3) (C7 3), .int .i64 v.log, .int .i64 v.next, .int .i64 v.seq] 26)
  generalize w4.alloc (.cells #[.slice (A7 0) (N7 0) (C7 0), .slice (A7 1) (N7 1) (C7 1), .slice (A7 2) (N7 2) (C7 2), .slice (A7 3) (N7 3) (C7 3), .int .i64 v.log, .int .i64 v.next, .int .i64 v.seq] 26) = w5 at hb5 hrq ⊢
  obtain ⟨q, hq⟩ : ∃ q, w4.heap.size = q := ⟨_, rfl⟩
  have HV8 := Lib.hid (HV7.out.below hb5)
  have H55 := Lib.hid (H54.out.below hb5)
  have HB5 : Hid (Below w.heap.size w w5) := Lib.hid (HB4.out.trans (hb5.mono HB4.out.size))
  have HR15 := Lib.hid ((hb5.block (p + 1) HLT4.out).trans HR14.out)
  rw [hq] at hrq ⊢
  have HRQ := Lib.hid hrq
  have HLT5 : Hid (p + 1 < w5.heap.size ∧ q < w5.heap.size) := Lib.hid ⟨by have := hb5.size; have := HLT4.out; omega, (Array.getElem?_eq_some_iff.1 hrq).1⟩
  clear hb5 hrq hq
  go_wp2_with fail
  refine (HWK.out _).mono ?_
  rintro r w6 ⟨rfl, hb6⟩
  have HV9 := Lib.hid (HV8.out.below hb6)
  have H56 := Lib.hid (H55.out.below hb6)
  have HB6 : Hid (Below w.heap.size w w6) := Lib.hid (HB5.out.trans (hb6.mono HB5.out.size))
  have hr1 := (hb6.block (p + 1) HLT5.out.1).trans HR15.out
  have hrq := (hb6.block q HLT5.out.2).trans HRQ.out
  have rb0 : w6.cell? ⟨p + 1, 0, none⟩ = some (.slice A5 n5 c5) := cell_of_row _ _ _ _ _ _ hr1
  have rb1 : w6.cell? ⟨p + 1, 1, none⟩ = some (.int .i64 v.log) := cell_of_row _ _ _ _ _ _ hr1
  have rb2 : w6.cell? ⟨p + 1, 2, none⟩ = some (.int .i64 v.next) := cell_of_row _ _ _ _ _ _ hr1
  have rb3 : w6.cell? ⟨p + 1, 3, none⟩ = some (.int .i64 v.seq) := cell_of_row _ _ _ _ _ _ hr1
  have rc0 : w6.cell? ⟨q, 0, none⟩ = some (.slice (A7 0) (N7 0) (C7 0)) := cell_of_row _ _ _ _ _ _ hrq
  have rc1 : w6.cell? ⟨q, 1, none⟩ = some (.slice (A7 1) (N7 1) (C7 1)) := cell_of_row _ _ _ _ _ _ hrq
  have rc2 : w6.cell? ⟨q, 2, none⟩ = some (.slice (A7 2) (N7 2) (C7 2)) := cell_of_row _ _ _ _ _ _ hrq
  have rc3 : w6.cell? ⟨q, 3, none⟩ = some (.slice (A7 3) (N7 3) (C7 3)) := cell_of_row _ _ _ _ _ _ hrq
  have rc4 : w6.cell? ⟨q, 4, none⟩ = some (.int .i64 v.log) := cell_of_row _ _ _ _ _ _ hrq
  have rc5 : w6.cell? ⟨q, 5, none⟩ = some (.int .i64 v.next) := cell_of_row _ _ _ _ _ _ hrq
  have rc6 : w6.cell? ⟨q, 6, none⟩ = some (.int .i64 v.seq) := cell_of_row _ _ _ _ _ _ hrq
  clear hb6 hr1 hrq
  go_wp2_with fail
  refine (same_any A7 N7 C7 v.L v.log v.next v.seq A5 n5 c5 w6 HV9.out H56.out HN.out.1 HF4.out (by have := HN.out; omega)).mono ?_
  rintro r w7 ⟨rfl, hb7⟩
  have HB7 : Hid (Below w.heap.size w w7) := Lib.hid (HB6.out.trans (hb7.mono HB6.out.size))
  clear hb7
  go_wp2_with fail
  go_ret
  exact ⟨rfl, HB7.out⟩

open Go.ChangeShapes Go.WideShapes Go.ChangeAt Go.Deep
set_option maxRecDepth 100000 in
theorem contract (H : Type) (enc : TypeId × Value → H) (W : World) (base : Nat) (args : Array Value) (ds gs : List (DataW H)) (before : List MemPlace)
    (hval : ∀ (j : Nat) t v, Try.f5.params[j]? = some t → args[j]? = some v → Value.okWide Try.prog W .any base t v)
    (hW : DataW.Whole enc Try.prog Try.f5.params.toList Rows.versionWholeSpec.vars false W args.toList ds gs before)
    (hz : (DataW.weightsEach Try.prog Try.f5.params.toList (ds ++ gs)).all (· ≤ reachBytes) = true)
    (hk : Rows.uptoSmall H (ds ++ gs) = true) :
    Calls Try.prog 5 args W fun e W' => ∃ v, e = .returned v ∧ Rows.versionWholeSpec.post enc Try.prog Try.f5 false true false false W args v W' := by
  have hW' := hW
  obtain ⟨p, q, hA0, hV, rfl, hfz, hnd⟩ := hW
  have hA : DataW.TrodAll enc Try.prog W 0 (fun _ => true) true Try.f5.params.toList args.toList ds p := hA0
  rw [Try.params5] at hA hval hz
  obtain ⟨v0, vs0, d0, ds0, p0, q0, hargs, rfl, rfl, h0, r0⟩ := trodAll_cons hA
  obtain ⟨rfl, rfl, rfl⟩ := trodAll_nil r0
  obtain rfl : args = #[v0] := by cases args; simp_all
  obtain ⟨rfl, rfl⟩ := trodVars_none hV
  obtain ⟨lA, lN, lC, l, rfl, hlenl, hinl, hcapl, hsuml⟩ := open_edits (hval 0 22 v0 rfl rfl) h0 (blk_mem hk (by simp))
  refine (walk lA lN lC l W hlenl hinl hcapl hsuml).mono fun e W' ⟨he, hB⟩ => ?_
  subst he
  exact ⟨_, rfl, law_post Try.laidOut (by kernel_rfl) rfl rfl Try.underlying4 hW' rfl hB⟩

set_option maxRecDepth 100000 in
theorem lifted (os : Os) (started : os.Started) (H : Type) (enc : TypeId × Value → H) (F : Stop.Interp) :
    ReturnsInHanded {} Try.checked os 5 .any ((Rows.OpenSpec.upto Rows.versionWholeSpec).pre6 enc Try.prog Try.f5 Rows.versionWholeUptoRow.domain false) (((Rows.OpenSpec.upto Rows.versionWholeSpec).at F).post enc Try.prog Try.f5 false true false false) := by
  refine returnsInHanded_of_cond_sized (C := Try.checked) (s := Rows.OpenSpec.upto Rows.versionWholeSpec) (k := Rows.uptoSmall) rfl Try.own started (by kernel_rfl) Try.func5
    (OpenSpec.witness (enc := enc) (C := Try.checked) (s := Rows.OpenSpec.upto Rows.versionWholeSpec) (k := Rows.uptoSmall) rfl false ⟨#[], #[.slice none 0 0], []⟩ 8 (by kernel_rfl) (by kernel_rfl) (by kernel_rfl)
      (x := ([.nil], [], [])) (by kernel_rfl) rfl (by kernel_rfl)) ?_
  intro W base args ds gs before hval hW _ hk hz _
  exact contract H enc W base args ds gs before hval hW hz hk

theorem proved : Rows.VersionWholeUptoSaid :=
  OpenClaim.holds_of_cond 5 Try.f5 rfl rfl rfl rfl rfl rfl rfl ⟨rfl, rfl, rfl, rfl, rfl⟩ rfl rfl rfl rfl rfl (by kernel_rfl) Try.func5 (by kernel_rfl)
    (of_decide_eq_true (by kernel_rfl)) (by unfold Func.isWrapper; first | (rw [if_pos (by decide +kernel)]; kernel_rfl) | (rw [if_neg (by decide +kernel)]; exact ⟨rfl, rfl⟩))
    (fun os started H enc _ F => lifted os started H enc F)
end lawWhole
end Go.Proofs.Ytiflkilfkdpecaa
