/- CacheNil: of a nil cache, and of one without a budget, nothing is kept. For every file, data and number. -/
import Derived.Test.YtlfhjbilnfkabaaLn
namespace Go.Proofs.Ytlfhjbilnfkabaa
open Go.ChangeShapes Go.WideShapes Go.ChangeAt Go.RowKit Go.Maps

set_option maxRecDepth 100000 in
set_option maxHeartbeats 1000000 in
theorem cnew_nil {w : World} :
    Calls Try.prog 9 #[.pointer none] w fun e w' => ∃ c, e = .returned (.pointer (some ⟨c, 0, none⟩)) ∧ c < w'.heap.size ∧ w'.cell? ⟨c, 0, none⟩ = some (.pointer none) ∧ Below w.heap.size w w' := by
  have hal1 : Below w.heap.size w (w.alloc (.map #[] 0)) := (Below.refl _ w).alloc (Nat.le_refl _) _
  have hsz : (w.alloc (.map #[] 0)).heap.size = w.heap.size + 1 := by simp
  have hmm : (Instr.makeMap 73 none).run Try.prog w = .ok (.map (some w.heap.size)) (w.alloc (.map #[] 0)) := by exact run_makeMap _ _
  obtain ⟨z, hz⟩ : ∃ z, w.heap.size = z := ⟨_, rfl⟩
  have HZ := Lib.hid hz
  generalize w.alloc (.map #[] 0) = W1 at hal1 hsz hmm
  have HAL := Lib.hid hal1
  rw [hz] at hmm hsz
  have hrow := heap_alloc_new W1 (.cells #[.pointer none, .map (some z), .int .i64 0, .int .i64 0, .string ⟨#[]⟩, .int .i64 0, .pointer none, .pointer none] 78)
  have hal2 : Below W1.heap.size W1 (W1.alloc (.cells #[.pointer none, .map (some z), .int .i64 0, .int .i64 0, .string ⟨#[]⟩, .int .i64 0, .pointer none, .pointer none] 78)) := (Below.refl _ W1).alloc (Nat.le_refl _) _
  obtain ⟨W2, hW2⟩ : ∃ W2, W1.alloc (.cells #[.pointer none, .map (some z), .int .i64 0, .int .i64 0, .string ⟨#[]⟩, .int .i64 0, .pointer none, .pointer none] 78) = W2 := ⟨_, rfl⟩
  have HW2 := Lib.hid hW2
  rw [hW2] at hrow hal2
  rw [hsz] at hrow
  have c6 : W2.cell? ⟨z + 1, 6, none⟩ = some (.pointer none) := cell_of_row _ _ _ _ _ _ hrow
  have c7 : W2.cell? ⟨z + 1, 7, none⟩ = some (.pointer none) := cell_of_row _ _ _ _ _ _ hrow
  have f6 : W2.frozen? ⟨z + 1, 6, none⟩ = false := frozen_of_row _ _ _ _ _ hrow
  have f7 : W2.frozen? ⟨z + 1, 7, none⟩ = false := frozen_of_row _ _ _ _ _ hrow
  have HROW := Lib.hid hrow
  have HAL2 := Lib.hid hal2
  have HSZ := Lib.hid hsz
  clear hal1 hal2 hsz hz hrow hW2
  go_enter Try.func9, Try.ntmps9
  go_wp2_with fail
  simp only [HW2.out, HSZ.out]
  go_region
  all_goals
    have HR : Hid (((W2.setCell ⟨z + 1, 6, none⟩ (.pointer (some ⟨z + 1, 2, none⟩))).setCell ⟨z + 1, 7, none⟩ (.pointer (some ⟨z + 1, 2, none⟩))).drew.heap[z + 1]? = some (.cells #[.pointer none, .map (some z), .int .i64 0, .int .i64 0, .string ⟨#[]⟩, .int .i64 0, .pointer (some ⟨z + 1, 2, none⟩), .pointer (some ⟨z + 1, 2, none⟩)] 78 (0, 0))) := Lib.hid (by
      show ((W2.setCell ⟨z + 1, 6, none⟩ (.pointer (some ⟨z + 1, 2, none⟩))).setCell ⟨z + 1, 7, none⟩ (.pointer (some ⟨z + 1, 2, none⟩))).heap[z + 1]? = _
      rw [heap_set_fr (heap_set_fr HROW.out 6 _) 7 _]
      rfl)
    have HBE : Hid (Below w.heap.size w ((W2.setCell ⟨z + 1, 6, none⟩ (.pointer (some ⟨z + 1, 2, none⟩))).setCell ⟨z + 1, 7, none⟩ (.pointer (some ⟨z + 1, 2, none⟩))).drew) := Lib.hid
      ((((HAL.out.trans (HAL2.out.mono (by rw [HSZ.out, ← HZ.out]; exact Nat.le_succ _))).setCell (p := ⟨z + 1, 6, none⟩) (by rw [HZ.out]; exact Nat.le_succ _) _).setCell (p := ⟨z + 1, 7, none⟩) (by rw [HZ.out]; exact Nat.le_succ _) _).drew)
    have HC : Hid (((W2.setCell ⟨z + 1, 6, none⟩ (.pointer (some ⟨z + 1, 2, none⟩))).setCell ⟨z + 1, 7, none⟩ (.pointer (some ⟨z + 1, 2, none⟩))).drew.cell? ⟨z + 1, 0, none⟩ = some (.pointer none)) := Lib.hid (cell_of_row _ _ _ _ _ _ HR.out)
    go_wp2
    go_ret
    exact ⟨z + 1, rfl, (Array.getElem?_eq_some_iff.1 HR.out).1, HC.out, HBE.out⟩

namespace lawNil
set_option maxRecDepth 100000 in
set_option maxHeartbeats 2000000 in
theorem walk (file : Int) (data : ByteArray) (n : Int) (w : World) :
    Calls Try.prog 6 #[.int .i64 file, .string data, .int .i64 n] w fun e w' => e = .returned (.bool true) ∧ Below w.heap.size w w' := by
  go_enter Try.func6, Try.ntmps6
  have hal : Below w.heap.size w (w.alloc (.cells #[.int .i64 file, .int .i64 0] 42)) := (Below.refl _ w).alloc (Nat.le_refl _) _
  have hrow := heap_alloc_new w (.cells #[.int .i64 file, .int .i64 0] 42)
  have hsz : (w.alloc (.cells #[.int .i64 file, .int .i64 0] 42)).heap.size = w.heap.size + 1 := by simp
  go_wp2_with fail
  generalize w.alloc (.cells #[.int .i64 file, .int .i64 0] 42) = w0 at hal hrow hsz ⊢
  obtain ⟨y, hy⟩ : ∃ y, w.heap.size = y := ⟨_, rfl⟩
  have HY := Lib.hid hy
  rw [hy] at hrow hsz ⊢
  have HSZ := Lib.hid hsz
  have HAL := Lib.hid hal
  have HROW := Lib.hid hrow
  clear hy hal hrow hsz
  refine cnew_nil.mono ?_
  rintro e w1 ⟨c, rfl, hcl, hc0, hb1⟩
  have hal1 : Below w1.heap.size w1 (w1.alloc (.cells #[.pointer none, .pointer (some ⟨c, 0, none⟩)] 25)) := (Below.refl _ w1).alloc (Nat.le_refl _) _
  have hrow1 := heap_alloc_new w1 (.cells #[.pointer none, .pointer (some ⟨c, 0, none⟩)] 25)
  have HSZ1 : Hid (w1.heap.size ≤ (w1.alloc (.cells #[.pointer none, .pointer (some ⟨c, 0, none⟩)] 25)).heap.size) := Lib.hid hal1.size
  have HID := Lib.hid ((idle_at hcl hc0).below hal1)
  have hyl : y < w1.heap.size := by have := hb1.size; rw [HSZ.out] at this; omega
  have HROW1 := Lib.hid ((hal1.block y hyl).trans ((hb1.block y (by rw [HSZ.out]; omega)).trans HROW.out))
  have HB1 := Lib.hid ((HAL.out.trans (hb1.mono HAL.out.size)).trans (hal1.mono (by rw [HY.out]; omega)))
  clear hb1 hal1 hcl hc0
  go_wp2_with fail
  generalize w1.alloc (.cells #[.pointer none, .pointer (some ⟨c, 0, none⟩)] 25) = w2 at hrow1 HID HROW1 HB1 HSZ1 ⊢
  obtain ⟨g, hg⟩ : ∃ g, w1.heap.size = g := ⟨_, rfl⟩
  rw [hg] at hrow1 hyl HSZ1 ⊢
  have HR2 := Lib.hid hrow1
  have hgl : g < w2.heap.size := (Array.getElem?_eq_some_iff.1 hrow1).1
  have HL : Hid (y < w2.heap.size ∧ g < w2.heap.size) := Lib.hid ⟨by omega, hgl⟩
  clear hrow1 hg hyl hgl HROW HAL HSZ HSZ1
  go_loopw [19] (fun i wr => ∃ j : Nat, j ≤ 2 ∧ i = .int .i64 j ∧ Hid (Below w2.heap.size w2 wr)) (fun i _ => 2 - (intOf i).toNat)
  case atStart => exact ⟨0, by omega, rfl, Lib.hid (Below.refl _ _)⟩
  case round =>
    obtain ⟨j, hj, rfl, HB⟩ := hrel
    by_cases hlt : j < 2
    · obtain ⟨v, hv, hid⟩ : ∃ v, wr.cell? ⟨g, j, none⟩ = some v ∧ Idle wr v := by
        have hb := HB.out.block g HL.out.2
        rcases (by omega : j = 0 ∨ j = 1) with rfl | rfl
        · exact ⟨.pointer none, (World.cell?_of_block (a := ⟨g, 0, none⟩) hb).trans (cell_of_row _ _ _ _ _ _ HR2.out), idle_none wr⟩
        · exact ⟨.pointer (some ⟨c, 0, none⟩), (World.cell?_of_block (a := ⟨g, 1, none⟩) hb).trans (cell_of_row _ _ _ _ _ _ HR2.out), HID.out.below HB.out⟩
      have HRY : Hid (∀ W : World, Below wr.heap.size wr W → W.cell? ⟨y, 0, none⟩ = some (.int .i64 file) ∧ W.cell? ⟨y, 1, none⟩ = some (.int .i64 0)) := Lib.hid fun W hW => by
        have hh := ((hW.block y (Nat.lt_of_lt_of_le HL.out.1 HB.out.size)).trans (HB.out.block y HL.out.1)).trans HROW1.out
        exact ⟨cell_of_row _ _ _ _ _ _ hh, cell_of_row _ _ _ _ _ _ hh⟩
      have HV := Lib.hid hid
      obtain ⟨k0, k1⟩ := HRY.out wr (Below.refl _ _)
      have HG := Lib.hid (iget hid file 0)
      unfold keyV at HG
      clear hid
      go_wp2_with fail
      refine HG.out.mono ?_
      rintro e w3 ⟨rfl, hb3⟩
      have HB3 := Lib.hid hb3
      have HD := Lib.hid (idrop (HV.out.below hb3) file)
      clear hb3 k0 k1 hv HG
      go_wp2_with fail
      refine HD.out.mono ?_
      rintro e w4 ⟨rfl, hb4⟩
      have HB4 := Lib.hid (HB3.out.trans (hb4.mono HB3.out.size))
      have HP := Lib.hid (iput (HV.out.below HB4.out) file 0 data)
      unfold keyV at HP
      obtain ⟨k0, k1⟩ := HRY.out w4 HB4.out
      clear hb4 HB3 HD
      go_wp2_with fail
      refine HP.out.mono ?_
      rintro e w5 ⟨rfl, hb5⟩
      have HB5 := Lib.hid (HB4.out.trans (hb5.mono HB4.out.size))
      have HP := Lib.hid (ipin (HV.out.below HB5.out) file 0)
      unfold keyV at HP
      clear k0 k1
      obtain ⟨k0, k1⟩ := HRY.out w5 HB5.out
      clear hb5 HB4
      go_wp2_with fail
      refine HP.out.mono ?_
      rintro e w6 ⟨rfl, hb6⟩
      have HB6 := Lib.hid (HB5.out.trans (hb6.mono HB5.out.size))
      have HP := Lib.hid (iunpin (HV.out.below HB6.out) file 0)
      unfold keyV at HP
      clear k0 k1
      obtain ⟨k0, k1⟩ := HRY.out w6 HB6.out
      clear hb6 HB5
      go_wp2_with fail
      refine HP.out.mono ?_
      rintro e w7 ⟨rfl, hb7⟩
      have HB7 := Lib.hid (HB6.out.trans (hb7.mono HB6.out.size))
      have HP := Lib.hid (ishrink (HV.out.below HB7.out) n)
      have HK := Lib.hid (ikept (HV.out.below HB7.out))
      clear k0 k1 hb7 HB6
      go_wp2_with fail
      refine HP.out.mono ?_
      rintro e w8 ⟨rfl, rfl⟩
      go_wp2_with fail
      refine HK.out.mono ?_
      rintro e w9 ⟨rfl, rfl⟩
      have HBE : Hid (Below w2.heap.size w2 w7) := Lib.hid (HB.out.trans (HB7.out.mono HB.out.size))
      go_wp2
      go_roundw
      case rel => exact ⟨j + 1, by omega, by go_num, HBE⟩
      case measure => simp [intOf]; omega
    · have hjn : j = 2 := by omega
      subst hjn
      have HW := Lib.hid (wakes_any wr)
      have HBF := Lib.hid (HB1.out.trans (HB.out.mono (by exact HB1.out.size)))
      go_wp2_with fail
      refine HW.out.mono ?_
      rintro e wz ⟨rfl, hbz⟩
      have HBZ := Lib.hid (HBF.out.trans (hbz.mono HBF.out.size))
      clear hbz
      go_wp2
      go_ret
      exact ⟨rfl, HBZ.out⟩

set_option maxRecDepth 100000 in
theorem contract (H : Type) (enc : TypeId × Value → H) (W : World) (base : Nat) (args : Array Value) (ds gs : List (DataW H)) (before : List MemPlace)
    (hval : ∀ (j : Nat) t v, Try.f6.params[j]? = some t → args[j]? = some v → Value.okWide Try.prog W .any base t v)
    (hW : DataW.Whole enc Try.prog Try.f6.params.toList Rows.cacheNilSpec.vars false W args.toList ds gs before)
    (hz : (DataW.weightsEach Try.prog Try.f6.params.toList (ds ++ gs)).all (· ≤ reachBytes) = true) :
    Calls Try.prog 6 args W fun e W' => ∃ v, e = .returned v ∧ Rows.cacheNilSpec.post enc Try.prog Try.f6 false true false false W args v W' := by
  have hW' := hW
  obtain ⟨p, q, hA0, hV, rfl, hfz, hnd⟩ := hW
  have hA : DataW.TrodAll enc Try.prog W 0 (fun _ => true) true Try.f6.params.toList args.toList ds p := hA0
  rw [Try.params6] at hA hval hz
  obtain ⟨v0, vs0, d0, ds0, p0, q0, hargs, rfl, rfl, h0, r0⟩ := trodAll_cons hA
  obtain ⟨v1, vs1, d1, ds1, p1, q1, rfl, rfl, rfl, h1, r1⟩ := trodAll_cons r0
  obtain ⟨v2, vs2, d2, ds2, p2, q2, rfl, rfl, rfl, h2, r2⟩ := trodAll_cons r1
  obtain ⟨rfl, rfl, rfl⟩ := trodAll_nil r2
  obtain rfl : args = #[v0, v1, v2] := by cases args; simp_all
  obtain ⟨rfl, rfl⟩ := trodVars_none hV
  obtain ⟨file, rfl, rfl, rfl, wfile⟩ := open_int Try.underlying2 (hval 0 2 v0 rfl rfl) h0
  have hfile : -9223372036854775808 ≤ file ∧ file ≤ 9223372036854775807 := by simpa [Lit.wf, IntKind.min, IntKind.max, IntKind.signed, IntKind.bits] using wfile
  obtain ⟨data, rfl, rfl, rfl, hmax1⟩ := Go.ChangeMaps.open_string Try.underlying9 (hval 1 9 v1 rfl rfl) h1
  have hdata : data.size ≤ 140737488351232 := by
    have h := sized_string hz (j := 1) rfl rfl
    have hl : data.data.toList.length = data.size := by simp
    unfold reachBytes at h
    omega
  obtain ⟨n, rfl, rfl, rfl, wn⟩ := open_int Try.underlying2 (hval 2 2 v2 rfl rfl) h2
  have hn : -9223372036854775808 ≤ n ∧ n ≤ 9223372036854775807 := by simpa [Lit.wf, IntKind.min, IntKind.max, IntKind.signed, IntKind.bits] using wn
  refine (walk file data n W).mono fun e W' ⟨he, hB⟩ => ?_
  subst he
  exact ⟨_, rfl, law_post Try.laidOut (by kernel_rfl) rfl rfl Try.underlying4 hW' rfl hB⟩

set_option maxRecDepth 100000 in
theorem lifted (os : Os) (started : os.Started) (H : Type) (enc : TypeId × Value → H) :
    ReturnsInHanded {} Try.checked os 6 .any (Rows.cacheNilSpec.pre6 enc Try.prog Try.f6 Rows.cacheNilRow.domain false) (Rows.cacheNilSpec.post enc Try.prog Try.f6 false true false false) := by
  refine returnsInHanded_of_change_sized (C := Try.checked) Try.own started (by kernel_rfl) Try.func6
    (ChangeSpec.witness6 (enc := enc) (C := Try.checked) false ⟨#[], #[.int .i64 0, .string ⟨#[]⟩, .int .i64 0], []⟩ 8 (by kernel_rfl) (by kernel_rfl) (by kernel_rfl) (by kernel_rfl)) ?_
  intro W base args ds gs before hval hW _ hz _
  exact contract H enc W base args ds gs before hval hW hz

theorem proved : Rows.CacheNilSaid :=
  OpenClaim.holds_of_wide 6 Try.f6 rfl rfl rfl rfl rfl rfl rfl ⟨rfl, rfl, rfl, rfl, rfl⟩ rfl rfl rfl rfl rfl (by kernel_rfl) Try.func6 (by kernel_rfl)
    (of_decide_eq_true (by kernel_rfl)) (by unfold Func.isWrapper; first | (rw [if_pos (by decide +kernel)]; kernel_rfl) | (rw [if_neg (by decide +kernel)]; exact ⟨rfl, rfl⟩))
    (fun os started H enc _ => lifted os started H enc)
end lawNil
end Go.Proofs.Ytlfhjbilnfkabaa
