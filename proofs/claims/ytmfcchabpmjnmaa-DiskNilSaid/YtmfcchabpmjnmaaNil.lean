/- DiskNil: with no disk, every call that can say so answers ErrNil, and the others nothing. For every two texts. -/
import Derived.Test.YtmfcchabpmjnmaaDkS
import Derived.Test.YtmfcchabpmjnmaaLaw
namespace Go.Proofs.Ytmfcchabpmjnmaa
open Go.ChangeShapes Go.WideShapes Go.ChangeAt Go.RowKit Go.Maps
namespace lawNil
open DM

set_option maxRecDepth 100000 in
set_option maxHeartbeats 1000000 in
theorem walk (j k : ByteArray) (w : World) :
    Calls Try.prog 7 #[.string j, .string k] w fun e w' => e = .returned (.bool true) ∧ Below w.heap.size w w' := by
  go_enter Try.func7, Try.ntmps7
  go_wp2_with fail
  refine (crash_nil _ _ _).mono ?_
  rintro e w1 ⟨rfl, hw1⟩
  go_wp2_with fail
  refine (cut_nil _ _ _ _).mono ?_
  rintro e w2 ⟨rfl, hw2⟩
  go_wp2_with fail
  refine (break_nil _ _).mono ?_
  rintro e w3 ⟨rfl, hw3⟩
  go_wp2_with fail
  refine (on_nil _).mono ?_
  rintro e w4 ⟨rfl, hw4⟩
  go_wp2_with fail
  refine (spoil_nil _ _ _).mono ?_
  rintro e w5 ⟨rfl, hw5⟩
  go_wp2_with fail
  refine (read_nil _ _).mono ?_
  rintro e w6 ⟨rfl, hw6⟩
  go_wp2_with fail
  have HB6 : Hid (Below w.heap.size w w6) := by
    subst hw2 hw3 hw4 hw5 hw6
    rw [← hw1]
    exact Lib.hid ((Below.refl _ w).alloc (Nat.le_refl _) _)
  clear hw1 hw2 hw3 hw4 hw5 hw6
  refine (wakes_any _).mono ?_
  rintro e w7 ⟨rfl, hB⟩
  have HB7 := Lib.hid (HB6.out.trans (hB.mono HB6.out.size))
  clear hB
  go_wp2_with fail
  refine (create_nil _ _).mono ?_
  rintro e w8 ⟨rfl, hB⟩
  have HB8 := Lib.hid (HB7.out.trans (hB.mono HB7.out.size))
  clear hB
  go_wp2_with fail
  refine (append_nil _ _ _).mono ?_
  rintro e w9 ⟨rfl, hB⟩
  have HB9 := Lib.hid (HB8.out.trans (hB.mono HB8.out.size))
  clear hB
  go_wp2_with fail
  refine (sync_nil _ _).mono ?_
  rintro e w10 ⟨rfl, hB⟩
  have HB10 := Lib.hid (HB9.out.trans (hB.mono HB9.out.size))
  clear hB
  go_wp2_with fail
  refine (syncDir_nil _).mono ?_
  rintro e w11 ⟨rfl, hB⟩
  have HB11 := Lib.hid (HB10.out.trans (hB.mono HB10.out.size))
  clear hB
  go_wp2_with fail
  refine (rename_nil _ _ _).mono ?_
  rintro e w12 ⟨rfl, hB⟩
  have HB12 := Lib.hid (HB11.out.trans (hB.mono HB11.out.size))
  clear hB
  go_wp2_with fail
  refine (remove_nil _ _).mono ?_
  rintro e w13 ⟨rfl, hB⟩
  have HB13 := Lib.hid (HB12.out.trans (hB.mono HB12.out.size))
  clear hB
  go_wp2_with fail
  refine (list_nil _).mono ?_
  rintro e w14 ⟨rfl, hw14⟩
  go_wp2_with fail
  refine (used_nil' _).mono ?_
  rintro e w15 ⟨rfl, hw15⟩
  go_wp2_with fail
  refine (off_nil _).mono ?_
  rintro e w16 ⟨rfl, hw16⟩
  go_wp2
  go_ret
  subst hw14 hw15 hw16
  exact ⟨rfl, HB13.out⟩

set_option maxRecDepth 100000 in
set_option maxHeartbeats 1000000 in
theorem contract (H : Type) (enc : TypeId × Value → H) (W : World) (base : Nat) (args : Array Value) (ds gs : List (DataW H)) (before : List MemPlace)
    (hval : ∀ (j : Nat) t v, Try.f7.params[j]? = some t → args[j]? = some v → Value.okWide Try.prog W .any base t v)
    (hW : DataW.Whole enc Try.prog Try.f7.params.toList Rows.diskNilSpec.vars false W args.toList ds gs before)
    (hz : (DataW.weightsEach Try.prog Try.f7.params.toList (ds ++ gs)).all (· ≤ reachBytes) = true) :
    Calls Try.prog 7 args W fun e W' => ∃ v, e = .returned v ∧ Rows.diskNilSpec.post enc Try.prog Try.f7 false true false false W args v W' := by
  have hW' := hW
  obtain ⟨p, q, hA0, hV, rfl, hfz, hnd⟩ := hW
  have hA : DataW.TrodAll enc Try.prog W 0 (fun _ => true) true Try.f7.params.toList args.toList ds p := hA0
  rw [Try.params7] at hA hval hz
  obtain ⟨v0, vs0, d0, ds0, p0, q0, hargs, rfl, rfl, h0, r0⟩ := trodAll_cons hA
  obtain ⟨v1, vs1, d1, ds1, p1, q1, rfl, rfl, rfl, h1, r1⟩ := trodAll_cons r0
  obtain ⟨rfl, rfl, rfl⟩ := trodAll_nil r1
  obtain rfl : args = #[v0, v1] := by cases args; simp_all
  obtain ⟨rfl, rfl⟩ := trodVars_none hV
  obtain ⟨name, rfl, rfl, rfl, hmax0⟩ := Go.ChangeMaps.open_string Try.underlying9 (hval 0 9 v0 rfl rfl) h0
  have hname : name.size ≤ 140737488351232 := by
    have h := sized_string hz (j := 0) rfl rfl
    have hl : name.data.toList.length = name.size := by simp
    unfold reachBytes at h
    omega
  obtain ⟨to, rfl, rfl, rfl, hmax1⟩ := Go.ChangeMaps.open_string Try.underlying9 (hval 1 9 v1 rfl rfl) h1
  have hto : to.size ≤ 140737488351232 := by
    have h := sized_string hz (j := 1) rfl rfl
    have hl : to.data.toList.length = to.size := by simp
    unfold reachBytes at h
    omega
  refine (walk name to W).mono fun e W' ⟨he, hB⟩ => ?_
  subst he
  exact ⟨_, rfl, law_post Try.laidOut (by kernel_rfl) rfl rfl Try.underlying4 hW' rfl hB⟩

set_option maxRecDepth 100000 in
theorem lifted (os : Os) (started : os.Started) (H : Type) (enc : TypeId × Value → H) :
    ReturnsInHanded {} Try.checked os 7 .any (Rows.diskNilSpec.pre6 enc Try.prog Try.f7 Rows.diskNilRow.domain false) (Rows.diskNilSpec.post enc Try.prog Try.f7 false true false false) := by
  refine returnsInHanded_of_change_sized (C := Try.checked) Try.own started (by kernel_rfl) Try.func7
    (ChangeSpec.witness6 (enc := enc) (C := Try.checked) false ⟨#[], #[.string ⟨#[]⟩, .string ⟨#[]⟩], []⟩ 8 (by kernel_rfl) (by kernel_rfl) (by kernel_rfl) (by kernel_rfl)) ?_
  intro W base args ds gs before hval hW _ hz _
  exact contract H enc W base args ds gs before hval hW hz

theorem proved : Rows.DiskNilSaid :=
  OpenClaim.holds_of_wide 7 Try.f7 rfl rfl rfl rfl rfl rfl rfl ⟨rfl, rfl, rfl, rfl, rfl⟩ rfl rfl rfl rfl rfl (by kernel_rfl) Try.func7 (by kernel_rfl)
    (of_decide_eq_true (by kernel_rfl)) (by unfold Func.isWrapper; first | (rw [if_pos (by decide +kernel)]; kernel_rfl) | (rw [if_neg (by decide +kernel)]; exact ⟨rfl, rfl⟩))
    (fun os started H enc _ => lifted os started H enc)
end lawNil
end Go.Proofs.Ytmfcchabpmjnmaa
