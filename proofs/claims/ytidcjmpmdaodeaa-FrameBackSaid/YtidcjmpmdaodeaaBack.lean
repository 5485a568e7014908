/- FrameBack: every body is read back from its frame, whatever stands behind. For every two texts. -/
import Derived.Test.YtidcjmpmdaodeaaGet
import Derived.Test.YtidcjmpmdaodeaaLaw
import Derived.SizedLaws
namespace Go.Proofs.Ytidcjmpmdaodeaa
open Go.ChangeShapes Go.WideShapes Go.ChangeAt Go.RowKit
namespace lawBack

theorem vget_frame (b r : List UInt8) (hb : b.length ≤ 65535) : vget (FM.frame b ++ r) 0 = (b, ((8 + b.length : Nat) : Int), 0) := by
  have h := vget_nat (l := FM.frame b ++ r) (k := 0) (Nat.zero_le _)
  rw [List.drop_zero, FM.get_frame b r hb] at h
  simpa using h

theorem walk (s r : ByteArray) (w : World) (hs : s.size ≤ 140737488351232) (hr : r.size ≤ 140737488351232) :
    Calls Try.prog 9 #[.string s, .string r] w fun e w' => e = .returned (.bool true) ∧ Below w.heap.size w w' := by
  have H1 := Lib.hid (fun W => put_any s W (by omega))
  by_cases hlong : 65535 < s.size
  · rw [putOut_long hlong] at H1
    have hi : (65535 : Int) < (s.size : Int) := by omega
    go_enter Try.func9, Try.ntmps9
    go_wp2_with fail
    refine (H1.out _).mono ?_
    rintro e w1 ⟨rfl, hB1⟩
    go_wp2
    go_ret
    exact ⟨rfl, hB1⟩
  · rw [putOut_good (by omega)] at H1
    obtain ⟨F, hF⟩ : ∃ F : ByteArray, (⟨(FM.frame s.data.toList).toArray⟩ : ByteArray) = F := ⟨_, rfl⟩
    have hFl : F.data.toList = FM.frame s.data.toList := by rw [← hF]
    have hFs : F.size = 8 + s.size := by rw [← size_list F, hFl, FM.frame_len, size_list]
    rw [hF] at H1
    have hFR : (F ++ r).size = F.size + r.size := by simp
    have hv : vget (F ++ r).data.toList 0 = (s.data.toList, ((8 + s.size : Nat) : Int), 0) := by
      rw [str_app, hFl, vget_frame _ _ (by rw [size_list]; omega), size_list]
    have hO := getOut_of hv
    rw [str_mk] at hO
    have H2 := Lib.hid (fun W => get_any (F ++ r) 0 W (by omega) (by decide) (by decide))
    rw [hO] at H2
    have n1 : ¬ 9223372036854775807 < F.size + r.size := by omega
    have hss : (s.toList == s.toList) = true := by simp
    have hsz : (((8 + s.size : Nat) : Int) == (F.size : Int)) = true := beq_iff_eq.2 (by omega)
    clear hF hFl hFR hv hO
    go_enter Try.func9, Try.ntmps9
    go_wp2_with fail
    refine (H1.out _).mono ?_
    rintro e w1 ⟨rfl, hB1⟩
    go_wp2_with fail
    refine (H2.out _).mono ?_
    rintro e w2 ⟨rfl, hB2⟩
    have hq : F.size = 8 + s.size := hFs
    go_wp2
    go_ret
    exact ⟨rfl, hB1.trans (hB2.mono hB1.size)⟩

theorem contract (H : Type) (enc : TypeId × Value → H) (W : World) (base : Nat) (args : Array Value) (ds gs : List (DataW H)) (before : List MemPlace)
    (hval : ∀ (j : Nat) t v, Try.f9.params[j]? = some t → args[j]? = some v → Value.okWide Try.prog W .any base t v)
    (hW : DataW.Whole enc Try.prog Try.f9.params.toList Rows.frameBackSpec.vars false W args.toList ds gs before)
    (hz : (DataW.weightsEach Try.prog Try.f9.params.toList (ds ++ gs)).all (· ≤ reachBytes) = true) :
    Calls Try.prog 9 args W fun e W' => ∃ v, e = .returned v ∧ Rows.frameBackSpec.post enc Try.prog Try.f9 false true false false W args v W' := by
  have hW' := hW
  obtain ⟨p, q, hA0, hV, rfl, hfz, hnd⟩ := hW
  have hA : DataW.TrodAll enc Try.prog W 0 (fun _ => true) true Try.f9.params.toList args.toList ds p := hA0
  rw [Try.params9] at hA hval hz
  obtain ⟨v0, vs0, d0, ds0, p0, q0, hargs, rfl, rfl, h0, r0⟩ := trodAll_cons hA
  obtain ⟨v1, vs1, d1, ds1, p1, q1, rfl, rfl, rfl, h1, r1⟩ := trodAll_cons r0
  obtain ⟨rfl, rfl, rfl⟩ := trodAll_nil r1
  obtain rfl : args = #[v0, v1] := by cases args; simp_all
  obtain ⟨rfl, rfl⟩ := trodVars_none hV
  obtain ⟨s, rfl, rfl, rfl, hmax0⟩ := Go.ChangeMaps.open_string Try.underlying9 (hval 0 9 v0 rfl rfl) h0
  have hs : s.size ≤ 140737488351232 := by
    have h := sized_string hz (j := 0) rfl rfl
    have hl : s.data.toList.length = s.size := by simp
    unfold reachBytes at h
    omega
  obtain ⟨r, rfl, rfl, rfl, hmax1⟩ := Go.ChangeMaps.open_string Try.underlying9 (hval 1 9 v1 rfl rfl) h1
  have hr : r.size ≤ 140737488351232 := by
    have h := sized_string hz (j := 1) rfl rfl
    have hl : r.data.toList.length = r.size := by simp
    unfold reachBytes at h
    omega
  refine (walk s r W hs hr).mono fun e W' ⟨he, hB⟩ => ?_
  subst he
  exact ⟨_, rfl, law_post Try.laidOut (by kernel_rfl) rfl rfl Try.underlying4 hW' rfl hB⟩

set_option maxRecDepth 100000 in
theorem lifted (os : Os) (started : os.Started) (H : Type) (enc : TypeId × Value → H) :
    ReturnsInHanded {} Try.checked os 9 .any (Rows.frameBackSpec.pre6 enc Try.prog Try.f9 Rows.frameBackRow.domain false) (Rows.frameBackSpec.post enc Try.prog Try.f9 false true false false) := by
  refine returnsInHanded_of_change_sized (C := Try.checked) Try.own started (by kernel_rfl) Try.func9
    (ChangeSpec.witness6 (enc := enc) (C := Try.checked) false ⟨#[], #[.string .empty, .string .empty], []⟩ 8 (by kernel_rfl) (by kernel_rfl) (by kernel_rfl) (by kernel_rfl)) ?_
  intro W base args ds gs before hval hW _ hz _
  exact contract H enc W base args ds gs before hval hW hz

theorem proved : Rows.FrameBackSaid :=
  OpenClaim.holds_of_wide 9 Try.f9 rfl rfl rfl rfl rfl rfl rfl ⟨rfl, rfl, rfl, rfl, rfl⟩ rfl rfl rfl rfl rfl (by kernel_rfl) Try.func9 (by kernel_rfl)
    (of_decide_eq_true (by kernel_rfl)) (by unfold Func.isWrapper; first | (rw [if_pos (by decide +kernel)]; kernel_rfl) | (rw [if_neg (by decide +kernel)]; exact ⟨rfl, rfl⟩))
    (fun os started H enc _ => lifted os started H enc)
end lawBack
end Go.Proofs.Ytidcjmpmdaodeaa
