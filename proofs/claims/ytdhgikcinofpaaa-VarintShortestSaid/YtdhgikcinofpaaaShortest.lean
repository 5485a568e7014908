/- VarintShortest: what is read as a number is written as just the bytes that were read. For every text. -/
import Derived.Test.YtdhgikcinofpaaaVarD
import Derived.Test.YtdhgikcinofpaaaLaw
import Derived.SizedLaws
import Derived.Deep.RegionHeld3
import Derived.Deep.QuietTactic
import Derived.BigQuiet
import Derived.WalkSmall
import Derived.Deep.CondSized
namespace Go.Proofs.Ytdhgikcinofpaaa
open Go.ChangeShapes Go.WideShapes Go.ChangeAt Go.RowKit
namespace lawShortest

theorem enc_0 : VM.enc 0 = [0] := by
  unfold VM.enc
  rw [Lib.uvarint_small (by decide)]
  decide

set_option maxHeartbeats 400000 in
theorem walk (s : ByteArray) (w : World) (hs : s.size ≤ 140737488351232) :
    Calls Try.prog 6 #[.string s] w fun e w' => e = .returned (.bool true) ∧ Below w.heap.size w w' := by
  have HG := Lib.hid (fun W => get_any s 0 W (by omega) (by decide) (by decide))
  obtain ⟨n, b, c, hv⟩ : ∃ n b c, VM.vget s.data.toList 0 = (n, b, c) := ⟨_, _, _, rfl⟩
  by_cases hc : c = 0
  · have hok := VM.vget_ok (l := s.data.toList) (at_ := 0) (by rw [hv]; exact hc)
    rw [hv] at hok
    obtain ⟨-, -, k, k1, k10, kle, hb, hn0, hn1, he⟩ := hok
    have HV := Lib.hid hv
    have HB : Hid (b = k) := by have : b = 0 + (k : Int) := hb; show b = k; omega
    have HE : Hid (VM.enc n = s.data.toList.take k) := he
    have hks : k ≤ s.size := by rw [size_list] at kle; omega
    have hx : (⟨(VM.enc n).toArray⟩ : ByteArray) = s.extract 0 k := by
      apply ByteArray.ext
      apply Array.toList_inj.1
      rw [HE.out, Lib.extract_data]
      simp
    have HP : Hid (∀ W : World, Calls Try.prog 9 #[.int .i64 n] W fun e w' => e = .returned (.string (s.extract 0 k)) ∧ Below W.heap.size W w') :=
      fun W => by rw [← hx]; exact put_any n W hn0 hn1
    have d1 : decide (0 < k) = true := decide_eq_true (by omega)
    have d2 : decide (k ≤ s.size) = true := decide_eq_true hks
    clear hv hb he kle hn0 hn1 hx
    subst hc
    go_enter Try.func6, Try.ntmps6
    go_wp2_with fail
    refine (HG.out _).mono ?_
    rintro e w1 ⟨he, rfl⟩
    unfold GetOut at he
    rw [HV.out, HB.out] at he
    subst he
    go_wp2_with fail
    refine (put_any 0 _ (by decide) (by decide)).mono ?_
    rintro e w2 ⟨rfl, hB2⟩
    rw [enc_0]
    go_wp2_with fail
    go_region_held3 (fun _ => True) (trivial) (first | (go_at_call 9; refine (HP.out _).mono ?_; rintro e w3 ⟨rfl, hB3⟩))
    go_wp2
    go_ret
    exact ⟨rfl, hB2.drew.trans (hB3.mono hB2.size)⟩
  · have HV := Lib.hid hv
    have t2 : (c == 0) = false := beq_eq_false_iff_ne.2 hc
    have t2' : (c != 0) = true := by rw [bne_iff_ne]; exact hc
    clear hv hc
    go_enter Try.func6, Try.ntmps6
    go_wp2_with fail
    refine (HG.out _).mono ?_
    rintro e w1 ⟨he, rfl⟩
    unfold GetOut at he
    rw [HV.out] at he
    subst he
    go_wp2_with fail
    refine (put_any 0 _ (by decide) (by decide)).mono ?_
    rintro e w2 ⟨rfl, hB2⟩
    rw [enc_0]
    go_wp2_with fail
    go_quiet (fail)
    go_wp2
    go_ret
    exact ⟨rfl, below_drewN hB2 _⟩

theorem contract (H : Type) (enc : TypeId × Value → H) (W : World) (base : Nat) (args : Array Value) (ds gs : List (DataW H)) (before : List MemPlace)
    (hval : ∀ (j : Nat) t v, Try.f6.params[j]? = some t → args[j]? = some v → Value.okWide Try.prog W .any base t v)
    (hW : DataW.Whole enc Try.prog Try.f6.params.toList Rows.varintShortestSpec.vars false W args.toList ds gs before)
    (hz : (DataW.weightsEach Try.prog Try.f6.params.toList (ds ++ gs)).all (· ≤ reachBytes) = true) :
    Calls Try.prog 6 args W fun e W' => ∃ v, e = .returned v ∧ Rows.varintShortestSpec.post enc Try.prog Try.f6 false true false false W args v W' := by
  have hW' := hW
  obtain ⟨p, q, hA0, hV, rfl, hfz, hnd⟩ := hW
  have hA : DataW.TrodAll enc Try.prog W 0 (fun _ => true) true Try.f6.params.toList args.toList ds p := hA0
  rw [Try.params6] at hA hval hz
  obtain ⟨v0, vs0, d0, ds0, p0, q0, hargs, rfl, rfl, h0, r0⟩ := trodAll_cons hA
  obtain ⟨rfl, rfl, rfl⟩ := trodAll_nil r0
  obtain rfl : args = #[v0] := by cases args; simp_all
  obtain ⟨rfl, rfl⟩ := trodVars_none hV
  obtain ⟨s, rfl, rfl, rfl, hmax0⟩ := Go.ChangeMaps.open_string Try.underlying9 (hval 0 9 v0 rfl rfl) h0
  have hs : s.size ≤ 140737488351232 := by
    have h := sized_string hz (j := 0) rfl rfl
    have hl : s.data.toList.length = s.size := by simp
    unfold reachBytes at h
    omega
  refine (walk s W hs).mono fun e W' ⟨he, hB⟩ => ?_
  subst he
  exact ⟨_, rfl, law_post Try.laidOut (by kernel_rfl) rfl rfl Try.underlying4 hW' rfl hB⟩

set_option maxRecDepth 100000 in
theorem lifted (os : Os) (started : os.Started) (H : Type) (enc : TypeId × Value → H) :
    ReturnsInHanded {} Try.checked os 6 .any (Rows.varintShortestSpec.pre6 enc Try.prog Try.f6 Rows.varintShortestRow.domain false) (Rows.varintShortestSpec.post enc Try.prog Try.f6 false true false false) := by
  refine returnsInHanded_of_change_sized (C := Try.checked) Try.own started (by kernel_rfl) Try.func6
    (ChangeSpec.witness6 (enc := enc) (C := Try.checked) false ⟨#[], #[.string .empty], []⟩ 8 (by kernel_rfl) (by kernel_rfl) (by kernel_rfl) (by kernel_rfl)) ?_
  intro W base args ds gs before hval hW _ hz _
  exact contract H enc W base args ds gs before hval hW hz

theorem proved : Rows.VarintShortestSaid :=
  OpenClaim.holds_of_wide 6 Try.f6 rfl rfl rfl rfl rfl rfl rfl ⟨rfl, rfl, rfl, rfl, rfl⟩ rfl rfl rfl rfl rfl (by kernel_rfl) Try.func6 (by kernel_rfl)
    (of_decide_eq_true (by kernel_rfl)) (by unfold Func.isWrapper; first | (rw [if_pos (by decide +kernel)]; kernel_rfl) | (rw [if_neg (by decide +kernel)]; exact ⟨rfl, rfl⟩))
    (fun os started H enc _ => lifted os started H enc)
end lawShortest
end Go.Proofs.Ytdhgikcinofpaaa
