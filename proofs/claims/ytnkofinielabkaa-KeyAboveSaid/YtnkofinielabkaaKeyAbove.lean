/- KeyAbove: what is above a beginning is above all that begins so, and below it is nothing that is. For every three texts. -/
import Derived.Test.YtnkofinielabkaaAbove
import Derived.Test.YtnkofinielabkaaClone
import Derived.Test.YtnkofinielabkaaLaw
import Derived.SizedLaws
namespace Go.Proofs.Ytnkofinielabkaa
open Go.ChangeShapes Go.WideShapes Go.ChangeAt Go.RowKit
namespace lawAbove

def ff (s : ByteArray) (j : Nat) : Bool := (s.data.toList.take j).all (· == 255)

theorem ff_succ (s : ByteArray) (j : Nat) (h : j < s.size) : ff s (j + 1) = (ff s j && s[j] == 255) := by
  unfold ff
  have h' : j < s.data.toList.length := by rw [size_list]; exact h
  rw [List.take_succ_eq_append_getElem h', List.all_append, byte_of s j h]
  simp

theorem ff_all (s : ByteArray) {k : Nat} (hT : KM.Trim s.data.toList k) : ff s s.size = decide (k = 0) := by
  unfold ff
  rw [List.take_of_length_le (by rw [size_list]; omega), Bool.eq_iff_iff, List.all_eq_true, decide_eq_true_eq, ← KM.trim_only hT]
  simp

set_option maxRecDepth 100000 in
theorem walk (s m o : ByteArray) (w : World) (hs : s.size ≤ 140737488351232) (hm : m.size ≤ 140737488351232) (_ho : o.size ≤ 140737488351232) :
    Calls Try.prog 7 #[.string s, .string m, .string o] w fun e w' => e = .returned (.bool true) ∧ Below w.heap.size w w' := by
  have HSL := Lib.hid (size_list s)
  go_enter Try.func7, Try.ntmps7
  go_wp2_with fail
  refine (above_any s _ hs).mono ?_
  rintro e w1 ⟨k, hT, rfl, hB1⟩
  have HT := Lib.hid hT
  have HB1 := Lib.hid hB1
  have HFF := Lib.hid (ff_all s hT)
  have hk : k ≤ s.size := by have := hT.le; rw [size_list] at this; exact this
  obtain ⟨a, ha⟩ : ∃ a : ByteArray, ⟨(if k = 0 then [] else KM.above s.data.toList k).toArray⟩ = a := ⟨_, rfl⟩
  rw [ha]
  have HA := Lib.hid ha
  obtain ⟨b, hb⟩ : ∃ b, decide (0 < k) = b := ⟨_, rfl⟩
  rw [hb]
  have HBK := Lib.hid hb
  clear hT ha hb hB1
  go_wp2_with fail
  go_loop [9, 10, 18] (fun b _ i => ∃ j : Nat, j ≤ s.size ∧ i = .int .i64 j ∧ b = .bool (ff s j)) (fun _ _ i => s.size - (intOf i).toNat)
  case atStart => exact ⟨0, by omega, rfl, rfl⟩
  case round =>
    obtain ⟨j, hj, rfl, rfl⟩ := hrel
    by_cases hlt : j < s.size
    · have HS := Lib.hid (ff_succ s j hlt)
      obtain ⟨f, hf⟩ : ∃ f, ff s j = f := ⟨_, rfl⟩
      rw [hf] at HS ⊢
      clear hf
      cases f with
      | false =>
        go_wp2
        go_round
        case rel => exact ⟨j + 1, by omega, by go_num, by rw [HS.out]; rfl⟩
        case measure => simp [intOf]; omega
      | true =>
        by_cases hc : s[j] = 255
        · have hce : ((s[j].toNat : Int) == 255) = true := by rw [hc]; rfl
          rw [hc] at HS
          clear hc
          go_wp2
          go_round
          case rel => exact ⟨j + 1, by omega, by go_num, by rw [HS.out]; rfl⟩
          case measure => simp [intOf]; omega
        · have hne : s[j].toNat ≠ 255 := fun h => hc (UInt8.toNat_inj.1 h)
          have hce : ((s[j].toNat : Int) == 255) = false := beq_eq_false_iff_ne.2 (by omega)
          have hcb : (s[j] == 255) = false := by simpa using hc
          rw [hcb] at HS
          clear hc hcb hne
          go_wp2
          go_round
          case rel => exact ⟨j + 1, by omega, by go_num, by rw [HS.out]; rfl⟩
          case measure => simp [intOf]; omega
    · obtain rfl : j = s.size := by omega
      rw [HFF.out]
      rcases Nat.eq_zero_or_pos k with h0 | h0
      · subst h0
        obtain rfl := HA.out
        obtain rfl := HBK.out
        simp only [if_true, decide_true, Nat.lt_irrefl, decide_false]
        go_wp2_with fail
        refine (wakes_any _).mono ?_
        rintro e w2 ⟨rfl, hB2⟩
        go_wp2
        go_ret
        exact ⟨rfl, HB1.out.trans (hB2.mono HB1.out.size)⟩
      · have hbk := HBK.out
        have ha := HA.out
        rw [if_neg (by omega)] at ha
        have hT := HT.out
        have hal : a.data.toList = KM.above s.data.toList k := by rw [← ha]
        have l1 : Op.bytesLess (s ++ m).toList a.toList = true := by
          rw [Lib.toList_data, Lib.toList_data, str_app, hal]
          exact KM.above_less_all hT h0 _
        have l2 : (a.size : Int) ≤ (s.size : Int) := by
          rw [← size_list a, hal, KM.above_len hT h0]; omega
        obtain rfl : true = b := by rw [← hbk]; simp [h0]
        have hd : decide (k = 0) = false := by simp; omega
        rw [hd]
        have l3 : ¬ (9223372036854775807 < (s.size : Int) + (m.size : Int)) := by omega
        have HBG := Lib.hid (fun h1 h2 => KM.above_begins hT h0 o.data.toList h1 h2)
        clear hbk hT ha hd HFF
        by_cases c1 : Op.bytesLess o.toList s.toList = true
        · clear hal
          go_wp2_with fail
          refine (wakes_any _).mono ?_
          rintro e w2 ⟨rfl, hB2⟩
          go_wp2
          go_ret
          exact ⟨rfl, HB1.out.trans (hB2.mono HB1.out.size)⟩
        · by_cases c2 : Op.bytesLess o.toList a.toList = true
          · have c1' : Op.bytesLess o.toList s.toList = false := by simpa using c1
            obtain ⟨r, hr⟩ := HBG.out (by rw [← Lib.toList_data, ← Lib.toList_data]; exact c1') (by rw [← hal, ← Lib.toList_data, ← Lib.toList_data]; exact c2)
            have hos : (s.size : Int) ≤ (o.size : Int) := by
              have := congrArg List.length hr
              rw [List.length_append, size_list, size_list] at this
              omega
            have hx : o.extract 0 s.size = s := by
              apply str_ext
              rw [Lib.extract_data, hr, List.drop_zero, Nat.sub_zero, ← size_list s, List.take_left]
            clear hal HBG c1 hr
            go_wp2_with fail
            refine (wakes_any _).mono ?_
            rintro e w2 ⟨rfl, hB2⟩
            go_wp2
            go_ret
            exact ⟨rfl, HB1.out.trans (hB2.mono HB1.out.size)⟩
          · have c1' : Op.bytesLess o.toList s.toList = false := by simpa using c1
            have c2' : Op.bytesLess o.toList a.toList = false := by simpa using c2
            clear hal HBG c1 c2
            go_wp2_with fail
            refine (wakes_any _).mono ?_
            rintro e w2 ⟨rfl, hB2⟩
            go_wp2
            go_ret
            exact ⟨rfl, HB1.out.trans (hB2.mono HB1.out.size)⟩

theorem contract (H : Type) (enc : TypeId × Value → H) (W : World) (base : Nat) (args : Array Value) (ds gs : List (DataW H)) (before : List MemPlace)
    (hval : ∀ (j : Nat) t v, Try.f7.params[j]? = some t → args[j]? = some v → Value.okWide Try.prog W .any base t v)
    (hW : DataW.Whole enc Try.prog Try.f7.params.toList Rows.keyAboveSpec.vars false W args.toList ds gs before)
    (hz : (DataW.weightsEach Try.prog Try.f7.params.toList (ds ++ gs)).all (· ≤ reachBytes) = true) :
    Calls Try.prog 7 args W fun e W' => ∃ v, e = .returned v ∧ Rows.keyAboveSpec.post enc Try.prog Try.f7 false true false false W args v W' := by
  have hW' := hW
  obtain ⟨p, q, hA0, hV, rfl, hfz, hnd⟩ := hW
  have hA : DataW.TrodAll enc Try.prog W 0 (fun _ => true) true Try.f7.params.toList args.toList ds p := hA0
  rw [Try.params7] at hA hval hz
  obtain ⟨v0, vs0, d0, ds0, p0, q0, hargs, rfl, rfl, h0, r0⟩ := trodAll_cons hA
  obtain ⟨v1, vs1, d1, ds1, p1, q1, rfl, rfl, rfl, h1, r1⟩ := trodAll_cons r0
  obtain ⟨v2, vs2, d2, ds2, p2, q2, rfl, rfl, rfl, h2, r2⟩ := trodAll_cons r1
  obtain ⟨rfl, rfl, rfl⟩ := trodAll_nil r2
  obtain rfl : args = #[v0, v1, v2] := by cases args; simp_all
  obtain ⟨rfl, rfl⟩ := trodVars_none hV
  obtain ⟨s, rfl, rfl, rfl, hmax0⟩ := Go.ChangeMaps.open_string Try.underlying9 (hval 0 9 v0 rfl rfl) h0
  have hs : s.size ≤ 140737488351232 := by
    have h := sized_string hz (j := 0) rfl rfl
    have hl : s.data.toList.length = s.size := by simp
    unfold reachBytes at h
    omega
  obtain ⟨m, rfl, rfl, rfl, hmax1⟩ := Go.ChangeMaps.open_string Try.underlying9 (hval 1 9 v1 rfl rfl) h1
  have hm : m.size ≤ 140737488351232 := by
    have h := sized_string hz (j := 1) rfl rfl
    have hl : m.data.toList.length = m.size := by simp
    unfold reachBytes at h
    omega
  obtain ⟨o, rfl, rfl, rfl, hmax2⟩ := Go.ChangeMaps.open_string Try.underlying9 (hval 2 9 v2 rfl rfl) h2
  have ho : o.size ≤ 140737488351232 := by
    have h := sized_string hz (j := 2) rfl rfl
    have hl : o.data.toList.length = o.size := by simp
    unfold reachBytes at h
    omega
  refine (walk s m o W hs hm ho).mono fun e W' ⟨he, hB⟩ => ?_
  subst he
  exact ⟨_, rfl, law_post Try.laidOut (by kernel_rfl) rfl rfl Try.underlying4 hW' rfl hB⟩

set_option maxRecDepth 100000 in
theorem lifted (os : Os) (started : os.Started) (H : Type) (enc : TypeId × Value → H) :
    ReturnsInHanded {} Try.checked os 7 .any (Rows.keyAboveSpec.pre6 enc Try.prog Try.f7 Rows.keyAboveRow.domain false) (Rows.keyAboveSpec.post enc Try.prog Try.f7 false true false false) := by
  refine returnsInHanded_of_change_sized (C := Try.checked) Try.own started (by kernel_rfl) Try.func7
    (ChangeSpec.witness6 (enc := enc) (C := Try.checked) false ⟨#[], #[.string .empty, .string .empty, .string .empty], []⟩ 8 (by kernel_rfl) (by kernel_rfl) (by kernel_rfl) (by kernel_rfl)) ?_
  intro W base args ds gs before hval hW _ hz _
  exact contract H enc W base args ds gs before hval hW hz

theorem proved : Rows.KeyAboveSaid :=
  OpenClaim.holds_of_wide 7 Try.f7 rfl rfl rfl rfl rfl rfl rfl ⟨rfl, rfl, rfl, rfl, rfl⟩ rfl rfl rfl rfl rfl (by kernel_rfl) Try.func7 (by kernel_rfl)
    (of_decide_eq_true (by kernel_rfl)) (by unfold Func.isWrapper; first | (rw [if_pos (by decide +kernel)]; kernel_rfl) | (rw [if_neg (by decide +kernel)]; exact ⟨rfl, rfl⟩))
    (fun os started H enc _ => lifted os started H enc)
end lawAbove
end Go.Proofs.Ytnkofinielabkaa
