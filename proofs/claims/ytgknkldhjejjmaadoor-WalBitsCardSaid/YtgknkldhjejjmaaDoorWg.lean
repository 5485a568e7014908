/- WalBits: of a log in which one bit is turned no body is told that wasn't put. The walk, and the statement: for every list of texts and every bit. -/
import Derived.Test.YtgknkldhjejjmaaDoorWf
import Derived.Test.YtgknkldhjejjmaaDoorLd
import Derived.Test.YtgknkldhjejjmaaDoorLaw
namespace Go.Proofs.YtgknkldhjejjmaaDoor
open Go.ChangeShapes Go.WideShapes Go.ChangeAt Go.RowKit Go.Maps
open DM
namespace lawBits

set_option maxRecDepth 100000 in
set_option maxHeartbeats 2000000 in
theorem walk (A : Option Addr) (n cap : Nat) (l : List ByteArray) (bit : Int) (w : World) (hn : l.length = n) (hz : StrsIn w w.heap.size A l) (hcap : n ≤ cap) (hb : n * 16 ≤ reachBytes) (hs : ∀ q ∈ l, q.size ≤ reachBytes)
    (hbit : -9223372036854775808 ≤ bit ∧ bit ≤ 9223372036854775807) (ht : Tab w) :
    Calls Tryd.prog 5 #[.slice A n cap, .int .i64 bit] w fun e w' => e = .returned (.bool true) ∧ Below w.heap.size w w' := by
  unfold reachBytes at hb hs
  obtain ⟨B, hB⟩ : ∃ B, w.heap.size = B := ⟨_, rfl⟩
  obtain ⟨bs, hbs⟩ : ∃ bs, cutB 10 500 l = bs := ⟨_, rfl⟩
  have hBL := cutB_length 10 500 l
  have hsm := cutB_small 10 500 l
  have hat := cutB_at 10 500 l
  rw [hbs] at hBL hsm
  rw [hn] at hBL
  obtain ⟨N, hN⟩ : ∃ N, bs.length = N := ⟨_, rfl⟩
  rw [hN] at hBL
  have HBS := Lib.hid hN
  have HAT : Hid (∀ k, (h : k < bs.length) → (hl : k < l.length) → bs[k] = l[k].data.toList.take 500) := by subst hbs; exact Lib.hid hat
  have HS := Lib.hid hs
  have HN := Lib.hid hn
  have hmin : min (n : Int) 10 = (N : Int) := by omega
  have hNn : N ≤ n := by omega
  have hN10 : N ≤ 10 := by omega
  have hsl := fun W => texts_head W A n cap N (by omega)
  have HSM : Hid (∀ b ∈ bs, b.length ≤ 65535) := Lib.hid fun b hb => Nat.le_trans (hsm b hb) (by decide)
  have HZ : Hid (∀ W, Below B w W → StrsIn W B A l) := Lib.hid fun W h => by subst hB; exact hz.below h
  have HTL : Hid (∀ W d s N M, Live B w W d s N M → Tab W) := Lib.hid fun W d s N M h => tab_live ht h hB.symm
  have HTW : Hid (Tab w) := Lib.hid ht
  have HNEW : Hid (Calls Tryd.prog 13 #[.int .i64 1099511627776] w fun e w' => ∃ d, e = .returned (.pointer (some ⟨d, 0, none⟩)) ∧ Live B w w' d (DM.new 1099511627776) 0 0) := Lib.hid (by
    subst hB
    exact (live_new 1099511627776 w w w.heap.size (Moves.refl _ _) (Nat.le_refl _) (by unfold fits; omega) 0 0 (by omega)).mono fun _ _ ⟨he, hl⟩ => ⟨_, he, hl⟩)
  have HCR := Lib.hid (fun W d (h : Live B w W d (DM.new 1099511627776) 0 0) => h.wcreate (by omega) 1 (by omega) (HTL.out _ _ _ _ _ h) (WL.lg_create.trans (by rw [WL.held_nil])))
  have HAP : Hid (∀ k (h : k < bs.length) (t : ByteArray), t.data.toList = bs[k] → ∀ W d, Live B w W d (WL.held (bs.take k) 0 0 []) (2 + 2 * k) 0 → Calls Tryd.prog 16 #[.pointer (some ⟨d, 0, none⟩), .int .i64 1, .string t] W (ErrOut B w d (0, WL.held (bs.take (k + 1)) 0 0 []) (2 + 2 * (k + 1)) 0)) :=
    Lib.hid fun k h t hd W d hl => hl.wappend (by omega) 1 (by omega) (HTL.out _ _ _ _ _ hl) t (by rw [← size_list, hd]; exact Nat.le_trans (hsm _ (List.getElem_mem h)) (by decide)) (by rw [hd]; exact WL.held_append0 bs k h (fun b hb => Nat.le_trans (hsm b hb) (by decide)) (by omega) 0 [])
  have HSP := Lib.hid (fun W d (h : Live B w W d (WL.held bs 0 0 []) (2 + 2 * N) 0) => (h.spoil ⟨#[108, 111, 103, 45, 48, 48, 48, 48, 48, 48, 48, 49]⟩ (by decide) bit hbit))
  have HRD := Lib.hid (fun W d (h : Live B w W d (DM.spoil (WL.K 1) bit (WL.held bs 0 0 [])) (2 + 2 * N) 0) => h.wread 1 (by omega) (HTL.out _ _ _ _ _ h) rfl)
  rw [hB]
  clear hn hz hs hbs hBL hsm hat hN hcap ht hB
  go_enter Tryd.func5, Tryd.ntmps5
  go_wp2_with fail
  refine HNEW.out.mono ?_
  rintro e w1 ⟨d, rfl, hl⟩
  have HL := Lib.hid hl
  clear hl HNEW
  go_wp2_with fail
  refine (wakes_any _ (HTL.out _ _ _ _ _ HL.out)).mono ?_
  rintro e w2 ⟨rfl, hB⟩
  have HL2 := Lib.hid (HL.out.still hB)
  clear hB HL
  go_wp2_with fail
  refine (HCR.out _ _ HL2.out).mono ?_
  rintro e w3 ⟨rfl, hl⟩
  have HL3 := Lib.hid hl
  clear hl HL2 HCR
  go_wp2_with fail
  go_loopw [27] (fun i wr => ∃ k : Nat, k ≤ N ∧ i = .int .i64 k ∧ Live B w wr d (WL.held (bs.take k) 0 0 []) (2 + 2 * k) 0) (fun i _ => N - (intOf i).toNat)
  case atStart => exact ⟨0, by omega, rfl, HL3.out⟩
  case round =>
    obtain ⟨k, hk, rfl, hl⟩ := hrel
    have HK := Lib.hid hl
    have HB := Lib.hid hl.moves.below
    clear hl
    by_cases hlt : k < N
    · have hkl : k < l.length := by rw [HN.out]; omega
      have hkb : k < bs.length := by rw [HBS.out]; exact hlt
      obtain ⟨g, off, hA, hbl, hc⟩ := HZ.out _ HB.out (by omega)
      have hck := hc k hkl
      have hatk := HAT.out k hkb hkl
      obtain ⟨t, ht⟩ : ∃ t, l[k] = t := ⟨_, rfl⟩
      have hts := HS.out t (by rw [← ht]; exact List.getElem_mem hkl)
      rw [ht] at hck hatk
      obtain ⟨M, b, hM, hbx, hbd, hbz⟩ := text_cut t 500
      have hmin2 : min (t.size : Int) 500 = (M : Int) := by omega
      have hsl2 := fun W => text_head W t M (by omega)
      rw [hbx] at hsl2
      have HA := Lib.hid (HAP.out k hkb b (by rw [hbd, hatk]) _ _ HK.out)
      clear hc hatk ht hM hbx hbd
      subst hA
      go_wp2_with fail
      refine HA.out.mono ?_
      rintro e w5 ⟨rfl, hl⟩
      have HL5 := Lib.hid hl
      clear hl HA
      go_wp2
      go_roundw
      case rel => exact ⟨k + 1, by omega, by go_num, HL5.out⟩
      case measure => simp [intOf]; omega
    · obtain rfl : k = N := by omega
      have htk : bs.take k = bs := List.take_of_length_le (by rw [HBS.out]; omega)
      rw [htk] at HK
      clear htk
      go_wp2_with fail
      refine (HSP.out _ _ HK.out).mono ?_
      rintro e w6 ⟨rfl, hl⟩
      have HL6 : Hid (Live B w w6 d (DM.spoil (WL.K 1) bit (WL.held bs 0 0 [])) (2 + 2 * k) 0) := Lib.hid (by rw [WL.k1]; exact hl)
      clear hl HSP HK
      go_wp2_with fail
      refine (HRD.out _ _ HL6.out).mono ?_
      by_cases h0 : k = 0
      · subst h0
        have hb0 : bs = [] := List.length_eq_zero_iff.1 HBS.out
        have hr : WL.read 1 (DM.spoil (WL.K 1) bit (WL.held bs 0 0 [])) = ([], false, 0) := by
          subst hb0
          show WL.read 1 (DM.spoil (WL.K 1) bit (WL.lg [] 0 0 0 [])) = _
          rw [WL.spoil_nil]
          exact WL.held_read [] (by simp)
        rw [hr]
        rintro e w7 ⟨v, rfl, hown, hl⟩
        have HL7 := Lib.hid hl.moves.below
        obtain ⟨A7, c7, rfl⟩ := own_slice hown
        clear hl hown HRD HL6 hr
        go_wp2
        go_ret
        exact ⟨rfl, HL7.out⟩
      · have hb0 : bs ≠ [] := fun e => h0 (by rw [← HBS.out, e]; rfl)
        have hr := WL.held_spoilt bs HSM.out hb0 bit
        rw [hr]
        rintro e w7 ⟨v, rfl, hown, hl⟩
        have HL7 := Lib.hid hl.moves.below
        obtain ⟨A7, c7, rfl⟩ := own_slice hown
        have hk0 : ¬ (k : Int) = 0 := by omega
        clear hl hown HRD HL6 hr hb0
        go_wp2
        go_ret
        exact ⟨rfl, HL7.out⟩

theorem facts {W : World} (h : laidMetH Tryd.prog Rows.walBitsRow.laid W) : Tab W := by
  rw [MakeChecks.laidMetH_plain _ _ _ (by kernel_rfl)] at h
  exact tab_of_laid h
set_option maxRecDepth 100000 in
set_option maxHeartbeats 1000000 in
theorem contract (H : Type) (enc : TypeId × Value → H) (W : World) (base : Nat) (args : Array Value) (ds gs : List (DataW H)) (before : List MemPlace)
    (hval : ∀ (j : Nat) t v, Tryd.f5.params[j]? = some t → args[j]? = some v → Value.okWide Tryd.prog W .any base t v)
    (hW : DataW.Whole enc Tryd.prog Tryd.f5.params.toList Rows.walBitsSpec.vars false W args.toList ds gs before)
    (hz : (DataW.weightsEach Tryd.prog Tryd.f5.params.toList (ds ++ gs)).all (· ≤ reachBytes) = true)
    (hL : laidMetH Tryd.prog Rows.walBitsRow.laid W) :
    Calls Tryd.prog 5 args W fun e W' => ∃ v, e = .returned v ∧ Rows.walBitsSpec.post enc Tryd.prog Tryd.f5 false true false false W args v W' := by
  have hW' := hW
  obtain ⟨p, q, hA0, hV, rfl, hfz, hnd⟩ := hW
  have hA : DataW.TrodAll enc Tryd.prog W 0 (fun _ => true) true Tryd.f5.params.toList args.toList ds p := hA0
  rw [Tryd.params5] at hA hval hz
  obtain ⟨v0, vs0, d0, ds0, p0, q0, hargs, rfl, rfl, h0, r0⟩ := trodAll_cons hA
  obtain ⟨v1, vs1, d1, ds1, p1, q1, rfl, rfl, rfl, h1, r1⟩ := trodAll_cons r0
  obtain ⟨rfl, rfl, rfl⟩ := trodAll_nil r1
  obtain rfl : args = #[v0, v1] := by cases args; simp_all
  obtain ⟨rfl, rfl⟩ := trodVars_none hV
  obtain ⟨bodiesA, bodiesN, bodiesC, bodies, rfl, hlenbodies, hinbodies, hcapbodies, hbbodies, hsbodies⟩ := open_texts (hval 0 28 v0 rfl rfl) h0 (texts_sized hz (j := 0) rfl rfl)
  obtain ⟨bit, rfl, rfl, rfl, wbit⟩ := open_int Tryd.underlying3 (hval 1 3 v1 rfl rfl) h1
  have hbit : -9223372036854775808 ≤ bit ∧ bit ≤ 9223372036854775807 := by simpa [Lit.wf, IntKind.min, IntKind.max, IntKind.signed, IntKind.bits] using wbit
  have hf := facts hL
  refine (walk bodiesA bodiesN bodiesC bodies bit W hlenbodies hinbodies hcapbodies hbbodies hsbodies hbit hf).mono fun e W' ⟨he, hB⟩ => ?_
  subst he
  exact ⟨_, rfl, law_post Tryd.laidOut (by kernel_rfl) rfl rfl Tryd.underlying4 hW' rfl hB⟩

set_option maxRecDepth 100000 in
theorem lifted (os : Os) (started : os.Started) (H : Type) (enc : TypeId × Value → H) :
    ReturnsInHanded {} Tryd.checked os 5 .any (fun w args => (Rows.walBitsSpec.pre enc Tryd.prog Tryd.f5 [] false w args ∧ laidMetH Tryd.prog Rows.walBitsRow.laid w) ∧ sizedMet enc Tryd.prog Tryd.f5 (OpenSpec.ofChange Rows.walBitsSpec) false w args) (Rows.walBitsSpec.post enc Tryd.prog Tryd.f5 false true false false) := by
  refine returnsInHanded_of_change_and (C := Tryd.checked) (X := fun w _ => laidMetH Tryd.prog Rows.walBitsRow.laid w) (fun _ _ _ hh h => h.of_heap hh) Tryd.own started (by kernel_rfl) Tryd.func5
    (ChangeSpec.witness_shaped (enc := enc) (C := Tryd.checked) (os := os) (X := fun w _ => laidMetH Tryd.prog Rows.walBitsRow.laid w) false (World.laidAll Tryd.prog os Rows.walBitsRow.laid) #[.slice none 0 0, .int .i64 0] 8 (World.laidAll_os _ _ _) (World.shaped_of_ZipB (by kernel_rfl) (by kernel_rfl)) (by kernel_rfl) (by kernel_rfl) (by kernel_rfl)
      (by rw [MakeChecks.laidMetH_plain _ _ _ (by kernel_rfl)]; exact laidMet_laidAll _ (by kernel_rfl) (by kernel_rfl))) ?_
  intro W base args ds gs before hval hW _ hz hL _
  exact contract H enc W base args ds gs before hval hW hz hL

theorem proved : Rows.WalBitsSaid :=
  OpenClaim.holds_of_wide 5 Tryd.f5 rfl rfl rfl rfl rfl rfl rfl ⟨rfl, rfl, rfl, rfl, rfl⟩ rfl rfl rfl rfl rfl (by kernel_rfl) Tryd.func5 (by kernel_rfl)
    (of_decide_eq_true (by kernel_rfl)) (by unfold Func.isWrapper; first | (rw [if_pos (by decide +kernel)]; kernel_rfl) | (rw [if_neg (by decide +kernel)]; exact ⟨rfl, rfl⟩))
    (fun os started H enc _ => lifted os started H enc)

set_option maxRecDepth 100000 in
theorem card : Rows.WalBitsCardSaid :=
  Claim7.holds_tied_plain_at .later [] _ true _ true
    proved (fun _ h => by cases h) (by kernel_rfl) (fun _ h => by cases h) walBits_row_tie rfl ⟨rfl, rfl⟩ (by kernel_rfl) rfl
    (fun f fn hf hfn => by
      obtain rfl : f = 5 := Option.some.inj ((show Tryd.prog.funcNamed "oxbow/oxbowlaw08.WalBits" = some 5 by kernel_rfl).symm.trans hf) |>.symm
      obtain rfl : fn = Tryd.f5 := (Option.some.inj (Tryd.func5.symm.trans hfn)).symm
      exact ⟨by kernel_rfl, fun j t ht => by
        rw [Tryd.params5] at ht
        have hm : t ∈ [28, 3] := by simpa using Array.mem_of_getElem? ht
        have hall : ([28, 3].all fun u => !Tryd.prog.wantsStandIn u) = true := by kernel_rfl
        exact (show Tryd.prog.wantsStandIn t = false by simpa using List.all_eq_true.1 hall t hm)⟩)
    (by kernel_rfl)
end lawBits
end Go.Proofs.YtgknkldhjejjmaaDoor
