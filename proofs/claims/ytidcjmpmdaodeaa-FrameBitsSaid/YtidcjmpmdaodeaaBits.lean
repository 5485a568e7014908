/- FrameBits: of frames in which one bit is turned all that end ahead of it are given, and none that wasn't there. For every list of texts and every int. -/
import Derived.Test.YtidcjmpmdaodeaaCuts
namespace Go.Proofs.Ytidcjmpmdaodeaa
open Go.ChangeShapes Go.WideShapes Go.ChangeAt Go.RowKit
namespace lawBits

theorem alls_empty : alls ⟨#[]⟩ = ([], 0, 10) := by decide +kernel

theorem bit_turned (x : UInt8) (R : Nat) (h : R < 8) : ∃ y : UInt8, x ≠ y ∧ bits .xor .u8 (x.toNat : Int) ((2 : Int) ^ R % 256) = (y.toNat : Int) := by
  have hx := x.toNat_lt
  have h2 : (2 : Nat) ^ R < 256 := by
    have : (2 : Nat) ^ R < 2 ^ 8 := Nat.pow_lt_pow_right (by decide) h
    omega
  have e : (2 : Int) ^ R % 256 = ((2 ^ R : Nat) : Int) := by
    have : R = 0 ∨ R = 1 ∨ R = 2 ∨ R = 3 ∨ R = 4 ∨ R = 5 ∨ R = 6 ∨ R = 7 := by omega
    rcases this with rfl | rfl | rfl | rfl | rfl | rfl | rfl | rfl <;> decide
  have hlt : x.toNat ^^^ 2 ^ R < 256 := Nat.xor_lt_two_pow (n := 8) (by omega) h2
  refine ⟨(x.toNat ^^^ 2 ^ R).toUInt8, fun he => ?_, ?_⟩
  · have h1 := congrArg UInt8.toNat he
    rw [FM.nat_byte hlt] at h1
    have h3 := congrArg (fun n : Nat => n.testBit R) h1
    simp [Nat.testBit_xor, Nat.testBit_two_pow_self] at h3
  · rw [e, u8_xor_nat _ _ (by omega) h2, byte_toNat _ hlt]

/-- a text of which one byte was turned, in its row -/
theorem turned_string (W : World) (g G J : Nat) (S : ByteArray) (y : UInt8) (cs : Array Value) (fr : Nat × Nat) (hrow : W.heap[g]? = some (.cells cs 5 fr))
    (hat : ∀ j, (h : j < S.size) → cs[j]? = some (.int .u8 (S[j].toNat : Int)) ∧ W.frozen? ⟨g, j, none⟩ = false) :
    (convert 44 9 (.slice (some ⟨g, 0, none⟩) S.size G)).run Try.prog (W.setCell ⟨g, J, none⟩ (.int .u8 (y.toNat : Int))).drew = .ok (.string ⟨(S.data.toList.set J y).toArray⟩) (W.setCell ⟨g, J, none⟩ (.int .u8 (y.toNat : Int))).drew := by
  have hl : (⟨(S.data.toList.set J y).toArray⟩ : ByteArray).size = S.size := by
    show (S.data.toList.set J y).toArray.size = S.size
    rw [List.size_toArray, List.length_set, size_list]
  have h2 := heap_set_fr hrow J (.int .u8 (y.toNat : Int))
  have hb : Lib.Bytes (W.setCell ⟨g, J, none⟩ (.int .u8 (y.toNat : Int))).drew g 0 ⟨(S.data.toList.set J y).toArray⟩ := by
    intro i hi
    have hi' : i < S.size := by rw [← hl]; exact hi
    rw [Nat.zero_add, cell_of_row _ _ _ _ _ _ (drew_at _ _ _ h2)]
    have hY : (⟨(S.data.toList.set J y).toArray⟩ : ByteArray)[i] = (S.data.toList.set J y)[i]'(by rw [List.length_set, size_list]; exact hi') := rfl
    rw [hY, List.getElem_set]
    by_cases hij : J = i
    · subst hij
      have hlt : J < cs.size := (Array.getElem?_eq_some_iff.1 (hat J hi').1).1
      simp [hlt]
    · rw [if_neg hij, byte_of S i hi', ← (hat i hi').1]
      simp [hij]
  have h := Lib.run_convert_whole (P := Try.prog) _ 44 5 9 Try.underlying44 Try.underlying5 Try.underlying9 g 0 _ hb G
  rw [hl] at h
  exact h

set_option maxRecDepth 100000 in
set_option maxHeartbeats 1000000 in
theorem walk (A : Option Addr) (n cap : Nat) (l : List ByteArray) (p : Int) (w : World) (hn : l.length = n) (hz : StrsIn w w.heap.size A l) (hcap : n ≤ cap) (hb : n * 16 ≤ reachBytes) (hs : ∀ q ∈ l, q.size ≤ reachBytes)
    (hp0 : -9223372036854775808 ≤ p) (hp1 : p ≤ 9223372036854775807) :
    Calls Try.prog 8 #[.slice A n cap, .int .i64 p] w fun e w' => e = .returned (.bool true) ∧ Below w.heap.size w w' := by
  unfold reachBytes at hb hs
  have HF := Lib.hid (framed_any A n cap l w hn hz hcap (by omega) (fun q hq => Nat.le_trans (hs q hq) (by decide)))
  unfold FramedOut at HF
  have hBL := bodiesOf_length l
  have hsm := bodiesOf_small l
  rw [hn] at hBL
  obtain ⟨bs, hbs⟩ : ∃ bs, bodiesOf l = bs := ⟨_, rfl⟩
  rw [hbs] at HF hBL hsm
  have hfl := frames_len_le bs hsm
  obtain ⟨N, hN⟩ : ∃ N, bs.length = N := ⟨_, rfl⟩
  rw [hN] at HF hfl
  have hmin : min (n : Int) 20 = (N : Int) := by omega
  have hN20 : N ≤ 20 := by omega
  obtain ⟨S, hS⟩ : ∃ S : ByteArray, (⟨(FM.frames bs).toArray⟩ : ByteArray) = S := ⟨_, rfl⟩
  have hSd : S.data.toList = FM.frames bs := by rw [← hS]
  have hSs : S.size = (FM.frames bs).length := by rw [← size_list S, hSd]
  have hSs' : S.size ≤ 40160 := by omega
  simp only [hS] at HF
  have HSD := Lib.hid hSd
  have HSS := Lib.hid hSs
  have HBS := Lib.hid hN
  have HSM := Lib.hid hsm
  have HFL := Lib.hid hfl
  clear hn hz hs hbs hBL hsm hfl hN hS hSd hSs hcap
  by_cases hS0 : S.size = 0
  · have hs0 : S = ⟨#[]⟩ := by
      apply ByteArray.ext
      exact Array.eq_empty_of_size_eq_zero hS0
    subst hs0
    have HE := Lib.hid (fun W => all_any ⟨#[]⟩ W (by decide))
    unfold AllOut at HE
    rw [alls_empty] at HE
    clear hS0 hSs'
    go_enter Try.func8, Try.ntmps8
    go_wp2_with fail
    refine HF.out.mono ?_
    rintro e w1 ⟨a, b, rfl, hT⟩
    obtain ⟨A1, c1, rfl, hz1⟩ := own_cells hT.own1
    have HB1 := Lib.hid hT.below
    have hs1 := hT.below.size
    clear hT hz1
    go_wp2_with fail
    refine (HE.out _).mono ?_
    rintro e w2 ⟨v, rfl, hown, hB2⟩
    have HB2 := Lib.hid (HB1.out.trans (hB2.mono hs1))
    clear hown hB2
    go_wp2
    go_ret
    exact ⟨rfl, HB2.out⟩
  have hne : S.toList.isEmpty = false := by
    rw [Lib.toList_data]
    cases hh : S.data.toList with
    | nil => have := size_list S; rw [hh] at this; simp at this; omega
    | cons a b => rfl
  obtain ⟨P, hP⟩ : ∃ P, p.toNat = P := ⟨_, rfl⟩
  have hmax : max p (0 : Int) = (P : Int) := by omega
  have hmax' : max (0 : Int) p = (P : Int) := by omega
  clear hP
  obtain ⟨C, hC⟩ : ∃ C, P % (8 * S.size) = C := ⟨_, rfl⟩
  have hCS : C < 8 * S.size := by
    have := Nat.mod_lt P (show 8 * S.size > 0 by omega)
    omega
  have hrem : (P : Int) % (8 * (S.size : Int)) = (C : Int) := by rw [← hC, Int.natCast_emod, Int.natCast_mul]; rfl
  have h8 : ¬ (8 * (S.size : Int)) = 0 := by omega
  obtain ⟨J, hJ⟩ : ∃ J, C / 8 = J := ⟨_, rfl⟩
  have hJi : (C : Int) / 8 = (J : Int) := by omega
  obtain ⟨R, hR⟩ : ∃ R, C % 8 = R := ⟨_, rfl⟩
  have hRi : (C : Int) % 8 = (R : Int) := by omega
  have hJS : J < S.size := by omega
  have hR8 : R < 8 := by omega
  clear hC hJ hR hS0
  go_enter Try.func8, Try.ntmps8
  go_wp2_with fail
  refine HF.out.mono ?_
  rintro e w1 ⟨a, b, rfl, hT⟩
  obtain ⟨A1, c1, rfl, hz1⟩ := own_cells hT.own1
  obtain ⟨A2, c2, rfl, hz2⟩ := strs_of_own HBS.out hT.own2
  have HB1 := Lib.hid hT.below
  have hs1 := hT.below.size
  have HZ1 := Lib.hid hz1
  have HZ2 := Lib.hid hz2
  obtain ⟨G, W1, cs, fr, hcv, hrow, hat, hBW⟩ := bytes_of_text w1 S
  have hW1s : w1.heap.size < W1.heap.size := (Array.getElem?_eq_some_iff.1 hrow).1
  obtain ⟨hcJ, hfJ⟩ := hat J hJS
  have hcell : W1.cell? ⟨w1.heap.size, J, none⟩ = some (.int .u8 (S[J].toNat : Int)) := by rw [cell_of_row _ _ _ _ _ _ hrow]; exact hcJ
  obtain ⟨x, hx⟩ : ∃ x, S[J] = x := ⟨_, rfl⟩
  rw [hx] at hcell
  have HX := Lib.hid hx
  have HROW := Lib.hid hrow
  have HAT := Lib.hid hat
  have HBW := Lib.hid hBW
  have i0 : (0 : Int) ≤ (J : Int) := by omega
  have i1 : (J : Int) < (S.size : Int) := by omega
  clear hT hz1 hz2 hrow hat hBW hcJ hx
  obtain ⟨y, hxy, hbit⟩ := bit_turned x R hR8
  have hY := fun W (h : W = (W1.setCell ⟨w1.heap.size, J, none⟩ (.int .u8 (y.toNat : Int))).drew) => h ▸ turned_string W1 w1.heap.size G J S y cs fr HROW.out HAT.out
  obtain ⟨Y, hYd⟩ : ∃ Y : ByteArray, (⟨(S.data.toList.set J y).toArray⟩ : ByteArray) = Y := ⟨_, rfl⟩
  rw [hYd] at hY
  have hYl : Y.data.toList = (FM.frames bs).set J y := by rw [← hYd, HSD.out]
  have hYs : Y.size = S.size := by rw [← size_list Y, hYl, List.length_set, ← HSS.out]
  have hgd : (FM.frames bs).getD J 0 ≠ y := by
    rw [← HSD.out, List.getD_eq_getElem?_getD, List.getElem?_eq_getElem (by rw [size_list]; exact hJS), Option.getD_some, byte_of S J hJS, HX.out]
    exact hxy
  obtain ⟨ec, hec, hall⟩ := FM.turned_all bs (fun b h => Nat.le_trans (HSM.out b h) (by decide)) J (Y.size + 1) y (by rw [← HSS.out]; exact hJS) hgd (by rw [← HSS.out]; omega)
  have halls : alls Y = (bs.take (FM.whole bs J), FM.ends bs (FM.whole bs J), ec) := by unfold alls; rw [hYl]; exact hall
  have HA := Lib.hid (fun W => all_any Y W (by omega))
  unfold AllOut at HA
  rw [halls] at HA
  obtain ⟨Wh, hWh⟩ : ∃ Wh, FM.whole bs J = Wh := ⟨_, rfl⟩
  obtain ⟨hw1, hw2, -⟩ := FM.whole_spec bs J
  have hiff := fun k (h : k < N) => FM.ends_le_iff bs J k (by rw [HBS.out]; exact h)
  rw [hWh] at HA hw1 hw2 hiff
  obtain ⟨E, hE⟩ : ∃ E, FM.ends bs Wh = E := ⟨_, rfl⟩
  rw [hE] at HA hw2
  rw [HBS.out] at hw1
  have htl : (bs.take Wh).length = Wh := by rw [List.length_take, HBS.out]; omega
  simp only [htl] at HA
  have HIFF := Lib.hid hiff
  have htx : (texts (bs.take Wh)).length = Wh := by rw [texts_length, htl]
  have HTX := Lib.hid htx
  have hends : ∀ j, j ≤ N → FM.ends bs j ≤ 40160 := fun j hj => by
    have h1 := FM.ends_mono bs (i := j) (j := bs.length) (by rw [HBS.out]; exact hj) (Nat.le_refl _)
    rw [FM.ends_all, ← HSS.out] at h1
    omega
  have HENDS := Lib.hid hends
  have HTL := Lib.hid htl
  have t1 : (ec == 10) = false := by rcases hec with rfl | rfl <;> rfl
  have t1' : decide (ec = 10) = false := by rcases hec with rfl | rfl <;> rfl
  have HBW2 : Hid (Below w1.heap.size w1 (W1.setCell ⟨w1.heap.size, J, none⟩ (.int .u8 (y.toNat : Int))).drew) := (HBW.out.setCell (p := ⟨w1.heap.size, J, none⟩) (Nat.le_refl _) _).drew
  clear hWh hiff hE htl htx hends hec hall halls hYd hYl hgd hxy
  go_wp2_with fail
  simp only [hrem]
  go_region
  obtain ⟨W2, hW2⟩ : ∃ W2, (W1.setCell ⟨w1.heap.size, J, none⟩ (.int .u8 (y.toNat : Int))).drew = W2 := ⟨_, rfl⟩
  rw [hW2] at HBW2 ⊢
  have hcv2 := hY W2 hW2.symm
  have hs2 := HBW2.out.size
  have HB2 := Lib.hid (HB1.out.trans (HBW2.out.mono hs1))
  have HZ1b := Lib.hid ((HZ1.out.below HBW2.out).more hs2)
  have HZ2b := Lib.hid ((HZ2.out.below HBW2.out).more hs2)
  clear hY hW2 hcv hcell hfJ hbit
  go_wp2_with fail
  refine (HA.out _).mono ?_
  rintro e w3 ⟨v, rfl, hown, hB3⟩
  obtain ⟨A3, c3, rfl, hz3⟩ := strs_of_own HTL.out hown
  have hs3 := hB3.size
  have HB3 := Lib.hid (HB2.out.trans (hB3.mono (by omega)))
  have HZ1c := Lib.hid ((HZ1b.out.below hB3).more hs3)
  have HZ2c := Lib.hid ((HZ2b.out.below hB3).more hs3)
  have HZ3 := Lib.hid hz3
  clear hB3 hown hz3
  go_wp2_with fail
  go_loop [15, 67] (fun a i => ∃ j : Nat, j ≤ N ∧ i = .int .i64 j ∧ a = .int .i64 (min j Wh : Nat)) (fun _ i => N - (intOf i).toNat)
  case atStart => exact ⟨0, by omega, rfl, by rw [Nat.zero_min]; rfl⟩
  case round =>
    obtain ⟨j, hj, rfl, rfl⟩ := hrel
    by_cases hlt : j < N
    · obtain ⟨g, off, hA, -, hc⟩ := HZ1c.out (by omega)
      have hcj := hc j _ (endCells_at bs N j hlt)
      have hle := HENDS.out (j + 1) (by omega)
      have hif := HIFF.out j hlt
      obtain ⟨D, hD⟩ : ∃ D, FM.ends bs (j + 1) = D := ⟨_, rfl⟩
      rw [hD] at hcj hle hif
      subst hA
      clear hc hD
      by_cases hw : j < Wh
      · have hDC := hif.2 hw
        have h2 : min (j + 1) Wh = j + 1 := by omega
        clear hif
        go_wp2_with fail
        go_round
        case rel => exact ⟨j + 1, by omega, by go_num, by rw [h2]; go_num⟩
        case measure => simp [intOf]; omega
      · have hDC : ¬ D ≤ J := fun h => hw (hif.1 h)
        have h1 : min (j + 1) Wh = min j Wh := by omega
        clear hif
        go_wp2_with fail
        go_round
        case rel => exact ⟨j + 1, by omega, by go_num, by rw [h1]⟩
        case measure => simp [intOf]; omega
    · have h1 : min j Wh = Wh := by omega
      rw [h1]
      go_wp2_with fail
      go_loopw [95] (fun i wr => ∃ j : Nat, j ≤ Wh ∧ i = .int .i64 j ∧ Below w3.heap.size w3 wr) (fun i _ => Wh - (intOf i).toNat)
      case atStart => exact ⟨0, by omega, rfl, Below.refl _ _⟩
      case round =>
        obtain ⟨q, hq, rfl, hBr⟩ := hrel
        have HBr := Lib.hid hBr
        have hsr := hBr.size
        by_cases hlq : q < Wh
        · have hx1 : q < (texts (bs.take Wh)).length := by rw [HTX.out]; exact hlq
          have hx2 : q < (texts bs).length := by rw [texts_length, HBS.out]; omega
          obtain ⟨g1, o1, hA1, -, hc1⟩ := (HZ3.out.below hBr) (by omega)
          obtain ⟨g2, o2, hA2, -, hc2⟩ := (HZ2c.out.below hBr) (by omega)
          have hd1 := hc1 q hx1
          have hd2 := hc2 q hx2
          rw [texts_take bs Wh q hlq (by rw [HBS.out]; omega)] at hd1
          obtain ⟨t, ht⟩ : ∃ t, (texts bs)[q] = t := ⟨_, rfl⟩
          rw [ht] at hd1 hd2
          have hss : (t.toList == t.toList) = true := by simp
          have i0 : (0 : Int) ≤ (q : Int) := by omega
          have i1 : (q : Int) < (N : Int) := by omega
          have i2 : (q : Int) < (Wh : Int) := by omega
          subst hA1 hA2
          clear hc1 hc2 ht hBr
          go_wp2_with fail
          go_quiet (fail)
          go_wp2
          go_roundw
          case rel => exact ⟨q + 1, by omega, by go_num, below_drewN HBr.out _⟩
          case measure => simp [intOf]; omega
        · have HB4 := Lib.hid (HB3.out.trans (hBr.mono (by omega)))
          clear hBr
          go_wp2
          go_ret
          exact ⟨rfl, HB4.out⟩

theorem contract (H : Type) (enc : TypeId × Value → H) (W : World) (base : Nat) (args : Array Value) (ds gs : List (DataW H)) (before : List MemPlace)
    (hval : ∀ (j : Nat) t v, Try.f8.params[j]? = some t → args[j]? = some v → Value.okWide Try.prog W .any base t v)
    (hW : DataW.Whole enc Try.prog Try.f8.params.toList Rows.frameBitsSpec.vars false W args.toList ds gs before)
    (hz : (DataW.weightsEach Try.prog Try.f8.params.toList (ds ++ gs)).all (· ≤ reachBytes) = true) :
    Calls Try.prog 8 args W fun e W' => ∃ v, e = .returned v ∧ Rows.frameBitsSpec.post enc Try.prog Try.f8 false true false false W args v W' := by
  have hW' := hW
  obtain ⟨p, q, hA0, hV, rfl, hfz, hnd⟩ := hW
  have hA : DataW.TrodAll enc Try.prog W 0 (fun _ => true) true Try.f8.params.toList args.toList ds p := hA0
  rw [Try.params8] at hA hval hz
  obtain ⟨v0, vs0, d0, ds0, p0, q0, hargs, rfl, rfl, h0, r0⟩ := trodAll_cons hA
  obtain ⟨v1, vs1, d1, ds1, p1, q1, rfl, rfl, rfl, h1, r1⟩ := trodAll_cons r0
  obtain ⟨rfl, rfl, rfl⟩ := trodAll_nil r1
  obtain rfl : args = #[v0, v1] := by cases args; simp_all
  obtain ⟨rfl, rfl⟩ := trodVars_none hV
  obtain ⟨lA, lN, lC, l, rfl, hlenl, hinl, hcapl, hbl, hsl⟩ := open_texts (hval 0 35 v0 rfl rfl) h0 (texts_sized hz (j := 0) rfl rfl)
  obtain ⟨p, rfl, rfl, rfl, wp⟩ := open_int Try.underlying3 (hval 1 3 v1 rfl rfl) h1
  have hp : -9223372036854775808 ≤ p ∧ p ≤ 9223372036854775807 := by simpa [Lit.wf, IntKind.min, IntKind.max, IntKind.signed, IntKind.bits] using wp
  refine (walk lA lN lC l p W hlenl hinl hcapl hbl hsl hp.1 hp.2).mono fun e W' ⟨he, hB⟩ => ?_
  subst he
  exact ⟨_, rfl, law_post Try.laidOut (by kernel_rfl) rfl rfl Try.underlying4 hW' rfl hB⟩

set_option maxRecDepth 100000 in
theorem lifted (os : Os) (started : os.Started) (H : Type) (enc : TypeId × Value → H) :
    ReturnsInHanded {} Try.checked os 8 .any (Rows.frameBitsSpec.pre6 enc Try.prog Try.f8 Rows.frameBitsRow.domain false) (Rows.frameBitsSpec.post enc Try.prog Try.f8 false true false false) := by
  refine returnsInHanded_of_change_sized (C := Try.checked) Try.own started (by kernel_rfl) Try.func8
    (ChangeSpec.witness6 (enc := enc) (C := Try.checked) false ⟨#[], #[.slice none 0 0, .int .i64 0], []⟩ 8 (by kernel_rfl) (by kernel_rfl) (by kernel_rfl) (by kernel_rfl)) ?_
  intro W base args ds gs before hval hW _ hz _
  exact contract H enc W base args ds gs before hval hW hz

theorem proved : Rows.FrameBitsSaid :=
  OpenClaim.holds_of_wide 8 Try.f8 rfl rfl rfl rfl rfl rfl rfl ⟨rfl, rfl, rfl, rfl, rfl⟩ rfl rfl rfl rfl rfl (by kernel_rfl) Try.func8 (by kernel_rfl)
    (of_decide_eq_true (by kernel_rfl)) (by unfold Func.isWrapper; first | (rw [if_pos (by decide +kernel)]; kernel_rfl) | (rw [if_neg (by decide +kernel)]; exact ⟨rfl, rfl⟩))
    (fun os started H enc _ => lifted os started H enc)
end lawBits
end Go.Proofs.Ytidcjmpmdaodeaa
