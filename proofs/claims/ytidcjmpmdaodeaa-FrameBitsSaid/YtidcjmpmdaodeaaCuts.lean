/- FrameCuts: of frames that are cut off anywhere just those that are whole are given, and that the rest is cut off is told. For every list of texts and every int. -/
import Derived.Test.YtidcjmpmdaodeaaFramed
import Derived.Test.YtidcjmpmdaodeaaOpen
import Derived.Test.YtidcjmpmdaodeaaFmC
namespace Go.Proofs.Ytidcjmpmdaodeaa
open Go.ChangeShapes Go.WideShapes Go.ChangeAt Go.RowKit

/-- a slice of one-cell elements that lies below block B -/
def CellsIn (w : World) (B : Nat) (A : Option Addr) (n : Nat) (xs : List Value) : Prop :=
  0 < n → ∃ b off, A = some ⟨b, off, none⟩ ∧ b < B ∧ ∀ j x, xs[j]? = some x → w.cell? ⟨b, off + j, none⟩ = some x

theorem CellsIn.below {w w' : World} {B : Nat} {A : Option Addr} {n : Nat} {xs : List Value} (h : CellsIn w B A n xs) (hb : Below B w w') : CellsIn w' B A n xs := by
  intro hn
  obtain ⟨b, off, hA, hlt, hc⟩ := h hn
  exact ⟨b, off, hA, hlt, fun j x hj => (hb.cell (p := ⟨b, off + j, none⟩) hlt).trans (hc j x hj)⟩

theorem CellsIn.more {w : World} {B B' : Nat} {A : Option Addr} {n : Nat} {xs : List Value} (h : CellsIn w B A n xs) (hB : B ≤ B') : CellsIn w B' A n xs := by
  intro hn
  obtain ⟨b, off, hA, hlt, hc⟩ := h hn
  exact ⟨b, off, hA, by omega, hc⟩

theorem own_cells {w : World} {base : Nat} {e : TypeId} {v : Value} {n : Nat} {xs : List Value} (h : w.ownsRow base e 1 v n xs) : ∃ A c, v = .slice A n c ∧ CellsIn w w.heap.size A n xs := by
  have h' := h
  rcases h.2 with ⟨rfl, h0⟩ | ⟨g, cap, cur, rfl, _, hg, _, _, _, _⟩
  · exact ⟨none, 0, by rw [h0], fun hn => by omega⟩
  · refine ⟨some ⟨g, 0, none⟩, cap, rfl, fun _ => ⟨g, 0, rfl, (Array.getElem?_eq_some_iff.1 hg).1, fun j x hj => ?_⟩⟩
    have hc := h'.cells (g := g) rfl j x hj
    rw [addr_add0] at hc
    rw [Nat.zero_add, hc]

theorem endCells_at (bs : List (List UInt8)) (n j : Nat) (h : j < n) : (endCells bs n)[j]? = some (.int .i64 (FM.ends bs (j + 1) : Nat)) := by
  simp [endCells, h]

theorem texts_take (bs : List (List UInt8)) (k j : Nat) (h : j < k) (hj : j < bs.length) : (texts (bs.take k))[j]'(by rw [texts_length, List.length_take]; omega) = (texts bs)[j]'(by rw [texts_length]; exact hj) := by
  simp [texts]

namespace lawCuts

set_option maxRecDepth 100000 in
set_option maxHeartbeats 1000000 in
theorem walk (A : Option Addr) (n cap : Nat) (l : List ByteArray) (p : Int) (w : World) (hn : l.length = n) (hz : StrsIn w w.heap.size A l) (hcap : n ≤ cap) (hb : n * 16 ≤ reachBytes) (hs : ∀ q ∈ l, q.size ≤ reachBytes)
    (hp0 : -9223372036854775808 ≤ p) (hp1 : p ≤ 9223372036854775807) :
    Calls Try.prog 7 #[.slice A n cap, .int .i64 p] w fun e w' => e = .returned (.bool true) ∧ Below w.heap.size w w' := by
  unfold reachBytes at hb hs
  have HF := Lib.hid (framed_any A n cap l w hn hz hcap (by omega) (fun q hq => Nat.le_trans (hs q hq) (by decide)))
  unfold FramedOut at HF
  have hBL := bodiesOf_length l
  have hsm := bodiesOf_small l
  rw [hn] at hBL
  obtain ⟨bs, hbs⟩ : ∃ bs, bodiesOf l = bs := ⟨_, rfl⟩
  rw [hbs] at HF hBL hsm
  have hfl := frames_len_le bs hsm
  obtain ⟨N, hN⟩ : ∃ N, bs.length = N := ⟨_, rfl⟩
  rw [hN] at HF hfl
  have hmin : min (n : Int) 20 = (N : Int) := by omega
  have hN20 : N ≤ 20 := by omega
  obtain ⟨S, hS⟩ : ∃ S : ByteArray, (⟨(FM.frames bs).toArray⟩ : ByteArray) = S := ⟨_, rfl⟩
  have hSd : S.data.toList = FM.frames bs := by rw [← hS]
  have hSs : S.size = (FM.frames bs).length := by rw [← size_list S, hSd]
  have hSs' : S.size ≤ 40160 := by omega
  simp only [hS] at HF
  obtain ⟨P, hP⟩ : ∃ P, p.toNat = P := ⟨_, rfl⟩
  have hmax : max p (0 : Int) = (P : Int) := by omega
  have hmax' : max (0 : Int) p = (P : Int) := by omega
  clear hP
  obtain ⟨C, hC⟩ : ∃ C, P % (S.size + 1) = C := ⟨_, rfl⟩
  have hCS : C ≤ S.size := by
    have := Nat.mod_lt P (show S.size + 1 > 0 by omega)
    omega
  have hrem : (P : Int) % ((S.size : Int) + 1) = (C : Int) := by rw [← hC, Int.natCast_emod, Int.natCast_add]; rfl
  have hCd : (S.extract 0 C).data.toList = (FM.frames bs).take C := by
    rw [Lib.extract_data, List.drop_zero, Nat.sub_zero, hSd]
  have hCsz : (S.extract 0 C).size = C := by rw [ByteArray.size_extract]; omega
  have hsl := fun W => str_head W S C hCS
  obtain ⟨T, hT⟩ : ∃ T, S.extract 0 C = T := ⟨_, rfl⟩
  rw [hT] at hCd hCsz hsl
  have hall : alls T = (bs.take (FM.whole bs C), FM.ends bs (FM.whole bs C), if FM.ends bs (FM.whole bs C) = C then 10 else 3) := by
    unfold alls
    rw [hCd]
    exact FM.cut_all bs (fun b h => Nat.le_trans (hsm b h) (by decide)) C _ (by omega) (by omega)
  have HA := Lib.hid (fun W => all_any T W (by omega))
  unfold AllOut at HA
  rw [hall] at HA
  obtain ⟨Wh, hWh⟩ : ∃ Wh, FM.whole bs C = Wh := ⟨_, rfl⟩
  obtain ⟨hw1, hw2, -⟩ := FM.whole_spec bs C
  have hiff := fun k (h : k < N) => FM.ends_le_iff bs C k (by rw [hN]; exact h)
  rw [hWh] at HA hw1 hw2 hiff
  obtain ⟨E, hE⟩ : ∃ E, FM.ends bs Wh = E := ⟨_, rfl⟩
  rw [hE] at HA hw2
  obtain ⟨ec, hec⟩ : ∃ ec : Int, (if E = C then (10 : Int) else 3) = ec := ⟨_, rfl⟩
  rw [hec] at HA
  have HEC := Lib.hid hec
  clear hec
  rw [hN] at hw1
  have htl : (bs.take Wh).length = Wh := by rw [List.length_take, hN]; omega
  simp only [htl] at HA
  have HIFF := Lib.hid hiff
  have HEW := Lib.hid hE
  have HBS := Lib.hid hN
  have htx : (texts (bs.take Wh)).length = Wh := by rw [texts_length, htl]
  have HTX := Lib.hid htx
  have hends : ∀ j, j ≤ N → FM.ends bs j ≤ 40160 := fun j hj => by
    have h1 := FM.ends_mono bs (i := j) (j := bs.length) (by omega) (Nat.le_refl _)
    rw [FM.ends_all] at h1
    omega
  have HENDS := Lib.hid hends
  have HTL := Lib.hid htl
  clear hn hz hs hbs hBL hsm hfl hN hS hSd hSs hC hCd hT hall hWh hiff hE htl htx hends hcap
  go_enter Try.func7, Try.ntmps7
  go_wp2_with fail
  refine HF.out.mono ?_
  rintro e w1 ⟨a, b, rfl, hT⟩
  obtain ⟨A1, c1, rfl, hz1⟩ := own_cells hT.own1
  obtain ⟨A2, c2, rfl, hz2⟩ := strs_of_own HBS.out hT.own2
  have HB1 := Lib.hid hT.below
  have hs1 := hT.below.size
  have HZ1 := Lib.hid hz1
  have HZ2 := Lib.hid hz2
  clear hT hz1 hz2
  go_wp2_with fail
  refine (HA.out _).mono ?_
  rintro e w2 ⟨v, rfl, hown, hB2⟩
  obtain ⟨A3, c3, rfl, hz3⟩ := strs_of_own HTL.out hown
  have hs2 := hB2.size
  have HB2 := Lib.hid (HB1.out.trans (hB2.mono hs1))
  have HZ1b := Lib.hid ((HZ1.out.below hB2).more hs2)
  have HZ2b := Lib.hid ((HZ2.out.below hB2).more hs2)
  have HZ3 := Lib.hid hz3
  clear hB2 hown hz3
  go_wp2_with fail
  go_loop [11, 12, 38] (fun x y i => ∃ j : Nat, j ≤ N ∧ i = .int .i64 j ∧ x = .int .i64 (min j Wh : Nat) ∧ y = .int .i64 (FM.ends bs (min j Wh) : Nat)) (fun _ _ i => N - (intOf i).toNat)
  case atStart => exact ⟨0, by omega, rfl, by rw [Nat.zero_min]; rfl, by rw [Nat.zero_min, FM.ends_zero]; rfl⟩
  case round =>
    obtain ⟨j, hj, rfl, rfl, rfl⟩ := hrel
    by_cases hlt : j < N
    · obtain ⟨g, off, hA, -, hc⟩ := HZ1b.out (by omega)
      have hcj := hc j _ (endCells_at bs N j hlt)
      have hle := HENDS.out (j + 1) (by omega)
      have hif := HIFF.out j hlt
      have HJ := Lib.hid (FM.ends_zero bs)
      obtain ⟨D, hD⟩ : ∃ D, FM.ends bs (j + 1) = D := ⟨_, rfl⟩
      rw [hD] at hcj hle hif
      have HD := Lib.hid hD
      subst hA
      clear hc hD
      by_cases hw : j < Wh
      · have hDC := hif.2 hw
        have h1 : min j Wh = j := by omega
        have h2 : min (j + 1) Wh = j + 1 := by omega
        clear hif
        go_wp2_with fail
        go_round
        case rel => exact ⟨j + 1, by omega, by go_num, by rw [h2]; go_num, by rw [h2, HD.out]⟩
        case measure => simp [intOf]; omega
      · have hDC : ¬ D ≤ C := fun h => hw (hif.1 h)
        have h1 : min (j + 1) Wh = min j Wh := by omega
        clear hif
        go_wp2_with fail
        go_round
        case rel => exact ⟨j + 1, by omega, by go_num, by rw [h1], by rw [h1]⟩
        case measure => simp [intOf]; omega
    · have h1 : min j Wh = Wh := by omega
      rw [h1, HEW.out]
      go_wp2_with fail
      go_loopw [69] (fun i wr => ∃ j : Nat, j ≤ Wh ∧ i = .int .i64 j ∧ Below w2.heap.size w2 wr) (fun i _ => Wh - (intOf i).toNat)
      case atStart => exact ⟨0, by omega, rfl, Below.refl _ _⟩
      case round =>
        obtain ⟨q, hq, rfl, hBr⟩ := hrel
        have HBr := Lib.hid hBr
        have hsr := hBr.size
        by_cases hlq : q < Wh
        · have hx1 : q < (texts (bs.take Wh)).length := by rw [HTX.out]; exact hlq
          have hx2 : q < (texts bs).length := by rw [texts_length, HBS.out]; omega
          obtain ⟨g1, o1, hA1, -, hc1⟩ := (HZ3.out.below hBr) (by omega)
          obtain ⟨g2, o2, hA2, -, hc2⟩ := (HZ2b.out.below hBr) (by omega)
          have hd1 := hc1 q hx1
          have hd2 := hc2 q hx2
          rw [texts_take bs Wh q hlq (by rw [HBS.out]; omega)] at hd1
          obtain ⟨t, ht⟩ : ∃ t, (texts bs)[q] = t := ⟨_, rfl⟩
          rw [ht] at hd1 hd2
          have hss : (t.toList == t.toList) = true := by simp
          have i0 : (0 : Int) ≤ (q : Int) := by omega
          have i1 : (q : Int) < (N : Int) := by omega
          have i2 : (q : Int) < (Wh : Int) := by omega
          subst hA1 hA2
          clear hc1 hc2 ht hBr
          go_wp2_with fail
          go_quiet (fail)
          go_wp2
          go_roundw
          case rel => exact ⟨q + 1, by omega, by go_num, below_drewN HBr.out _⟩
          case measure => simp [intOf]; omega
        · have HB3 := Lib.hid (HB2.out.trans (hBr.mono (by omega)))
          clear hBr
          by_cases hEC : E = C
          · have h10 : ec = 10 := by rw [← HEC.out, if_pos hEC]
            subst h10
            subst hEC
            go_wp2
            go_ret
            exact ⟨rfl, HB3.out⟩
          · have h3 : ec = 3 := by rw [← HEC.out, if_neg hEC]
            subst h3
            have t1 : ((E : Int) == (C : Int)) = false := beq_eq_false_iff_ne.2 (by omega)
            go_wp2
            go_ret
            exact ⟨rfl, HB3.out⟩

theorem contract (H : Type) (enc : TypeId × Value → H) (W : World) (base : Nat) (args : Array Value) (ds gs : List (DataW H)) (before : List MemPlace)
    (hval : ∀ (j : Nat) t v, Try.f7.params[j]? = some t → args[j]? = some v → Value.okWide Try.prog W .any base t v)
    (hW : DataW.Whole enc Try.prog Try.f7.params.toList Rows.frameCutsSpec.vars false W args.toList ds gs before)
    (hz : (DataW.weightsEach Try.prog Try.f7.params.toList (ds ++ gs)).all (· ≤ reachBytes) = true) :
    Calls Try.prog 7 args W fun e W' => ∃ v, e = .returned v ∧ Rows.frameCutsSpec.post enc Try.prog Try.f7 false true false false W args v W' := by
  have hW' := hW
  obtain ⟨p, q, hA0, hV, rfl, hfz, hnd⟩ := hW
  have hA : DataW.TrodAll enc Try.prog W 0 (fun _ => true) true Try.f7.params.toList args.toList ds p := hA0
  rw [Try.params7] at hA hval hz
  obtain ⟨v0, vs0, d0, ds0, p0, q0, hargs, rfl, rfl, h0, r0⟩ := trodAll_cons hA
  obtain ⟨v1, vs1, d1, ds1, p1, q1, rfl, rfl, rfl, h1, r1⟩ := trodAll_cons r0
  obtain ⟨rfl, rfl, rfl⟩ := trodAll_nil r1
  obtain rfl : args = #[v0, v1] := by cases args; simp_all
  obtain ⟨rfl, rfl⟩ := trodVars_none hV
  obtain ⟨lA, lN, lC, l, rfl, hlenl, hinl, hcapl, hbl, hsl⟩ := open_texts (hval 0 35 v0 rfl rfl) h0 (texts_sized hz (j := 0) rfl rfl)
  obtain ⟨p, rfl, rfl, rfl, wp⟩ := open_int Try.underlying3 (hval 1 3 v1 rfl rfl) h1
  have hp : -9223372036854775808 ≤ p ∧ p ≤ 9223372036854775807 := by simpa [Lit.wf, IntKind.min, IntKind.max, IntKind.signed, IntKind.bits] using wp
  refine (walk lA lN lC l p W hlenl hinl hcapl hbl hsl hp.1 hp.2).mono fun e W' ⟨he, hB⟩ => ?_
  subst he
  exact ⟨_, rfl, law_post Try.laidOut (by kernel_rfl) rfl rfl Try.underlying4 hW' rfl hB⟩

set_option maxRecDepth 100000 in
theorem lifted (os : Os) (started : os.Started) (H : Type) (enc : TypeId × Value → H) :
    ReturnsInHanded {} Try.checked os 7 .any (Rows.frameCutsSpec.pre6 enc Try.prog Try.f7 Rows.frameCutsRow.domain false) (Rows.frameCutsSpec.post enc Try.prog Try.f7 false true false false) := by
  refine returnsInHanded_of_change_sized (C := Try.checked) Try.own started (by kernel_rfl) Try.func7
    (ChangeSpec.witness6 (enc := enc) (C := Try.checked) false ⟨#[], #[.slice none 0 0, .int .i64 0], []⟩ 8 (by kernel_rfl) (by kernel_rfl) (by kernel_rfl) (by kernel_rfl)) ?_
  intro W base args ds gs before hval hW _ hz _
  exact contract H enc W base args ds gs before hval hW hz

theorem proved : Rows.FrameCutsSaid :=
  OpenClaim.holds_of_wide 7 Try.f7 rfl rfl rfl rfl rfl rfl rfl ⟨rfl, rfl, rfl, rfl, rfl⟩ rfl rfl rfl rfl rfl (by kernel_rfl) Try.func7 (by kernel_rfl)
    (of_decide_eq_true (by kernel_rfl)) (by unfold Func.isWrapper; first | (rw [if_pos (by decide +kernel)]; kernel_rfl) | (rw [if_neg (by decide +kernel)]; exact ⟨rfl, rfl⟩))
    (fun os started H enc _ => lifted os started H enc)
end lawCuts
end Go.Proofs.Ytidcjmpmdaodeaa
