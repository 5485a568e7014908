/- Texts joined by bundle.py: Rf. -/
import Derived.Test.YtnglaolbfpdgoaaGreatZbk
import Derived.Test.YtnglaolbfpdgoaaGreatZbm
import Derived.Test.YtnglaolbfpdgoaaGreatZbi

/- The document's side: All. -/
namespace Go.Proofs.YtnglaolbfpdgoaaGreat
open Go.RowKit
open SK
open TB (Bs Sp)

/-- what All comes to -/
def RAllOut (w : World) (r : Except Int (List E)) (e : Ending) (w' : World) : Prop :=
  Below w.heap.size w w' ∧ match r with
    | .ok es => ∃ A c, e = .returned (.tuple #[.slice A es.length c, .int .i64 0]) ∧ EntsIn w' A es
    | .error c => e = .returned (.tuple #[.slice none 0 0, .int .i64 c])

set_option maxRecDepth 100000 in
set_option maxHeartbeats 8000000 in
theorem rall_any (t : Nat) (s : ByteArray) (ss : List Sp) (fl key : ByteArray) (w : World) (h : RTab w t s ss fl) (hs : s.size ≤ 281474976710656) :
    Calls Tryz.prog 19 #[.pointer (some ⟨t, 0, none⟩), .string key] w fun e w' => RAllOut w (TB.allS s.data.toList ss key) e w' := by
  obtain ⟨i0, hi, hz0, hz1, hz2⟩ := info_parts info_rent
  have HWH := Lib.hid (rwhich_any t s ss fl key w h)
  obtain ⟨X, hX⟩ : ∃ X, TB.allS s.data.toList ss key = X := ⟨_, rfl⟩
  have HX0 : Hid (X = TB.fromS s.data.toList key (ss.drop (TB.which ss key)) [] []) := Lib.hid (by rw [← hX]; rfl)
  rw [hX]
  have hlen := h.len
  have hwl := TB.which_le ss key
  generalize TB.which ss key = k0 at HWH HX0 hwl
  have HT := Lib.hid h
  have HE : Hid (∀ W j (hj : j < ss.length), RTab W t s ss fl → Calls Tryz.prog 17 #[.pointer (some ⟨t, 0, none⟩), .int .i64 (j : Nat)] W fun e w' => e = .returned (codeV (TB.bodyOf s.data.toList ss[j].at_ ss[j].n)) ∧ Below W.heap.size W w') := Lib.hid fun W j hj hT => by
    have hb := rblock_any t s ss fl j W hT hs (by omega) (by omega)
    have hblk : TB.blk s.data.toList ss (j : Nat) = TB.bodyOf s.data.toList ss[j].at_ ss[j].n := by unfold TB.blk; rw [dif_neg (by omega)]; rfl
    rw [hblk] at hb
    exact hb
  obtain ⟨ns, hns⟩ : ∃ ns, ss.length = ns := ⟨_, rfl⟩
  have HNS := Lib.hid hns
  rw [hns] at hlen hwl
  obtain ⟨B, hBB⟩ : ∃ B, w.heap.size = B := ⟨_, rfl⟩
  unfold RAllOut
  simp only [hBB]
  simp only [hBB] at HWH
  clear hX h hs hns
  go_enter Tryz.func19, Tryz.ntmps19
  go_wp2_with fail
  refine HWH.out.mono ?_
  rintro e w1 ⟨rfl, hb⟩
  have HB1 := Lib.hid hb
  clear hb HWH
  go_wp2_with fail
  go_loopw [6, 7, 9] (fun v u i wr => ∃ (k : Nat) (acc a : List E) (A : Option Addr) (c : Nat), k ≤ ns ∧ i = .int .i64 k ∧ X = TB.fromS s.data.toList key (ss.drop k) a acc ∧ wr.ownsRow B 56 5 v acc.length (ecs acc) ∧ u = .slice A a.length c ∧ EntsIn wr A a ∧ Fine a ∧ a.length ≤ 4096 ∧ (∀ y ∈ acc, y.wf) ∧ acc.length ≤ k * 4096 ∧ Below B w wr) (fun _ _ i _ => ns - (intOf i).toNat)
  case atStart => exact ⟨k0, [], [], none, 0, hwl, rfl, HX0.out, World.ownsRow_nil _ _ _ _, rfl, ⟨by simp, by simp⟩, by simp [Fine], by simp, by simp, by simp, HB1.out⟩
  case round =>
    obtain ⟨k, acc, a, A, c, hk, rfl, hx, hown, rfl, hen, hfi, hal, hwf, hacc, hb⟩ := hrel
    have hT := HT.out.below (w' := wr) (by rw [hBB]; exact hb)
    obtain ⟨A1, cc, hrow, -⟩ := hT.row
    have c1 : wr.cell? ⟨t, 1, none⟩ = some (.slice A1 ss.length cc) := cell_of_row _ _ _ _ _ _ hrow
    rw [HNS.out] at c1
    obtain ⟨V, vc, rfl⟩ := B9.own_slice hown
    have HX := Lib.hid hx
    have HOWN := Lib.hid hown
    have HEN := Lib.hid hen
    have HFI := Lib.hid hfi
    have HWF := Lib.hid hwf
    have HB := Lib.hid hb
    have HAL := Lib.hid hal
    have HAC := Lib.hid hacc
    have HT2 := Lib.hid hT
    obtain ⟨an, han⟩ : ∃ an, a.length = an := ⟨_, rfl⟩
    rw [han]
    have HAN := Lib.hid han
    clear hx hown hen hfi hwf hb hal hacc hT hrow han
    by_cases hlt : k < ns
    · have hks : k < ss.length := by rw [HNS.out]; exact hlt
      have HX1 : Hid (X = match TB.rd1 ss[k].last (TB.bodyOf s.data.toList ss[k].at_ ss[k].n) with | .error c => .error c | .ok es => if TB.fits a es = true then TB.fromS s.data.toList key (ss.drop (k + 1)) es (acc ++ from_ es key) else .error 4) := Lib.hid (by rw [HX.out, List.drop_eq_getElem_cons hks]; rfl)
      have hce := HE.out wr k hks HT2.out
      obtain ⟨D, hD⟩ : ∃ D, TB.bodyOf s.data.toList ss[k].at_ ss[k].n = D := ⟨_, rfl⟩
      rw [hD] at HX1
      simp only [hD] at hce
      have HCE := Lib.hid hce
      have d0 : decide ((k : Int) < (ns : Int)) = true := decide_eq_true (by omega)
      have d0' : decide (k < ns) = true := decide_eq_true hlt
      clear hce HX
      go_wp2_with fail
      cases D with
      | error c0 =>
        have hc0 : c0 ≠ 0 := TB.bodyOf_err hD
        have hcn : (c0 != 0) = true := by simpa using hc0
        have hcb : (c0 == 0) = false := by simpa using hc0
        have hF : X = .error c0 := by rw [HX1.out]; rfl
        clear HX0 HX1 hc0
        subst hF
        have HC2 := HCE.out
        simp only [codeV] at HC2
        refine HC2.mono ?_
        rintro e w2 ⟨rfl, hb⟩
        have HB2 := Lib.hid (below_seq HB.out hb (by have := HB.out.size; omega))
        clear hb HC2 HCE
        go_wp2
        go_ret2
        exact ⟨HB2.out, rfl⟩
      | ok p =>
        have hpl := (TB.bodyOf_ok hD).1
        have HC2 := HCE.out
        simp only [codeV] at HC2
        refine HC2.mono ?_
        rintro e w2 ⟨rfl, hb⟩
        have HB2 := Lib.hid (below_seq HB.out hb (by have := HB.out.size; omega))
        have HOWN2 := Lib.hid (own_below HOWN.out hb)
        have HEN2 := Lib.hid (HEN.out.below hb)
        have HT3 := Lib.hid (HT2.out.below hb)
        clear hb HC2 HCE HB HOWN HEN HT2 c1 hD
        have HP := rparse_any ⟨p.toArray⟩ w2 (by rw [mk_size]; omega)
        unfold RefOut at HP
        rw [mk_list] at HP
        go_wp2_with fail
        cases h2 : BK.getOut p with
        | error c2 =>
          obtain ⟨e1, e2⟩ := BK.getC_err h2
          have hc0 := BK.get_err h2
          have hcn : (c2 != 0) = true := by simpa using hc0
          have hcb : (c2 == 0) = false := by simpa using hc0
          have hF : X = .error c2 := by rw [HX1.out]; simp only [TB.rd1, h2, TB.rd2]
          rw [e1, e2] at HP
          clear HX0 HX1 hc0 e1 e2
          subst hF
          refine HP.mono ?_
          rintro e w3 ⟨A3, c3, rfl, -, -, hb⟩
          have HB3 := Lib.hid (below_seq HB2.out hb (by have := HB2.out.size; omega))
          clear hb HP
          go_wp2
          go_ret2
          exact ⟨HB3.out, rfl⟩
        | ok es =>
          obtain ⟨e1, e2⟩ := BK.getC_ok h2
          have hgo := BK.get_ok h2
          rw [e1, e2] at HP
          have HX2 : Hid (X = match (if es = [] ∨ BK.lastKey es ≠ ss[k].last then .error 4 else .ok es : Except Int (List E)) with | .error c => .error c | .ok es => if TB.fits a es = true then TB.fromS s.data.toList key (ss.drop (k + 1)) es (acc ++ from_ es key) else .error 4) := Lib.hid (by rw [HX1.out]; simp only [TB.rd1, h2, TB.rd2])
          refine HP.mono ?_
          rintro e w3 ⟨A2, c2, rfl, hen2, hfb2, hb⟩
          have HB3 := Lib.hid (below_seq HB2.out hb (by have := HB2.out.size; omega))
          have HOWN3 := Lib.hid (own_below HOWN2.out hb)
          have HEN3 := Lib.hid (HEN2.out.below hb)
          have HT4 := Lib.hid (HT3.out.below hb)
          have HE3 := Lib.hid hen2
          have HAPP0 : Hid (∀ g, (Value.slice V acc.length vc).ownBlock = some g → ∀ y ∈ fb A2, y ≠ g) := Lib.hid fun g hg y hy => by have := (HOWN2.out.lt g hg).2; have := hfb2 y hy; omega
          obtain ⟨n, hn⟩ : ∃ n, es.length = n := ⟨_, rfl⟩
          rw [hn]
          have HN := Lib.hid hn
          have hn4 : n ≤ 4096 := by rw [← hn]; exact hgo.1
          clear HP e1 e2 hen2 hfb2 hb HB2 HOWN2 HEN2 HT3
          rcases List.eq_nil_or_concat es with hes | ⟨b, y, hes⟩
          · have hz : n = 0 := by rw [← hn, hes]; rfl
            have hF : X = .error 4 := by rw [HX2.out, if_pos (Or.inl hes)]
            clear HX0 HX1 HX2 hn HN hn4 hgo
            subst hz
            subst hF
            go_wp2
            go_ret2
            exact ⟨HB3.out, rfl⟩
          · simp only [List.concat_eq_append] at hes
            obtain ⟨m, hm⟩ : ∃ m, b.length = m := ⟨_, rfl⟩
            have hne : es ≠ [] := by rw [hes]; simp
            have hnm : n = m + 1 := by rw [← hn, hes]; simp [hm]
            have hml : m < es.length := by rw [hn]; omega
            have hgy : es[m]'hml = y := by simp only [hes]; rw [List.getElem_append_right (by omega)]; simp [hm]
            obtain ⟨bb, off, rfl, hbl, hc⟩ := HE3.out.at_ (by omega)
            obtain ⟨k0', -⟩ := hc m hml
            rw [hgy] at k0'
            obtain ⟨q0, q1, q2, q3, q4⟩ := hc 0 (by omega)
            obtain ⟨y0, hy0⟩ : ∃ y0, es[0]'(by omega) = y0 := ⟨_, rfl⟩
            rw [hy0] at q0 q1 q2 q3 q4
            simp only [Nat.zero_mul, Nat.add_zero] at q0 q1 q2 q3 q4
            obtain ⟨A4, cc4, hrow4, hin4⟩ := HT4.out.row
            obtain ⟨b2, o2, rfl, hbl2, hc2⟩ := hin4.at_ (by omega)
            obtain ⟨l0, -⟩ := hc2 k hks
            have c1 : w3.cell? ⟨t, 1, none⟩ = some (.slice (some ⟨b2, o2, none⟩) ss.length cc4) := cell_of_row _ _ _ _ _ _ hrow4
            rw [HNS.out] at c1
            have HLK : Hid (BK.lastKey es = y.key) := Lib.hid (by rw [hes]; unfold BK.lastKey; simp)
            obtain ⟨ky, hky⟩ : ∃ ky, y.key = ky := ⟨_, rfl⟩
            rw [hky] at k0' HLK
            obtain ⟨La, hLa⟩ : ∃ La, (ss[k]'hks).last = La := ⟨_, rfl⟩
            rw [hLa] at l0 HX2
            have hwr : IntKind.i64.wrap ((n : Int) - 1) = (m : Int) := by rw [IntWalk.i64_in _ ⟨by omega, by omega⟩]; omega
            have e0 : ((n : Int) == 0) = false := beq_eq_false_iff_ne.2 (by omega)
            have e0' : (n == 0) = false := beq_eq_false_iff_ne.2 (by omega)
            have g0 : (0 : Int) ≤ (m : Int) := by omega
            have g1 : (m : Int) < (n : Int) := by omega
            have g2 : (0 : Int) ≤ (k : Int) := by omega
            have g3 : (k : Int) < (ns : Int) := by omega
            have HNE := Lib.hid hne
            have HFI2 := Lib.hid (fine_of HE3.out hgo.2)
            have HBL := Lib.hid hbl
            have HAPP : Hid (∀ g, (Value.slice V acc.length vc).ownBlock = some g → bb ≠ g) := Lib.hid fun g hg => HAPP0.out g hg bb (by simp [fb])
            have HY0 : Hid (∃ r, es = y0 :: r) := Lib.hid (by
              cases es with
              | nil => exact absurd rfl hne
              | cons z r => exact ⟨r, by rw [← hy0]; rfl⟩)
            have hF2 : 0 < n := by omega
            have HNM := Lib.hid hnm
            have HM : Hid (m < n) := Lib.hid (by omega)
            clear hes hm hnm hml hgy hbl hc hrow4 hin4 hbl2 hc2 hky hLa hne hn hgo hy0 HX1 h2
            by_cases hkl : ky = La
            · subst hkl
              have dk : (ky.toList == ky.toList) = true := by simp
              have HX3 : Hid (X = if TB.fits a es = true then TB.fromS s.data.toList key (ss.drop (k + 1)) es (acc ++ from_ es key) else .error 4) := Lib.hid (by rw [HX2.out, if_neg (by rw [HLK.out]; exact fun h => h.elim HNE.out (fun h => h rfl))])
              clear HX2
              go_wp2_with fail
              go_quiet (fail)
              have HBQ : Hid (∀ i, Below w3.heap.size w3 (World.drewN w3 i)) := Lib.hid fun i => below_drewN (Below.refl _ _) i
              generalize hq : World.drewN w3 _ = wq
              have HBQ3 : Hid (Below w3.heap.size w3 wq) := Lib.hid (by rw [← hq]; exact HBQ.out _)
              clear hq HBQ
              have HB4 := Lib.hid (below_seq HB3.out HBQ3.out (by have := HB3.out.size; omega))
              have HOWN4 := Lib.hid (own_below HOWN3.out HBQ3.out)
              have HEN4 := Lib.hid (HEN3.out.below HBQ3.out)
              have HE4 := Lib.hid (HE3.out.below HBQ3.out)
              have HT5 := Lib.hid (HT4.out.below HBQ3.out)
              have HQC : Hid (wq.cell? ⟨bb, off, none⟩ = some (.string y0.key) ∧ wq.cell? ⟨bb, off + 1, none⟩ = some (.int .i64 y0.seq) ∧ wq.cell? ⟨bb, off + 2, none⟩ = some (.bool y0.gone) ∧ wq.cell? ⟨bb, off + 3, none⟩ = some (.string y0.value) ∧ wq.cell? ⟨bb, off + 4, none⟩ = some (.int .i64 y0.til)) := Lib.hid ⟨(HBQ3.out.cell (p := ⟨_, _, none⟩) HBL.out).trans q0, (HBQ3.out.cell (p := ⟨_, _, none⟩) HBL.out).trans q1, (HBQ3.out.cell (p := ⟨_, _, none⟩) HBL.out).trans q2, (HBQ3.out.cell (p := ⟨_, _, none⟩) HBL.out).trans q3, (HBQ3.out.cell (p := ⟨_, _, none⟩) HBL.out).trans q4⟩
              have HBL4 : Hid (bb < wq.heap.size) := Lib.hid (by have := HBL.out; have := HBQ3.out.size; omega)
              clear k0' q0 q1 q2 q3 q4 l0 c1 HB3 HOWN3 HEN3 HE3 HT4 HBL HBQ3
              have HN4 := Lib.hid hn4
              cases hfit : TB.fits a es with
              | false =>
                have hF : X = .error 4 := by rw [HX3.out, if_neg (by rw [hfit]; decide)]
                clear HX3 HX0
                subst hF
                rcases List.eq_nil_or_concat a with ha | ⟨b', x, ha⟩
                · exfalso
                  rw [ha] at hfit
                  cases es <;> simp [TB.fits] at hfit
                · simp only [List.concat_eq_append] at ha
                  obtain ⟨mm, hmm⟩ : ∃ mm, b'.length = mm := ⟨_, rfl⟩
                  have hanm : an = mm + 1 := by rw [← HAN.out, ha]; simp [hmm]
                  have hml : mm < a.length := by rw [HAN.out]; omega
                  have hgx : a[mm]'hml = x := by simp only [ha]; rw [List.getElem_append_right (by omega)]; simp [hmm]
                  obtain ⟨b1, o1, rfl, hbl1, hc1⟩ := HEN4.out.at_ (by omega)
                  obtain ⟨p0, p1, p2, p3, p4⟩ := hc1 mm hml
                  rw [hgx] at p0 p1 p2 p3 p4
                  obtain ⟨q0, q1, q2, q3, q4⟩ := HQC.out
                  have HBL1 := Lib.hid hbl1
                  have HFT : Hid (TB.fits a es = less x y0) := Lib.hid (by obtain ⟨r, hr⟩ := HY0.out; rw [ha, hr]; unfold TB.fits; simp)
                  have HLS := Lib.hid (fun W => rless_any x y0 W)
                  rw [HFT.out] at hfit
                  rw [hfit] at HLS
                  have hwra : IntKind.i64.wrap ((an : Int) - 1) = (mm : Int) := by rw [IntWalk.i64_in _ ⟨by have := HAL.out; have := HAN.out; omega, by have := HAL.out; have := HAN.out; omega⟩]; omega
                  have d1 : decide (0 < (an : Int)) = true := decide_eq_true (by omega)
                  have d1' : decide (0 < an) = true := decide_eq_true (by omega)
                  have j0 : (0 : Int) ≤ (mm : Int) := by omega
                  have j1 : (mm : Int) < (an : Int) := by omega
                  have j2 : (0 : Int) < (n : Int) := by omega
                  clear hbl1 hc1 hgx hml ha hmm hfit HFT
                  obtain ⟨k1, r1, z1, v1, t1⟩ := x
                  obtain ⟨k2, r2, z2, v2, t2⟩ := y0
                  simp only at p0 p1 p2 p3 p4 q0 q1 q2 q3 q4
                  have HKEEP : Hid (∀ W, Below wq.heap.size wq W → W.cell? ⟨b1, o1 + mm * 5, none⟩ = some (.string k1) ∧ W.cell? ⟨b1, o1 + mm * 5 + 1, none⟩ = some (.int .i64 r1) ∧ W.cell? ⟨b1, o1 + mm * 5 + 2, none⟩ = some (.bool z1) ∧ W.cell? ⟨b1, o1 + mm * 5 + 3, none⟩ = some (.string v1) ∧ W.cell? ⟨b1, o1 + mm * 5 + 4, none⟩ = some (.int .i64 t1) ∧ W.cell? ⟨bb, off, none⟩ = some (.string k2) ∧ W.cell? ⟨bb, off + 1, none⟩ = some (.int .i64 r2) ∧ W.cell? ⟨bb, off + 2, none⟩ = some (.bool z2) ∧ W.cell? ⟨bb, off + 3, none⟩ = some (.string v2) ∧ W.cell? ⟨bb, off + 4, none⟩ = some (.int .i64 t2)) := Lib.hid (fun W h =>
                    ⟨(h.cell (p := ⟨_, _, none⟩) HBL1.out).trans p0, (h.cell (p := ⟨_, _, none⟩) HBL1.out).trans p1, (h.cell (p := ⟨_, _, none⟩) HBL1.out).trans p2, (h.cell (p := ⟨_, _, none⟩) HBL1.out).trans p3, (h.cell (p := ⟨_, _, none⟩) HBL1.out).trans p4,
                      (h.cell (p := ⟨_, _, none⟩) HBL4.out).trans q0, (h.cell (p := ⟨_, _, none⟩) HBL4.out).trans q1, (h.cell (p := ⟨_, _, none⟩) HBL4.out).trans q2, (h.cell (p := ⟨_, _, none⟩) HBL4.out).trans q3, (h.cell (p := ⟨_, _, none⟩) HBL4.out).trans q4⟩)
                  have HBD : Hid (Below wq.heap.size wq wq.drew) := Lib.hid (below_drewN (Below.refl _ wq) 1)
                  have HNM2 := Lib.hid hanm
                  clear hanm
                  go_wp2_with fail
                  go_region_held3 (fun W => W.cell? ⟨b1, o1 + mm * 5, none⟩ = some (.string k1) ∧ W.cell? ⟨b1, o1 + mm * 5 + 1, none⟩ = some (.int .i64 r1) ∧ W.cell? ⟨b1, o1 + mm * 5 + 2, none⟩ = some (.bool z1) ∧ W.cell? ⟨b1, o1 + mm * 5 + 3, none⟩ = some (.string v1) ∧ W.cell? ⟨b1, o1 + mm * 5 + 4, none⟩ = some (.int .i64 t1) ∧ W.cell? ⟨bb, off, none⟩ = some (.string k2) ∧ W.cell? ⟨bb, off + 1, none⟩ = some (.int .i64 r2) ∧ W.cell? ⟨bb, off + 2, none⟩ = some (.bool z2) ∧ W.cell? ⟨bb, off + 3, none⟩ = some (.string v2) ∧ W.cell? ⟨bb, off + 4, none⟩ = some (.int .i64 t2))
                    (first | exact HS2.out | go_keep | fail)
                    (first
                      | (go_at_call 45; refine (HLS.out _).mono ?_; rintro r w5 ⟨rfl, hb2⟩
                         have HBW2 : Hid (Below wq.heap.size wq w5) := Lib.hid (HBD.out.trans (hb2.mono (by first | exact Nat.le_refl _ | simp | fail)))
                         have HS2 := Lib.hid (HKEEP.out _ HBW2.out)
                         clear hb2)
                      | fail)
                  all_goals
                    clear HS2
                    go_wp2
                    go_ret2
                    exact ⟨below_seq HB4.out HBW2.out (by have := HB4.out.size; omega), rfl⟩
              | true =>
                have HX4 : Hid (X = TB.fromS s.data.toList key (ss.drop (k + 1)) es (acc ++ from_ es key)) := Lib.hid (by rw [HX3.out, if_pos hfit])
                clear HX3
                go_upto_if 67 with fail
                go_cut [14] from 20 to 100 (fun x wc => Below wq.heap.size wq wc)
                case first =>
                  rcases List.eq_nil_or_concat a with ha | ⟨b', x, ha⟩
                  · have hz : an = 0 := by rw [← HAN.out, ha]; rfl
                    subst hz
                    go_wp2
                    go_meet
                    exact Below.refl _ _
                  · simp only [List.concat_eq_append] at ha
                    obtain ⟨mm, hmm⟩ : ∃ mm, b'.length = mm := ⟨_, rfl⟩
                    have hanm : an = mm + 1 := by rw [← HAN.out, ha]; simp [hmm]
                    have hml : mm < a.length := by rw [HAN.out]; omega
                    have hgx : a[mm]'hml = x := by simp only [ha]; rw [List.getElem_append_right (by omega)]; simp [hmm]
                    obtain ⟨b1, o1, rfl, hbl1, hc1⟩ := HEN4.out.at_ (by omega)
                    obtain ⟨p0, p1, p2, p3, p4⟩ := hc1 mm hml
                    rw [hgx] at p0 p1 p2 p3 p4
                    obtain ⟨q0, q1, q2, q3, q4⟩ := HQC.out
                    have HBL1 := Lib.hid hbl1
                    have HFT : Hid (TB.fits a es = less x y0) := Lib.hid (by obtain ⟨r, hr⟩ := HY0.out; rw [ha, hr]; unfold TB.fits; simp)
                    have HLS := Lib.hid (fun W => rless_any x y0 W)
                    rw [HFT.out] at hfit
                    rw [hfit] at HLS
                    have hwra : IntKind.i64.wrap ((an : Int) - 1) = (mm : Int) := by rw [IntWalk.i64_in _ ⟨by have := HAL.out; have := HAN.out; omega, by have := HAL.out; have := HAN.out; omega⟩]; omega
                    have d1 : decide (0 < (an : Int)) = true := decide_eq_true (by omega)
                    have d1' : decide (0 < an) = true := decide_eq_true (by omega)
                    have j0 : (0 : Int) ≤ (mm : Int) := by omega
                    have j1 : (mm : Int) < (an : Int) := by omega
                    have j2 : (0 : Int) < (n : Int) := by omega
                    clear hbl1 hc1 hgx hml ha hmm hfit HFT
                    obtain ⟨k1, r1, z1, v1, t1⟩ := x
                    obtain ⟨k2, r2, z2, v2, t2⟩ := y0
                    simp only at p0 p1 p2 p3 p4 q0 q1 q2 q3 q4
                    have HKEEP : Hid (∀ W, Below wq.heap.size wq W → W.cell? ⟨b1, o1 + mm * 5, none⟩ = some (.string k1) ∧ W.cell? ⟨b1, o1 + mm * 5 + 1, none⟩ = some (.int .i64 r1) ∧ W.cell? ⟨b1, o1 + mm * 5 + 2, none⟩ = some (.bool z1) ∧ W.cell? ⟨b1, o1 + mm * 5 + 3, none⟩ = some (.string v1) ∧ W.cell? ⟨b1, o1 + mm * 5 + 4, none⟩ = some (.int .i64 t1) ∧ W.cell? ⟨bb, off, none⟩ = some (.string k2) ∧ W.cell? ⟨bb, off + 1, none⟩ = some (.int .i64 r2) ∧ W.cell? ⟨bb, off + 2, none⟩ = some (.bool z2) ∧ W.cell? ⟨bb, off + 3, none⟩ = some (.string v2) ∧ W.cell? ⟨bb, off + 4, none⟩ = some (.int .i64 t2)) := Lib.hid (fun W h =>
                      ⟨(h.cell (p := ⟨_, _, none⟩) HBL1.out).trans p0, (h.cell (p := ⟨_, _, none⟩) HBL1.out).trans p1, (h.cell (p := ⟨_, _, none⟩) HBL1.out).trans p2, (h.cell (p := ⟨_, _, none⟩) HBL1.out).trans p3, (h.cell (p := ⟨_, _, none⟩) HBL1.out).trans p4,
                        (h.cell (p := ⟨_, _, none⟩) HBL4.out).trans q0, (h.cell (p := ⟨_, _, none⟩) HBL4.out).trans q1, (h.cell (p := ⟨_, _, none⟩) HBL4.out).trans q2, (h.cell (p := ⟨_, _, none⟩) HBL4.out).trans q3, (h.cell (p := ⟨_, _, none⟩) HBL4.out).trans q4⟩)
                    have HBD : Hid (Below wq.heap.size wq wq.drew) := Lib.hid (below_drewN (Below.refl _ wq) 1)
                    have HNM2 := Lib.hid hanm
                    clear hanm
                    go_wp2_with fail
                    go_region_held3 (fun W => W.cell? ⟨b1, o1 + mm * 5, none⟩ = some (.string k1) ∧ W.cell? ⟨b1, o1 + mm * 5 + 1, none⟩ = some (.int .i64 r1) ∧ W.cell? ⟨b1, o1 + mm * 5 + 2, none⟩ = some (.bool z1) ∧ W.cell? ⟨b1, o1 + mm * 5 + 3, none⟩ = some (.string v1) ∧ W.cell? ⟨b1, o1 + mm * 5 + 4, none⟩ = some (.int .i64 t1) ∧ W.cell? ⟨bb, off, none⟩ = some (.string k2) ∧ W.cell? ⟨bb, off + 1, none⟩ = some (.int .i64 r2) ∧ W.cell? ⟨bb, off + 2, none⟩ = some (.bool z2) ∧ W.cell? ⟨bb, off + 3, none⟩ = some (.string v2) ∧ W.cell? ⟨bb, off + 4, none⟩ = some (.int .i64 t2))
                      (first | exact HS2.out | go_keep | fail)
                      (first
                        | (go_at_call 45; refine (HLS.out _).mono ?_; rintro r w5 ⟨rfl, hb2⟩
                           have HBW2 : Hid (Below wq.heap.size wq w5) := Lib.hid (HBD.out.trans (hb2.mono (by first | exact Nat.le_refl _ | simp | fail)))
                           have HS2 := Lib.hid (HKEEP.out _ HBW2.out)
                           clear hb2)
                        | fail)
                    all_goals
                      clear HS2
                      go_wp2
                      go_meet
                      exact HBW2.out
                case rest =>
                  have HB5 := Lib.hid (below_seq HB4.out hcut (by have := HB4.out.size; omega))
                  have HOWN5 := Lib.hid (own_below HOWN4.out hcut)
                  have HE5 := Lib.hid (HE4.out.below hcut)
                  have HAP : Hid (∀ g, (Value.slice V acc.length vc).ownBlock = some g → bb ≠ g) := HAPP
                  have HLT5 : Hid (bb < wc.heap.size) := Lib.hid (by have := HBL4.out; have := hcut.size; omega)
                  clear hcut hfit HB4 HOWN4 HE4 HEN4 HQC HBL4 HT5
                  go_wp2_with fail
                  go_loopw [6, 15] (fun v i wq => ∃ q : Nat, q ≤ n ∧ i = .int .i64 q ∧ wq.ownsRow B 56 5 v (acc.length + (from_ (es.take q) key).length) (ecs (acc ++ from_ (es.take q) key)) ∧ EntsIn wq (some ⟨bb, off, none⟩) es ∧ (∀ g, v.ownBlock = some g → bb ≠ g) ∧ bb < wq.heap.size ∧ Below B w wq) (fun _ i _ => n - (intOf i).toNat)
                  case atStart => exact ⟨0, by omega, rfl, by simpa [from_] using HOWN5.out, HE5.out, HAP.out, HLT5.out, HB5.out⟩
                  case round =>
                    obtain ⟨q, hq, rfl, hown, hen, hap, hly, hb⟩ := hrel
                    obtain ⟨V2, vc2, rfl⟩ := B9.own_slice hown
                    by_cases hql : q < n
                    · have hqe : q < es.length := by rw [HN.out]; exact hql
                      obtain ⟨b9, o9, hA9, hbl9, hc9⟩ := hen.at_ (by omega)
                      simp only [Option.some.injEq, Addr.mk.injEq] at hA9
                      obtain ⟨rfl, rfl, -⟩ := hA9
                      obtain ⟨z0, z1, z2, z3, z4⟩ := hc9 q hqe
                      have HFT := Lib.hid (from_take es key q hqe)
                      have HYW := Lib.hid (hen.wf es[q] (List.getElem_mem hqe))
                      obtain ⟨y, hy⟩ : ∃ y, es[q] = y := ⟨_, rfl⟩
                      rw [hy] at z0 z1 z2 z3 z4 HFT HYW
                      generalize hF : from_ (es.take q) key = F at hown hap HFT ⊢
                      have HFL : Hid (F.length ≤ q) := Lib.hid (by rw [← hF]; exact Nat.le_trans (from_len _ _) (by rw [List.length_take]; omega))
                      have HOWNQ := Lib.hid hown
                      have HENQ := Lib.hid hen
                      have HAPQ := Lib.hid hap
                      have HLYQ := Lib.hid hly
                      have HBQ := Lib.hid hb
                      clear hown hen hap hly hb hc9 hbl9 hy hF
                      obtain ⟨k2, r2, g2, v2, t2⟩ := y
                      simp only at z0 z1 z2 z3 z4 HFT
                      have HSZ : Hid (B ≤ wr.heap.size) := Lib.hid (by have := HBQ.out.size; omega)
                      have i0' : (0 : Int) ≤ (q : Int) := by omega
                      have i1' : (q : Int) < (n : Int) := by omega
                      have i2' : decide ((q : Int) < (n : Int)) = true := decide_eq_true (by omega)
                      cases hlk : TB.lt k2 key with
                      | true =>
                        have d1 : Op.bytesLess k2.toList key.toList = true := by rw [text_less]; exact hlk
                        have HR : Hid (from_ (es.take (q + 1)) key = F) := Lib.hid (by rw [HFT.out, if_pos hlk, List.append_nil])
                        go_wp2
                        go_roundw
                        case rel => exact ⟨q + 1, by omega, by go_num, by rw [HR.out]; exact HOWNQ.out, HENQ.out, HAPQ.out, HLYQ.out, HBQ.out⟩
                        case measure => simp [intOf]; omega
                      | false =>
                        have d1 : Op.bytesLess k2.toList key.toList = false := by rw [text_less]; exact hlk
                        have HR : Hid (from_ (es.take (q + 1)) key = F ++ [⟨k2, r2, g2, v2, t2⟩]) := Lib.hid (by rw [HFT.out, if_neg (by rw [hlk]; decide)])
                        have HSN : Hid (ecs (acc ++ (F ++ [⟨k2, r2, g2, v2, t2⟩])) = ecs (acc ++ F) ++ E.cells ⟨k2, r2, g2, v2, t2⟩) := Lib.hid (by rw [← List.append_assoc]; exact ecs_snoc _ _)
                        obtain ⟨Y, hY⟩ : ∃ Y, ecs (acc ++ F) = Y := ⟨_, rfl⟩
                        rw [hY] at HOWNQ HSN
                        obtain ⟨N, hN⟩ : ∃ N, acc.length + F.length = N := ⟨_, rfl⟩
                        rw [hN] at HOWNQ HAPQ ⊢
                        have HNn := Lib.hid hN
                        have hNb : N ≤ 65535 * 4096 + 4096 := by have := HAC.out; have := HFL.out; have := HN4.out; omega
                        clear hY hN
                        go_wp2_with (at_builtin; refine wpList_append_own_at _ rfl _ _ 24 rfl B 56 i0 _ 5 56 Tryz.underlying24 hi hz0 hz1 hz2 rfl (by decide) _ _ _ rfl (own_below HOWNQ.out ((Below.refl _ _).alloc (Nat.le_refl _) _)) ⟨wr.heap.size, 0, none⟩ 1 1 (E.cells ⟨k2, r2, g2, v2, t2⟩) rfl ?c1 ?c2 ?c3 ?c4 ?c5 ?c6 ?_)
                        case c1 => rfl
                        case c2 =>
                          refine World.news_of_block (cs := (E.cells ⟨k2, r2, g2, v2, t2⟩).toArray) (t := 56) (fr := (0, 0)) ?_
                          exact heap_alloc_new wr _
                        case c3 => simp [E.cells, Value.oneCell']
                        case c4 => unfold maxLen; omega
                        case c5 => omega
                        case c6 => have := HSZ.out; simp; omega
                        intro v' w6 hown6 hgrow6 hnil6 hblk6
                        have hob : ∀ g, (Value.slice V2 N vc2).ownBlock = some g → B ≤ g := fun g hg => (HOWNQ.out.lt g hg).1
                        have HR6 : Hid (w6.ownsRow B 56 5 v' (acc.length + (from_ (es.take (q + 1)) key).length) (ecs (acc ++ from_ (es.take (q + 1)) key))) := Lib.hid (by rw [HR.out, HSN.out, show acc.length + (F ++ [(⟨k2, r2, g2, v2, t2⟩ : E)]).length = N + 1 by simp; have := HNn.out; omega]; exact hown6)
                        have HE6 : Hid (EntsIn w6 (some ⟨bb, off, none⟩) es) := Lib.hid (ents_grown (HENQ.out.below ((Below.refl _ _).alloc (Nat.le_refl _) _)) hgrow6 (fun y hy he => HAPQ.out y he.symm (by simp [fb] at hy; exact hy.symm)))
                        have HA6 : Hid (∀ g, v'.ownBlock = some g → bb ≠ g) := Lib.hid (fun g hg => by
                          rcases hblk6 with h6 | h6
                          · exact HAPQ.out g (h6.symm.trans hg)
                          · have := HLYQ.out
                            rw [h6] at hg
                            simp at hg
                            omega)
                        have HL6 : Hid (bb < w6.heap.size) := Lib.hid (by have := HLYQ.out; have := hgrow6.size; simp at *; omega)
                        have HB6 : Hid (Below B w w6) := Lib.hid ⟨hgrow6.os.trans HBQ.out.os, hgrow6.tape.trans HBQ.out.tape, hgrow6.output.trans HBQ.out.output, by have := hgrow6.size; have := HBQ.out.size; simp at *; omega, fun z hz =>
                          (hgrow6.block z (by have := HSZ.out; simp; omega) (by intro he; have := hob z he.symm; omega)).trans ((Below.heap_alloc _ _ _ (by have := HSZ.out; omega)).trans (HBQ.out.block z hz))⟩
                        clear hown6 hgrow6 hnil6 hblk6 hob
                        go_wp2
                        go_roundw
                        case rel => exact ⟨q + 1, by omega, by go_num, HR6.out, HE6.out, HA6.out, HL6.out, HB6.out⟩
                        case measure => simp [intOf]; omega
                    · obtain rfl : q = n := by omega
                      have htk : es.take q = es := List.take_of_length_le (by rw [HN.out]; exact Nat.le_refl _)
                      have i2' : decide ((q : Int) < (q : Int)) = false := decide_eq_false (by omega)
                      rw [htk] at hown ⊢
                      have HOWNQ := Lib.hid hown
                      have HENQ := Lib.hid hen
                      have HBQ := Lib.hid hb
                      have HWF2 : Hid (∀ y ∈ acc ++ from_ es key, y.wf) := Lib.hid fun y hy => by
                        rcases List.mem_append.1 hy with h | h
                        · exact HWF.out y h
                        · exact (HFI2.out y (from_mem h)).1
                      have HAC2 : Hid ((acc ++ from_ es key).length ≤ (k + 1) * 4096) := Lib.hid (by rw [List.length_append]; have := from_len es key; have := HAC.out; have := HN4.out; have := HN.out; omega)
                      clear hown hen hap hly hb htk
                      go_wp2
                      go_roundw
                      case rel => exact ⟨k + 1, acc ++ from_ es key, es, some ⟨bb, off, none⟩, c2, by omega, by go_num, HX4.out, by rw [List.length_append]; exact HOWNQ.out, by rw [HN.out], HENQ.out, HFI2.out, by rw [HN.out]; exact HN4.out, HWF2.out, HAC2.out, HBQ.out⟩
                      case measure => simp [intOf]; omega
            · have dk : (ky.toList == La.toList) = false := by rw [text_eq]; exact decide_eq_false hkl
              have hF : X = .error 4 := by rw [HX2.out, if_pos (Or.inr (by rw [HLK.out]; exact hkl))]
              clear HX0 HX2
              subst hF
              go_wp2_with fail
              go_quiet (fail)
              go_wp2
              go_ret2
              exact ⟨below_drewN HB3.out _, rfl⟩
    · have hkn : k = ns := by omega
      subst hkn
      have d0 : decide ((k : Int) < (k : Int)) = false := decide_eq_false (by omega)
      have d0' : decide (k < k) = false := decide_eq_false (by omega)
      have hF : X = .ok acc := by rw [HX.out, List.drop_eq_nil_of_le (by rw [HNS.out]; exact Nat.le_refl _)]; rfl
      obtain ⟨V', vc', hsl, hres, hfb, hvc⟩ := own_ents HWF.out rfl HOWN.out
      obtain ⟨rfl, rfl⟩ : V' = V ∧ vc' = vc := by simp only [Value.slice.injEq] at hsl; exact ⟨hsl.1.symm, hsl.2.2.symm⟩
      have HRES := Lib.hid hres
      clear HX HX0 hsl hres hfb hvc
      subst hF
      go_wp2
      go_ret2
      first | exact ⟨HB.out, V', vc', rfl, HRES.out⟩ | exact ⟨HB.out, V', ⟨vc', rfl⟩, HRES.out⟩
end Go.Proofs.YtnglaolbfpdgoaaGreat

