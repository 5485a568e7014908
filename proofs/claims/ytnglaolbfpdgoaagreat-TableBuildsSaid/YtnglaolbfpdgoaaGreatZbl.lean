/- Texts joined by bundle.py: Tk, Tl, To, Ts. -/
import Derived.Test.YtnglaolbfpdgoaaGreatZbj
import Derived.Test.YtnglaolbfpdgoaaGreatZbk
import Derived.Maps.AppendAt

/- entries of a table's block. -/
namespace Go.Proofs.YtnglaolbfpdgoaaGreat
open Go.RowKit
open SK
open TB (Bs Sp)

/-- the entries that a reading tells, or a fault -/
def EntsOr (w : World) (r : Except Int (List E)) (e : Ending) (w' : World) : Prop :=
  Below w.heap.size w w' ∧ match r with
    | .ok es => ∃ A c, e = .returned (.slice A es.length c) ∧ EntsIn w' A es ∧ ∀ y ∈ fb A, w.heap.size ≤ y ∧ y < w'.heap.size
    | .error c => e = .panicked (tfault c)

theorem rd_ok {s : Bs} {sp : Sp} {es : List E} (h : TB.rd s sp = .ok es) : es ≠ [] ∧ es.length ≤ 4096 ∧ BK.OkF [] es ∧ BK.lastKey es = sp.last := by
  unfold TB.rd at h
  cases h1 : TB.bodyOf s sp.at_ sp.n with
  | error c => rw [h1] at h; cases h
  | ok b =>
    rw [h1] at h
    simp only [TB.rd1] at h
    cases h2 : BK.getOut b with
    | error c => rw [h2] at h; cases h
    | ok es' =>
      rw [h2] at h
      simp only [TB.rd2] at h
      split at h
      · cases h
      · rename_i hn
        simp only [Except.ok.injEq] at h
        subst h
        have := BK.get_ok h2
        exact ⟨fun he => hn (Or.inl he), this.1, this.2, by simpa using fun he => hn (Or.inr he)⟩
theorem rd_err {s : Bs} {sp : Sp} {c : Int} (h : TB.rd s sp = .error c) : c ≠ 0 := by
  unfold TB.rd at h
  cases h1 : TB.bodyOf s sp.at_ sp.n with
  | error d => rw [h1] at h; simp only [TB.rd1, Except.error.injEq] at h; rw [← h]; exact TB.bodyOf_err h1
  | ok b =>
    rw [h1] at h
    simp only [TB.rd1] at h
    cases h2 : BK.getOut b with
    | error d => rw [h2] at h; simp only [TB.rd2, Except.error.injEq] at h; rw [← h]; exact BK.get_err h2
    | ok es =>
      rw [h2] at h
      simp only [TB.rd2] at h
      split at h
      · simp only [Except.error.injEq] at h; rw [← h]; decide
      · cases h

set_option maxRecDepth 100000 in
set_option maxHeartbeats 4000000 in
theorem tentries_any (t x : Nat) (s : ByteArray) (ss : List Sp) (fl : ByteArray) (j : Nat) (w : World) (h : Tab w t x s ss fl) (hs : s.size ≤ 281474976710656) (hj : j < ss.length) :
    Calls Tryz.prog 79 #[.pointer (some ⟨t, 0, none⟩), .int .i64 (j : Nat)] w fun e w' => EntsOr w (TB.rd s.data.toList ss[j]) e w' := by
  have hlen := h.len
  have hbk := tblock_any t x s ss fl j w h hs (by omega) (by omega)
  have hblk : TB.blk s.data.toList ss (j : Nat) = TB.bodyOf s.data.toList ss[j].at_ ss[j].n := by unfold TB.blk; rw [dif_neg (by omega)]; rfl
  rw [hblk] at hbk
  obtain ⟨X, hX⟩ : ∃ X, TB.rd s.data.toList ss[j] = X := ⟨_, rfl⟩
  have HX0 : Hid (X = TB.rd1 ss[j].last (TB.bodyOf s.data.toList ss[j].at_ ss[j].n)) := Lib.hid (by rw [← hX]; rfl)
  rw [hX]
  obtain ⟨D, hD⟩ : ∃ D, TB.bodyOf s.data.toList ss[j].at_ ss[j].n = D := ⟨_, rfl⟩
  rw [hD] at HX0
  simp only [hD] at hbk
  have HBK := Lib.hid hbk
  have HT := Lib.hid h
  have HJ := Lib.hid hj
  clear hX h hblk hbk
  go_enter Tryz.func79, Tryz.ntmps79
  go_wp2_with fail
  cases D with
  | error c =>
    have hc := TB.bodyOf_err hD
    refine HBK.out.mono ?_
    rintro e w1 ⟨hb, rfl⟩
    go_wp2_with fail
    refine (tleave_bad c _ hc).mono ?_
    rintro e w2 ⟨rfl, rfl⟩
    exact ⟨rfl, hb, by rw [HX0.out]; rfl⟩
  | ok p =>
    have hpl := (TB.bodyOf_ok hD).1
    refine HBK.out.mono ?_
    rintro e w1 ⟨hb, rfl⟩
    have HB1 := Lib.hid hb
    have HT1 := Lib.hid (HT.out.below hb)
    clear HBK hD hb HT
    go_wp2_with fail
    refine (tleave_ok _).mono ?_
    rintro e w2 ⟨rfl, rfl⟩
    go_wp2_with fail
    have HP := parse_any ⟨p.toArray⟩ w1 (by rw [mk_size]; omega)
    rw [mk_list] at HP
    refine HP.mono ?_
    rintro e w2 ⟨A, c, rfl, hen, hfb, hb⟩
    have HB2 := Lib.hid (below_seq HB1.out hb HB1.out.size)
    have HT2 := Lib.hid (HT1.out.below hb)
    have HFB : Hid (∀ y ∈ fb A, w.heap.size ≤ y ∧ y < w2.heap.size) := Lib.hid fun y hy => by have := hfb y hy; have := HB1.out.size; omega
    have HEN := Lib.hid hen
    clear HP hen hfb hb HB1 HT1
    cases h2 : BK.getOut p with
    | error c2 =>
      obtain ⟨e1, e2⟩ := BK.getC_err h2
      have hc := BK.get_err h2
      rw [e1, e2] 
      simp only [TB.rd1, h2] at HX0
      go_wp2_with fail
      refine (tleave_bad c2 _ hc).mono ?_
      rintro e w3 ⟨rfl, rfl⟩
      exact ⟨rfl, HB2.out, by rw [HX0.out]; rfl⟩
    | ok es =>
      obtain ⟨e1, e2⟩ := BK.getC_ok h2
      rw [e2] at HEN
      rw [e1, e2]
      simp only [TB.rd1, h2, TB.rd2] at HX0
      have hgo := BK.get_ok h2
      obtain ⟨n, hn⟩ : ∃ n, es.length = n := ⟨_, rfl⟩
      rw [hn]
      have HN := Lib.hid hn
      have hn4 : n ≤ 4096 := by rw [← hn]; exact hgo.1
      clear e1 e2 h2 hgo hn
      go_wp2_with fail
      refine (tleave_ok _).mono ?_
      rintro e w3 ⟨rfl, rfl⟩
      go_wp2_with fail
      rcases List.eq_nil_or_concat es with hes | ⟨b, y, hes⟩
      · have hz : n = 0 := by rw [← HN.out, hes]; rfl
        have HF : Hid (X = .error 4) := Lib.hid (by rw [HX0.out, if_pos (Or.inl hes)])
        clear HX0 HEN hes HN
        subst hz
        refine wp_region_still_tail 19 (by kernel_rfl) (by kernel_rfl) ?_
        simp only [List.take_succ_cons, List.take_zero, List.drop_succ_cons, List.drop_zero]
        refine still_letter fun W hW => ?_
        iterate 19 (refine hW.out.cons (fun K hK => ?_); go_simp; refine hK _ ?_; clear hK K)
        refine hW.out.nil ?_
        clear hW W
        go_wp2_with fail
        refine (must_bad _).mono ?_
        rintro e w3 ⟨rfl, rfl⟩
        exact ⟨rfl, below_drewN HB2.out 1, by rw [HF.out]⟩
      · simp only [List.concat_eq_append] at hes
        obtain ⟨m, hm⟩ : ∃ m, b.length = m := ⟨_, rfl⟩
        have hne : es ≠ [] := by rw [hes]; simp
        have hnm : n = m + 1 := by rw [← HN.out, hes]; simp [hm]
        have hml : m < es.length := by rw [HN.out]; omega
        have hgy : es[m]'hml = y := by simp only [hes]; rw [List.getElem_append_right (by omega)]; simp [hm]
        obtain ⟨bb, off, rfl, hbl, hc⟩ := HEN.out.at_ (by omega)
        obtain ⟨k0, -⟩ := hc m hml
        rw [hgy] at k0
        obtain ⟨B2, cc, hrow, hin⟩ := HT2.out.row
        obtain ⟨b2, o2, rfl, hbl2, hc2⟩ := hin.at_ (by omega)
        obtain ⟨l0, -⟩ := hc2 j hj
        have c1 : w2.cell? ⟨t, 1, none⟩ = some (.slice (some ⟨b2, o2, none⟩) ss.length cc) := cell_of_row _ _ _ _ _ _ hrow
        have HLK : Hid (BK.lastKey es = y.key) := Lib.hid (by rw [hes]; unfold BK.lastKey; simp)
        obtain ⟨ky, hky⟩ : ∃ ky, y.key = ky := ⟨_, rfl⟩
        rw [hky] at k0 HLK
        obtain ⟨La, hLa⟩ : ∃ La, (ss[j]'hj).last = La := ⟨_, rfl⟩
        rw [hLa] at l0 HX0
        obtain ⟨ns, hns⟩ : ∃ ns, ss.length = ns := ⟨_, rfl⟩
        rw [hns] at c1
        have hwr : IntKind.i64.wrap ((n : Int) - 1) = (m : Int) := by rw [IntWalk.i64_in _ ⟨by omega, by omega⟩]; omega
        have d1 : decide (0 < (n : Int)) = true := decide_eq_true (by omega)
        have d1' : decide (0 < n) = true := decide_eq_true (by omega)
        have g0 : (0 : Int) ≤ (m : Int) := by omega
        have g1 : (m : Int) < (n : Int) := by omega
        have g2 : (0 : Int) ≤ (j : Int) := by omega
        have g3 : (j : Int) < (ns : Int) := by rw [← hns]; have := HJ.out; omega
        have HNE := Lib.hid hne
        clear hes hm hnm hml hgy hbl hc hrow hin hbl2 hc2 hky hLa hns hne hj hlen
        by_cases hkl : ky = La
        · subst hkl
          have dk : (ky.toList == ky.toList) = true := by simp
          have hF : X = .ok es := by rw [HX0.out, if_neg (by rw [HLK.out]; exact fun h => h.elim HNE.out (fun h => h rfl))]
          clear HX0
          subst hF
          refine wp_region_still_tail 19 (by kernel_rfl) (by kernel_rfl) ?_
          simp only [List.take_succ_cons, List.take_zero, List.drop_succ_cons, List.drop_zero]
          refine still_letter fun W hW => ?_
          iterate 19 (refine hW.out.cons (fun K hK => ?_); go_simp; refine hK _ ?_; clear hK K)
          refine hW.out.nil ?_
          clear hW W
          go_wp2_with fail
          refine (must_ok _).mono ?_
          rintro e w3 ⟨rfl, rfl⟩
          go_wp2
          go_ret
          exact ⟨below_drewN HB2.out 1, some ⟨bb, off, none⟩, c, by rw [HN.out]; rfl, ⟨HEN.out.wf, HEN.out.at_⟩, HFB.out⟩
        · have dk : (ky.toList == La.toList) = false := by rw [text_eq]; exact decide_eq_false hkl
          have HF : Hid (X = .error 4) := Lib.hid (by rw [HX0.out, if_pos (Or.inr (by rw [HLK.out]; exact hkl))])
          refine wp_region_still_tail 19 (by kernel_rfl) (by kernel_rfl) ?_
          simp only [List.take_succ_cons, List.take_zero, List.drop_succ_cons, List.drop_zero]
          refine still_letter fun W hW => ?_
          iterate 19 (refine hW.out.cons (fun K hK => ?_); go_simp; refine hK _ ?_; clear hK K)
          refine hW.out.nil ?_
          clear hW W
          go_wp2_with fail
          refine (must_bad _).mono ?_
          rintro e w3 ⟨rfl, rfl⟩
          exact ⟨rfl, below_drewN HB2.out 1, by rw [HF.out]⟩
end Go.Proofs.YtnglaolbfpdgoaaGreat

/- from: the entries of a table from a key on. -/
namespace Go.Proofs.YtnglaolbfpdgoaaGreat
open Go.RowKit
open SK
open TB (Bs Sp)

theorem ents_grown {w w' : World} {A : Option Addr} {l : List E} {r : Option Nat} (h : EntsIn w A l) (hg : w.grownBy w' r) (hr : ∀ x ∈ fb A, some x ≠ r) : EntsIn w' A l :=
  ⟨h.wf, fun hn => by
    obtain ⟨b, off, rfl, hlt, hc⟩ := h.at_ hn
    have hb : w'.heap[b]? = w.heap[b]? := hg.block b hlt (hr b (by simp [fb]))
    have hcell : ∀ o, w'.cell? ⟨b, o, none⟩ = w.cell? ⟨b, o, none⟩ := fun o => by simp only [World.cell?, hb]
    refine ⟨b, off, rfl, Nat.lt_of_lt_of_le hlt hg.size, fun j hj => ?_⟩
    obtain ⟨c0, c1, c2, c3, c4⟩ := hc j hj
    exact ⟨(hcell _).trans c0, (hcell _).trans c1, (hcell _).trans c2, (hcell _).trans c3, (hcell _).trans c4⟩⟩

theorem from_take (l : List E) (k : ByteArray) (q : Nat) (h : q < l.length) : from_ (l.take (q + 1)) k = from_ (l.take q) k ++ (if TB.lt l[q].key k = true then [] else [l[q]]) := by
  unfold from_
  rw [List.take_succ_eq_append_getElem h, List.filter_append]
  congr 1
  simp only [List.filter_cons, List.filter_nil, TB.lt]
  by_cases hb : Go.bytesBefore l[q].key.data.toList k.data.toList = true
  · simp [hb]
  · simp [hb]

theorem from_len (l : List E) (k : ByteArray) : (from_ l k).length ≤ l.length := List.length_filter_le _ _
theorem from_mem {l : List E} {k : ByteArray} {x : E} (h : x ∈ from_ l k) : x ∈ l := (List.mem_filter.1 h).1

theorem fine_of {w : World} {A : Option Addr} {es : List E} (hin : EntsIn w A es) (h : BK.OkF [] es) : Fine es := fun e he =>
  ⟨hin.wf e he, BK.okF_all _ _ h e he⟩

/-- the entries that a reading tells, or a fault -/
def FromOr (w : World) (r : Except Int (List E)) (e : Ending) (w' : World) : Prop :=
  Below w.heap.size w w' ∧ match r with
    | .ok es => ∃ A c, e = .returned (.slice A es.length c) ∧ EntsIn w' A es ∧ (∀ y ∈ fb A, w.heap.size ≤ y ∧ y < w'.heap.size) ∧ es.length ≤ c
    | .error c => e = .panicked (tfault c)

set_option maxRecDepth 100000 in
set_option maxHeartbeats 8000000 in
theorem tfrom_any (t x : Nat) (s : ByteArray) (ss : List Sp) (fl key : ByteArray) (w : World) (h : Tab w t x s ss fl) (hs : s.size ≤ 281474976710656) :
    Calls Tryz.prog 43 #[.pointer (some ⟨t, 0, none⟩), .string key] w fun e w' => FromOr w (TB.allS s.data.toList ss key) e w' := by
  obtain ⟨i0, hi, hz0, hz1, hz2⟩ := info_parts info_ent
  have HWH := Lib.hid (twhich_any t x s ss fl key w h)
  obtain ⟨X, hX⟩ : ∃ X, TB.allS s.data.toList ss key = X := ⟨_, rfl⟩
  have HX0 : Hid (X = TB.fromS s.data.toList key (ss.drop (TB.which ss key)) [] []) := Lib.hid (by rw [← hX]; rfl)
  rw [hX]
  have hlen := h.len
  have hwl := TB.which_le ss key
  generalize TB.which ss key = k0 at HWH HX0 hwl
  have HT := Lib.hid h
  have HE : Hid (∀ W j (hj : j < ss.length), Tab W t x s ss fl → Calls Tryz.prog 79 #[.pointer (some ⟨t, 0, none⟩), .int .i64 (j : Nat)] W fun e w' => EntsOr W (TB.rd s.data.toList ss[j]) e w') := Lib.hid fun W j hj hT => tentries_any t x s ss fl j W hT hs hj
  obtain ⟨ns, hns⟩ : ∃ ns, ss.length = ns := ⟨_, rfl⟩
  have HNS := Lib.hid hns
  rw [hns] at hlen hwl
  obtain ⟨B, hBB⟩ : ∃ B, w.heap.size = B := ⟨_, rfl⟩
  unfold FromOr
  simp only [hBB]
  simp only [hBB] at HWH
  clear hX h hs hns
  go_enter Tryz.func43, Tryz.ntmps43
  go_wp2_with fail
  refine HWH.out.mono ?_
  rintro e w1 ⟨rfl, hb⟩
  have HB1 := Lib.hid hb
  have HT1 := Lib.hid (HT.out.below (by rw [hBB]; exact hb))
  clear hb HWH HT1
  go_wp2_with fail
  go_loopw [5, 6, 7] (fun v u i wr => ∃ (k : Nat) (acc a : List E) (A : Option Addr) (c : Nat), k ≤ ns ∧ i = .int .i64 k ∧ X = TB.fromS s.data.toList key (ss.drop k) a acc ∧ wr.ownsRow B 57 5 v acc.length (ecs acc) ∧ u = .slice A a.length c ∧ EntsIn wr A a ∧ Fine a ∧ a.length ≤ 4096 ∧ (∀ y ∈ acc, y.wf) ∧ acc.length ≤ k * 4096 ∧ Below B w wr) (fun _ _ i _ => ns - (intOf i).toNat)
  case atStart => exact ⟨k0, [], [], none, 0, hwl, rfl, HX0.out, World.ownsRow_nil _ _ _ _, rfl, ⟨by simp, by simp⟩, by simp [Fine], by simp, by simp, by simp, HB1.out⟩
  case round =>
    obtain ⟨k, acc, a, A, c, hk, rfl, hx, hown, rfl, hen, hfi, hal, hwf, hacc, hb⟩ := hrel
    have hT := HT.out.below (w' := wr) (by rw [hBB]; exact hb)
    obtain ⟨A1, cc, hrow, -⟩ := hT.row
    have c1 : wr.cell? ⟨t, 1, none⟩ = some (.slice A1 ss.length cc) := cell_of_row _ _ _ _ _ _ hrow
    rw [HNS.out] at c1
    obtain ⟨V, vc, rfl⟩ := B9.own_slice hown
    have HX := Lib.hid hx
    have HOWN := Lib.hid hown
    have HEN := Lib.hid hen
    have HFI := Lib.hid hfi
    have HWF := Lib.hid hwf
    have HB := Lib.hid hb
    have HAL := Lib.hid hal
    have HAC := Lib.hid hacc
    have HT2 := Lib.hid hT
    obtain ⟨an, han⟩ : ∃ an, a.length = an := ⟨_, rfl⟩
    rw [han]
    have HAN := Lib.hid han
    clear hx hown hen hfi hwf hb hal hacc hT hrow han
    by_cases hlt : k < ns
    · have hks : k < ss.length := by rw [HNS.out]; exact hlt
      have HX1 : Hid (X = match TB.rd s.data.toList ss[k] with | .error c => .error c | .ok es => if TB.fits a es = true then TB.fromS s.data.toList key (ss.drop (k + 1)) es (acc ++ from_ es key) else .error 4) := Lib.hid (by rw [HX.out, List.drop_eq_getElem_cons hks]; rfl)
      have hce := HE.out wr k hks HT2.out
      obtain ⟨D, hD⟩ : ∃ D, TB.rd s.data.toList ss[k] = D := ⟨_, rfl⟩
      rw [hD] at HX1
      simp only [hD] at hce
      have HCE := Lib.hid hce
      clear hce HX
      go_wp2_with fail
      cases D with
      | error c0 =>
        refine HCE.out.mono ?_
        rintro e w2 ⟨hb, rfl⟩
        exact ⟨rfl, below_seq HB.out hb (by have := HB.out.size; omega), by rw [HX1.out]⟩
      | ok es =>
        obtain ⟨hne, hel, hok, -⟩ := rd_ok hD
        refine HCE.out.mono ?_
        rintro e w2 ⟨hb, A2, c2, rfl, hen2, hfb2⟩
        have HB2 := Lib.hid (below_seq HB.out hb (by have := HB.out.size; omega))
        have HOWN2 := Lib.hid (own_below HOWN.out hb)
        have HEN2 := Lib.hid hen2
        have HF2 := Lib.hid (fine_of hen2 hok)
        have HAP : Hid (∀ g, (Value.slice V acc.length vc).ownBlock = some g → ∀ y ∈ fb A2, y ≠ g) := Lib.hid fun g hg y hy => by have := (HOWN.out.lt g hg).2; have := (hfb2 y hy).1; omega
        have HFB2 := Lib.hid hfb2
        have HEL := Lib.hid hel
        have hbh := behind_any A A2 an c es.length c2 a es w2 HAN.out rfl (HEN.out.below hb) hen2 HFI.out (fine_of hen2 hok) hne (by rw [← HAN.out]; exact HAL.out) hel
        have HBH := Lib.hid hbh
        clear hbh hb hen2 hfb2 hne hel hok hD HCE HB HOWN HEN HFI HT2 c1
        go_wp2_with fail
        refine HBH.out.mono ?_
        rintro e w3 ⟨rfl, hb⟩
        have HB3 := Lib.hid (below_seq HB2.out hb (by have := HB2.out.size; omega))
        have HOWN3 := Lib.hid (own_below HOWN2.out hb)
        have HEN3 := Lib.hid (HEN2.out.below hb)
        have HLT3 : Hid (∀ y ∈ fb A2, y < w3.heap.size) := Lib.hid fun y hy => by have := (HFB2.out y hy).2; have := hb.size; omega
        clear hb HBH HB2 HOWN2 HEN2 HFB2
        cases hfit : TB.fits a es with
        | false =>
          have HF : Hid (X = .error 4) := Lib.hid (by rw [HX1.out]; simp only [hfit]; rfl)
          go_wp2_with fail
          refine (must_bad _).mono ?_
          rintro e w4 ⟨rfl, rfl⟩
          exact ⟨rfl, HB3.out, by rw [HF.out]⟩
        | true =>
          have HX2 : Hid (X = TB.fromS s.data.toList key (ss.drop (k + 1)) es (acc ++ from_ es key)) := Lib.hid (by rw [HX1.out]; simp only [hfit, if_true])
          obtain ⟨en, hen'⟩ : ∃ en, es.length = en := ⟨_, rfl⟩
          rw [hen'] at HEL ⊢
          have HNE := Lib.hid hen'
          clear hen' hfit HX1
          go_wp2_with fail
          refine (must_ok _).mono ?_
          rintro e w4 ⟨rfl, rfl⟩
          go_wp2_with fail
          go_loopw [5, 32] (fun v i wq => ∃ q : Nat, q ≤ en ∧ i = .int .i64 q ∧ wq.ownsRow B 57 5 v (acc.length + (from_ (es.take q) key).length) (ecs (acc ++ from_ (es.take q) key)) ∧ EntsIn wq A2 es ∧ (∀ g, v.ownBlock = some g → ∀ y ∈ fb A2, y ≠ g) ∧ (∀ y ∈ fb A2, y < wq.heap.size) ∧ Below B w wq) (fun _ i _ => en - (intOf i).toNat)
          case atStart => exact ⟨0, by omega, rfl, by simpa [from_] using HOWN3.out, HEN3.out, HAP.out, HLT3.out, HB3.out⟩
          case round =>
            obtain ⟨q, hq, rfl, hown, hen, hap, hly, hb⟩ := hrel
            obtain ⟨V2, vc2, rfl⟩ := B9.own_slice hown
            by_cases hql : q < en
            · have hqe : q < es.length := by rw [HNE.out]; exact hql
              obtain ⟨b2, o2, rfl, hbl, hc⟩ := hen.at_ (by omega)
              obtain ⟨z0, z1, z2, z3, z4⟩ := hc q hqe
              have HFT := Lib.hid (from_take es key q hqe)
              have HYW := Lib.hid (hen.wf es[q] (List.getElem_mem hqe))
              obtain ⟨y, hy⟩ : ∃ y, es[q] = y := ⟨_, rfl⟩
              rw [hy] at z0 z1 z2 z3 z4 HFT HYW
              have hel4 : en ≤ 4096 := HEL.out
              generalize hF : from_ (es.take q) key = F at hown hap HFT ⊢
              have HFL : Hid (F.length ≤ q) := Lib.hid (by rw [← hF]; exact Nat.le_trans (from_len _ _) (by rw [List.length_take]; omega))
              have HOWNQ := Lib.hid hown
              have HENQ := Lib.hid hen
              have HAPQ := Lib.hid hap
              have HLYQ := Lib.hid hly
              have HBQ := Lib.hid hb
              clear hown hen hap hly hb hc hbl hy hF
              obtain ⟨k2, r2, g2, v2, t2⟩ := y
              simp only at z0 z1 z2 z3 z4 HFT
              have HSZ : Hid (B ≤ wr.heap.size) := Lib.hid (by have := HBQ.out.size; omega)
              cases hlk : TB.lt k2 key with
              | true =>
                have d1 : Op.bytesLess k2.toList key.toList = true := by rw [text_less]; exact hlk
                have HR : Hid (from_ (es.take (q + 1)) key = F) := Lib.hid (by rw [HFT.out, if_pos hlk, List.append_nil])
                have HBN : Hid (∀ o, Below wr.heap.size wr (wr.alloc o)) := Lib.hid fun o => (Below.refl _ _).alloc (Nat.le_refl _) o
                go_wp2
                go_roundw
                case rel => exact ⟨q + 1, by omega, by go_num, by rw [HR.out]; exact own_below HOWNQ.out (HBN.out _), HENQ.out.below (HBN.out _), HAPQ.out, fun y hy => by have := HLYQ.out y hy; simp; omega, HBQ.out.alloc HSZ.out _⟩
                case measure => simp [intOf]; omega
              | false =>
                have d1 : Op.bytesLess k2.toList key.toList = false := by rw [text_less]; exact hlk
                have HR : Hid (from_ (es.take (q + 1)) key = F ++ [⟨k2, r2, g2, v2, t2⟩]) := Lib.hid (by rw [HFT.out, if_neg (by rw [hlk]; decide)])
                have HSN : Hid (ecs (acc ++ (F ++ [⟨k2, r2, g2, v2, t2⟩])) = ecs (acc ++ F) ++ E.cells ⟨k2, r2, g2, v2, t2⟩) := Lib.hid (by rw [← List.append_assoc]; exact ecs_snoc _ _)
                obtain ⟨Y, hY⟩ : ∃ Y, ecs (acc ++ F) = Y := ⟨_, rfl⟩
                rw [hY] at HOWNQ HSN
                obtain ⟨N, hN⟩ : ∃ N, acc.length + F.length = N := ⟨_, rfl⟩
                rw [hN] at HOWNQ HAPQ ⊢
                have HN := Lib.hid hN
                have hNb : N ≤ 65535 * 4096 + 4096 := by have := HAC.out; have := HFL.out; have := HEL.out; omega
                clear hY hN
                go_wp2_with (at_builtin; refine wpList_append_own_at _ rfl _ _ 23 rfl B 57 i0 _ 5 56 Tryz.underlying23 hi hz0 hz1 hz2 rfl (by decide) _ _ _ rfl (own_below HOWNQ.out (((Below.refl _ _).alloc (Nat.le_refl _) _).alloc (by simp) _)) ⟨wr.heap.size + 1, 0, none⟩ 1 1 (E.cells ⟨k2, r2, g2, v2, t2⟩) rfl ?c1 ?c2 ?c3 ?c4 ?c5 ?c6 ?_)
                case c1 => rfl
                case c2 =>
                  refine World.news_of_block (cs := (E.cells ⟨k2, r2, g2, v2, t2⟩).toArray) (t := 57) (fr := (0, 0)) ?_
                  exact heap_new2 wr _ _
                case c3 => simp [E.cells, Value.oneCell']
                case c4 => unfold maxLen; omega
                case c5 => omega
                case c6 => have := HSZ.out; simp; omega
                intro v' w6 hown6 hgrow6 hnil6 hblk6
                have hob : ∀ g, (Value.slice V2 N vc2).ownBlock = some g → B ≤ g := fun g hg => (HOWNQ.out.lt g hg).1
                have HR6 : Hid (w6.ownsRow B 57 5 v' (acc.length + (from_ (es.take (q + 1)) key).length) (ecs (acc ++ from_ (es.take (q + 1)) key))) := Lib.hid (by rw [HR.out, HSN.out, show acc.length + (F ++ [(⟨k2, r2, g2, v2, t2⟩ : E)]).length = N + 1 by simp; have := HN.out; omega]; exact hown6)
                have HE6 : Hid (EntsIn w6 (some ⟨b2, o2, none⟩) es) := Lib.hid (ents_grown (HENQ.out.below (((Below.refl _ _).alloc (Nat.le_refl _) _).alloc (by simp) _)) hgrow6 (fun y hy he => HAPQ.out y he.symm y hy rfl))
                have HA6 : Hid (∀ g, v'.ownBlock = some g → ∀ y ∈ fb (some ⟨b2, o2, none⟩), y ≠ g) := Lib.hid (fun g hg y hy => by
                  rcases hblk6 with h6 | h6
                  · exact HAPQ.out g (h6.symm.trans hg) y hy
                  · have := HLYQ.out y hy
                    rw [h6] at hg
                    simp at hg
                    omega)
                have HL6 : Hid (∀ y ∈ fb (some ⟨b2, o2, none⟩), y < w6.heap.size) := Lib.hid (fun y hy => by have := HLYQ.out y hy; have := hgrow6.size; simp at *; omega)
                have HB6 : Hid (Below B w w6) := Lib.hid ⟨hgrow6.os.trans HBQ.out.os, hgrow6.tape.trans HBQ.out.tape, hgrow6.output.trans HBQ.out.output, by have := hgrow6.size; have := HBQ.out.size; simp at *; omega, fun z hz =>
                  (hgrow6.block z (by have := HSZ.out; simp; omega) (by intro he; have := hob z he.symm; omega)).trans ((Below.heap_alloc _ _ _ (by have := HSZ.out; simp; omega)).trans ((Below.heap_alloc _ _ _ (by have := HSZ.out; omega)).trans (HBQ.out.block z hz)))⟩
                clear hown6 hgrow6 hnil6 hblk6 hob
                go_wp2
                go_roundw
                case rel => exact ⟨q + 1, by omega, by go_num, HR6.out, HE6.out, HA6.out, HL6.out, HB6.out⟩
                case measure => simp [intOf]; omega
            · obtain rfl : q = en := by omega
              have htk : es.take q = es := List.take_of_length_le (by rw [HNE.out]; exact Nat.le_refl _)
              rw [htk] at hown ⊢
              have HOWNQ := Lib.hid hown
              have HENQ := Lib.hid hen
              have HBQ := Lib.hid hb
              have HWF2 : Hid (∀ y ∈ acc ++ from_ es key, y.wf) := Lib.hid fun y hy => by
                rcases List.mem_append.1 hy with h | h
                · exact HWF.out y h
                · exact (HF2.out y (from_mem h)).1
              have HAC2 : Hid ((acc ++ from_ es key).length ≤ (k + 1) * 4096) := Lib.hid (by rw [List.length_append]; have := from_len es key; have := HAC.out; have := HEL.out; have := HNE.out; omega)
              clear hown hen hap hly hb htk
              go_wp2
              go_roundw
              case rel => exact ⟨k + 1, acc ++ from_ es key, es, A2, c2, by omega, by go_num, HX2.out, by rw [List.length_append]; exact HOWNQ.out, by rw [HNE.out], HENQ.out, HF2.out, by rw [HNE.out]; exact HEL.out, HWF2.out, HAC2.out, HBQ.out⟩
              case measure => simp [intOf]; omega
    · have hkn : k = ns := by omega
      subst hkn
      have hF : X = .ok acc := by rw [HX.out, List.drop_eq_nil_of_le (by rw [HNS.out]; exact Nat.le_refl _)]; rfl
      obtain ⟨V', vc', hsl, hres, hfb, hvc⟩ := own_ents HWF.out rfl HOWN.out
      obtain ⟨rfl, rfl⟩ : V' = V ∧ vc' = vc := by simp only [Value.slice.injEq] at hsl; exact ⟨hsl.1.symm, hsl.2.2.symm⟩
      have HRES := Lib.hid hres
      have HFB := Lib.hid hfb
      have HVC := Lib.hid hvc
      clear HX HX0 hsl hres hfb hvc
      subst hF
      go_wp2
      go_ret
      exact ⟨HB.out, V', vc', rfl, HRES.out, HFB.out, HVC.out⟩
end Go.Proofs.YtnglaolbfpdgoaaGreat

/- All, Spans of a table. -/
namespace Go.Proofs.YtnglaolbfpdgoaaGreat
open Go.RowKit
open SK
open TB (Bs Sp)

def AllIn (w : World) (b : Nat) (r : Except Int (List E)) (e : Ending) (w' : World) : Prop :=
  w.grownBy w' (some b) ∧ match r with
    | .ok es => e = .returned (.tuple #[]) ∧ ∃ A c, w'.heap[b]? = some (.cells #[.slice A es.length c] 23 (0, 0)) ∧ EntsIn w' A es ∧ es.length ≤ c
    | .error c => e = .panicked (tfault c) ∧ w'.heap[b]? = w.heap[b]?

set_option maxRecDepth 100000 in
set_option maxHeartbeats 1000000 in
theorem tall1_any (w : World) (a k b t x : Nat) (s : ByteArray) (ss : List Sp) (fl key : ByteArray) (h : Tab w t x s ss fl) (hs : s.size ≤ 281474976710656)
    (ha : w.heap[a]? = some (.cells #[.pointer (some ⟨t, 0, none⟩)] 35 (0, 0))) (hk : w.heap[k]? = some (.cells #[.string key] 9 (0, 0))) (hb : w.heap[b]? = some (.cells #[.slice none 0 0] 23 (0, 0))) :
    Calls Tryz.prog 42 #[.pointer (some ⟨a, 0, none⟩), .pointer (some ⟨k, 0, none⟩), .pointer (some ⟨b, 0, none⟩)] w fun e w' => AllIn w b (TB.allS s.data.toList ss key) e w' := by
  have ca : w.cell? ⟨a, 0, none⟩ = some (.pointer (some ⟨t, 0, none⟩)) := cell_of_row _ _ _ _ _ _ ha
  have ck : w.cell? ⟨k, 0, none⟩ = some (.string key) := cell_of_row _ _ _ _ _ _ hk
  have HF := Lib.hid (tfrom_any t x s ss fl key w h hs)
  have HB := Lib.hid hb
  have HBL := Lib.hid (Array.getElem?_eq_some_iff.1 hb).1
  generalize TB.allS s.data.toList ss key = X at HF ⊢
  clear h hs ha hk hb
  go_enter Tryz.func42, Tryz.ntmps42
  go_wp2_with fail
  refine HF.out.mono ?_
  rintro e w1 ⟨hb, hx⟩
  cases X with
  | error c =>
    simp only at hx
    subst hx
    exact ⟨rfl, grown_below hb, rfl, hb.block b HBL.out⟩
  | ok es =>
    simp only at hx
    obtain ⟨A, c, rfl, hen, hfb, hvc⟩ := hx
    have hrow1 := (hb.block b HBL.out).trans HB.out
    have cb : w1.cell? ⟨b, 0, none⟩ = some (.slice none 0 0) := cell_of_row _ _ _ _ _ _ hrow1
    have fb' : w1.frozen? ⟨b, 0, none⟩ = false := frozen_of_row _ _ _ _ _ hrow1
    have HRES : Hid (AllIn w b (.ok es) (.returned (.tuple #[])) (w1.setCell ⟨b, 0, none⟩ (.slice A es.length c))) := Lib.hid ⟨grown_set (grown_below hb) 0 _, rfl, A, c, heap_set_fr hrow1 0 _,
      ents_grown hen (grownBy_setCell _ _ _) (fun y hy => by have := (hfb y hy).1; have := HBL.out; simp; omega), hvc⟩
    clear hb hrow1 hen hfb HF
    go_wp2
    go_end0
    exact HRES.out

/-- what All comes to -/
def AllOut (w : World) (r : Except Int (List E)) (e : Ending) (w' : World) : Prop :=
  Below w.heap.size w w' ∧ match r with
    | .ok es => ∃ A c, e = .returned (.tuple #[.slice A es.length c, .int .i64 0]) ∧ EntsIn w' A es ∧ es.length ≤ c
    | .error c => e = .returned (.tuple #[.slice none 0 0, .int .i64 c])

theorem tall_nil (key : ByteArray) (w : World) :
    Calls Tryz.prog 18 #[.pointer none, .string key] w fun e w' => e = .returned (.tuple #[.slice none 0 0, .int .i64 1]) ∧ Below w.heap.size w w' := by
  have HB := Lib.hid (((Below.refl _ w).alloc (Nat.le_refl _) (.cells #[.pointer none] 35)).alloc (by simp) (.cells #[.string key] 9))
  go_enter Tryz.func18, Tryz.ntmps18
  go_wp2
  go_ret2
  exact ⟨rfl, HB.out⟩

set_option maxRecDepth 100000 in
set_option maxHeartbeats 2000000 in
theorem tall_any (t x : Nat) (s : ByteArray) (ss : List Sp) (fl key : ByteArray) (w : World) (h : Tab w t x s ss fl) (hs : s.size ≤ 281474976710656) :
    Calls Tryz.prog 18 #[.pointer (some ⟨t, 0, none⟩), .string key] w fun e w' => AllOut w (TB.allS s.data.toList ss key) e w' := by
  have hmf : ∀ (fn : Fn) (first cap : Array Value) (w : World), (Instr.makeFunc fn first cap).run Tryz.prog w = .ok (.func fn first cap) w := fun _ _ _ _ => rfl
  obtain ⟨a, haa⟩ : ∃ a, w.heap.size = a := ⟨_, rfl⟩
  obtain ⟨r0, r1, r2⟩ := heap_new3 w (.cells #[.pointer (some ⟨t, 0, none⟩)] 35) (.cells #[.string key] 9) (.cells #[.slice none 0 0] 23)
  rw [haa] at r0 r1 r2
  have hB : Below a w (((w.alloc (.cells #[.pointer (some ⟨t, 0, none⟩)] 35)).alloc (.cells #[.string key] 9)).alloc (.cells #[.slice none 0 0] 23)) := ((((Below.refl _ w).alloc (by omega) _).alloc (by simp; omega) _).alloc (by simp; omega) _)
  have hS : (((w.alloc (.cells #[.pointer (some ⟨t, 0, none⟩)] 35)).alloc (.cells #[.string key] 9)).alloc (.cells #[.slice none 0 0] 23)).heap.size = a + 3 := by simp; omega
  have hT : Tab (((w.alloc (.cells #[.pointer (some ⟨t, 0, none⟩)] 35)).alloc (.cells #[.string key] 9)).alloc (.cells #[.slice none 0 0] 23)) t x s ss fl := h.below (by rw [haa]; exact hB)
  obtain ⟨X, hX⟩ : ∃ X, TB.allS s.data.toList ss key = X := ⟨_, rfl⟩
  have HXX := Lib.hid hX
  rw [hX]
  clear hX
  unfold AllOut
  simp only [haa]
  go_enter Tryz.func18, Tryz.ntmps18
  go_wp2_with fail
  generalize ((w.alloc (.cells #[.pointer (some ⟨t, 0, none⟩)] 35)).alloc (.cells #[.string key] 9)).alloc (.cells #[.slice none 0 0] 23) = w2 at r0 r1 r2 hB hS hT ⊢
  have hal : ∀ k, k < a + 3 → (w2.alloc (.cells #[.int .i64 0] 27)).heap[k]? = w2.heap[k]? := fun k hk => Below.heap_alloc _ _ _ (by omega)
  have HC := tall1_any (w2.alloc (.cells #[.int .i64 0] 27)) a (a + 1) (a + 2) t x s ss fl key (hT.below ((Below.refl _ _).alloc (Nat.le_refl _) _)) hs ((hal a (by omega)).trans r0) ((hal (a + 1) (by omega)).trans r1) ((hal (a + 2) (by omega)).trans r2)
  have hcf : ∀ W, (callFunc 42 #[.pointer (some ⟨a, 0, none⟩), .pointer (some ⟨a + 1, 0, none⟩), .pointer (some ⟨a + 2, 0, none⟩)]).run Tryz.prog W = .ok (.enter 42 #[.pointer (some ⟨a, 0, none⟩), .pointer (some ⟨a + 1, 0, none⟩), .pointer (some ⟨a + 2, 0, none⟩)]) W := fun W => cf_any (fn := Tryz.f42) (by kernel_rfl) (by kernel_rfl) (by kernel_rfl) _ W
  have HBW := Lib.hid hB
  have HS2 := Lib.hid hS
  have HAL2 : Hid ((w2.alloc (.cells #[.int .i64 0] 27)).heap[a + 2]? = some (.cells #[.slice none 0 0] 23 (0, 0))) := Lib.hid ((hal (a + 2) (by omega)).trans r2)
  rw [HXX.out] at HC
  have HHC := Lib.hid HC
  have HCF := Lib.hid hcf
  clear r0 r1 r2 hB hS hT hal HC hcf h
  clear HXX
  cases X with
  | error c =>
    refine (tcaught_bad w2 42 _ c (fun w' => Below a w w' ∧ w'.heap[a + 2]? = some (.cells #[.slice none 0 0] 23 (0, 0))) HCF.out (HHC.out.mono ?_)).mono ?_
    · rintro e w' ⟨hg, rfl, hrb⟩
      refine ⟨rfl, noErr_grown hg (by have := HS2.out; omega), ?_, ?_⟩
      · refine below_via (y := w2.heap.size) (w1 := w') ?_ (grownBy_setCell _ _ _) (by have := hg.size; simp at this; have := HS2.out; omega) (by have := HS2.out; omega)
        exact below_via (y := a + 2) (HBW.out.alloc (by have := HS2.out; omega) _) hg (by have := HS2.out; simp; omega) (by omega)
      · exact (Below.heap_setCell _ _ _ _ (by have := HS2.out; simp; omega)).trans (hrb.trans HAL2.out)
    · rintro e w4 ⟨rfl, hB, hr⟩
      have c2 : w4.cell? ⟨a + 2, 0, none⟩ = some (.slice none 0 0) := cell_of_row _ _ _ _ _ _ hr
      have c2' : w4.cell? ⟨a + 1 + 1, 0, none⟩ = some (.slice none 0 0) := c2
      have HB := Lib.hid hB
      clear hB HHC hr
      go_wp2
      go_ret2
      exact ⟨HB.out, rfl⟩
  | ok es =>
    refine (tcaught_ok w2 42 _ (fun w' => Below a w w' ∧ ∃ A c, w'.heap[a + 2]? = some (.cells #[.slice A es.length c] 23 (0, 0)) ∧ EntsIn w' A es ∧ es.length ≤ c) HCF.out (HHC.out.mono ?_)).mono ?_
    · rintro e w' ⟨hg, rfl, hrb⟩
      exact ⟨rfl, noErr_grown hg (by have := HS2.out; omega), below_via (y := a + 2) (HBW.out.alloc (by have := HS2.out; omega) _) hg (by have := HS2.out; simp; omega) (by omega), hrb⟩
    · rintro e w4 ⟨rfl, hB, A, c, hr, hen, hvc⟩
      have c2 : w4.cell? ⟨a + 2, 0, none⟩ = some (.slice A es.length c) := cell_of_row _ _ _ _ _ _ hr
      have c2' : w4.cell? ⟨a + 1 + 1, 0, none⟩ = some (.slice A es.length c) := c2
      have HB := Lib.hid hB
      have HEN := Lib.hid hen
      have HVC := Lib.hid hvc
      clear hB HHC hr hen hvc
      go_wp2
      go_ret2
      exact ⟨HB.out, A, c, rfl, HEN.out, HVC.out⟩
end Go.Proofs.YtnglaolbfpdgoaaGreat

/- Spans of a table. -/
namespace Go.Proofs.YtnglaolbfpdgoaaGreat
open Go.RowKit
open SK
open TB (Bs Sp)
attribute [local go_sem ↓] Go.wp_at_zero Go.wp_at_succ

theorem sps_cell {w : World} {b off : Nat} {ss : List Sp} (h : ∀ j, (h : j < ss.length) → w.cell? ⟨b, off + j * 3, none⟩ = some (.string ss[j].last) ∧ w.cell? ⟨b, off + j * 3 + 1, none⟩ = some (.int .i64 ss[j].at_) ∧ w.cell? ⟨b, off + j * 3 + 2, none⟩ = some (.int .i64 ss[j].n))
    (q : Nat) (u : Value) (hq : (scs ss)[q]? = some u) : w.cell? ((⟨b, off, none⟩ : Addr).add q) = some u := by
  have hl : q < (scs ss).length := by
    cases Nat.lt_or_ge q (scs ss).length with
    | inl h => exact h
    | inr h => rw [List.getElem?_eq_none h] at hq; cases hq
  rw [scs_len] at hl
  have hj : q / 3 < ss.length := by omega
  have hdm : q / 3 * 3 + q % 3 = q := by omega
  have hat := scs_at ss (q / 3) hj (q % 3) (by omega)
  rw [hdm, hq] at hat
  obtain ⟨c0, c1, c2⟩ := h (q / 3) hj
  rw [add_off]
  have hr : q % 3 = 0 ∨ q % 3 = 1 ∨ q % 3 = 2 := by omega
  rcases hr with hr | hr | hr
  · rw [hr] at hat hdm
    rw [show off + q = off + q / 3 * 3 by omega, c0]
    simp [TB.Sp.cells] at hat
    rw [hat]
  · rw [hr] at hat hdm
    rw [show off + q = off + q / 3 * 3 + 1 by omega, c1]
    simp [TB.Sp.cells] at hat
    rw [hat]
  · rw [hr] at hat hdm
    rw [show off + q = off + q / 3 * 3 + 2 by omega, c2]
    simp [TB.Sp.cells] at hat
    rw [hat]

theorem news_sps {w : World} {ad : Addr} {ss : List Sp} (hin : SpsIn w (some ad) ss) : ∀ j u, (scs ss)[j]? = some u → w.cell? (ad.add j) = some u := by
  intro j u hj
  cases ss with
  | nil => cases hj
  | cons y r =>
    obtain ⟨b, off, hA, -, hc⟩ := hin.at_ (by simp)
    injection hA with hA
    subst hA
    exact sps_cell hc j u hj
theorem scs_one (l : List Sp) : ∀ u ∈ scs l, u.oneCell' = true := by
  intro u hu
  obtain ⟨y, -, hy⟩ := List.mem_flatMap.1 hu
  simp only [TB.Sp.cells, List.mem_cons, List.not_mem_nil, or_false] at hy
  rcases hy with rfl | rfl | rfl <;> rfl
theorem own_empty (w : World) : (w.alloc (.cells #[] 81)).ownsRow w.heap.size 81 3 (.slice (some ⟨w.heap.size, 0, none⟩) 0 0) 0 [] :=
  ⟨by simp, .inr ⟨w.heap.size, 0, #[], rfl, Nat.le_refl _, heap_alloc_new w _, by simp, by simp, by simp, by simp⟩⟩

theorem spans_eql (W : World) (A : Option Addr) (n c : Nat) : (binOp .eql 75 (.slice A n c) (.slice none 0 0)).run Tryz.prog W = .ok (.bool A.isNone) W := by
  have h : ∀ d : Nat, (Op.equalIn (d + 1) 75 (.slice A n c) (.slice none 0 0)).run Tryz.prog W = .ok A.isNone W := fun d => by
    cases A <;> simp [Op.equalIn, run_underlying Tryz.underlying75]
  simp only [binOp]
  simp [Op.equal, Op.maxDepth, h 9999]

set_option maxRecDepth 100000 in
set_option maxHeartbeats 1000000 in
theorem sclone_any (A : Option Addr) (n c : Nat) (ss : List Sp) (w : World) (hn : ss.length = n) (hb : n ≤ 65535) (hin : SpsIn w A ss) :
    Calls Tryz.prog 65 #[.slice A n c] w fun e w' => ∃ v, e = .returned v ∧ w'.ownsRow w.heap.size 81 3 v n (scs ss) ∧ Below w.heap.size w w' := by
  obtain ⟨i0, hi, hz0, hz1, hz2⟩ := info_parts info_span
  cases A with
  | none =>
    have h0 : n = 0 := by
      cases Nat.eq_zero_or_pos n with
      | inl h => exact h
      | inr h => obtain ⟨b, off, hA, -⟩ := hin.at_ (by omega); cases hA
    subst h0
    have hs0 : ss = [] := List.length_eq_zero_iff.1 hn
    subst hs0
    have hnn : ∀ W, (binOp .eql 75 (.slice none 0 c) (.slice none 0 0)).run Tryz.prog W = .ok (.bool true) W := fun W => spans_eql W none 0 c
    go_enter Tryz.func65, Tryz.ntmps65
    go_wp2
    go_ret
    exact ⟨_, rfl, World.ownsRow_nil _ _ _ _, Below.refl _ _⟩
  | some ad =>
    have hnn : ∀ W, (binOp .eql 75 (.slice (some ad) n c) (.slice none 0 0)).run Tryz.prog W = .ok (.bool false) W := fun W => spans_eql W (some ad) n c
    go_enter Tryz.func65, Tryz.ntmps65
    have HIN := Lib.hid (news_sps hin)
    have HN := Lib.hid hn
    have HLT : Hid (∀ j u, (scs ss)[j]? = some u → (w.alloc (.cells #[] 81)).cell? (ad.add j) = some u) := Lib.hid (news_sps (hin.below ((Below.refl _ w).alloc (Nat.le_refl _) _)))
    clear hin hn
    go_wp2_with (at_builtin; refine wpList_append_own _ rfl _ _ 75 rfl w.heap.size 81 i0 _ 3 32 Tryz.underlying75 hi hz0 hz1 hz2 rfl (by decide) _ 0 [] rfl (own_empty w) ad n c (scs ss) rfl ?c1 ?c2 ?c3 ?c4 ?c5 ?c6 ?_)
    case c1 => rw [scs_len, HN.out]
    case c2 => exact HLT.out
    case c3 => exact scs_one ss
    case c4 => unfold maxLen; omega
    case c5 => omega
    case c6 => simp
    intro v' w6 hown6 hgrow6 hnil6
    have HB : Hid (Below w.heap.size w w6) := Lib.hid ⟨hgrow6.os, hgrow6.tape, hgrow6.output, by have := hgrow6.size; simp at this; omega, fun z hz => (hgrow6.block z (by simp; omega) (by simp [Value.ownBlock]; omega)).trans (Below.heap_alloc _ _ _ hz)⟩
    have HO : Hid (w6.ownsRow w.heap.size 81 3 v' n (scs ss)) := Lib.hid hown6
    clear hown6 hgrow6 hnil6
    go_wp2
    go_ret
    exact ⟨_, rfl, HO.out, HB.out⟩

set_option maxRecDepth 100000 in
set_option maxHeartbeats 2000000 in
theorem tspansof_any (t x : Nat) (s : ByteArray) (ss : List Sp) (fl : ByteArray) (w : World) (h : Tab w t x s ss fl) :
    Calls Tryz.prog 31 #[.pointer (some ⟨t, 0, none⟩)] w fun e w' => ∃ A c, e = .returned (.slice A ss.length c) ∧ SpsIn w' A ss ∧ Below w.heap.size w w' := by
  obtain ⟨A, c, hrow, hin⟩ := h.row
  have c1 : w.cell? ⟨t, 1, none⟩ = some (.slice A ss.length c) := cell_of_row _ _ _ _ _ _ hrow
  have HC := Lib.hid (sclone_any A ss.length c ss w rfl h.len hin)
  have HLEN := Lib.hid h.len
  have HWF := Lib.hid hin.wf
  obtain ⟨n, hn⟩ : ∃ n, ss.length = n := ⟨_, rfl⟩
  rw [hn] at c1 HC HLEN ⊢
  have HN := Lib.hid hn
  have hnb : n ≤ 65535 := HLEN.out
  clear hrow hin h hn
  go_enter Tryz.func31, Tryz.ntmps31
  go_wp2_with fail
  refine HC.out.mono ?_
  rintro e w1 ⟨v, rfl, hown, hb⟩
  obtain ⟨V, vc, rfl⟩ := B9.own_slice hown
  have HOWN := Lib.hid hown
  have HB := Lib.hid hb
  clear hown hb HC c1
  go_wp2_with fail
  go_loopw [14] (fun i wr => ∃ j : Nat, j ≤ n ∧ i = .int .i64 j ∧ wr.ownsRow w.heap.size 81 3 (.slice V n vc) n (scs ss) ∧ Below w.heap.size w wr) (fun i _ => n - (intOf i).toNat)
  case atStart => exact ⟨0, by omega, rfl, HOWN.out, HB.out⟩
  case round =>
    obtain ⟨j, hj, rfl, hown, hb⟩ := hrel
    by_cases hlt : j < n
    · have hjs : j < ss.length := by rw [HN.out]; exact hlt
      obtain ⟨V', vc', hsl, hres, -, -⟩ := own_sps HWF.out HN.out hown
      obtain ⟨rfl, rfl⟩ : V' = V ∧ vc' = vc := by simp only [Value.slice.injEq] at hsl; exact ⟨hsl.1.symm, hsl.2.2.symm⟩
      rcases hown.2 with ⟨-, h0⟩ | ⟨g, cap, cur, hv, hbg, hg, -⟩
      · exact absurd h0 (by omega)
      · simp only [Value.slice.injEq] at hv
        obtain ⟨rfl, -, rfl⟩ := hv
        obtain ⟨b, off, hA, hbl, hc⟩ := hres.at_ (by omega)
        simp only [Option.some.injEq, Addr.mk.injEq] at hA
        obtain ⟨rfl, rfl, -⟩ := hA
        obtain ⟨z0, -⟩ := hc j hjs
        rw [Nat.zero_add] at z0
        have hsz : (ss[j]'hjs).last.size ≤ 65535 := (HWF.out _ (List.getElem_mem hjs)).1
        obtain ⟨La, hLa⟩ : ∃ La, (ss[j]'hjs).last = La := ⟨_, rfl⟩
        rw [hLa] at z0 hsz
        have HOWN2 := Lib.hid hown
        have HB2 := Lib.hid hb
        have HBL := Lib.hid hbl
        have HG := Lib.hid hg
        have HCL := Lib.hid (fun W => clone_any La W (by omega))
        have g0 : (0 : Int) ≤ (j : Int) := by omega
        have g1 : (j : Int) < (n : Int) := by omega
        have HZ := Lib.hid z0
        clear hsl hres hown hb hbg hg hc hbl hLa hsz hjs
        go_wp2_with fail
        refine (HCL.out _).mono ?_
        rintro e w2 ⟨rfl, hb2⟩
        have d0 : w2.cell? ⟨g, j * 3, none⟩ = some (.string La) := (hb2.cell (p := ⟨g, j * 3, none⟩) HBL.out).trans HZ.out
        have f0 : w2.frozen? ⟨g, j * 3, none⟩ = false := frozen_of_row _ _ _ _ _ ((hb2.block g HBL.out).trans HG.out)
        have HSET : Hid (w2.setCell ⟨g, j * 3, none⟩ (.string La) = w2) := Lib.hid (set_same d0)
        have HO3 := Lib.hid (own_below HOWN2.out hb2)
        have HB3 := Lib.hid (below_seq HB2.out hb2 HB2.out.size)
        clear hb2 z0
        go_wp2
        go_roundw
        case rel => exact ⟨j + 1, by omega, by go_num, by first | exact HO3.out | (rw [HSET.out]; exact HO3.out), by first | exact HB3.out | (rw [HSET.out]; exact HB3.out)⟩
        case measure => simp [intOf]; omega
    · have hjn : j = n := by omega
      subst hjn
      obtain ⟨V', vc', hsl, hres, -, -⟩ := own_sps HWF.out HN.out hown
      obtain ⟨rfl, rfl⟩ : V' = V ∧ vc' = vc := by simp only [Value.slice.injEq] at hsl; exact ⟨hsl.1.symm, hsl.2.2.symm⟩
      have HRES := Lib.hid hres
      have HBB := Lib.hid hb
      clear hsl hres hown hb
      go_wp2
      go_ret
      exact ⟨V', vc', rfl, HRES.out, HBB.out⟩
end Go.Proofs.YtnglaolbfpdgoaaGreat

