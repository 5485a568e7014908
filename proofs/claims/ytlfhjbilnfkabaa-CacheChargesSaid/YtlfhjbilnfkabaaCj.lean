/- forget. -/
import Derived.Test.YtlfhjbilnfkabaaCi
import Derived.Maps.OwnSet
namespace Go.Proofs.Ytlfhjbilnfkabaa
open Go.RowKit Go.Maps
open BM CM

theorem erase_idx {Z : Zs} (hnd : (ads Z).Nodup) {i : Nat} (hi : i < Z.length) : Z.eraseP (fun y => y.1 == Z[i].1) = Z.eraseIdx i := by
  have h1 : Z = Z.take i ++ Z[i] :: Z.drop (i + 1) := by rw [← List.drop_eq_getElem_cons hi, List.take_append_drop]
  have h2 : Z[i].1 ∉ ads (Z.take i) := by
    intro hm
    rw [h1] at hnd
    simp only [ads, List.map_append, List.map_cons, List.nodup_append] at hnd
    exact hnd.2.2 _ hm Z[i].1 (by simp) rfl
  have h3 := erase_here (done := Z.take i) (r := Z.drop (i + 1)) (x := Z[i]) h2
  rw [← h1] at h3
  rw [h3, List.eraseIdx_eq_take_drop_succ]
theorem tot_erase {Z : Zs} {i : Nat} (hi : i < Z.length) : tot Z = cost Z[i].2.data + tot (Z.eraseIdx i) := by
  rw [tot_perm (perm_erase Z i hi), tot_cons]
theorem rel_k1 {s : S} {n : Nat} (h : (n : Int) ≤ s.k1) : (BM.release 1 n s).2.k1 = s.k1 - n := by
  have hb : ¬ bad 1 (n : Int) := by unfold bad known; omega
  have h2 : ¬ (n : Int) > s.of 1 := by simp [S.of]; omega
  unfold BM.release
  rw [if_neg hb, if_neg h2]
  simp [S.put, S.set, S.of]

section
variable {w w' : World} {c z b N : Nat} {Z : Zs} {s : S}
theorem Cor.del (h : Cor w c z b N Z) {i : Nat} (hi : i < Z.length) (ty : TypeId) :
    ∃ w', (Builtin.delete_ #[73, 42] ty #[.map (some z), keyV Z[i].2.file Z[i].2.block]).run Try.prog w = .ok (.tuple #[]) w' ∧ Cor w' c z b N (Z.eraseIdx i) ∧ w.grownBy w' (some z) := by
  obtain ⟨D, hm, h1, h2⟩ := h.map
  have hx := List.getElem_mem hi
  have hwf := h.wf _ hx
  obtain ⟨w1, hrun, hm1, ht⟩ := hm.drop keyLaw Try.underlying73 (key_of hwf.f hwf.b) ty
  have hg := ht.grown
  have hsub : ∀ y ∈ Z.eraseIdx i, y ∈ Z := fun y hy => (List.eraseIdx_sublist Z i).subset hy
  have hne : ∀ y ∈ Z.eraseIdx i, ¬ (y.2.file = Z[i].2.file ∧ y.2.block = Z[i].2.block) := by
    have hp := (perm_erase Z i hi)
    have := (hp.pairwise_iff (fun {x y} hxy e => hxy ⟨e.1.symm, e.2.symm⟩)).1 h.keys
    intro y hy e
    exact (List.pairwise_cons.1 this).1 y hy ⟨e.1.symm, e.2.symm⟩
  obtain ⟨hz1, hz2⟩ := h.zc
  refine ⟨w1, hrun, ⟨?_, fun y hy => ?_, ?_, h.keys.sublist (List.eraseIdx_sublist Z i), fun y hy => h.wf y (hsub y hy), ?_⟩, hg⟩
  · obtain ⟨o, n, hh⟩ := h.head
    exact ⟨o, n, (hg.block c h.lt_c (fun e => hz1 (by cases e; rfl))).trans hh⟩
  · obtain ⟨o, n, hh⟩ := h.blks y (hsub y hy)
    exact ⟨o, n, (hg.block y.1 (h.lt_p (hsub y hy)) (fun e => hz2 (by cases e; exact mem_ads.2 ⟨y, hsub y hy, rfl⟩))).trans hh⟩
  · exact h.nodup.sublist (by rw [ads_erase]; exact List.eraseIdx_sublist _ _)
  · refine ⟨_, hm1, fun y hy => ?_, fun f k hf hk hn => ?_⟩
    · have hy2 := h.wf y (hsub y hy)
      rw [Maps.atKey_del_other (fun e => hne y hy (kl_inj hy2.f hy2.b hwf.f hwf.b e))]
      exact h1 y (hsub y hy)
    · by_cases he : f = Z[i].2.file ∧ k = Z[i].2.block
      · rw [he.1, he.2]; exact Maps.atKey_del_same _
      · rw [Maps.atKey_del_other (fun e => he (kl_inj hf hk hwf.f hwf.b e))]
        refine h2 f k hf hk fun x hx hxe => ?_
        rcases List.mem_cons.1 ((perm_erase Z i hi).mem_iff.1 hx) with rfl | hm
        · exact he ⟨hxe.1.symm, hxe.2.symm⟩
        · exact hn x hm hxe

theorem rep_end {w4 : World} {P : Zs} (h : Cor w4 c z b N P) (hr : Ring w4 c (ads P)) {s1 s : S} {n : Nat} (hb : BAt w4 b 0 s1) (ok : Ok s) (hs1 : s1 = (BM.release 1 n s).2) (hsum : s.k1 = n + tot P) : Rep w4 c z b N P s1 :=
  ⟨h, hr, hb, by rw [hs1]; exact ok_release ok _ _, by rw [hs1, rel_k1 (by omega)]; omega⟩

set_option maxRecDepth 100000 in
set_option maxHeartbeats 4000000 in
theorem forget_any (h : Rep w c z b N Z s) (P : Zs) (hP : ∀ x ∈ P, x ∈ Z) (hnd : (ads P).Nodup) (hpl : P.length ≤ 1000000) (A : Option Addr) (cap B : Nat) (hv : Vals w B A (ptrs P)) (hB : ∀ g, own c z b Z g → g < B) :
    Calls Try.prog 45 #[.pointer (some ⟨c, 0, none⟩), .slice A P.length cap] w fun r w' => r = .returned (.tuple #[]) ∧ Rep w' c z b N (gone Z P) (rels s P) ∧ Only (own c z b Z) w w' := by
  obtain ⟨n, hn⟩ : ∃ n, P.length = n := ⟨_, rfl⟩
  have HN := Lib.hid hn
  have HREP := Lib.hid h
  have HP := Lib.hid hP
  have HND := Lib.hid hnd
  have HV := Lib.hid hv
  have HOB := Lib.hid hB
  rw [hn] at hpl ⊢
  clear h hP hnd hv hB hn
  go_enter Try.func45, Try.ntmps45
  go_wp2_with fail
  go_loopw [8] (fun i wr => ∃ j : Nat, j ≤ n ∧ i = .int .i64 j ∧ Hid (Rep wr c z b N (gone Z (P.take j)) (rels s (P.take j))) ∧ Hid (Only (own c z b Z) w wr)) (fun i _ => n - (intOf i).toNat)
  case atStart => exact ⟨0, by omega, rfl, Lib.hid (by simpa [gone_nil, rels] using HREP.out), Lib.hid (Only.refl w)⟩
  case round =>
    obtain ⟨j, hj, rfl, HR, HO⟩ := hrel
    by_cases hlt : j < n
    · have hjl : j < P.length := by rw [HN.out]; exact hlt
      have htk : P.take (j + 1) = P.take j ++ [P[j]] := List.take_succ_eq_append_getElem hjl
      have hgn : gone Z (P.take (j + 1)) = (gone Z (P.take j)).eraseP fun y => y.1 == P[j].1 := by rw [htk, gone_snoc]
      have hrl : rels s (P.take (j + 1)) = (BM.release 1 (cost P[j].2.data) (rels s (P.take j))).2 := by rw [htk, rels_snoc]
      have hin : P[j] ∈ gone Z (P.take j) := gone_mem (HP.out _ (List.getElem_mem hjl)) (by
        intro hm
        have := HND.out
        rw [← List.take_append_drop j P, List.drop_eq_getElem_cons hjl] at this
        simp only [ads, List.map_append, List.map_cons, List.nodup_append] at this
        exact this.2.2 _ hm P[j].1 (by simp) rfl)
      obtain ⟨g, hA, hBg, hgl, hc⟩ := (HV.out.only HO.out (fun g hg _ ho => by have := HOB.out g ho; omega)) (by
        intro e
        have := congrArg List.length e
        rw [ptrs_len] at this
        simp only [List.length_nil] at this
        omega)
      have cj := hc j (.pointer (some ⟨P[j].1, 0, none⟩)) (by simp [ptrs, hjl])
      obtain ⟨Zk, hZk⟩ : ∃ Zk, gone Z (P.take j) = Zk := ⟨_, rfl⟩
      obtain ⟨sk, hsk⟩ : ∃ sk, rels s (P.take j) = sk := ⟨_, rfl⟩
      rw [hZk] at HR hin hgn
      rw [hsk] at HR hrl
      obtain ⟨i, hi, hxi⟩ := List.getElem_of_mem hin
      rw [← hxi] at cj hgn hrl
      rw [erase_idx HR.out.cor.nodup hi] at hgn
      have hsub : (ads Zk).Sublist (ads Z) := by rw [← hZk]; exact (gone_sub _ _).map _
      have HOW : Hid (∀ g, own c z b Zk g → own c z b Z g) := Lib.hid fun g ho => by
        rcases ho with h | h | h | h
        · exact .inl h
        · exact .inr (.inl h)
        · exact .inr (.inr (.inl h))
        · exact .inr (.inr (.inr (hsub.subset h)))
      subst hA
      have hul := unlink_any HR.out.ring HR.out.cor.apart HR.out.cor.rows0 (i := i) (by rw [ads_len]; exact hi)
      rw [ads_get hi] at hul
      have hwf := HR.out.cor.wf _ (List.getElem_mem hi)
      have HCO := Lib.hid (fun W => cost_any Zk[i].2.data W hwf.d)
      have hnb := HR.out.cor.nb HR.out.bud
      have hten := tot_erase hi
      have hsm := HR.out.sum
      have HK : Hid (sk.k1 = (cost Zk[i].2.data : Nat) + (tot (Zk.eraseIdx i) : Nat) ∧ (cost Zk[i].2.data : Int) ≤ 281474976710656) := Lib.hid ⟨by omega, by unfold cost; have := hwf.d; omega⟩
      have HOK := Lib.hid HR.out.ok
      have HBU := Lib.hid HR.out.bud
      have HC0 := Lib.hid HR.out.cor
      have HNB := Lib.hid hnb
      have HXM : Hid (Zk[i] ∈ Zk) := Lib.hid (List.getElem_mem hi)
      obtain ⟨x, hx⟩ : ∃ x, Zk[i] = x := ⟨_, rfl⟩
      rw [hx] at cj hul HCO HK hrl HXM
      have HX := Lib.hid hx
      obtain ⟨p, hp⟩ : ∃ p, x.1 = p := ⟨_, rfl⟩
      rw [hp] at cj hul
      have HPX := Lib.hid hp
      have HUL := Lib.hid hul
      have HGN := Lib.hid hgn
      have HRL := Lib.hid hrl
      have HAD : Hid ((ads Zk).eraseIdx i = ads (Zk.eraseIdx i)) := Lib.hid (ads_erase _ _).symm
      clear htk hgn hrl hin hc hxi hsub hul hwf hnb hten hsm hx hp hZk hsk
      go_wp2_with fail
      refine HUL.out.mono ?_
      rintro e w3 ⟨rfl, hl3, hr3⟩
      have hc3 := HC0.out.links hl3 (fun q hq => mem_ads.1 hq)
      have hb3 := bat_links HBU.out hl3 HNB.out.1 HNB.out.2.2
      have HO3 : Hid (Only (own c z b Z) w w3) := Lib.hid (HO.out.trans (Only.of_links hl3 (Or.inl rfl) (fun q hq => HOW.out q (Or.inr (Or.inr (Or.inr hq)))) : Only (own c z b Z) wr w3) (fun _ _ h => h))
      have c1 := hc3.c1
      have p0 := hc3.p0 HXM.out
      have p1 := hc3.p1 HXM.out
      rw [HPX.out] at p0 p1
      obtain ⟨w4, hdel, hc4, hg4⟩ := Cor.del (w := w3.drew) (hc3.below ((Below.refl _ _).drew)) hi 0
      rw [HX.out] at hdel
      unfold keyV at hdel
      have HB4 : Hid (BAt w4 b 0 sk) := Lib.hid ((hg4.block b (Array.getElem?_eq_some_iff.1 hb3).1 (fun e => HNB.out.2.1 (by cases e; rfl))).trans hb3)
      have hzc := hc3.zc
      have HR4 : Hid (Ring w4 c (ads (Zk.eraseIdx i))) := Lib.hid (by
        rw [← HAD.out]
        have : Ring w3.drew c ((ads Zk).eraseIdx i) := hr3.below ((Below.refl _ _).drew)
        exact this.kept hg4 (fun e => hzc.1 (by cases e; rfl)) (fun q hq e => hzc.2 (by cases e; exact (List.eraseIdx_sublist _ _).subset hq)))
      have HO4 : Hid (Only (own c z b Z) w w4) := Lib.hid ((HO3.out.trans (Only.of_below ((Below.refl _ _).drew) : Only (own c z b Z) w3 w3.drew) (fun _ _ h => h)).trans (Only.of_grown hg4 (Or.inr (Or.inl rfl)) : Only (own c z b Z) w3.drew w4) (fun _ _ h => h))
      have HC4 := Lib.hid hc4
      have hpz : some p ≠ some z := fun e => hzc.2 (by cases e; exact mem_ads.2 ⟨x, HXM.out, HPX.out⟩)
      have d2 : w4.cell? ⟨p, 2, none⟩ = some (.string x.2.data) := by
        have h2 := hc3.p2 HXM.out
        rw [HPX.out] at h2
        rw [← h2]
        exact World.cell?_of_block (a := ⟨p, 2, none⟩) (hg4.block p (by have := hc3.lt_p HXM.out; rw [HPX.out] at this; exact this) hpz)
      clear hpz hl3 hc3 hb3 hr3 hc4 hg4 hzc HUL
      go_wp2_with fail
      go_region
      have d0 := HC4.out.c0
      have hpb : p ≠ b := fun e => HNB.out.2.2 (by rw [← e]; exact mem_ads.2 ⟨x, HXM.out, HPX.out⟩)
      have hlp : p < w4.heap.size := by obtain ⟨cs, t, fr, hh, -⟩ := cell_some d2; exact (Array.getElem?_eq_some_iff.1 hh).1
      have hlc := HC4.out.lt_c
      have HLP : Hid (p ≠ b ∧ p < w4.heap.size ∧ c < w4.heap.size) := Lib.hid ⟨hpb, hlp, hlc⟩
      clear hpb hlp hlc
      obtain ⟨K, hKK⟩ : ∃ K, cost x.2.data = K := ⟨_, rfl⟩
      rw [hKK] at HCO HK HRL
      obtain ⟨da, hda⟩ : ∃ da, x.2.data = da := ⟨_, rfl⟩
      rw [hda] at HCO d2
      have HRE := Lib.hid (fun (m : Nat) => release_any (w := World.drewN w4 m) (b := b) (s := sk) HB4.out HOK.out 1 (K : Nat) (by have := HK.out; omega))
      have e0 : w4.drew.cell? ⟨c, 0, none⟩ = some (.pointer (some ⟨b, 0, none⟩)) := d0
      have e2 : w4.drew.cell? ⟨p, 2, none⟩ = some (.string da) := d2
      have HRE1 := Lib.hid (release_any (w := w4.drew) (b := b) (s := sk) HB4.out HOK.out 1 (K : Nat) (by have := HK.out; omega))
      clear hKK hda c1 p0 p1 hdel
      go_wp2_with fail
      go_region_held3 (fun w' => w'.cell? ⟨c, 0, none⟩ = some (.pointer (some ⟨b, 0, none⟩)) ∧ w'.cell? ⟨p, 2, none⟩ = some (.string da))
        (first | exact ⟨e0, e2⟩ | exact ⟨d0, d2⟩ | exact ⟨z0, z2⟩ | go_keep | fail)
        (first
          | (go_at_call 14
             refine (HCO.out _).mono ?_
             rintro e w5 ⟨rfl, rfl⟩)
          | (go_at_call 60
             refine HRE1.out.mono ?_
             rintro e w6 ⟨rfl, hb6, hg6⟩
             have z0 : w6.cell? ⟨c, 0, none⟩ = some (.pointer (some ⟨b, 0, none⟩)) := (World.cell?_of_block (a := ⟨c, 0, none⟩) (hg6.block c HLP.out.2.2 (fun e => HNB.out.1 (by cases e; rfl)))).trans e0
             have z2 : w6.cell? ⟨p, 2, none⟩ = some (.string da) := (World.cell?_of_block (a := ⟨p, 2, none⟩) (hg6.block p HLP.out.2.1 (fun e => HLP.out.1 (by cases e; rfl)))).trans e2
             have HB6 := Lib.hid hb6
             have HG6 := Lib.hid hg6
             clear hb6 hg6)
          | fail)
      all_goals
        have hbm := HNB.out
        have hnm : ∀ q ∈ ads (Zk.eraseIdx i), some q ≠ some b := fun q hq e => hbm.2.2 (by cases e; rw [← HAD.out] at hq; exact (List.eraseIdx_sublist _ _).subset hq)
        have hc6 : Cor w6 c z b N (Zk.eraseIdx i) := (HC4.out.below ((Below.refl _ _).drew)).kept HG6.out (fun e => hbm.1 (by cases e; rfl)) (fun e => hbm.2.1 (by cases e; rfl)) hnm
        have hr6 : Ring w6 c (ads (Zk.eraseIdx i)) := (HR4.out.below ((Below.refl _ _).drew)).kept HG6.out (fun e => hbm.1 (by cases e; rfl)) hnm
        have HR6 : Hid (Rep w6 c z b N (gone Z (P.take (j + 1))) (rels s (P.take (j + 1)))) := Lib.hid (by
          rw [HGN.out, HRL.out]
          exact rep_end hc6 hr6 HB6.out HOK.out rfl HK.out.1)
        have HO6 : Hid (Only (own c z b Z) w w6) := Lib.hid ((HO4.out.trans (Only.of_below ((Below.refl _ _).drew) : Only (own c z b Z) w4 w4.drew) (fun _ _ h => h)).trans (Only.of_grown HG6.out (Or.inr (Or.inr (Or.inl rfl))) : Only (own c z b Z) w4.drew w6) (fun _ _ h => h))
        clear hbm hnm hc6 hr6 d0 d2 e0 e2 z0 z2
        go_wp2
        go_roundw
        case rel => exact ⟨j + 1, by omega, by go_num, HR6, HO6⟩
        case measure => simp [intOf]; omega
    · have hjn : j = n := by omega
      have htk : P.take j = P := List.take_of_length_le (by rw [HN.out]; omega)
      rw [htk] at HR
      subst hjn
      clear htk
      go_wp2
      go_end0
      exact ⟨rfl, HR.out, HO.out⟩
end
end Go.Proofs.Ytlfhjbilnfkabaa
