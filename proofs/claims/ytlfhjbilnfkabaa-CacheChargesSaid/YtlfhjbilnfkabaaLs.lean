/- CacheCharges: what is charged is just what the blocks that are kept cost, and never more than may be. For every limit and acts. -/
import Derived.Test.YtlfhjbilnfkabaaDn
namespace Go.Proofs.Ytlfhjbilnfkabaa
open Go.ChangeShapes Go.WideShapes Go.ChangeAt Go.RowKit Go.Maps
open BM CM
namespace lawCharges
set_option maxRecDepth 100000 in
set_option maxHeartbeats 8000000 in
theorem walk (l : Int) (A : Option Addr) (n cap : Nat) (sc : List AC) (w : World) (hlen : sc.length = n) (hin : ActsIn w w.heap.size A sc) (hb : n * 48 ≤ reachBytes) (hcap : n ≤ cap) :
    Calls Try.prog 4 #[.int .i64 l, .slice A n cap] w fun e w' => e = .returned (.bool true) ∧ Below w.heap.size w w' := by
  have hn : n ≤ 9223372036854775807 := by unfold reachBytes at hb; omega
  have HIN := Lib.hid hin
  have HLEN := Lib.hid hlen
  obtain ⟨m, hm⟩ : ∃ m : Nat, min (n : Int) 60 = m := ⟨min n 60, by omega⟩
  have hm1 : m ≤ n ∧ m ≤ 60 := by omega
  have hsl := fun W => slice_head W A n cap m (by omega)
  have HLS := Lib.hid hsl
  clear hin hb hlen hsl
  go_enter Try.func4, Try.ntmps4
  go_wp2_with fail
  refine (new_any l w).mono ?_
  rintro e w1 ⟨rfl, hb1, hbel⟩
  have HNW := Lib.hid (live_new (W := w) hbel hb1 (Nat.le_refl _) (ok_new l) rfl)
  clear hb1 hbel
  obtain ⟨b, hbb⟩ : ∃ b, w.heap.size = b := ⟨_, rfl⟩
  rw [hbb] at HNW ⊢
  have HBB := Lib.hid hbb
  clear hbb
  go_wp2_with fail
  refine HNW.out.mono ?_
  rintro e w2 ⟨c, z, rfl, hl2, -, -, -⟩
  have HL2 := Lib.hid hl2
  clear hl2 HNW
  go_wp2_with fail
  refine (rnew_any l w2).mono ?_
  rintro e w3 ⟨rfl, hr3, hb3⟩
  obtain ⟨rb, hrb⟩ : ∃ rb, w2.heap.size = rb := ⟨_, rfl⟩
  have hl3 := HL2.out.still hb3
  have hal := (Below.refl w3.heap.size w3).alloc (Nat.le_refl _) (.cells #[.slice none 0 0, .pointer (some ⟨rb, 0, none⟩)] 32)
  have hrow := heap_alloc_new w3 (.cells #[.slice none 0 0, .pointer (some ⟨rb, 0, none⟩)] 32)
  have hD : Duo w (w3.alloc (.cells #[.slice none 0 0, .pointer (some ⟨rb, 0, none⟩)] 32)) c z b 0 [] (new l) w3.heap.size rb none 0 (bl []) (new l) := by
    have hrl : rb < w3.heap.size := by
      rw [hrb] at hr3
      exact (Array.getElem?_eq_some_iff.1 hr3).1
    have hw2 := HL2.out.below.size
    have hown := HL2.out.rep.own_lt
    refine ⟨hl3.still hal, ⟨hrow, World.ownsRow_nil _ _ _ _, ?_⟩, ?_, ?_, ⟨ok_new l, rfl, by simp [bl], by simp [bl]⟩⟩
    · rw [hrb] at hr3
      exact (hal.block rb hrl).trans hr3
    · rintro g (rfl | rfl | hg)
      · have := hb3.size; omega
      · omega
      · simp [fb] at hg
    · rintro g (rfl | rfl | hg) ho
      · have := hown _ ho; have := hb3.size; omega
      · have := hown _ ho; omega
      · simp [fb] at hg
  have HD := Lib.hid hD
  rw [hrb]
  clear hr3 hb3 hl3 hal hrow hD hrb HL2
  have hmm := fun W => run_makeMap (P := Try.prog) 40 W
  have hmi := fun W => run_makeMap (P := Try.prog) 43 W
  have HMI := Lib.hid hmi
  clear hmi
  obtain ⟨w4, hw4⟩ : ∃ w4, w3.alloc (.cells #[.slice none 0 0, .pointer (some ⟨rb, 0, none⟩)] 32) = w4 := ⟨_, rfl⟩
  obtain ⟨r, hr⟩ : ∃ r, w3.heap.size = r := ⟨_, rfl⟩
  rw [hw4, hr] at HD
  have hs4 : w4.heap.size = r + 1 := by rw [← hw4, ← hr]; simp
  have hal5 := (Below.refl w4.heap.size w4).alloc (Nat.le_refl _) (.map #[] 0)
  have hmd := World.ownsMap_made (H := Unit) w4 Try.prog 42 (plainElem Try.prog 9)
  have HD5 := Lib.hid (HD.out.still hal5)
  have HMD : Hid (OwnT (w4.alloc (.map #[] 0)) (r + 1) 0 (.map [])) := Lib.hid (by rw [← hs4]; exact hmd)
  have HDM : Hid (w.heap.size ≤ r + 1 ∧ ¬ own2 c z b [] r rb none (r + 1)) := Lib.hid ⟨by have := HD.out.size; omega, fun ho => by have := HD.out.own2_lt _ ho; omega⟩
  have HW4 := Lib.hid hw4
  have HR := Lib.hid hr
  have HS4 := Lib.hid hs4
  have hsl := HLS.out
  clear hw4 hr hs4 hal5 hmd
  go_wp2_with fail
  rw [HR.out, HW4.out]
  obtain ⟨dm, hdm⟩ : ∃ dm, r + 1 = dm := ⟨_, rfl⟩
  rw [hdm] at HMD HDM ⊢
  generalize w4.alloc (.map #[] 0) = w5 at HD5 HMD ⊢
  clear hdm hsl hmm HW4 HR HS4 HD
  have hlw := (rfl : (new l).lim = top l)
  have HLW := Lib.hid hlw
  clear hlw
  go_loopw [33] (fun i wr => ∃ (j N nd : Nat) (Z : Zs) (s : S) (LA : Option Addr) (lc : Nat) (D : DataW Unit), j ≤ m ∧ i = .int .i64 j ∧ N ≤ j ∧ Z.length ≤ j ∧ nd ≤ 100 * j ∧ Hid (∀ x ∈ bl Z, x.pins ≤ j) ∧ Hid (Duo w wr c z b N Z s r rb LA lc (bl Z) s) ∧ Hid (s.lim = top l) ∧ Hid (OwnT wr dm nd D) ∧ Hid (w.heap.size ≤ dm ∧ ¬ own2 c z b Z r rb LA dm) ∧ Hid (∀ x ∈ bl Z, D.atKey (kl x.file x.block) (.lit (.string [])) = .lit (.string x.data.data.toList))) (fun i _ => m - (intOf i).toNat)
  case atStart => exact ⟨0, 0, 0, [], _, none, 0, _, by omega, rfl, by omega, by simp, by omega, Lib.hid (by simp [bl]), HD5, HLW, HMD, HDM, Lib.hid (by simp [bl])⟩
  case round =>
    obtain ⟨j, N, nd, Z, s, LA, lc, D, hj, rfl, hNj, hZj, hnd, HPI, HD, HLI, HDT, HDB, HDA⟩ := hrel
    by_cases hlt : j < m
    · have hjl : j < sc.length := by rw [HLEN.out]; omega
      obtain ⟨q, off, hA, hql, hc⟩ := (HIN.out.below HD.out.live.below).at_ (by omega)
      obtain ⟨c0, c1, c2, c3, c4⟩ := hc j hjl
      obtain ⟨a, ha⟩ : ∃ a, sc[j] = a := ⟨_, rfl⟩
      have hwf : a.wf := HIN.out.wf a (by rw [← ha]; exact List.getElem_mem hjl)
      rw [ha] at c0 c1 c2 c3 c4
      have HWF := Lib.hid hwf
      obtain ⟨ad, f, k, d, an⟩ := a
      simp only at c0 c1 c2 c3 c4
      have hB2 := below_2 wr (.cells #[.int .i64 ad, .int .i64 f, .int .i64 k, .string d, .int .i64 an] 36) (.cells #[.int .i64 f, .int .i64 k] 42)
      obtain ⟨hbx, hbk⟩ := box2_new (ad := ad) (f := f) (k := k) (d := d) (an := an) wr HD.out.live.rep.own_lt HD.out.rep.own_lt
      have hs2 : ((wr.alloc (.cells #[.int .i64 ad, .int .i64 f, .int .i64 k, .string d, .int .i64 an] 36)).alloc (.cells #[.int .i64 f, .int .i64 k] 42)).heap.size = wr.heap.size + 2 := by simp
      obtain ⟨w2a, hw2a⟩ : ∃ w2a, (wr.alloc (.cells #[.int .i64 ad, .int .i64 f, .int .i64 k, .string d, .int .i64 an] 36)).alloc (.cells #[.int .i64 f, .int .i64 k] 42) = w2a := ⟨_, rfl⟩
      rw [hw2a] at hB2 hbx hbk hs2
      have HW2A := Lib.hid hw2a
      have hal3 := (Below.refl w2a.heap.size w2a).alloc (Nat.le_refl _) (.map #[] 0)
      have hB3 : Below wr.heap.size wr (w2a.alloc (.map #[] 0)) := hB2.trans (hal3.mono hB2.size)
      have hmw := World.ownsMap_made (H := Unit) w2a Try.prog 42 (plainElem Try.prog 3)
      obtain ⟨y, hy⟩ : ∃ y, wr.heap.size = y := ⟨_, rfl⟩
      rw [hs2] at hmw
      have HY := Lib.hid hy
      have HS2 := Lib.hid hs2
      have HD3 := Lib.hid (HD.out.still hB3)
      have HDT3 : Hid (OwnT (w2a.alloc (.map #[] 0)) dm nd D) := Lib.hid (HDT.out.kept (row := none) (grown_below hB3) (by simp))
      have HBX3 : Hid (By (w2a.alloc (.map #[] 0)) y (.cells #[.int .i64 ad, .int .i64 f, .int .i64 k, .string d, .int .i64 an] 36 (0, 0)) (own2 c z b Z r rb LA)) := Lib.hid (by
        rw [← hy]; exact By.still ⟨hbx.row, fun ho => ho.elim hbx.np hbx.nq⟩ hal3)
      have HBK3 : Hid (By (w2a.alloc (.map #[] 0)) (y + 1) (.cells #[.int .i64 f, .int .i64 k] 42 (0, 0)) (own2 c z b Z r rb LA)) := Lib.hid (by
        rw [← hy]; exact By.still ⟨hbk.row, fun ho => ho.elim hbk.np hbk.nq⟩ hal3)
      have HWM3 : Hid (OwnI (w2a.alloc (.map #[] 0)) (y + 2) 0 (.map [])) := Lib.hid (by rw [← hy]; exact hmw)
      have HNE : Hid (dm < y ∧ w.heap.size ≤ y ∧ (∀ g, own2 c z b Z r rb LA g → g < y)) := Lib.hid ⟨by rw [← hy]; exact HDT.out.lt, by rw [← hy]; exact HD.out.size, fun g hg => by rw [← hy]; exact HD.out.own2_lt g hg⟩
      have HS3 : Hid ((w2a.alloc (.map #[] 0)).heap.size = y + 3) := Lib.hid (by rw [← hy]; simp [hs2])
      have HKP := Lib.hid (HD3.out.live.kept (by omega) (by omega) rfl)
      have hmi := HMI.out
      subst hA
      clear hc ha hwf hB2 hbx hbk hs2 hw2a hal3 hB3 hmw hy
      go_wp2_with fail
      rw [HW2A.out, HY.out]
      obtain ⟨wb, hwb⟩ : ∃ wb, y + 1 + 1 = wb := ⟨_, rfl⟩
      have HWB := Lib.hid hwb
      have HWM4 : Hid (OwnI (w2a.alloc (.map #[] 0)) wb 0 (.map [])) := Lib.hid (by rw [← hwb]; exact HWM3.out)
      rw [hwb]
      clear hwb HWM3 hmi
      generalize w2a.alloc (.map #[] 0) = w5a at HD3 HDT3 HBX3 HBK3 HWM4 HS3 HKP ⊢
      refine HKP.out.mono ?_
      rintro e w6 ⟨A6, cap6, rfl, hki6, hb6⟩
      have HD6 := Lib.hid (HD3.out.still hb6)
      have HDT6 : Hid (OwnT w6 dm nd D) := Lib.hid (HDT3.out.kept (row := none) (grown_below hb6) (by simp))
      have HBX6 := Lib.hid (HBX3.out.still hb6)
      have HBK6 := Lib.hid (HBK3.out.still hb6)
      have HWM6 : Hid (OwnI w6 wb 0 (.map [])) := Lib.hid (HWM4.out.kept (row := none) (grown_below hb6) (by simp))
      have HKI6 := Lib.hid hki6
      have HAPT := Lib.hid HD6.out.live.aptL
      have HKW := Lib.hid (fun x hx => HD6.out.good.wf x hx)
      have HS6 : Hid (y + 3 ≤ w6.heap.size) := Lib.hid (by have := hb6.size; rw [HS3.out] at this; exact this)
      rw [HS3.out] at HKI6
      obtain ⟨L, hL⟩ : ∃ L, bl Z = L := ⟨_, rfl⟩
      have HLZ := Lib.hid hL
      obtain ⟨n6, hn6⟩ : ∃ n6, L.length = n6 := ⟨_, rfl⟩
      have HN6 := Lib.hid hn6
      have hn61 : n6 ≤ 100 := by rw [← hn6, ← hL, bl_len]; omega
      rw [hL] at HKI6 HAPT HKW ⊢
      rw [hn6]
      clear hki6 hb6 hL hn6 HKP HD3 HDT3 HBX3 HBK3 HWM4 HS3
      go_wp2_with fail
      go_loopg [46] n6 (fun kk i wq => ∃ (t nE : Nat) (E : DataW Unit), t ≤ n6 ∧ n6 - t ≤ kk ∧ i = .int .i64 t ∧ nE ≤ t ∧ Hid (OwnI wq wb nE E) ∧ Hid (Cnt E ((kps L).take t)) ∧ Hid (Only (fun g => g = wb) w6 wq))
      case atStart => exact ⟨0, 0, _, by omega, by omega, rfl, by omega, HWM6, Lib.hid cnt_nil, Lib.hid (Only.refl _)⟩
      case round =>
        obtain ⟨t, nE, E, ht, hkk, rfl, hnE, HOE, HCE, HOO⟩ := hrel
        by_cases hlt6 : t < n6
        · have hkl : t < (kps L).length := by rw [kps_len, HN6.out]; exact hlt6
          have hki : KeysIn wr (y + 3) A6 (kps L) := KeysIn.only HKI6.out HOO.out (fun g hg _ he => by have := HWB.out; omega)
          obtain ⟨gk, hAk, -, hgk, hck⟩ := hki (by
            intro e
            rw [e] at hkl; simp at hkl)
          obtain ⟨z0, z1⟩ := hck t hkl
          have hnt := not_take HAPT.out hkl
          have hst : (kps L).take (t + 1) = (kps L).take t ++ [(kps L)[t]] := List.take_succ_eq_append_getElem hkl
          obtain ⟨x, hxL, hxk⟩ : ∃ x ∈ L, (x.file, x.block) = (kps L)[t] := by
            have hm := List.getElem_mem hkl
            rcases hp : (kps L)[t] with ⟨k1, k2⟩
            rw [hp] at hm
            obtain ⟨x, h1, h2, h3⟩ := mem_kps.1 hm
            exact ⟨x, h1, by rw [h2, h3]⟩
          have hxw := HKW.out x hxL
          obtain ⟨xf, hxf⟩ : ∃ v, x.file = v := ⟨_, rfl⟩
          obtain ⟨xk, hxkk⟩ : ∃ v, x.block = v := ⟨_, rfl⟩
          have hf6 := hxw.f
          have hk6 := hxw.b
          rw [hxf] at hf6 hxk
          rw [hxkk] at hk6 hxk
          rw [← hxk] at hnt hst z0 z1
          simp only at z0 z1
          have hc0 := HCE.out xf xk hf6 hk6
          rw [if_neg hnt] at hc0
          have halb := (Below.refl wr.heap.size wr).alloc (Nat.le_refl _) (.cells #[.int .i64 xf, .int .i64 xk] 42)
          have hrowb := heap_alloc_new wr (.cells #[.int .i64 xf, .int .i64 xk] 42)
          have hown1 : OwnI (wr.alloc (.cells #[.int .i64 xf, .int .i64 xk] 42)).drew wb nE E := (HOE.out.alloc _).drew
          obtain ⟨st, wa, wb2, hme, hl2, hes, hown2, hga, hgb⟩ := bump_any hown1 (by unfold maxLen; omega) hf6 hk6 hc0 1 ⟨by omega, by omega⟩
          have hl1 := lookI hown1 hf6 hk6 hc0
          have hbw : wr.heap.size ≠ wb := by have := HWM6.out.lt; have := HOO.out.size; omega
          have kb0 : (wr.alloc (.cells #[.int .i64 xf, .int .i64 xk] 42)).drew.cell? ⟨wr.heap.size, 0, none⟩ = some (.int .i64 xf) := cell_of_row _ _ _ _ _ _ hrowb
          have kb1 : (wr.alloc (.cells #[.int .i64 xf, .int .i64 xk] 42)).drew.cell? ⟨wr.heap.size, 1, none⟩ = some (.int .i64 xk) := cell_of_row _ _ _ _ _ _ hrowb
          have hlb : wr.heap.size < (wr.alloc (.cells #[.int .i64 xf, .int .i64 xk] 42)).drew.heap.size := (Array.getElem?_eq_some_iff.1 hrowb).1
          have ka0 := (World.cell?_of_block (a := ⟨wr.heap.size, 0, none⟩) (hga.block wr.heap.size hlb (fun e => hbw (by cases e; rfl)))).trans kb0
          have ka1 := (World.cell?_of_block (a := ⟨wr.heap.size, 1, none⟩) (hga.block wr.heap.size hlb (fun e => hbw (by cases e; rfl)))).trans kb1
          unfold keyV at hme hl1 hl2
          have HOE2 := Lib.hid hown2
          have HCE2 : Hid (Cnt (E.put (kl xf xk) (.lit (.int .i64 1))) ((kps L).take (t + 1))) := Lib.hid (by rw [hst]; exact HCE.out.snoc HOE.out.isMap hf6 hk6)
          have HOO2 : Hid (Only (fun g => g = wb) w6 wb2) := Lib.hid ((HOO.out.trans (Only.of_below halb.drew : Only (fun g => g = wb) wr _) (fun _ _ h => h)).trans (Only.of_grown (S := fun g => g = wb) hgb rfl) (fun _ _ h => h))
          have hAk2 := hAk
          subst hAk2
          have g0 : (0 : Int) ≤ (t : Int) := by omega
          have g1 : (t : Int) < (n6 : Int) := by omega
          clear hki hck hnt hst hxL hxk hxw hxf hxkk hc0 halb hrowb hown1 hown2 hga hgb hbw hlb hAk
          go_wp2_with fail
          go_region
          all_goals
            clear kb0 kb1 ka0 ka1 hme hl1 hl2 hes z0 z1
            go_wp2
            go_roundg (n6 - (t + 1))
            case measure => omega
            case rel => exact ⟨t + 1, nE + 1, _, by omega, by omega, by go_num, by omega, HOE2, HCE2, HOO2⟩
        · have htn : t = n6 := by omega
          have htk : (kps L).take t = kps L := List.take_of_length_le (by rw [kps_len, HN6.out]; omega)
          rw [htk] at HCE
          -- the world behind the first loop
          have hT : ∀ g, g = wb → w.heap.size ≤ g ∧ ¬ own2 c z b Z r rb LA g := fun g e => ⟨by have := HNE.out; have := HWB.out; omega, fun ho => by have := HNE.out.2.2 g ho; have := HWB.out; omega⟩
          have HD7 := Lib.hid (HD6.out.far HOO.out hT)
          have hdw : dm ≠ wb := by have := HNE.out; have := HWB.out; omega
          have HDT7 : Hid (OwnT wr dm nd D) := Lib.hid (HDT6.out.far (HOO.out.block dm HDT6.out.lt hdw))
          have HBX7 := Lib.hid (HBX6.out.only HOO.out (by have := HWB.out; omega))
          have HBK7 := Lib.hid (HBK6.out.only HOO.out (by have := HWB.out; omega))
          have hac := act_any HD7.out ⟨ad, f, k, d, an⟩ HWF.out (by omega) (by omega) (fun x hx => by have := HPI.out x hx; omega)
          obtain ⟨R, hR⟩ : ∃ R, actB ⟨ad, f, k, d, an⟩ (bl Z) s = R := ⟨_, rfl⟩
          have HRE := Lib.hid hR
          rw [hR] at hac
          unfold ActOut at hac
          simp only [AC.val] at hac
          have HAC := Lib.hid hac
          have y0 := HBX7.out.cell (j := 0) rfl
          have y1 := HBX7.out.cell (j := 1) rfl
          have y2 := HBX7.out.cell (j := 2) rfl
          have y3 := HBX7.out.cell (j := 3) rfl
          have y4 := HBX7.out.cell (j := 4) rfl
          subst htn
          clear htk hT hdw hac hR HD6 HDT6 HBX6 HBK6 HOO
          go_wp2_with fail
          refine HAC.out.mono ?_
          rintro e w8 ⟨rfl, N8, Z8, LA8, lc8, hac⟩
          have hd8 := hac.duo
          rw [← hac.list] at hd8
          have HA8 := Lib.hid hac
          have HD8 := Lib.hid hd8
          have HBX8 := Lib.hid (HBX7.out.acted hac)
          have HBK8 := Lib.hid (HBK7.out.acted hac)
          have hnd8 : ¬ own2 c z b Z r rb LA dm := HDB.out.2
          have hnw8 : ¬ own2 c z b Z r rb LA wb := fun ho => by have := HNE.out.2.2 wb ho; have := HWB.out; omega
          have HDT8 : Hid (OwnT w8 dm nd D) := Lib.hid (HDT7.out.far (hac.only.block dm HDT7.out.lt hnd8))
          have HOE8 : Hid (OwnI w8 wb nE E) := Lib.hid (HOE.out.far (hac.only.block wb HOE.out.lt hnw8))
          have HND8 : Hid (¬ own2 c z b Z8 r rb LA8 dm ∧ ¬ own2 c z b Z8 r rb LA8 wb) := Lib.hid ⟨fun ho => (hac.own_ dm ho).elim hnd8 (fun hl => by have := HDT7.out.lt; omega), fun ho => (hac.own_ wb ho).elim hnw8 (fun hl => by have := HOE.out.lt; omega)⟩
          have hkp := hd8.live.kept (by have := hac.bound; omega) (by have := hac.len; omega) rfl
          obtain ⟨L2, hL2⟩ : ∃ L2, bl Z8 = L2 := ⟨_, rfl⟩
          have HL2 := Lib.hid hL2
          rw [hL2] at hkp
          have HKP := Lib.hid hkp
          clear hac hd8 hkp hL2 y0 y1 y2 y3 y4 hnd8 hnw8 HAC HD7 HDT7 HBX7 HBK7 HOE
          go_wp2_with fail
          refine HKP.out.mono ?_
          rintro e w9 ⟨A9, cap9, rfl, hki9, hb9⟩
          have HD9 := Lib.hid (HD8.out.still hb9)
          have HDT9 : Hid (OwnT w9 dm nd D) := Lib.hid (HDT8.out.kept (row := none) (grown_below hb9) (by simp))
          have HOE9 : Hid (OwnI w9 wb nE E) := Lib.hid (HOE8.out.kept (row := none) (grown_below hb9) (by simp))
          have HBX9 := Lib.hid (HBX8.out.still hb9)
          have HBK9 := Lib.hid (HBK8.out.still hb9)
          have HKI9 := Lib.hid hki9
          have HW8 : Hid (dm < w8.heap.size ∧ wb < w8.heap.size) := Lib.hid ⟨HDT8.out.lt, HOE8.out.lt⟩
          have HW9 := Lib.hid (fun x hx => HD9.out.good.wf x hx)
          have HTO := Lib.hid HD9.out.good.tot
          have HSU := Lib.hid HD9.out.good.sum
          have HAL := HA8.out.list
          rw [HL2.out] at HW9 HTO HSU HAL
          have htold : Told D L L2 f k 0 := by
            rw [HAL, ← HRE.out, ← HLZ.out]
            exact told_start (a := ⟨ad, f, k, d, an⟩) HDA.out
          have HTD := Lib.hid htold
          have HNW : Hid ((f, k) ∉ kps L → ∀ x ∈ L2, x.file = f → x.block = k → x.data = d) := Lib.hid (by
            rw [HAL, ← HRE.out, ← HLZ.out]
            exact act_new (a := ⟨ad, f, k, d, an⟩))
          have HFK : Hid (i64 f ∧ i64 k ∧ d.size ≤ 140737488351232) := Lib.hid ⟨HWF.out.f, HWF.out.k, HWF.out.dat⟩
          obtain ⟨n9, hn9⟩ : ∃ n9, L2.length = n9 := ⟨_, rfl⟩
          have HN9 := Lib.hid hn9
          have hn91 : n9 ≤ 100 := by have := HA8.out.len; rw [← hn9, ← HL2.out, bl_len]; omega
          rw [hn9]
          have hnd3 : nd ≤ 10000 := by omega
          clear hki9 hb9 htold HAL hn9 HKP HD8 HDT8 HOE8 HBX8 HBK8
          go_wp2_with fail
          go_loopg [15, 65] n9 (fun kk co i wq => ∃ (t9 nD : Nat) (D9 : DataW Unit), t9 ≤ n9 ∧ n9 - t9 ≤ kk ∧ i = .int .i64 t9 ∧ co = .int .i64 (totB (L2.reverse.take t9) : Nat) ∧ nD ≤ nd + t9 ∧ Hid (OwnT wq dm nD D9) ∧ Hid (Told D9 L L2 f k t9) ∧ Hid (Only (fun g => g = dm) w9 wq))
          case atStart => exact ⟨0, nd, D, by omega, by omega, rfl, by simp [totB], by omega, HDT9, HTD, Lib.hid (Only.refl _)⟩
          case round =>
            obtain ⟨t9, nD, D9, ht9, hk9, rfl, rfl, hnD, HOT, HTL, HON⟩ := hrel
            by_cases hlt9 : t9 < n9
            · have hkl : t9 < (kps L2).length := by rw [kps_len, HN9.out]; exact hlt9
              have hrl : t9 < L2.reverse.length := by rw [List.length_reverse, HN9.out]; exact hlt9
              have hki : KeysIn wr w8.heap.size A9 (kps L2) := KeysIn.only HKI9.out HON.out (fun g hg _ he => by have := HW8.out; omega)
              obtain ⟨gk, hAk, -, hgk, hck⟩ := hki (by
                intro e
                rw [e] at hkl; simp at hkl)
              obtain ⟨z0, z1⟩ := hck t9 hkl
              rw [kps_at hkl] at z0 z1
              have hxm : L2.reverse[t9] ∈ L2 := List.mem_reverse.1 (List.getElem_mem hrl)
              have hst := totB_take hrl
              have hle := totB_take_le L2.reverse (t9 + 1)
              rw [totB_rev] at hle
              have hto := HTO.out
              have hnx := HTL.out.next hrl
              obtain ⟨x, hx⟩ : ∃ x, L2.reverse[t9] = x := ⟨_, rfl⟩
              rw [hx] at z0 z1 hxm hst hnx
              have hxw := HW9.out x hxm
              have hl2 : (¬ (x.file = f ∧ x.block = k) ∨ (f, k) ∈ kps L) → D9.atKey (kl x.file x.block) (.lit (.string [])) = .lit (.string x.data.data.toList) := HTL.out.elder x hxm
              obtain ⟨S0, hS0⟩ : ∃ S0, totB (L2.reverse.take t9) = S0 := ⟨_, rfl⟩
              obtain ⟨S1, hS1⟩ : ∃ S1, totB (L2.reverse.take (t9 + 1)) = S1 := ⟨_, rfl⟩
              rw [hS0] at hst ⊢
              rw [hS1] at hst hle
              have HS1 := Lib.hid hS1
              obtain ⟨xf, xk, xd, xp⟩ := x
              have HXM := Lib.hid hxm
              simp only at z0 z1 hst hnx hl2 hxw
              have hxf := hxw.f
              have hxk := hxw.b
              have hxd := hxw.d
              simp only at hxf hxk hxd
              have HCO := Lib.hid (fun W => cost_any xd W hxd)
              obtain ⟨K, hK⟩ : ∃ K, cost xd = K := ⟨_, rfl⟩
              rw [hK] at hst HCO
              have hw : IntKind.i64.wrap ((S0 : Int) + (K : Int)) = (S1 : Int) := by rw [IntWalk.i64_in _ ⟨by omega, by omega⟩]; omega
              have halb := (Below.refl wr.heap.size wr).alloc (Nat.le_refl _) (.cells #[.int .i64 xf, .int .i64 xk] 42)
              have hrowb := heap_alloc_new wr (.cells #[.int .i64 xf, .int .i64 xk] 42)
              have ho1 : Only (fun g => g = dm) w9 (wr.alloc (.cells #[.int .i64 xf, .int .i64 xk] 42)) := HON.out.trans (Only.of_below halb : Only (fun g => g = dm) wr _) (fun _ _ h => h)
              have hdmy : dm ≠ y ∧ dm ≠ y + 1 := by have := HNE.out; omega
              have hdmw : dm ≠ wb := by have := HNE.out; have := HWB.out; omega
              have HOE1 : Hid (OwnI (wr.alloc (.cells #[.int .i64 xf, .int .i64 xk] 42)) wb nE E) := Lib.hid (HOE9.out.far (ho1.block wb HOE9.out.lt (fun e => hdmw e.symm)))
              have HOT1 : Hid (OwnT (wr.alloc (.cells #[.int .i64 xf, .int .i64 xk] 42)) dm nD D9) := Lib.hid (HOT.out.alloc _)
              have hbx1 := HBX9.out.only ho1 (fun e => hdmy.1 e.symm)
              have hbk1 := HBK9.out.only ho1 (fun e => hdmy.2 e.symm)
              have a3 := hbx1.cell (j := 3) rfl
              have q0 := hbk1.cell (j := 0) rfl
              have q1 := hbk1.cell (j := 1) rfl
              have b0 : (wr.alloc (.cells #[.int .i64 xf, .int .i64 xk] 42)).cell? ⟨wr.heap.size, 0, none⟩ = some (.int .i64 xf) := cell_of_row _ _ _ _ _ _ hrowb
              have b1 : (wr.alloc (.cells #[.int .i64 xf, .int .i64 xk] 42)).cell? ⟨wr.heap.size, 1, none⟩ = some (.int .i64 xk) := cell_of_row _ _ _ _ _ _ hrowb
              have HBR := Lib.hid hrowb
              have HO1 := Lib.hid ho1
              have hlw := lookI HOE1.out hxf hxk (HCE.out xf xk hxf hxk)
              have hke := fun W => key_eql W xf xk f k
              have hkg := fun W x y => key_eguard W x y #[.int .i64 xf, .int .i64 xk] #[.int .i64 f, .int .i64 k]
              have hAk2 := hAk
              subst hAk2
              have g0 : (0 : Int) ≤ (t9 : Int) := by omega
              have g1 : (t9 : Int) < (n9 : Int) := by omega
              have hwne : wr.heap.size ≠ dm := by have := HOT.out.lt; omega
              have HWNE := Lib.hid hwne
              clear hki hck hxm hle hto hx hxw hS0 hS1 halb hrowb ho1 hdmy hdmw hbx1 hbk1 hK hrl hAk hwne
              by_cases hsame : xf = f ∧ xk = k
              · obtain ⟨rfl, rfl⟩ := hsame
                have hkt : (xf == xf && xk == xk) = true := by simp
                rw [hkt] at hke
                by_cases hold : (xf, xk) ∈ kps L
                · rw [if_pos hold] at hlw
                  have HTN := Lib.hid (hnx (.inr hold))
                  have hlt := lookT HOT1.out hxf hxk (hl2 (.inr hold))
                  unfold keyV at hlw hlt
                  clear hnx hl2 hkt
                  go_wp2_with fail
                  refine (HCO.out _).mono ?_
                  rintro e w10 ⟨rfl, rfl⟩
                  clear z0 z1 a3 q0 q1 b0 b1 hlw hke hkg hlt
                  go_wp2
                  go_roundg (n9 - (t9 + 1))
                  case measure => omega
                  case rel => exact ⟨t9 + 1, nD, D9, by omega, by omega, by go_num, by rw [HS1.out, hst, Int.natCast_add], by omega, HOT1, HTN, HO1⟩
                · rw [if_neg hold] at hlw
                  have hxe : xd = d := HNW.out hold ⟨xf, xk, xd, xp⟩ HXM.out rfl rfl
                  have HTN := Lib.hid (HTL.out.put HOT.out.isMap HW9.out hxf hxk (HNW.out hold))
                  obtain ⟨w11, hsto, hown2, hgr⟩ := storeT HOT1.out (by unfold maxLen; omega) hxf hxk d (by have := HFK.out; unfold maxLen; omega)
                  have hlt := lookT hown2 hxf hxk (Maps.atKey_put_same HOT.out.isMap (kl_key hxf hxk) _ _)
                  rw [hxe] at HCO
                  have hll : wr.heap.size < (wr.alloc (.cells #[.int .i64 xf, .int .i64 xk] 42)).heap.size := by simp
                  have d0 := (World.cell?_of_block (a := ⟨wr.heap.size, 0, none⟩) (hgr.block wr.heap.size hll (fun e => HWNE.out (by cases e; rfl)))).trans b0
                  have d1 := (World.cell?_of_block (a := ⟨wr.heap.size, 1, none⟩) (hgr.block wr.heap.size hll (fun e => HWNE.out (by cases e; rfl)))).trans b1
                  have HOT2 := Lib.hid hown2
                  have HO2 : Hid (Only (fun g => g = dm) w9 w11) := Lib.hid (HO1.out.trans (Only.of_grown (S := fun g => g = dm) hgr rfl) (fun _ _ h => h))
                  unfold keyV at hlw hlt hsto
                  clear hnx hl2 hkt hown2 hgr hll hxe
                  go_wp2_with fail
                  refine (HCO.out _).mono ?_
                  rintro e w12 ⟨rfl, rfl⟩
                  clear z0 z1 a3 q0 q1 b0 b1 d0 d1 hlw hke hkg hlt hsto
                  go_wp2
                  go_roundg (n9 - (t9 + 1))
                  case measure => omega
                  case rel => exact ⟨t9 + 1, nD + 1, _, by omega, by omega, by go_num, by rw [HS1.out, hst, Int.natCast_add], by omega, HOT2, HTN, HO2⟩
              · have hkt : (xf == f && xk == k) = false := by
                  by_cases h : xf = f
                  · have h2 : ¬ xk = k := fun e => hsame ⟨h, e⟩
                    rw [beq_eq_false_iff_ne.2 h2]; simp
                  · rw [beq_eq_false_iff_ne.2 h]; rfl
                rw [hkt] at hke
                have HTN := Lib.hid (hnx (.inl hsame))
                have hlt := lookT HOT1.out hxf hxk (hl2 (.inl hsame))
                unfold keyV at hlt
                clear hnx hl2 hkt hlw
                go_wp2_with fail
                refine (HCO.out _).mono ?_
                rintro e w10 ⟨rfl, rfl⟩
                clear z0 z1 a3 q0 q1 b0 b1 hke hkg hlt
                go_wp2
                go_roundg (n9 - (t9 + 1))
                case measure => omega
                case rel => exact ⟨t9 + 1, nD, D9, by omega, by omega, by go_num, by rw [HS1.out, hst, Int.natCast_add], by omega, HOT1, HTN, HO1⟩
            · have htn : t9 = n9 := by omega
              have htk : L2.reverse.take t9 = L2.reverse := List.take_of_length_le (by rw [List.length_reverse, HN9.out]; omega)
              have hall : ∀ x ∈ bl Z8, D9.atKey (kl x.file x.block) (.lit (.string [])) = .lit (.string x.data.data.toList) := by
                rw [HL2.out]
                intro x hx
                have := HTL.out.first x
                rw [htk] at this
                exact this (List.mem_reverse.2 hx)
              have HDA10 := Lib.hid hall
              have HD10 := Lib.hid (HD9.out.far HON.out (fun g (e : g = dm) => by rw [e]; exact ⟨HDB.out.1, HND8.out.1⟩))
              have HDB10 : Hid (w.heap.size ≤ dm ∧ ¬ own2 c z b Z8 r rb LA8 dm) := Lib.hid ⟨HDB.out.1, HND8.out.1⟩
              have HP10 : Hid (∀ x ∈ bl Z8, x.pins ≤ j + 1) := Lib.hid (by rw [HA8.out.list, ← HRE.out]; exact act_pins HPI.out)
              have hli : R.2.lim = top l := by rw [← HRE.out, act_lim]; exact HLI.out
              have HLI10 := Lib.hid hli
              have HN10 : Hid (N8 ≤ j + 1 ∧ Z8.length ≤ j + 1) := Lib.hid ⟨by have := HA8.out.bound; omega, by have := HA8.out.len; omega⟩
              have hok := HD9.out.good.ok
              obtain ⟨M, hM⟩ : ∃ M, max 0 (min l 1099511627776) = M := ⟨_, rfl⟩
              obtain ⟨u, hu⟩ : ∃ u, R.2.used = u := ⟨_, rfl⟩
              obtain ⟨S2, hS2⟩ : ∃ S2, totB L2 = S2 := ⟨_, rfl⟩
              have huM : u ≤ M := by
                have h1 := hok.uh
                have h2 := hok.hl
                rw [hli, hu] at *
                unfold top at h2
                omega
              have HUS := Lib.hid (used_q HD10.out.live.rep.bud u hu)
              have HOF := Lib.hid (of_q HD10.out.live.rep.bud 1 (S2 : Int) (by rw [← hS2, ← HSU.out]; rfl))
              rw [htk, totB_rev, hS2]
              clear htn htk hall hli hok hu hS2
              go_wp2_with fail
              refine HOF.out.mono ?_
              rintro e w11 ⟨rfl, rfl⟩
              go_wp2_with fail
              refine HUS.out.mono ?_
              rintro e w12 ⟨rfl, rfl⟩
              go_wp2_with fail
              go_roundw
              case rel => exact ⟨j + 1, N8, nD, Z8, R.2, LA8, lc8, D9, by omega, by go_num, HN10.out.1, HN10.out.2, by omega, HP10, HD10, HLI10, HOT, HDB10, HDA10⟩
              case measure => simp [intOf]; omega
    · have hjm : j = m := by omega
      subst hjm
      have HBF := Lib.hid HD.out.live.below
      have HW := Lib.hid (wakes_any wr)
      go_wp2_with fail
      refine HW.out.mono ?_
      rintro e wz ⟨rfl, hbz⟩
      have HBZ := Lib.hid (HBF.out.trans (hbz.mono HBF.out.size))
      clear hbz
      go_wp2
      go_ret
      exact ⟨rfl, HBZ.out⟩

set_option maxRecDepth 100000 in
theorem contract (H : Type) (enc : TypeId × Value → H) (W : World) (base : Nat) (args : Array Value) (ds gs : List (DataW H)) (before : List MemPlace)
    (hval : ∀ (j : Nat) t v, Try.f4.params[j]? = some t → args[j]? = some v → Value.okWide Try.prog W .any base t v)
    (hW : DataW.Whole enc Try.prog Try.f4.params.toList Rows.cacheChargesSpec.vars false W args.toList ds gs before)
    (hz : (DataW.weightsEach Try.prog Try.f4.params.toList (ds ++ gs)).all (· ≤ reachBytes) = true) :
    Calls Try.prog 4 args W fun e W' => ∃ v, e = .returned v ∧ Rows.cacheChargesSpec.post enc Try.prog Try.f4 false true false false W args v W' := by
  have hW' := hW
  obtain ⟨p, q, hA0, hV, rfl, hfz, hnd⟩ := hW
  have hA : DataW.TrodAll enc Try.prog W 0 (fun _ => true) true Try.f4.params.toList args.toList ds p := hA0
  rw [Try.params4] at hA hval hz
  obtain ⟨v0, vs0, d0, ds0, p0, q0, hargs, rfl, rfl, h0, r0⟩ := trodAll_cons hA
  obtain ⟨v1, vs1, d1, ds1, p1, q1, rfl, rfl, rfl, h1, r1⟩ := trodAll_cons r0
  obtain ⟨rfl, rfl, rfl⟩ := trodAll_nil r1
  obtain rfl : args = #[v0, v1] := by cases args; simp_all
  obtain ⟨rfl, rfl⟩ := trodVars_none hV
  obtain ⟨l, rfl, rfl, rfl, wl⟩ := open_int Try.underlying2 (hval 0 2 v0 rfl rfl) h0
  have hl : -9223372036854775808 ≤ l ∧ l ≤ 9223372036854775807 := by simpa [Lit.wf, IntKind.min, IntKind.max, IntKind.signed, IntKind.bits] using wl
  obtain ⟨scA, scN, scC, sc, rfl, hlensc, hinsc, hbsc, hcapsc⟩ := open_acts5 (hval 1 22 v1 rfl rfl) h1 (parts_sized hz (j := 1) rfl rfl)
  refine (walk l scA scN scC sc W hlensc hinsc hbsc hcapsc).mono fun e W' ⟨he, hB⟩ => ?_
  subst he
  exact ⟨_, rfl, law_post Try.laidOut (by kernel_rfl) rfl rfl Try.underlying4 hW' rfl hB⟩

set_option maxRecDepth 100000 in
theorem lifted (os : Os) (started : os.Started) (H : Type) (enc : TypeId × Value → H) :
    ReturnsInHanded {} Try.checked os 4 .any (Rows.cacheChargesSpec.pre6 enc Try.prog Try.f4 Rows.cacheChargesRow.domain false) (Rows.cacheChargesSpec.post enc Try.prog Try.f4 false true false false) := by
  refine returnsInHanded_of_change_sized (C := Try.checked) Try.own started (by kernel_rfl) Try.func4
    (ChangeSpec.witness6 (enc := enc) (C := Try.checked) false ⟨#[], #[.int .i64 0, .slice none 0 0], []⟩ 8 (by kernel_rfl) (by kernel_rfl) (by kernel_rfl) (by kernel_rfl)) ?_
  intro W base args ds gs before hval hW _ hz _
  exact contract H enc W base args ds gs before hval hW hz

theorem proved : Rows.CacheChargesSaid :=
  OpenClaim.holds_of_wide 4 Try.f4 rfl rfl rfl rfl rfl rfl rfl ⟨rfl, rfl, rfl, rfl, rfl⟩ rfl rfl rfl rfl rfl (by kernel_rfl) Try.func4 (by kernel_rfl)
    (of_decide_eq_true (by kernel_rfl)) (by unfold Func.isWrapper; first | (rw [if_pos (by decide +kernel)]; kernel_rfl) | (rw [if_neg (by decide +kernel)]; exact ⟨rfl, rfl⟩))
    (fun os started H enc _ => lifted os started H enc)
end lawCharges
end Go.Proofs.Ytlfhjbilnfkabaa
