/- MergeKeeps: what is visible for a snap, or for who reads all, now or later, is the same of what is left as of all, at the bottom and above it. For every entries and numbers. Made by gen_ld.py. -/
import Derived.Test.YtfbhdggmefacjaaLc
import Derived.ArgAppend
namespace Go.Proofs.Ytfbhdggmefacjaa
open Go.ChangeShapes Go.WideShapes Go.ChangeAt Go.RowKit Go.Shelf
open SK HP VB

theorem i64_cap (W : World) (A : Option Addr) (m cap : Nat) (h : m ≤ cap) : (Instr.slice 43 (.slice A m cap) none (some (.int .i64 (m : Int))) (some (.int .i64 (m : Int)))).run Try.prog W = .ok (.slice A m m) W := by
  have hs : ∀ w, (sizeOf (Try.prog.elem 43)).run Try.prog w = .ok 1 w := fun w => by kernel_rfl
  rw [run_slice_hm W 43 A m cap (by kernel_rfl) .i64 .i64 (m : Int) (m : Int) (by omega) (by omega) (by omega), hs]
  simp only [Result.andThen, sliced, Int.toNat_natCast, Nat.sub_zero, Nat.zero_mul, add_zero', Option.map_id']
  split <;> rfl

/-- Visible of entries in order, as the laws call it -/
theorem visible_in {W : World} {B : Option Addr} {c : Nat} {L V : List SK.E} {q t : Int} (hs : Sorted L) (hL : L.length ≤ 100) (hc : L.length ≤ c) (he : EntsIn W B L) (hV : vis q t L = V) :
    Calls Try.prog 16 #[.slice B L.length c, .int .i64 q, .int .i64 t] W fun e w' => ∃ B' c', e = .returned (.slice B' V.length c') ∧ EntsIn w' B' V ∧ V.length ≤ 100 ∧ Below W.heap.size W w' := by
  have hvr := vis_rv q t L.length L [] (Nat.le_refl _) hs (by simp)
  have hvl := rv_len q t [] L
  have hvs := rv_sub q t [] L
  rw [hvr, hV] at hvl hvs
  exact (visible_any B L.length c L q t W rfl hc (by omega) he).mono fun e w' ⟨v, h1, h2, h3⟩ => by
    rw [hV] at h2
    obtain ⟨B', c', rfl, h4, -, -⟩ := own_ents (fun x hx => he.wf x (hvs x hx)) rfl h2
    exact ⟨B', c', h1, h4, by omega, h3⟩

namespace lawKeeps

set_option maxRecDepth 100000 in
set_option maxHeartbeats 8000000 in
theorem walk (A : Option Addr) (n cap : Nat) (l : List E) (X : Option Addr) (m0 d : Nat) (ys : List Int) (x0 x1 : Int) (w : World) (hn : l.length = n) (hin : EntsIn w A l) (hb : n * 56 ≤ reachBytes) (hc : n ≤ cap) (hm0 : ys.length = m0) (hx : I64In w X ys) (hb8 : m0 * 8 ≤ reachBytes) (hd : m0 ≤ d) :
    Calls Try.prog 6 #[.slice A n cap, .slice X m0 d, .agg #[.int .i64 x0, .int .i64 x1]] w fun e w' => e = .returned (.bool true) ∧ Below w.heap.size w w' := by
  have hal0 := (Below.refl w.heap.size w).alloc (Nat.le_refl _) (.cells #[.int .i64 x0, .int .i64 x1] 47)
  have hrow0 := heap_alloc_new w (.cells #[.int .i64 x0, .int .i64 x1] 47)
  have HO1 := Lib.hid (ordered_any A n cap l (w.alloc (.cells #[.int .i64 x0, .int .i64 x1] 47)) hn (hin.below hal0) hc (by unfold reachBytes at hb; omega))
  have hso := od_sorted l
  have hol := od_len l
  obtain ⟨o, ho⟩ : ∃ o, od l = o := ⟨_, rfl⟩
  rw [ho] at HO1 hso hol
  obtain ⟨m, hm⟩ : ∃ m, min m0 20 = m := ⟨_, rfl⟩
  have hmin : min (m0 : Int) 20 = (m : Int) := by omega
  have hmd : m ≤ d := by omega
  have hsl := fun W => i64_head W X m0 d m hmd
  have hcp := fun W => i64_cap W X m d hmd
  have hx2 := hx.take m
  obtain ⟨xs, hxs⟩ : ∃ xs, ys.take m = xs := ⟨_, rfl⟩
  have hxm : xs.length = m := by rw [← hxs, List.length_take]; omega
  rw [hxs] at hx2
  have hm6 : m ≤ 20 := by omega
  have hm47 : m0 ≤ 140737488351232 := by unfold reachBytes at hb8; omega
  obtain ⟨now, hnow⟩ : ∃ t, min x0 x1 = t := ⟨_, rfl⟩
  obtain ⟨later, hlater⟩ : ∃ t, max x0 x1 = t := ⟨_, rfl⟩
  have hnl : now ≤ later := by omega
  have k0 := cpt_sub xs now false hso
  have k1 := cpt_sub xs now true hso
  have HCP : Hid (∀ W B c bot, Below w.heap.size w W → EntsIn W B o → o.length ≤ c → Calls Try.prog 18 #[.slice B o.length c, .slice X m d, .int .i64 now, .bool bot] W fun e w' => ∃ B' c', e = .returned (.slice B' (cpt xs now bot o).length c') ∧ EntsIn w' B' (cpt xs now bot o) ∧ (cpt xs now bot o).length ≤ c' ∧ Below W.heap.size W w') := Lib.hid fun W B c bot hW he hc => compact_in hso (by omega) hc hxm (by omega) he (hx2.below hW)
  have HV : Hid (∀ W B c q t, EntsIn W B o → o.length ≤ c → Calls Try.prog 16 #[.slice B o.length c, .int .i64 q, .int .i64 t] W fun e w' => ∃ B' c', e = .returned (.slice B' (vis q t o).length c') ∧ EntsIn w' B' (vis q t o) ∧ (vis q t o).length ≤ 100 ∧ Below W.heap.size W w') := Lib.hid fun W B c q t he hc => visible_in hso hol hc he rfl
  have HK : Hid (∀ W B q t bot, EntsIn W B o → now ≤ t → (q ∈ xs ∨ q = 9223372036854775807) → ∀ W B c, EntsIn W B (cpt xs now bot o) → (cpt xs now bot o).length ≤ c → Calls Try.prog 16 #[.slice B (cpt xs now bot o).length c, .int .i64 q, .int .i64 t] W fun e w' => ∃ B' c', e = .returned (.slice B' (vis q t o).length c') ∧ EntsIn w' B' (vis q t o) ∧ (vis q t o).length ≤ 100 ∧ Below W.heap.size W w') := Lib.hid fun W0 B0 q t bot he0 ht hq W B c he hc => by
    have hsub := cpt_sub xs now bot hso
    exact visible_in (sorted_sub hsub hso) (by have := hsub.length_le; omega) hc he (vis_cpt bot hso ht (hq.imp id (fun e x hx => by rw [e]; exact (he0.wf x hx).seq.2)))
  have HAK : Hid (∀ W B c B' c' (V : List SK.E), EntsIn W B V → EntsIn W B' V → V.length ≤ 100 → Calls Try.prog 20 #[.slice B V.length c, .slice B' V.length c'] W fun e w' => e = .returned (.bool true) ∧ Below W.heap.size W w') := Lib.hid fun W B c B' c' V h1 h2 h3 => alike_any B B' _ c c' V W rfl h1 h2 (by omega)
  obtain ⟨N, hN⟩ : ∃ k, o.length = k := ⟨_, rfl⟩
  have HXM := Lib.hid hxm
  have HX2 := Lib.hid hx2
  have HNL := Lib.hid hnl
  have HXN : Hid (X = none → m = 0 ∧ m = 0) := Lib.hid fun e => by
    have : m = 0 := by
      by_cases h0 : 0 < xs.length
      · obtain ⟨_, _, hA, _⟩ := hx2.at_ h0
        rw [e] at hA; cases hA
      · omega
    exact ⟨this, this⟩
  rw [hN] at HO1 HCP HV hol
  have HW := Lib.hid wakes_any
  have z0 : (w.alloc (.cells #[.int .i64 x0, .int .i64 x1] 47)).cell? ⟨w.heap.size, 0, none⟩ = some (.int .i64 x0) := cell_of_row _ _ _ _ _ _ hrow0
  have z1 : (w.alloc (.cells #[.int .i64 x0, .int .i64 x1] 47)).cell? ⟨w.heap.size, 1, none⟩ = some (.int .i64 x1) := cell_of_row _ _ _ _ _ _ hrow0
  have HAL0 := Lib.hid hal0
  have HR0 := Lib.hid hrow0
  clear hn hin hb hc hm0 hx hd hb8 hso ho hx2 hxs hxm k0 k1 hN hm hnl hal0 hrow0
  obtain ⟨i0, hi, hz0, hz1, hz2⟩ := info_parts info_i64
  go_enter Try.func6, Try.ntmps6
  go_wp2_with fail
  refine HO1.out.mono ?_
  rintro e w1 ⟨A1, c1, D1, d1, rfl, h1, q1, r1, t1, hb1⟩
  have HB1 := Lib.hid (HAL0.out.trans (hb1.mono (by simp)))
  have H1 := Lib.hid h1
  have hr1 := (hb1.block w.heap.size (by simp)).trans HR0.out
  have y0 : w1.cell? ⟨w.heap.size, 0, none⟩ = some (.int .i64 x0) := cell_of_row _ _ _ _ _ _ hr1
  have y1 : w1.cell? ⟨w.heap.size, 1, none⟩ = some (.int .i64 x1) := cell_of_row _ _ _ _ _ _ hr1
  have hxl := (Array.getElem?_eq_some_iff.1 hr1).1
  clear HO1 h1 r1 hb1 t1 hr1 z0 z1 HR0
  obtain ⟨z, hz⟩ : ∃ z, w.heap.size = z := ⟨_, rfl⟩
  have HZ := Lib.hid hz
  rw [hz] at y0 y1 hxl ⊢
  clear hz
  go_wp2_with fail
  go_quiet (fail)
  have hb12 := below_drewN HB1.out nq
  have hb12' := below_drewN (Below.refl w1.heap.size w1) nq
  have hsz2 : (w1.drewN nq).heap.size = w1.heap.size := rfl
  generalize w1.drewN nq = w2 at hb12 hb12' hsz2 ⊢
  have H1 := Lib.hid (H1.out.below hb12')
  have HB2 : Hid (Below w.heap.size w w2) := Lib.hid hb12
  clear hb12 hb12' y0 y1 HB1 hsz2
  go_wp2_with fail
  have hrow := heap_alloc_new w2 (.cells #[.bool false, .bool true] 4)
  have hbr : Below w2.heap.size w2 (w2.alloc (.cells #[.bool false, .bool true] 4)) := (Below.refl _ w2).alloc (Nat.le_refl _) _
  generalize w2.alloc (.cells #[.bool false, .bool true] 4) = w3 at hrow hbr ⊢
  obtain ⟨y, hy⟩ : ∃ y, w2.heap.size = y := ⟨_, rfl⟩
  rw [hy] at hrow ⊢
  have hyl := (Array.getElem?_eq_some_iff.1 hrow).1
  have HROW := Lib.hid hrow
  have HBR := Lib.hid hbr
  clear hrow hbr hy
  go_loopw [38] (fun i wr => ∃ j : Nat, j ≤ 2 ∧ i = .int .i64 j ∧ Below w3.heap.size w3 wr) (fun i _ => 2 - (intOf i).toNat)
  case atStart => exact ⟨0, by omega, rfl, Below.refl _ _⟩
  case round =>
    obtain ⟨j, hj, rfl, hbq⟩ := hrel
    have HBQ := Lib.hid hbq
    have HBW : Hid (Below w.heap.size w wr) := Lib.hid (HB2.out.trans ((HBR.out.trans (hbq.mono HBR.out.size)).mono HB2.out.size))
    have HE := Lib.hid (H1.out.below (HBR.out.trans (hbq.mono HBR.out.size)))
    have hr9 := (hbq.block y hyl).trans HROW.out
    have z0 : wr.cell? ⟨y, 0, none⟩ = some (.bool false) := cell_of_row _ _ _ _ _ _ hr9
    have z1 : wr.cell? ⟨y, 1, none⟩ = some (.bool true) := cell_of_row _ _ _ _ _ _ hr9
    clear hbq hr9
    rcases (by omega : j = 0 ∨ j = 1 ∨ j = 2) with rfl | rfl | rfl
    · go_wp2_with fail
      refine (HCP.out wr A1 c1 false HBW.out HE.out q1).mono ?_
      rintro e w4 ⟨B4, c4, rfl, he4, q4, hb4⟩
      have HB4 := Lib.hid (HBW.out.trans (hb4.mono HBW.out.size))
      have HQ4 := Lib.hid (HBQ.out.trans (hb4.mono HBQ.out.size))
      have HE4 := Lib.hid he4
      have HO4 := Lib.hid (HE.out.below hb4)
      have HKB : Hid (∀ q t, now ≤ t → (q ∈ xs ∨ q = 9223372036854775807) → ∀ W B c, EntsIn W B (cpt xs now false o) → (cpt xs now false o).length ≤ c → Calls Try.prog 16 #[.slice B (cpt xs now false o).length c, .int .i64 q, .int .i64 t] W fun e w' => ∃ B' c', e = .returned (.slice B' (vis q t o).length c') ∧ EntsIn w' B' (vis q t o) ∧ (vis q t o).length ≤ 100 ∧ Below W.heap.size W w') := Lib.hid fun q t ht hq => HK.out w4 A1 q t false HO4.out ht hq
      obtain ⟨K, hK⟩ : ∃ K, cpt xs now false o = K := ⟨_, rfl⟩
      rw [hK] at HKB HE4 q4 ⊢
      obtain ⟨kn, hkn⟩ : ∃ kn, K.length = kn := ⟨_, rfl⟩
      rw [hkn] at HKB q4 ⊢
      have HX4 := Lib.hid (HX2.out.below HB4.out)
      clear he4 hb4 z0 z1 hK hkn
      go_wp2_with (at_builtin; refine wpList_append_grows _ rfl _ _ 43 rfl 2 i0 (.int .i64 0) 1 8 Try.underlying43 hi hz0 hz1 hz2 rfl (by decide) X m m (xs.map (Value.int .i64)) rfl HXN.out ?lo ?olds ⟨w4.heap.size, 0, none⟩ 1 1 [.int .i64 9223372036854775807] rfl rfl ?c1 ?c2 ?full ?m1 ?m2 ?_)
      case lo => simp [HXM.out]
      case olds =>
        intro b hA j u hj
        have hjx : j < xs.length := by
          have := (List.getElem?_eq_some_iff.1 hj).1
          simpa using this
        obtain ⟨b', off, hA', hbl, hcc⟩ := HX4.out.at_ (by omega)
        rw [hA] at hA'
        injection hA' with hA'
        subst hA'
        rw [add_off]
        refine Lib.cell?_alloc_some _ ?_
        rw [hcc j hjx]
        rw [List.getElem?_map, List.getElem?_eq_getElem hjx] at hj
        exact hj
      case c1 =>
        intro j u hj
        obtain rfl : j = 0 := by
          have := (List.getElem?_eq_some_iff.1 hj).1
          simpa using this
        rw [add_off]
        rw [cell_of_row _ _ _ _ _ _ (heap_alloc_new w4 _)]
        · simpa using hj
      case c2 => intro u hu; simp at hu; rw [hu]; rfl
      case full => omega
      case m1 => unfold maxLen; omega
      case m2 => omega
      intro v5 w5 hown hgrow
      have hown' : w5.ownsRow (w4.alloc (.cells #[.int .i64 9223372036854775807] 2)).heap.size 2 1 v5 (m + 1) ((xs ++ [9223372036854775807]).map (Value.int .i64)) := by simpa using hown
      obtain ⟨B5, c5, rfl, hi5, -⟩ := own_i64 (by rw [List.length_append, HXM.out]; rfl) hown'
      have hb45 : Below w4.heap.size w4 w5 := ((Below.refl _ w4).alloc (Nat.le_refl _) _).grown hgrow (by simp) (fun k e => by cases e)
      have HI5 := Lib.hid hi5
      have HB5 := Lib.hid (HB4.out.trans (hb45.mono HB4.out.size))
      have HQ5 := Lib.hid (HQ4.out.trans (hb45.mono HQ4.out.size))
      have HE5 := Lib.hid (HE4.out.below hb45)
      have HO5 := Lib.hid (HO4.out.below hb45)
      have HMEM : Hid (∀ k (h : k < (xs ++ [(9223372036854775807 : Int)]).length), (xs ++ [(9223372036854775807 : Int)])[k] ∈ xs ∨ (xs ++ [(9223372036854775807 : Int)])[k] = 9223372036854775807) := Lib.hid fun k h => by
        have := List.getElem_mem h
        rcases List.mem_append.1 this with h | h
        · exact .inl h
        · exact .inr (by simpa using h)
      have HLEN : Hid ((xs ++ [(9223372036854775807 : Int)]).length = m + 1) := Lib.hid (by rw [List.length_append, HXM.out]; rfl)
      clear hown hown' hgrow hb45 hi5 HE4 HO4 HX4 HB4 HQ4
      obtain ⟨qs, hqs⟩ : ∃ qs, xs ++ [(9223372036854775807 : Int)] = qs := ⟨_, rfl⟩
      rw [hqs] at HI5 HMEM HLEN
      clear hqs
      obtain ⟨m1, hm1⟩ : ∃ m1, m + 1 = m1 := ⟨_, rfl⟩
      have hm21 : m1 ≤ 21 := by omega
      have hm1i : (m : Int) + 1 = (m1 : Int) := by omega
      rw [hm1] at HLEN ⊢
      clear hm1
      go_wp2_with fail
      go_loopw [56] (fun i ws => ∃ k : Nat, k ≤ m1 ∧ i = .int .i64 k ∧ Below w5.heap.size w5 ws) (fun i _ => m1 - (intOf i).toNat)
      case atStart => exact ⟨0, by omega, rfl, Below.refl _ _⟩
      case round =>
        obtain ⟨k, hk, rfl, hbs⟩ := hrel
        have HBS := Lib.hid hbs
        by_cases hlt : k < m1
        · have hkl : k < qs.length := by rw [HLEN.out]; exact hlt
          obtain ⟨b6, off6, hA6, hbl6, hc6⟩ := (HI5.out.below hbs).at_ (by omega)
          have y0 := hc6 k hkl
          have hmem := HMEM.out k hkl
          obtain ⟨q, hq⟩ : ∃ q, qs[k] = q := ⟨_, rfl⟩
          rw [hq] at y0 hmem
          have HV1 := Lib.hid (fun W B c => HKB.out q now (Int.le_refl _) hmem W B c)
          have HV2 := Lib.hid (fun W B c => HV.out W B c q now)
          have HV3 := Lib.hid (fun W B c => HKB.out q later HNL.out hmem W B c)
          have HV4 := Lib.hid (fun W B c => HV.out W B c q later)
          have g0 : (0 : Int) ≤ (k : Int) := by omega
          have g1 : (k : Int) < (m1 : Int) := by omega
          have hE1 := HE5.out.below hbs
          have hO1 := HO5.out.below hbs
          have HE6 := Lib.hid hE1
          have HO6 := Lib.hid hO1
          subst hA6
          clear hbs hc6 hq hmem hkl hE1 hO1
          go_wp2_with fail
          refine (HV1.out _ B4 c4 HE6.out q4).mono ?_
          rintro e w7 ⟨B7, c7, rfl, he7, l7, hb7⟩
          have HQ7 := Lib.hid (HBS.out.trans (hb7.mono HBS.out.size))
          have HE7 := Lib.hid (HE6.out.below hb7)
          have HO7 := Lib.hid (HO6.out.below hb7)
          have HR7 := Lib.hid he7
          clear he7 hb7 y0 HV1 HE6 HO6
          go_wp2_with fail
          refine (HV2.out w7 A1 c1 HO7.out q1).mono ?_
          rintro e w8 ⟨B8, c8, rfl, he8, l8, hb8⟩
          have HQ8 := Lib.hid (HQ7.out.trans (hb8.mono HQ7.out.size))
          have HE8 := Lib.hid (HE7.out.below hb8)
          have HO8 := Lib.hid (HO7.out.below hb8)
          have HR8 := Lib.hid he8
          have HR7 := Lib.hid (HR7.out.below hb8)
          clear he8 hb8 HV2 HE7 HO7
          go_wp2_with fail
          refine (HAK.out _ _ _ _ _ _ HR7.out HR8.out l8).mono ?_
          rintro e w9 ⟨rfl, hb9⟩
          have HQ9 := Lib.hid (HQ8.out.trans (hb9.mono HQ8.out.size))
          have HE9 := Lib.hid (HE8.out.below hb9)
          have HO9 := Lib.hid (HO8.out.below hb9)
          clear hb9 HE8 HO8 HR7 HR8 l7 l8
          go_wp2_with fail
          refine (HV3.out w9 B4 c4 HE9.out q4).mono ?_
          rintro e wa ⟨Ba, ca, rfl, hea, la, hba⟩
          have HQa := Lib.hid (HQ9.out.trans (hba.mono HQ9.out.size))
          have HOa := Lib.hid (HO9.out.below hba)
          have HRa := Lib.hid hea
          clear hea hba HV3 HE9 HO9
          go_wp2_with fail
          refine (HV4.out wa A1 c1 HOa.out q1).mono ?_
          rintro e wb ⟨Bb, cb, rfl, heb, lb, hbb⟩
          have HQb := Lib.hid (HQa.out.trans (hbb.mono HQa.out.size))
          have HRb := Lib.hid heb
          have HRa := Lib.hid (HRa.out.below hbb)
          clear heb hbb HV4 HOa
          go_wp2_with fail
          refine (HAK.out _ _ _ _ _ _ HRa.out HRb.out lb).mono ?_
          rintro e wc ⟨rfl, hbc⟩
          have HQc := Lib.hid (HQb.out.trans (hbc.mono HQb.out.size))
          clear hbc HRa HRb la lb
          go_wp2
          go_roundw
          case rel => exact ⟨k + 1, by omega, by go_num, HQc.out⟩
          case measure => simp [intOf]; omega
        · have hkm : k = m1 := by omega
          subst hkm
          have HF := Lib.hid (HQ5.out.trans (hbs.mono HQ5.out.size))
          clear hbs
          go_wp2
          go_roundw
          case rel => exact ⟨1, by omega, rfl, HF.out⟩
          case measure => simp [intOf]
    · go_wp2_with fail
      refine (HCP.out wr A1 c1 true HBW.out HE.out q1).mono ?_
      rintro e w4 ⟨B4, c4, rfl, he4, q4, hb4⟩
      have HB4 := Lib.hid (HBW.out.trans (hb4.mono HBW.out.size))
      have HQ4 := Lib.hid (HBQ.out.trans (hb4.mono HBQ.out.size))
      have HE4 := Lib.hid he4
      have HO4 := Lib.hid (HE.out.below hb4)
      have HKB : Hid (∀ q t, now ≤ t → (q ∈ xs ∨ q = 9223372036854775807) → ∀ W B c, EntsIn W B (cpt xs now true o) → (cpt xs now true o).length ≤ c → Calls Try.prog 16 #[.slice B (cpt xs now true o).length c, .int .i64 q, .int .i64 t] W fun e w' => ∃ B' c', e = .returned (.slice B' (vis q t o).length c') ∧ EntsIn w' B' (vis q t o) ∧ (vis q t o).length ≤ 100 ∧ Below W.heap.size W w') := Lib.hid fun q t ht hq => HK.out w4 A1 q t true HO4.out ht hq
      obtain ⟨K, hK⟩ : ∃ K, cpt xs now true o = K := ⟨_, rfl⟩
      rw [hK] at HKB HE4 q4 ⊢
      obtain ⟨kn, hkn⟩ : ∃ kn, K.length = kn := ⟨_, rfl⟩
      rw [hkn] at HKB q4 ⊢
      have HX4 := Lib.hid (HX2.out.below HB4.out)
      clear he4 hb4 z0 z1 hK hkn
      go_wp2_with (at_builtin; refine wpList_append_grows _ rfl _ _ 43 rfl 2 i0 (.int .i64 0) 1 8 Try.underlying43 hi hz0 hz1 hz2 rfl (by decide) X m m (xs.map (Value.int .i64)) rfl HXN.out ?lo ?olds ⟨w4.heap.size, 0, none⟩ 1 1 [.int .i64 9223372036854775807] rfl rfl ?c1 ?c2 ?full ?m1 ?m2 ?_)
      case lo => simp [HXM.out]
      case olds =>
        intro b hA j u hj
        have hjx : j < xs.length := by
          have := (List.getElem?_eq_some_iff.1 hj).1
          simpa using this
        obtain ⟨b', off, hA', hbl, hcc⟩ := HX4.out.at_ (by omega)
        rw [hA] at hA'
        injection hA' with hA'
        subst hA'
        rw [add_off]
        refine Lib.cell?_alloc_some _ ?_
        rw [hcc j hjx]
        rw [List.getElem?_map, List.getElem?_eq_getElem hjx] at hj
        exact hj
      case c1 =>
        intro j u hj
        obtain rfl : j = 0 := by
          have := (List.getElem?_eq_some_iff.1 hj).1
          simpa using this
        rw [add_off]
        rw [cell_of_row _ _ _ _ _ _ (heap_alloc_new w4 _)]
        · simpa using hj
      case c2 => intro u hu; simp at hu; rw [hu]; rfl
      case full => omega
      case m1 => unfold maxLen; omega
      case m2 => omega
      intro v5 w5 hown hgrow
      have hown' : w5.ownsRow (w4.alloc (.cells #[.int .i64 9223372036854775807] 2)).heap.size 2 1 v5 (m + 1) ((xs ++ [9223372036854775807]).map (Value.int .i64)) := by simpa using hown
      obtain ⟨B5, c5, rfl, hi5, -⟩ := own_i64 (by rw [List.length_append, HXM.out]; rfl) hown'
      have hb45 : Below w4.heap.size w4 w5 := ((Below.refl _ w4).alloc (Nat.le_refl _) _).grown hgrow (by simp) (fun k e => by cases e)
      have HI5 := Lib.hid hi5
      have HB5 := Lib.hid (HB4.out.trans (hb45.mono HB4.out.size))
      have HQ5 := Lib.hid (HQ4.out.trans (hb45.mono HQ4.out.size))
      have HE5 := Lib.hid (HE4.out.below hb45)
      have HO5 := Lib.hid (HO4.out.below hb45)
      have HMEM : Hid (∀ k (h : k < (xs ++ [(9223372036854775807 : Int)]).length), (xs ++ [(9223372036854775807 : Int)])[k] ∈ xs ∨ (xs ++ [(9223372036854775807 : Int)])[k] = 9223372036854775807) := Lib.hid fun k h => by
        have := List.getElem_mem h
        rcases List.mem_append.1 this with h | h
        · exact .inl h
        · exact .inr (by simpa using h)
      have HLEN : Hid ((xs ++ [(9223372036854775807 : Int)]).length = m + 1) := Lib.hid (by rw [List.length_append, HXM.out]; rfl)
      clear hown hown' hgrow hb45 hi5 HE4 HO4 HX4 HB4 HQ4
      obtain ⟨qs, hqs⟩ : ∃ qs, xs ++ [(9223372036854775807 : Int)] = qs := ⟨_, rfl⟩
      rw [hqs] at HI5 HMEM HLEN
      clear hqs
      obtain ⟨m1, hm1⟩ : ∃ m1, m + 1 = m1 := ⟨_, rfl⟩
      have hm21 : m1 ≤ 21 := by omega
      have hm1i : (m : Int) + 1 = (m1 : Int) := by omega
      rw [hm1] at HLEN ⊢
      clear hm1
      go_wp2_with fail
      go_loopw [56] (fun i ws => ∃ k : Nat, k ≤ m1 ∧ i = .int .i64 k ∧ Below w5.heap.size w5 ws) (fun i _ => m1 - (intOf i).toNat)
      case atStart => exact ⟨0, by omega, rfl, Below.refl _ _⟩
      case round =>
        obtain ⟨k, hk, rfl, hbs⟩ := hrel
        have HBS := Lib.hid hbs
        by_cases hlt : k < m1
        · have hkl : k < qs.length := by rw [HLEN.out]; exact hlt
          obtain ⟨b6, off6, hA6, hbl6, hc6⟩ := (HI5.out.below hbs).at_ (by omega)
          have y0 := hc6 k hkl
          have hmem := HMEM.out k hkl
          obtain ⟨q, hq⟩ : ∃ q, qs[k] = q := ⟨_, rfl⟩
          rw [hq] at y0 hmem
          have HV1 := Lib.hid (fun W B c => HKB.out q now (Int.le_refl _) hmem W B c)
          have HV2 := Lib.hid (fun W B c => HV.out W B c q now)
          have HV3 := Lib.hid (fun W B c => HKB.out q later HNL.out hmem W B c)
          have HV4 := Lib.hid (fun W B c => HV.out W B c q later)
          have g0 : (0 : Int) ≤ (k : Int) := by omega
          have g1 : (k : Int) < (m1 : Int) := by omega
          have hE1 := HE5.out.below hbs
          have hO1 := HO5.out.below hbs
          have HE6 := Lib.hid hE1
          have HO6 := Lib.hid hO1
          subst hA6
          clear hbs hc6 hq hmem hkl hE1 hO1
          go_wp2_with fail
          refine (HV1.out _ B4 c4 HE6.out q4).mono ?_
          rintro e w7 ⟨B7, c7, rfl, he7, l7, hb7⟩
          have HQ7 := Lib.hid (HBS.out.trans (hb7.mono HBS.out.size))
          have HE7 := Lib.hid (HE6.out.below hb7)
          have HO7 := Lib.hid (HO6.out.below hb7)
          have HR7 := Lib.hid he7
          clear he7 hb7 y0 HV1 HE6 HO6
          go_wp2_with fail
          refine (HV2.out w7 A1 c1 HO7.out q1).mono ?_
          rintro e w8 ⟨B8, c8, rfl, he8, l8, hb8⟩
          have HQ8 := Lib.hid (HQ7.out.trans (hb8.mono HQ7.out.size))
          have HE8 := Lib.hid (HE7.out.below hb8)
          have HO8 := Lib.hid (HO7.out.below hb8)
          have HR8 := Lib.hid he8
          have HR7 := Lib.hid (HR7.out.below hb8)
          clear he8 hb8 HV2 HE7 HO7
          go_wp2_with fail
          refine (HAK.out _ _ _ _ _ _ HR7.out HR8.out l8).mono ?_
          rintro e w9 ⟨rfl, hb9⟩
          have HQ9 := Lib.hid (HQ8.out.trans (hb9.mono HQ8.out.size))
          have HE9 := Lib.hid (HE8.out.below hb9)
          have HO9 := Lib.hid (HO8.out.below hb9)
          clear hb9 HE8 HO8 HR7 HR8 l7 l8
          go_wp2_with fail
          refine (HV3.out w9 B4 c4 HE9.out q4).mono ?_
          rintro e wa ⟨Ba, ca, rfl, hea, la, hba⟩
          have HQa := Lib.hid (HQ9.out.trans (hba.mono HQ9.out.size))
          have HOa := Lib.hid (HO9.out.below hba)
          have HRa := Lib.hid hea
          clear hea hba HV3 HE9 HO9
          go_wp2_with fail
          refine (HV4.out wa A1 c1 HOa.out q1).mono ?_
          rintro e wb ⟨Bb, cb, rfl, heb, lb, hbb⟩
          have HQb := Lib.hid (HQa.out.trans (hbb.mono HQa.out.size))
          have HRb := Lib.hid heb
          have HRa := Lib.hid (HRa.out.below hbb)
          clear heb hbb HV4 HOa
          go_wp2_with fail
          refine (HAK.out _ _ _ _ _ _ HRa.out HRb.out lb).mono ?_
          rintro e wc ⟨rfl, hbc⟩
          have HQc := Lib.hid (HQb.out.trans (hbc.mono HQb.out.size))
          clear hbc HRa HRb la lb
          go_wp2
          go_roundw
          case rel => exact ⟨k + 1, by omega, by go_num, HQc.out⟩
          case measure => simp [intOf]; omega
        · have hkm : k = m1 := by omega
          subst hkm
          have HF := Lib.hid (HQ5.out.trans (hbs.mono HQ5.out.size))
          clear hbs
          go_wp2
          go_roundw
          case rel => exact ⟨2, by omega, rfl, HF.out⟩
          case measure => simp [intOf]
    · clear z0 z1
      go_wp2_with fail
      refine (HW.out _).mono ?_
      rintro e w4 ⟨rfl, hb4⟩
      have HB4 := Lib.hid (HBW.out.trans (hb4.mono HBW.out.size))
      clear hb4
      go_wp2
      go_ret
      exact ⟨rfl, HB4.out⟩

set_option maxRecDepth 100000 in
theorem contract (H : Type) (enc : TypeId × Value → H) (W : World) (base : Nat) (args : Array Value) (ds gs : List (DataW H)) (before : List MemPlace)
    (hval : ∀ (j : Nat) t v, Try.f6.params[j]? = some t → args[j]? = some v → Value.okWide Try.prog W .any base t v)
    (hW : DataW.Whole enc Try.prog Try.f6.params.toList Rows.mergeKeepsSpec.vars false W args.toList ds gs before)
    (hz : (DataW.weightsEach Try.prog Try.f6.params.toList (ds ++ gs)).all (· ≤ reachBytes) = true) :
    Calls Try.prog 6 args W fun e W' => ∃ v, e = .returned v ∧ Rows.mergeKeepsSpec.post enc Try.prog Try.f6 false true false false W args v W' := by
  have hW' := hW
  obtain ⟨p, q, hA0, hV, rfl, hfz, hnd⟩ := hW
  have hA : DataW.TrodAll enc Try.prog W 0 (fun _ => true) true Try.f6.params.toList args.toList ds p := hA0
  rw [Try.params6] at hA hval hz
  obtain ⟨v0, vs0, d0, ds0, p0, q0, hargs, rfl, rfl, h0, r0⟩ := trodAll_cons hA
  obtain ⟨v1, vs1, d1, ds1, p1, q1, rfl, rfl, rfl, h1, r1⟩ := trodAll_cons r0
  obtain ⟨v2, vs2, d2, ds2, p2, q2, rfl, rfl, rfl, h2, r2⟩ := trodAll_cons r1
  obtain ⟨rfl, rfl, rfl⟩ := trodAll_nil r2
  obtain rfl : args = #[v0, v1, v2] := by cases args; simp_all
  obtain ⟨rfl, rfl⟩ := trodVars_none hV
  obtain ⟨lA, lN, lC, l, rfl, hlenl, hinl, hbl, hcapl⟩ := open_ents (hval 0 22 v0 rfl rfl) h0 (parts_sized hz (j := 0) rfl rfl)
  obtain ⟨sA, sN, sC, s, rfl, hlens, hins, hfits, hbs, hcaps⟩ := open_n64 Try.underlying43 Try.underlying2 (by kernel_rfl) (by kernel_rfl) (hval 1 43 v1 rfl rfl) h1 (parts_sized hz (j := 1) rfl rfl)
  obtain ⟨x0, x1, rfl, rfl, hfx0, hfx1⟩ := open_ints2 Try.underlying47 Try.underlying2 (by kernel_rfl) (by kernel_rfl) (hval 2 47 v2 rfl rfl) h2
  refine (walk lA lN lC l sA sN sC s x0 x1 W hlenl hinl hbl hcapl hlens hins hbs hcaps).mono fun e W' ⟨he, hB⟩ => ?_
  subst he
  exact ⟨_, rfl, law_post Try.laidOut (by kernel_rfl) rfl rfl Try.underlying4 hW' rfl hB⟩

set_option maxRecDepth 100000 in
theorem lifted (os : Os) (started : os.Started) (H : Type) (enc : TypeId × Value → H) :
    ReturnsInHanded {} Try.checked os 6 .any (Rows.mergeKeepsSpec.pre6 enc Try.prog Try.f6 Rows.mergeKeepsRow.domain false) (Rows.mergeKeepsSpec.post enc Try.prog Try.f6 false true false false) := by
  refine returnsInHanded_of_change_sized (C := Try.checked) Try.own started (by kernel_rfl) Try.func6
    (ChangeSpec.witness6 (enc := enc) (C := Try.checked) false ⟨#[], #[.slice none 0 0, .slice none 0 0, .agg #[.int .i64 0, .int .i64 0]], []⟩ 8 (by kernel_rfl) (by kernel_rfl) (by kernel_rfl) (by kernel_rfl)) ?_
  intro W base args ds gs before hval hW _ hz _
  exact contract H enc W base args ds gs before hval hW hz

theorem proved : Rows.MergeKeepsSaid :=
  OpenClaim.holds_of_wide 6 Try.f6 rfl rfl rfl rfl rfl rfl rfl ⟨rfl, rfl, rfl, rfl, rfl⟩ rfl rfl rfl rfl rfl (by kernel_rfl) Try.func6 (by kernel_rfl)
    (of_decide_eq_true (by kernel_rfl)) (by unfold Func.isWrapper; first | (rw [if_pos (by decide +kernel)]; kernel_rfl) | (rw [if_neg (by decide +kernel)]; exact ⟨rfl, rfl⟩))
    (fun os started H enc _ => lifted os started H enc)
end lawKeeps
end Go.Proofs.Ytfbhdggmefacjaa
