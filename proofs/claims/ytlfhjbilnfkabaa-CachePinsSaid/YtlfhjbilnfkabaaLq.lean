/- CachePins: a block that is pinned stays kept, with its data, whatever else is put, or given back, but for a Drop of its file. For every limit, act and acts. -/
import Derived.Test.YtlfhjbilnfkabaaLq0
namespace Go.Proofs.Ytlfhjbilnfkabaa
open Go.ChangeShapes Go.WideShapes Go.ChangeAt Go.RowKit
open BM CM
namespace lawPins

theorem mod3 (d : Int) : d.tmod 3 = 0 ∨ d.tmod 3 = 1 ∨ d.tmod 3 = -1 ∨ d.tmod 3 = 2 ∨ d.tmod 3 = -2 := by
  rcases Int.le_total 0 d with h | h
  · rw [Int.tmod_eq_emod_of_nonneg h]; omega
  · obtain ⟨e, rfl⟩ : ∃ e, d = -e := ⟨-d, by omega⟩
    rw [Int.neg_tmod, Int.tmod_eq_emod_of_nonneg (show 0 ≤ e by omega)]; omega

set_option maxRecDepth 100000 in
set_option maxHeartbeats 8000000 in
theorem walk (l : Int) (a : AC) (hwf : a.wf) (A : Option Addr) (n cap : Nat) (sc : List AC) (w : World) (hlen : sc.length = n) (hin : ActsIn w w.heap.size A sc) (hb : n * 48 ≤ reachBytes) (hcap : n ≤ cap) :
    Calls Try.prog 5 #[.int .i64 l, a.val, .slice A n cap] w fun e w' => e = .returned (.bool true) ∧ Below w.heap.size w w' := by
  have hn : n ≤ 9223372036854775807 := by unfold reachBytes at hb; omega
  have HIN := Lib.hid hin
  have HLEN := Lib.hid hlen
  obtain ⟨m, hm⟩ : ∃ m : Nat, min (n : Int) 60 = m := ⟨min n 60, by omega⟩
  have hm1 : m ≤ n ∧ m ≤ 60 := by omega
  have hsl := fun W => slice_head W A n cap m (by omega)
  have HLS := Lib.hid hsl
  clear hin hb hlen hsl
  obtain ⟨ad, f, k, d, an⟩ := a
  have hf64 := hwf.f
  have hk64 := hwf.k
  have hd64 := hwf.dat
  simp only at hf64 hk64 hd64
  have HFK : Hid (i64 f ∧ i64 k ∧ d.size ≤ 140737488351232) := Lib.hid ⟨hf64, hk64, hd64⟩
  have HCO := Lib.hid (fun W => cost_any d W hd64)
  have hval : AC.val ⟨ad, f, k, d, an⟩ = .agg #[.int .i64 ad, .int .i64 f, .int .i64 k, .string d, .int .i64 an] := rfl
  rw [hval]
  clear hwf hf64 hk64 hd64 hval
  have hal0 := (Below.refl w.heap.size w).alloc (Nat.le_refl _) (.cells #[.int .i64 ad, .int .i64 f, .int .i64 k, .string d, .int .i64 an] 36)
  have hrow0 := heap_alloc_new w (.cells #[.int .i64 ad, .int .i64 f, .int .i64 k, .string d, .int .i64 an] 36)
  have hs0 : (w.alloc (.cells #[.int .i64 ad, .int .i64 f, .int .i64 k, .string d, .int .i64 an] 36)).heap.size = w.heap.size + 1 := by simp
  go_enter Try.func5, Try.ntmps5
  go_wp2_with fail
  obtain ⟨y, hy⟩ : ∃ y, w.heap.size = y := ⟨_, rfl⟩
  have HY := Lib.hid hy
  generalize w.alloc (.cells #[.int .i64 ad, .int .i64 f, .int .i64 k, .string d, .int .i64 an] 36) = w0 at hal0 hrow0 hs0 ⊢
  rw [hy] at hrow0 hs0 ⊢
  refine (new_any l w0).mono ?_
  rintro e w1 ⟨rfl, hb1, hbel⟩
  have HNW := Lib.hid (live_new (W := w) (w := w1) (hal0.trans (hbel.mono (by omega))) hb1 (by omega) (ok_new l) rfl)
  have HR1 := Lib.hid ((hbel.block y (by omega)).trans hrow0)
  have HS1 : Hid (w0.heap.size = y + 1 ∧ w0.heap.size ≤ w1.heap.size) := Lib.hid ⟨hs0, hbel.size⟩
  clear hb1 hbel hal0 hrow0 hs0 hy
  obtain ⟨b, hbb⟩ : ∃ b, w0.heap.size = b := ⟨_, rfl⟩
  rw [hbb] at HNW HS1 ⊢
  clear hbb
  go_wp2_with fail
  refine HNW.out.mono ?_
  rintro e w2 ⟨c, z, rfl, hl2, hbe2, hz1, hc1⟩
  have hr2 := (hbe2.block y (by have := HS1.out; omega)).trans HR1.out
  have hal3 := (Below.refl w2.heap.size w2).alloc (Nat.le_refl _) (.cells #[.int .i64 f, .int .i64 k] 42)
  have hrow3 := heap_alloc_new w2 (.cells #[.int .i64 f, .int .i64 k] 42)
  have hs3 : (w2.alloc (.cells #[.int .i64 f, .int .i64 k] 42)).heap.size = w2.heap.size + 1 := by simp
  have hown := hl2.rep.own_lt
  have hl3 := hl2.still hal3
  have hy2 : y < w2.heap.size := (Array.getElem?_eq_some_iff.1 hr2).1
  have HBA : Hid (Box (w2.alloc (.cells #[.int .i64 f, .int .i64 k] 42)) y #[.int .i64 ad, .int .i64 f, .int .i64 k, .string d, .int .i64 an] 36 (own c z b [])) := Lib.hid
    ⟨(hal3.block y hy2).trans hr2, fun ho => by
      have := HS1.out
      rcases ho with h | h | h | h
      · omega
      · omega
      · omega
      · simp [ads] at h⟩
  have HBK : Hid (Box (w2.alloc (.cells #[.int .i64 f, .int .i64 k] 42)) w2.heap.size #[.int .i64 f, .int .i64 k] 42 (own c z b [])) := Lib.hid ⟨hrow3, fun ho => by have := hown _ ho; omega⟩
  have x1 : w2.cell? ⟨y, 1, none⟩ = some (.int .i64 f) := cell_of_row _ _ _ _ _ _ hr2
  have x2 : w2.cell? ⟨y, 2, none⟩ = some (.int .i64 k) := cell_of_row _ _ _ _ _ _ hr2
  have HL3 := Lib.hid hl3
  clear hr2 hal3 hrow3 hs3 hown hl2 hbe2 hz1 hc1 HNW HR1 HS1 hl3 hy2
  have y1 := HBA.out.cell (j := 1) rfl
  have y2 := HBA.out.cell (j := 2) rfl
  have y3 := HBA.out.cell (j := 3) rfl
  have k0 := HBK.out.cell (j := 0) rfl
  have k1 := HBK.out.cell (j := 1) rfl
  go_wp2_with fail
  generalize w2.alloc (.cells #[.int .i64 f, .int .i64 k] 42) = w3 at HL3 HBA HBK y1 y2 y3 k0 k1 ⊢
  generalize w2.heap.size = yk at HBK k0 k1 ⊢
  clear x1 x2
  obtain ⟨r, hr⟩ : ∃ r, putB f k d [] (new l) = r := ⟨_, rfl⟩
  have HP := Lib.hid (HL3.out.put (by omega) (by simp) HFK.out.1 HFK.out.2.1 d HFK.out.2.2 (r := r) hr)
  rw [put_nil] at hr
  unfold keyV at HP
  by_cases hfit : (cost d : Int) ≤ left (new l)
  · rw [if_pos hfit] at hr
    subst hr
    refine HP.out.mono ?_
    rintro e w4 ⟨rfl, N4, Z4, ht, hz⟩
    have HA4 := Lib.hid (HBA.out.turn ht)
    have HK4 := Lib.hid (HBK.out.turn ht)
    have HL4 := Lib.hid ht.live
    have HN4 : Hid (N4 ≤ 1 ∧ Z4.length ≤ 1) := Lib.hid ⟨ht.bound, by have := ht.len; simpa using this⟩
    have HPI := Lib.hid (ht.live.pin HFK.out.1 HFK.out.2.1 (by rw [hz]; simp) (r := (true, [⟨f, k, d, 1⟩])) (by rw [hz]; exact pin_one f k d))
    unfold keyV at HPI
    clear ht hz HP hfit y1 y2 y3 k0 k1
    have y3 := HA4.out.cell (j := 3) rfl
    have k0 := HK4.out.cell (j := 0) rfl
    have k1 := HK4.out.cell (j := 1) rfl
    go_wp2_with fail
    refine HPI.out.mono ?_
    rintro e w5 ⟨rfl, Z5, ht, hz⟩
    have HA5 := Lib.hid (HA4.out.turn ht)
    have HK5 := Lib.hid (HK4.out.turn ht)
    have HL5 := Lib.hid ht.live
    have HM5 : Hid ((⟨f, k, d, 1⟩ : Blk) ∈ bl Z5) := Lib.hid (by rw [hz]; simp)
    have HN5 : Hid (N4 ≤ 1 ∧ Z5.length ≤ 1) := Lib.hid ⟨HN4.out.1, by rw [← bl_len, hz]; simp⟩
    clear ht hz HPI y3 k0 k1
    have hsl := HLS.out
    go_wp2_with fail
    go_loopw [51] (fun i wr => ∃ (j N : Nat) (Z : Zs) (s : S), j ≤ m ∧ i = .int .i64 j ∧ N ≤ j + 1 ∧ Z.length ≤ j + 1 ∧ Hid (Live w wr c z b N Z s) ∧ Hid ((⟨f, k, d, 1⟩ : Blk) ∈ bl Z) ∧
      Hid (Box wr y #[.int .i64 ad, .int .i64 f, .int .i64 k, .string d, .int .i64 an] 36 (own c z b Z)) ∧ Hid (Box wr yk #[.int .i64 f, .int .i64 k] 42 (own c z b Z))) (fun i _ => m - (intOf i).toNat)
    case atStart => exact ⟨0, N4, Z5, _, by omega, rfl, HN5.out.1, HN5.out.2, HL5, HM5, HA5, HK5⟩
    case round =>
      obtain ⟨j, N, Z, s, hj, rfl, hNj, hZj, HL, HM, HA, HK⟩ := hrel
      by_cases hlt : j < m
      · have hjl : j < sc.length := by rw [HLEN.out]; omega
        obtain ⟨q, off, hA, hql, hc⟩ := (HIN.out.below HL.out.below).at_ (by omega)
        obtain ⟨c0, c1, c2, c3, c4⟩ := hc j hjl
        obtain ⟨x, hx⟩ : ∃ x, sc[j] = x := ⟨_, rfl⟩
        have hxw : x.wf := HIN.out.wf x (by rw [← hx]; exact List.getElem_mem hjl)
        rw [hx] at c0 c1 c2 c3 c4
        obtain ⟨xd, xf, xk, xs, xn⟩ := x
        simp only at c0 c1 c2 c3 c4
        have HXW : Hid (i64 xf ∧ i64 xk ∧ xs.size ≤ 140737488351232 ∧ i64 xn) := Lib.hid ⟨hxw.f, hxw.k, hxw.dat, hxw.n⟩
        subst hA
        have HX := Lib.hid (boxes_new (ad := xd) (f := xf) (k := xk) (d := xs) (an := xn) wr HL.out.rep.own_lt)
        have hB2 := below_two wr (.cells #[.int .i64 xd, .int .i64 xf, .int .i64 xk, .string xs, .int .i64 xn] 36) (.cells #[.int .i64 xf, .int .i64 xk] 42)
        obtain ⟨v, hv⟩ : ∃ v, wr.heap.size = v := ⟨_, rfl⟩
        have HLk := Lib.hid (HL.out.still hB2)
        have HAk := Lib.hid (HA.out.still hB2)
        have HKk := Lib.hid (HK.out.still hB2)
        rw [hv] at HX
        have HV := Lib.hid hv
        have z0 : ((wr.alloc (.cells #[.int .i64 xd, .int .i64 xf, .int .i64 xk, .string xs, .int .i64 xn] 36)).alloc (.cells #[.int .i64 xf, .int .i64 xk] 42)).cell? ⟨v, 0, none⟩ = some (.int .i64 xd) := cell_of_row _ _ _ _ _ _ HX.out.act
        have z1 : ((wr.alloc (.cells #[.int .i64 xd, .int .i64 xf, .int .i64 xk, .string xs, .int .i64 xn] 36)).alloc (.cells #[.int .i64 xf, .int .i64 xk] 42)).cell? ⟨v, 1, none⟩ = some (.int .i64 xf) := cell_of_row _ _ _ _ _ _ HX.out.act
        have z2 : ((wr.alloc (.cells #[.int .i64 xd, .int .i64 xf, .int .i64 xk, .string xs, .int .i64 xn] 36)).alloc (.cells #[.int .i64 xf, .int .i64 xk] 42)).cell? ⟨v, 2, none⟩ = some (.int .i64 xk) := cell_of_row _ _ _ _ _ _ HX.out.act
        have z3 : ((wr.alloc (.cells #[.int .i64 xd, .int .i64 xf, .int .i64 xk, .string xs, .int .i64 xn] 36)).alloc (.cells #[.int .i64 xf, .int .i64 xk] 42)).cell? ⟨v, 3, none⟩ = some (.string xs) := cell_of_row _ _ _ _ _ _ HX.out.act
        have z4 : ((wr.alloc (.cells #[.int .i64 xd, .int .i64 xf, .int .i64 xk, .string xs, .int .i64 xn] 36)).alloc (.cells #[.int .i64 xf, .int .i64 xk] 42)).cell? ⟨v, 4, none⟩ = some (.int .i64 xn) := cell_of_row _ _ _ _ _ _ HX.out.act
        have z5 := HX.out.k0
        have z6 := HX.out.k1
        have y1 := HAk.out.cell (j := 1) rfl
        clear hc hx hxw hB2 hv hsl
        rcases mod3 xd with hm0 | hm0 | hm0 | hm0 | hm0
        · go_wp2_with fail
          rw [HV.out]
          generalize (wr.alloc (.cells #[.int .i64 xd, .int .i64 xf, .int .i64 xk, .string xs, .int .i64 xn] 36)).alloc (.cells #[.int .i64 xf, .int .i64 xk] 42) = wk at HX HLk HAk HKk z0 z1 z2 z3 z4 z5 z6 y1 ⊢
          obtain ⟨r6, hr6⟩ : ∃ r, putB xf xk xs (bl Z) s = r := ⟨_, rfl⟩
          have HP := Lib.hid (HLk.out.put (by omega) (by omega) HXW.out.1 HXW.out.2.1 xs HXW.out.2.2.1 hr6)
          unfold keyV at HP
          have HPM : Hid ((⟨f, k, d, 1⟩ : Blk) ∈ r6.2.1) := Lib.hid (by rw [← hr6]; exact put_mem HM.out rfl)
          clear hr6
          go_wp2_with fail
          refine HP.out.mono ?_
          rintro e w6 ⟨rfl, N6, Z6, ht, hz⟩
          have HA6 := Lib.hid (HAk.out.turn ht)
          have HK6 := Lib.hid (HKk.out.turn ht)
          have HL6 := Lib.hid ht.live
          have HM6 : Hid ((⟨f, k, d, 1⟩ : Blk) ∈ bl Z6) := Lib.hid (by rw [hz]; exact HPM.out)
          have HN6 : Hid (N6 ≤ j + 1 + 1 ∧ Z6.length ≤ j + 2) := Lib.hid ⟨by have := ht.bound; omega, by have := ht.len; omega⟩
          clear ht hz c0 c1 c2 c3 c4 z0 z1 z2 z3 z4 z5 z6 y1 HP
          have k0 := HK6.out.cell (j := 0) rfl
          have k1 := HK6.out.cell (j := 1) rfl
          have y3 := HA6.out.cell (j := 3) rfl
          obtain ⟨L7, hg7, hm7, hn7⟩ := get_mem HL6.out.apt HM6.out (f := f) (k := k) rfl rfl
          have HG := Lib.hid (HL6.out.get HFK.out.1 HFK.out.2.1 hg7)
          unfold keyV at HG
          have HM7 := Lib.hid hm7
          have HN7 : Hid (L7.length ≤ j + 2) := Lib.hid (by rw [hn7, bl_len]; exact HN6.out.2)
          clear hg7 hm7 hn7
          go_wp2_with fail
          refine HG.out.mono ?_
          rintro e w7 ⟨rfl, Z7, ht, hz⟩
          have HA7 := Lib.hid (HA6.out.turn ht)
          have HK7 := Lib.hid (HK6.out.turn ht)
          have HL7 := Lib.hid ht.live
          have HZ7 : Hid (Z7.length ≤ j + 2) := Lib.hid (by rw [← bl_len, hz]; exact HN7.out)
          have HM8 : Hid ((⟨f, k, d, 1⟩ : Blk) ∈ bl Z7) := Lib.hid (by rw [hz]; exact HM7.out)
          clear ht hz HG k0 k1 y3
          have y3 := HA7.out.cell (j := 3) rfl
          go_wp2
          go_roundw
          case rel => exact ⟨j + 1, N6, Z7, _, by omega, by go_num, HN6.out.1, HZ7.out, HL7, HM8, HA7, HK7⟩
          case measure => simp [intOf]; omega
        · go_wp2_with fail
          rw [HV.out]
          generalize (wr.alloc (.cells #[.int .i64 xd, .int .i64 xf, .int .i64 xk, .string xs, .int .i64 xn] 36)).alloc (.cells #[.int .i64 xf, .int .i64 xk] 42) = wk at HX HLk HAk HKk z0 z1 z2 z3 z4 z5 z6 y1 ⊢
          obtain ⟨r6, hr6⟩ : ∃ r, shrB xn (bl Z) s = r := ⟨_, rfl⟩
          have HP := Lib.hid (HLk.out.shrink (by omega) HXW.out.2.2.2 hr6)
          have HPM : Hid ((⟨f, k, d, 1⟩ : Blk) ∈ r6.2.1) := Lib.hid (by rw [← hr6]; exact shr_mem HM.out rfl)
          clear hr6
          go_wp2_with fail
          refine HP.out.mono ?_
          rintro e w6 ⟨rfl, Z6, ht, hz⟩
          have HA6 := Lib.hid (HAk.out.turn ht)
          have HK6 := Lib.hid (HKk.out.turn ht)
          have HL6 := Lib.hid ht.live
          have HM6 : Hid ((⟨f, k, d, 1⟩ : Blk) ∈ bl Z6) := Lib.hid (by rw [hz]; exact HPM.out)
          have HN6 : Hid (N ≤ j + 1 + 1 ∧ Z6.length ≤ j + 2) := Lib.hid ⟨by omega, by have := ht.len; omega⟩
          clear ht hz c0 c1 c2 c3 c4 z0 z1 z2 z3 z4 z5 z6 y1 HP
          have k0 := HK6.out.cell (j := 0) rfl
          have k1 := HK6.out.cell (j := 1) rfl
          have y3 := HA6.out.cell (j := 3) rfl
          obtain ⟨L7, hg7, hm7, hn7⟩ := get_mem HL6.out.apt HM6.out (f := f) (k := k) rfl rfl
          have HG := Lib.hid (HL6.out.get HFK.out.1 HFK.out.2.1 hg7)
          unfold keyV at HG
          have HM7 := Lib.hid hm7
          have HN7 : Hid (L7.length ≤ j + 2) := Lib.hid (by rw [hn7, bl_len]; exact HN6.out.2)
          clear hg7 hm7 hn7
          go_wp2_with fail
          refine HG.out.mono ?_
          rintro e w7 ⟨rfl, Z7, ht, hz⟩
          have HA7 := Lib.hid (HA6.out.turn ht)
          have HK7 := Lib.hid (HK6.out.turn ht)
          have HL7 := Lib.hid ht.live
          have HZ7 : Hid (Z7.length ≤ j + 2) := Lib.hid (by rw [← bl_len, hz]; exact HN7.out)
          have HM8 : Hid ((⟨f, k, d, 1⟩ : Blk) ∈ bl Z7) := Lib.hid (by rw [hz]; exact HM7.out)
          clear ht hz HG k0 k1 y3
          have y3 := HA7.out.cell (j := 3) rfl
          go_wp2
          go_roundw
          case rel => exact ⟨j + 1, N, Z7, _, by omega, by go_num, HN6.out.1, HZ7.out, HL7, HM8, HA7, HK7⟩
          case measure => simp [intOf]; omega
        · go_wp2_with fail
          rw [HV.out]
          generalize (wr.alloc (.cells #[.int .i64 xd, .int .i64 xf, .int .i64 xk, .string xs, .int .i64 xn] 36)).alloc (.cells #[.int .i64 xf, .int .i64 xk] 42) = wk at HX HLk HAk HKk z0 z1 z2 z3 z4 z5 z6 y1 ⊢
          obtain ⟨r6, hr6⟩ : ∃ r, shrB xn (bl Z) s = r := ⟨_, rfl⟩
          have HP := Lib.hid (HLk.out.shrink (by omega) HXW.out.2.2.2 hr6)
          have HPM : Hid ((⟨f, k, d, 1⟩ : Blk) ∈ r6.2.1) := Lib.hid (by rw [← hr6]; exact shr_mem HM.out rfl)
          clear hr6
          go_wp2_with fail
          refine HP.out.mono ?_
          rintro e w6 ⟨rfl, Z6, ht, hz⟩
          have HA6 := Lib.hid (HAk.out.turn ht)
          have HK6 := Lib.hid (HKk.out.turn ht)
          have HL6 := Lib.hid ht.live
          have HM6 : Hid ((⟨f, k, d, 1⟩ : Blk) ∈ bl Z6) := Lib.hid (by rw [hz]; exact HPM.out)
          have HN6 : Hid (N ≤ j + 1 + 1 ∧ Z6.length ≤ j + 2) := Lib.hid ⟨by omega, by have := ht.len; omega⟩
          clear ht hz c0 c1 c2 c3 c4 z0 z1 z2 z3 z4 z5 z6 y1 HP
          have k0 := HK6.out.cell (j := 0) rfl
          have k1 := HK6.out.cell (j := 1) rfl
          have y3 := HA6.out.cell (j := 3) rfl
          obtain ⟨L7, hg7, hm7, hn7⟩ := get_mem HL6.out.apt HM6.out (f := f) (k := k) rfl rfl
          have HG := Lib.hid (HL6.out.get HFK.out.1 HFK.out.2.1 hg7)
          unfold keyV at HG
          have HM7 := Lib.hid hm7
          have HN7 : Hid (L7.length ≤ j + 2) := Lib.hid (by rw [hn7, bl_len]; exact HN6.out.2)
          clear hg7 hm7 hn7
          go_wp2_with fail
          refine HG.out.mono ?_
          rintro e w7 ⟨rfl, Z7, ht, hz⟩
          have HA7 := Lib.hid (HA6.out.turn ht)
          have HK7 := Lib.hid (HK6.out.turn ht)
          have HL7 := Lib.hid ht.live
          have HZ7 : Hid (Z7.length ≤ j + 2) := Lib.hid (by rw [← bl_len, hz]; exact HN7.out)
          have HM8 : Hid ((⟨f, k, d, 1⟩ : Blk) ∈ bl Z7) := Lib.hid (by rw [hz]; exact HM7.out)
          clear ht hz HG k0 k1 y3
          have y3 := HA7.out.cell (j := 3) rfl
          go_wp2
          go_roundw
          case rel => exact ⟨j + 1, N, Z7, _, by omega, by go_num, HN6.out.1, HZ7.out, HL7, HM8, HA7, HK7⟩
          case measure => simp [intOf]; omega
        · by_cases hff : xf = f
          · obtain rfl := hff.symm
            have HA6 := HAk
            have HK6 := HKk
            have HL6 := HLk
            have HM6 := HM
            have HN6 : Hid (N ≤ j + 1 + 1 ∧ Z.length ≤ j + 2) := Lib.hid ⟨by omega, by omega⟩
            have k0 := HK6.out.cell (j := 0) rfl
            have k1 := HK6.out.cell (j := 1) rfl
            have y3 := HA6.out.cell (j := 3) rfl
            obtain ⟨L7, hg7, hm7, hn7⟩ := get_mem HL6.out.apt HM6.out (f := f) (k := k) rfl rfl
            have HG := Lib.hid (HL6.out.get HFK.out.1 HFK.out.2.1 hg7)
            unfold keyV at HG
            have HM7 := Lib.hid hm7
            have HN7 : Hid (L7.length ≤ j + 2) := Lib.hid (by rw [hn7, bl_len]; exact HN6.out.2)
            clear hg7 hm7 hn7
            go_wp2_with fail
            clear c0 c1 c2 c3 c4 z0 z1 z2 z3 z4 z5 z6 y1
            refine HG.out.mono ?_
            rintro e w7 ⟨rfl, Z7, ht, hz⟩
            have HA7 := Lib.hid (HA6.out.turn ht)
            have HK7 := Lib.hid (HK6.out.turn ht)
            have HL7 := Lib.hid ht.live
            have HZ7 : Hid (Z7.length ≤ j + 2) := Lib.hid (by rw [← bl_len, hz]; exact HN7.out)
            have HM8 : Hid ((⟨f, k, d, 1⟩ : Blk) ∈ bl Z7) := Lib.hid (by rw [hz]; exact HM7.out)
            clear ht hz HG k0 k1 y3
            have y3 := HA7.out.cell (j := 3) rfl
            go_wp2
            go_roundw
            case rel => exact ⟨j + 1, N, Z7, _, by omega, by go_num, HN6.out.1, HZ7.out, HL7, HM8, HA7, HK7⟩
            case measure => simp [intOf]; omega
          · have hb : (xf == f) = false := beq_eq_false_iff_ne.2 hff
            go_wp2_with fail
            rw [HV.out]
            generalize (wr.alloc (.cells #[.int .i64 xd, .int .i64 xf, .int .i64 xk, .string xs, .int .i64 xn] 36)).alloc (.cells #[.int .i64 xf, .int .i64 xk] 42) = wk at HX HLk HAk HKk z0 z1 z2 z3 z4 z5 z6 y1 ⊢
            obtain ⟨r6, hr6⟩ : ∃ r, dropB xf (bl Z) s = r := ⟨_, rfl⟩
            have HP := Lib.hid (HLk.out.drop (by omega) xf hr6)
            have HPM : Hid ((⟨f, k, d, 1⟩ : Blk) ∈ r6.1) := Lib.hid (by rw [← hr6]; exact drop_mem HM.out (fun e => hff e.symm))
            clear hr6
            go_wp2_with fail
            refine HP.out.mono ?_
            rintro e w6 ⟨rfl, Z6, ht, hz⟩
            have HA6 := Lib.hid (HAk.out.turn ht)
            have HK6 := Lib.hid (HKk.out.turn ht)
            have HL6 := Lib.hid ht.live
            have HM6 : Hid ((⟨f, k, d, 1⟩ : Blk) ∈ bl Z6) := Lib.hid (by rw [hz]; exact HPM.out)
            have HN6 : Hid (N ≤ j + 1 + 1 ∧ Z6.length ≤ j + 2) := Lib.hid ⟨by omega, by have := ht.len; omega⟩
            clear ht hz c0 c1 c2 c3 c4 z0 z1 z2 z3 z4 z5 z6 y1 HP
            have k0 := HK6.out.cell (j := 0) rfl
            have k1 := HK6.out.cell (j := 1) rfl
            have y3 := HA6.out.cell (j := 3) rfl
            obtain ⟨L7, hg7, hm7, hn7⟩ := get_mem HL6.out.apt HM6.out (f := f) (k := k) rfl rfl
            have HG := Lib.hid (HL6.out.get HFK.out.1 HFK.out.2.1 hg7)
            unfold keyV at HG
            have HM7 := Lib.hid hm7
            have HN7 : Hid (L7.length ≤ j + 2) := Lib.hid (by rw [hn7, bl_len]; exact HN6.out.2)
            clear hg7 hm7 hn7
            go_wp2_with fail
            refine HG.out.mono ?_
            rintro e w7 ⟨rfl, Z7, ht, hz⟩
            have HA7 := Lib.hid (HA6.out.turn ht)
            have HK7 := Lib.hid (HK6.out.turn ht)
            have HL7 := Lib.hid ht.live
            have HZ7 : Hid (Z7.length ≤ j + 2) := Lib.hid (by rw [← bl_len, hz]; exact HN7.out)
            have HM8 : Hid ((⟨f, k, d, 1⟩ : Blk) ∈ bl Z7) := Lib.hid (by rw [hz]; exact HM7.out)
            clear ht hz HG k0 k1 y3
            have y3 := HA7.out.cell (j := 3) rfl
            go_wp2
            go_roundw
            case rel => exact ⟨j + 1, N, Z7, _, by omega, by go_num, HN6.out.1, HZ7.out, HL7, HM8, HA7, HK7⟩
            case measure => simp [intOf]; omega
        · by_cases hff : xf = f
          · obtain rfl := hff.symm
            have HA6 := HAk
            have HK6 := HKk
            have HL6 := HLk
            have HM6 := HM
            have HN6 : Hid (N ≤ j + 1 + 1 ∧ Z.length ≤ j + 2) := Lib.hid ⟨by omega, by omega⟩
            have k0 := HK6.out.cell (j := 0) rfl
            have k1 := HK6.out.cell (j := 1) rfl
            have y3 := HA6.out.cell (j := 3) rfl
            obtain ⟨L7, hg7, hm7, hn7⟩ := get_mem HL6.out.apt HM6.out (f := f) (k := k) rfl rfl
            have HG := Lib.hid (HL6.out.get HFK.out.1 HFK.out.2.1 hg7)
            unfold keyV at HG
            have HM7 := Lib.hid hm7
            have HN7 : Hid (L7.length ≤ j + 2) := Lib.hid (by rw [hn7, bl_len]; exact HN6.out.2)
            clear hg7 hm7 hn7
            go_wp2_with fail
            clear c0 c1 c2 c3 c4 z0 z1 z2 z3 z4 z5 z6 y1
            refine HG.out.mono ?_
            rintro e w7 ⟨rfl, Z7, ht, hz⟩
            have HA7 := Lib.hid (HA6.out.turn ht)
            have HK7 := Lib.hid (HK6.out.turn ht)
            have HL7 := Lib.hid ht.live
            have HZ7 : Hid (Z7.length ≤ j + 2) := Lib.hid (by rw [← bl_len, hz]; exact HN7.out)
            have HM8 : Hid ((⟨f, k, d, 1⟩ : Blk) ∈ bl Z7) := Lib.hid (by rw [hz]; exact HM7.out)
            clear ht hz HG k0 k1 y3
            have y3 := HA7.out.cell (j := 3) rfl
            go_wp2
            go_roundw
            case rel => exact ⟨j + 1, N, Z7, _, by omega, by go_num, HN6.out.1, HZ7.out, HL7, HM8, HA7, HK7⟩
            case measure => simp [intOf]; omega
          · have hb : (xf == f) = false := beq_eq_false_iff_ne.2 hff
            go_wp2_with fail
            rw [HV.out]
            generalize (wr.alloc (.cells #[.int .i64 xd, .int .i64 xf, .int .i64 xk, .string xs, .int .i64 xn] 36)).alloc (.cells #[.int .i64 xf, .int .i64 xk] 42) = wk at HX HLk HAk HKk z0 z1 z2 z3 z4 z5 z6 y1 ⊢
            obtain ⟨r6, hr6⟩ : ∃ r, dropB xf (bl Z) s = r := ⟨_, rfl⟩
            have HP := Lib.hid (HLk.out.drop (by omega) xf hr6)
            have HPM : Hid ((⟨f, k, d, 1⟩ : Blk) ∈ r6.1) := Lib.hid (by rw [← hr6]; exact drop_mem HM.out (fun e => hff e.symm))
            clear hr6
            go_wp2_with fail
            refine HP.out.mono ?_
            rintro e w6 ⟨rfl, Z6, ht, hz⟩
            have HA6 := Lib.hid (HAk.out.turn ht)
            have HK6 := Lib.hid (HKk.out.turn ht)
            have HL6 := Lib.hid ht.live
            have HM6 : Hid ((⟨f, k, d, 1⟩ : Blk) ∈ bl Z6) := Lib.hid (by rw [hz]; exact HPM.out)
            have HN6 : Hid (N ≤ j + 1 + 1 ∧ Z6.length ≤ j + 2) := Lib.hid ⟨by omega, by have := ht.len; omega⟩
            clear ht hz c0 c1 c2 c3 c4 z0 z1 z2 z3 z4 z5 z6 y1 HP
            have k0 := HK6.out.cell (j := 0) rfl
            have k1 := HK6.out.cell (j := 1) rfl
            have y3 := HA6.out.cell (j := 3) rfl
            obtain ⟨L7, hg7, hm7, hn7⟩ := get_mem HL6.out.apt HM6.out (f := f) (k := k) rfl rfl
            have HG := Lib.hid (HL6.out.get HFK.out.1 HFK.out.2.1 hg7)
            unfold keyV at HG
            have HM7 := Lib.hid hm7
            have HN7 : Hid (L7.length ≤ j + 2) := Lib.hid (by rw [hn7, bl_len]; exact HN6.out.2)
            clear hg7 hm7 hn7
            go_wp2_with fail
            refine HG.out.mono ?_
            rintro e w7 ⟨rfl, Z7, ht, hz⟩
            have HA7 := Lib.hid (HA6.out.turn ht)
            have HK7 := Lib.hid (HK6.out.turn ht)
            have HL7 := Lib.hid ht.live
            have HZ7 : Hid (Z7.length ≤ j + 2) := Lib.hid (by rw [← bl_len, hz]; exact HN7.out)
            have HM8 : Hid ((⟨f, k, d, 1⟩ : Blk) ∈ bl Z7) := Lib.hid (by rw [hz]; exact HM7.out)
            clear ht hz HG k0 k1 y3
            have y3 := HA7.out.cell (j := 3) rfl
            go_wp2
            go_roundw
            case rel => exact ⟨j + 1, N, Z7, _, by omega, by go_num, HN6.out.1, HZ7.out, HL7, HM8, HA7, HK7⟩
            case measure => simp [intOf]; omega
      · have hjm : j = m := by omega
        subst hjm
        have HW := Lib.hid (wakes_any wr)
        have HBF := Lib.hid HL.out.below
        clear hsl
        go_wp2_with fail
        refine HW.out.mono ?_
        rintro e wz ⟨rfl, hbz⟩
        have HBZ := Lib.hid (HBF.out.trans (hbz.mono HBF.out.size))
        clear hbz
        go_wp2
        go_ret
        exact ⟨rfl, HBZ.out⟩
  · rw [if_neg hfit] at hr
    subst hr
    refine HP.out.mono ?_
    rintro e w4 ⟨rfl, N4, Z4, ht, hz⟩
    have HA4 := Lib.hid (HBA.out.turn ht)
    have HL4 := Lib.hid ht.live
    have HW := Lib.hid (wakes_any w4)
    clear ht hz HP y1 y2 y3 k0 k1
    go_wp2_with fail
    refine HW.out.mono ?_
    rintro e w5 ⟨rfl, hb5⟩
    have HL5 := Lib.hid (HL4.out.still hb5)
    have HA5 := Lib.hid (HA4.out.still hb5)
    clear hb5
    have y3 := HA5.out.cell (j := 3) rfl
    have HLF := Lib.hid (left_any HL5.out.rep.bud HL5.out.rep.ok)
    have HBE := Lib.hid HL5.out.below
    obtain ⟨K, hK⟩ : ∃ K, cost d = K := ⟨_, rfl⟩
    rw [hK] at HCO hfit
    have hlf : (new l).lim - (new l).used = left (new l) := rfl
    obtain ⟨Q, hQ⟩ : ∃ Q, left (new l) = Q := ⟨_, rfl⟩
    rw [hlf, hQ] at HLF
    rw [hQ] at hfit
    clear hlf hQ hK
    have hd : decide (Q < (K : Int)) = true := decide_eq_true (by omega)
    go_wp2_with fail
    refine (HCO.out _).mono ?_
    rintro e w6 ⟨rfl, rfl⟩
    go_wp2_with fail
    refine HLF.out.mono ?_
    rintro e w7 ⟨rfl, hb7⟩
    have HB7 := Lib.hid (HBE.out.trans (hb7.mono HBE.out.size))
    clear hb7 y3
    go_wp2
    go_ret
    exact ⟨rfl, HB7.out⟩

set_option maxRecDepth 100000 in
theorem contract (H : Type) (enc : TypeId × Value → H) (W : World) (base : Nat) (args : Array Value) (ds gs : List (DataW H)) (before : List MemPlace)
    (hval : ∀ (j : Nat) t v, Try.f5.params[j]? = some t → args[j]? = some v → Value.okWide Try.prog W .any base t v)
    (hW : DataW.Whole enc Try.prog Try.f5.params.toList Rows.cachePinsSpec.vars false W args.toList ds gs before)
    (hz : (DataW.weightsEach Try.prog Try.f5.params.toList (ds ++ gs)).all (· ≤ reachBytes) = true) :
    Calls Try.prog 5 args W fun e W' => ∃ v, e = .returned v ∧ Rows.cachePinsSpec.post enc Try.prog Try.f5 false true false false W args v W' := by
  have hW' := hW
  obtain ⟨p, q, hA0, hV, rfl, hfz, hnd⟩ := hW
  have hA : DataW.TrodAll enc Try.prog W 0 (fun _ => true) true Try.f5.params.toList args.toList ds p := hA0
  rw [Try.params5] at hA hval hz
  obtain ⟨v0, vs0, d0, ds0, p0, q0, hargs, rfl, rfl, h0, r0⟩ := trodAll_cons hA
  obtain ⟨v1, vs1, d1, ds1, p1, q1, rfl, rfl, rfl, h1, r1⟩ := trodAll_cons r0
  obtain ⟨v2, vs2, d2, ds2, p2, q2, rfl, rfl, rfl, h2, r2⟩ := trodAll_cons r1
  obtain ⟨rfl, rfl, rfl⟩ := trodAll_nil r2
  obtain rfl : args = #[v0, v1, v2] := by cases args; simp_all
  obtain ⟨rfl, rfl⟩ := trodVars_none hV
  obtain ⟨l, rfl, rfl, rfl, wl⟩ := open_int Try.underlying2 (hval 0 2 v0 rfl rfl) h0
  have hl : -9223372036854775808 ≤ l ∧ l ≤ 9223372036854775807 := by simpa [Lit.wf, IntKind.min, IntKind.max, IntKind.signed, IntKind.bits] using wl
  obtain ⟨a, rfl, hwa⟩ := open_act5 (hval 1 36 v1 rfl rfl) h1 (parts_sized hz (j := 1) rfl rfl)
  obtain ⟨scA, scN, scC, sc, rfl, hlensc, hinsc, hbsc, hcapsc⟩ := open_acts5 (hval 2 22 v2 rfl rfl) h2 (parts_sized hz (j := 2) rfl rfl)
  refine (walk l a hwa scA scN scC sc W hlensc hinsc hbsc hcapsc).mono fun e W' ⟨he, hB⟩ => ?_
  subst he
  exact ⟨_, rfl, law_post Try.laidOut (by kernel_rfl) rfl rfl Try.underlying4 hW' rfl hB⟩

set_option maxRecDepth 100000 in
theorem lifted (os : Os) (started : os.Started) (H : Type) (enc : TypeId × Value → H) :
    ReturnsInHanded {} Try.checked os 5 .any (Rows.cachePinsSpec.pre6 enc Try.prog Try.f5 Rows.cachePinsRow.domain false) (Rows.cachePinsSpec.post enc Try.prog Try.f5 false true false false) := by
  refine returnsInHanded_of_change_sized (C := Try.checked) Try.own started (by kernel_rfl) Try.func5
    (ChangeSpec.witness6 (enc := enc) (C := Try.checked) false ⟨#[], #[.int .i64 0, .agg #[.int .i64 0, .int .i64 0, .int .i64 0, .string ⟨#[]⟩, .int .i64 0], .slice none 0 0], []⟩ 8 (by kernel_rfl) (by kernel_rfl) (by kernel_rfl) (by kernel_rfl)) ?_
  intro W base args ds gs before hval hW _ hz _
  exact contract H enc W base args ds gs before hval hW hz

theorem proved : Rows.CachePinsSaid :=
  OpenClaim.holds_of_wide 5 Try.f5 rfl rfl rfl rfl rfl rfl rfl ⟨rfl, rfl, rfl, rfl, rfl⟩ rfl rfl rfl rfl rfl (by kernel_rfl) Try.func5 (by kernel_rfl)
    (of_decide_eq_true (by kernel_rfl)) (by unfold Func.isWrapper; first | (rw [if_pos (by decide +kernel)]; kernel_rfl) | (rw [if_neg (by decide +kernel)]; exact ⟨rfl, rfl⟩))
    (fun os started H enc _ => lifted os started H enc)
end lawPins
end Go.Proofs.Ytlfhjbilnfkabaa
