/- The walks of the document's Compare. -/
import Derived.Test.YtnkofinielabkaaCmp
import Derived.Deep.QuietTactic
import Derived.BigQuiet
import Derived.Deep.RegionHeld3
import Derived.Deep.DrawnRows
namespace Go.Proofs.Ytnkofinielabkaa
open Go.RowKit
open Go.Lib (compareBytes)

theorem cmpBytes_step {a b : List UInt8} {k : Nat} (ha : k < a.length) (hb : k < b.length) : compareBytes (a.drop k) (b.drop k) = if a[k] < b[k] then -1 else if b[k] < a[k] then 1 else compareBytes (a.drop (k + 1)) (b.drop (k + 1)) := by
  rw [List.drop_eq_getElem_cons ha, List.drop_eq_getElem_cons hb]
  rfl

set_option maxRecDepth 100000 in
theorem texts_any (a b : ByteArray) (w : World) (ha : a.size ≤ 9223372036854775807) (hb : b.size ≤ 9223372036854775807) :
    Calls Try.prog 29 #[.string a, .string b] w fun e w' => e = .returned (.int .i64 (compareBytes a.data.toList b.data.toList)) ∧ Below w.heap.size w w' := by
  have HA := Lib.hid (size_list a)
  have HB := Lib.hid (size_list b)
  go_enter Try.func29, Try.ntmps29
  go_wp2
  go_loopw [5] (fun i wr => ∃ j : Nat, j ≤ a.size ∧ j ≤ b.size ∧ i = .int .i64 j ∧ Hid (compareBytes a.data.toList b.data.toList = compareBytes (a.data.toList.drop j) (b.data.toList.drop j)) ∧ Below w.heap.size w wr) (fun i _ => a.size - (intOf i).toNat)
  case atStart => exact ⟨0, by omega, by omega, rfl, by rw [List.drop_zero, List.drop_zero]; exact Lib.hid rfl, Below.refl _ _⟩
  case round =>
    obtain ⟨j, hj, hj2, rfl, HC, hW⟩ := hrel
    have HW := Lib.hid hW
    clear hW
    by_cases hlt : j < a.size ∧ j < b.size
    · obtain ⟨h1, h2⟩ := hlt
      have HST := Lib.hid (HC.out.trans (cmpBytes_step (k := j) (by rw [HA.out]; exact h1) (by rw [HB.out]; exact h2)))
      rw [byte_of a j h1, byte_of b j h2] at HST
      have i0 : (0 : Int) ≤ (j : Int) := by omega
      have i1 : (j : Int) < (a.size : Int) := by omega
      have i2 : (j : Int) < (b.size : Int) := by omega
      obtain ⟨x, hx⟩ : ∃ x, a[j] = x := ⟨_, rfl⟩
      obtain ⟨y, hy⟩ : ∃ y, b[j] = y := ⟨_, rfl⟩
      rw [hx, hy] at HST
      by_cases c1 : x < y
      · rw [if_pos c1] at HST
        have d1 : x.toNat < y.toNat := UInt8.lt_iff_toNat_lt.1 c1
        clear c1
        go_wp2_with fail
        go_quiet (fail)
        go_wp2
        go_ret
        exact ⟨by rw [HST.out]; rfl, (by first | exact below_drewN HW.out _ | exact below_drewN (below_drewN HW.out _) _)⟩
      · rw [if_neg c1] at HST
        have d1 : ¬ x.toNat < y.toNat := fun h => c1 (UInt8.lt_iff_toNat_lt.2 h)
        clear c1
        by_cases c2 : y < x
        · rw [if_pos c2] at HST
          have d2 : y.toNat < x.toNat := UInt8.lt_iff_toNat_lt.1 c2
          clear c2
          go_wp2_with fail
          go_quiet (fail)
          go_wp2_with fail
          go_quiet (fail)
          go_wp2
          go_ret
          exact ⟨by rw [HST.out]; rfl, (by first | exact below_drewN HW.out _ | exact below_drewN (below_drewN HW.out _) _)⟩
        · rw [if_neg c2] at HST
          have d2 : ¬ y.toNat < x.toNat := fun h => c2 (UInt8.lt_iff_toNat_lt.2 h)
          clear c2
          go_wp2_with fail
          go_quiet (fail)
          go_wp2_with fail
          go_quiet (fail)
          go_wp2
          go_roundw
          case rel => exact ⟨j + 1, by omega, by omega, by go_num, HST, (by first | exact below_drewN HW.out _ | exact below_drewN (below_drewN HW.out _) _)⟩
          case measure => simp [intOf]; omega
    · by_cases h1 : j < a.size
      · obtain rfl : j = b.size := by omega
        have HO : Hid (compareBytes a.data.toList b.data.toList = 1) := by
          rw [HC.out, List.drop_eq_getElem_cons (show b.size < a.data.toList.length by rw [HA.out]; exact h1), List.drop_eq_nil_of_le (show b.data.toList.length ≤ b.size by rw [HB.out]; omega)]
          exact Lib.hid rfl
        have h2 : ¬ (a.size < b.size) := by omega
        clear hlt
        go_wp2
        go_ret
        exact ⟨by rw [HO.out]; rfl, HW.out⟩
      · obtain rfl : j = a.size := by omega
        clear hlt
        by_cases h2 : a.size < b.size
        · have HO : Hid (compareBytes a.data.toList b.data.toList = -1) := by
            rw [HC.out, List.drop_eq_nil_of_le (show a.data.toList.length ≤ a.size by rw [HA.out]; omega), List.drop_eq_getElem_cons (show a.size < b.data.toList.length by rw [HB.out]; exact h2)]
            exact Lib.hid rfl
          go_wp2
          go_ret
          exact ⟨by rw [HO.out]; rfl, HW.out⟩
        · have HO : Hid (compareBytes a.data.toList b.data.toList = 0) := by
            rw [HC.out, List.drop_eq_nil_of_le (show a.data.toList.length ≤ a.size by rw [HA.out]; omega), List.drop_eq_nil_of_le (show b.data.toList.length ≤ a.size by rw [HB.out]; omega)]
            exact Lib.hid rfl
          go_wp2
          go_ret
          exact ⟨by rw [HO.out]; rfl, HW.out⟩

set_option maxRecDepth 100000 in
theorem rparts_any (p q : KM.KP) (w : World) (hp : p.s.size ≤ 9223372036854775807) (hq : q.s.size ≤ 9223372036854775807) :
    Calls Try.prog 24 #[.agg #[.bool p.t, .int .i64 p.n, .string p.s], .agg #[.bool q.t, .int .i64 q.n, .string q.s]] w fun e w' => e = .returned (.int .i64 (KM.cmpPart p q)) ∧ Below w.heap.size w w' := by
  obtain ⟨t, n, s⟩ := p
  obtain ⟨u, m, r⟩ := q
  have hB0 : Below w.heap.size w ((w.alloc (.cells #[.bool t, .int .i64 n, .string s] 48)).alloc (.cells #[.bool u, .int .i64 m, .string r] 48)) := ((Below.refl _ _).alloc (Nat.le_refl _) _).alloc (by simp) _
  have HB0 := Lib.hid hB0
  clear hB0
  cases t <;> cases u
  · by_cases c1 : n < m
    · have HO : Hid (KM.cmpPart ⟨false, n, s⟩ ⟨false, m, r⟩ = -1) := by simp [KM.cmpPart, Hid, c1]
      go_enter Try.func24, Try.ntmps24
      go_wp2
      go_ret
      exact ⟨by rw [HO.out]; rfl, HB0.out⟩
    · by_cases c2 : m < n
      · have HO : Hid (KM.cmpPart ⟨false, n, s⟩ ⟨false, m, r⟩ = 1) := by simp [KM.cmpPart, Hid, c1, c2]
        go_enter Try.func24, Try.ntmps24
        go_wp2
        go_ret
        exact ⟨by rw [HO.out]; rfl, HB0.out⟩
      · have HO : Hid (KM.cmpPart ⟨false, n, s⟩ ⟨false, m, r⟩ = 0) := by simp [KM.cmpPart, Hid, c1, c2]
        go_enter Try.func24, Try.ntmps24
        go_wp2
        go_ret
        exact ⟨by rw [HO.out]; rfl, HB0.out⟩
  · have HO : Hid (KM.cmpPart ⟨false, n, s⟩ ⟨true, m, r⟩ = -1) := by simp [KM.cmpPart, Hid]
    go_enter Try.func24, Try.ntmps24
    go_wp2
    go_ret
    exact ⟨by rw [HO.out]; rfl, HB0.out⟩
  · have HO : Hid (KM.cmpPart ⟨true, n, s⟩ ⟨false, m, r⟩ = 1) := by simp [KM.cmpPart, Hid]
    go_enter Try.func24, Try.ntmps24
    go_wp2
    go_ret
    exact ⟨by rw [HO.out]; rfl, HB0.out⟩
  · have HO : Hid (KM.cmpPart ⟨true, n, s⟩ ⟨true, m, r⟩ = compareBytes s.data.toList r.data.toList) := by simp [KM.cmpPart, Hid]
    go_enter Try.func24, Try.ntmps24
    go_wp2_with fail
    refine (texts_any s r _ hp hq).mono ?_
    rintro e w2 ⟨rfl, hB2⟩
    go_wp2
    go_ret
    exact ⟨by rw [HO.out]; rfl, HB0.out.trans (hB2.mono (by simp; omega))⟩

attribute [local go_sem ↓] Go.wp_at_zero Go.wp_at_succ

set_option maxRecDepth 100000 in
set_option maxHeartbeats 1000000 in
theorem rcompare_any (A B : Option Addr) (n c m d : Nat) (l k : List KM.KP) (w : World) (hn : l.length = n) (hm : k.length = m) (hl : PartsIn w w.heap.size A l) (hk : PartsIn w w.heap.size B k) (hn1 : n ≤ 9223372036854775807) (hm1 : m ≤ 9223372036854775807)
    (hsl : ∀ p ∈ l, p.s.size ≤ 9223372036854775807) (hsk : ∀ p ∈ k, p.s.size ≤ 9223372036854775807) :
    Calls Try.prog 15 #[.slice A n c, .slice B m d] w fun e w' => e = .returned (.int .i64 (KM.cmpList l k)) ∧ Below w.heap.size w w' := by
  have HL := Lib.hid hl
  have HK := Lib.hid hk
  have HN := Lib.hid hn
  have HM := Lib.hid hm
  have HSL := Lib.hid hsl
  have HSK := Lib.hid hsk
  clear hl hk hn hm hsl hsk
  go_enter Try.func15, Try.ntmps15
  go_wp2
  go_loopw [5] (fun i wr => ∃ j : Nat, j ≤ n ∧ j ≤ m ∧ i = .int .i64 j ∧ Hid (KM.cmpList l k = KM.cmpList (l.drop j) (k.drop j)) ∧ Below w.heap.size w wr) (fun i _ => n - (intOf i).toNat)
  case atStart => exact ⟨0, by omega, by omega, rfl, by rw [List.drop_zero, List.drop_zero]; exact Lib.hid rfl, Below.refl _ _⟩
  case round =>
    obtain ⟨j, hj, hj2, rfl, HC, hB⟩ := hrel
    have hBs := hB.size
    by_cases hlt : j < n
    · have hjl : j < l.length := by rw [HN.out]; exact hlt
      by_cases hlm : j < m
      · obtain ⟨b, off, hA, hbl, hc⟩ := (HL.out.below hB).2 (by omega)
        obtain ⟨hc0, hc1, hc2⟩ := hc j hjl
        obtain ⟨p, hp⟩ : ∃ p, l[j] = p := ⟨_, rfl⟩
        rw [hp] at hc0 hc1 hc2
        have HP := Lib.hid hp
        have hps := HSL.out p (by rw [← hp]; exact List.getElem_mem hjl)
        clear hc hp
        have hjk : j < k.length := by rw [HM.out]; exact hlm
        obtain ⟨b2, off2, hA2, hbl2, hd⟩ := (HK.out.below hB).2 (by omega)
        obtain ⟨hd0, hd1, hd2⟩ := hd j hjk
        obtain ⟨q, hq⟩ : ∃ q, k[j] = q := ⟨_, rfl⟩
        rw [hq] at hd0 hd1 hd2
        have hqs := HSK.out q (by rw [← hq]; exact List.getElem_mem hjk)
        have HST := Lib.hid (HC.out.trans (cmpList_step hjl hjk HP.out hq))
        have HB := Lib.hid hB
        have HCP := Lib.hid (fun W => rparts_any p q W hps hqs)
        obtain ⟨z, hz⟩ : ∃ z, KM.cmpPart p q = z := ⟨_, rfl⟩
        rw [hz] at HST HCP
        clear hd hq hB hz
        subst hA hA2
        have i0 : (0 : Int) ≤ (j : Int) := by omega
        have i1 : (j : Int) < (n : Int) := by omega
        have i2 : (j : Int) < (m : Int) := by omega
        have hB4 : Below wr.heap.size wr wr := Below.refl _ _
        go_wp2_with fail
        go_region_held3 (fun w' => w'.cell? ⟨b, off + j * 3, none⟩ = some (.bool p.t) ∧ w'.cell? ⟨b, off + j * 3 + 1, none⟩ = some (.int .i64 p.n) ∧ w'.cell? ⟨b, off + j * 3 + 2, none⟩ = some (.string p.s) ∧ w'.cell? ⟨b2, off2 + j * 3, none⟩ = some (.bool q.t) ∧ w'.cell? ⟨b2, off2 + j * 3 + 1, none⟩ = some (.int .i64 q.n) ∧ w'.cell? ⟨b2, off2 + j * 3 + 2, none⟩ = some (.string q.s))
          (first
            | go_keep
            | (go_split_ands; refine ⟨?_, ?_, ?_, ?_, ?_, ?_⟩ <;> (first | (rw [hB4.cell (by first | (simp; done) | (simp; omega) | omega)]; assumption) | fail))
            | fail)
          ((go_at_call 24; refine (HCP.out _).mono ?_; rintro e w4 ⟨rfl, hB4⟩))
        have hBB : Below w.heap.size w w4 := HB.out.drew.trans (hB4.mono (by simp; omega))
        have HBB := Lib.hid hBB
        clear hB4 hBB
        by_cases hz0 : z = 0
        · subst hz0
          rw [if_pos rfl] at HST
          go_wp2
          go_roundw
          case rel => exact ⟨j + 1, by omega, by omega, by go_num, HST, HBB.out⟩
          case measure => simp [intOf]; omega
        · rw [if_neg hz0] at HST
          have t0 : (z != 0) = true := by rw [bne_iff_ne]; exact hz0
          have t1 : (z == 0) = false := beq_eq_false_iff_ne.2 hz0
          clear hz0
          go_wp2
          go_ret
          exact ⟨by rw [HST.out]; rfl, HBB.out⟩
      · have HO : Hid (KM.cmpList l k = 1) := by
          rw [HC.out, List.drop_eq_getElem_cons hjl, List.drop_eq_nil_of_le (show k.length ≤ j by rw [HM.out]; omega)]
          exact Lib.hid rfl
        obtain rfl : j = m := by omega
        have HB := Lib.hid hB
        have hnm : ¬ (n < j) := by omega
        clear hB
        go_wp2
        go_ret
        exact ⟨by rw [HO.out]; rfl, HB.out⟩
    · obtain rfl : j = n := by omega
      have HB := Lib.hid hB
      clear hB
      by_cases hlm : j < m
      · have HO : Hid (KM.cmpList l k = -1) := by
          rw [HC.out, List.drop_eq_nil_of_le (show l.length ≤ j by rw [HN.out]; omega), List.drop_eq_getElem_cons (show j < k.length by rw [HM.out]; exact hlm)]
          exact Lib.hid rfl
        go_wp2
        go_ret
        exact ⟨by rw [HO.out]; rfl, HB.out⟩
      · have HO : Hid (KM.cmpList l k = 0) := by
          rw [HC.out, List.drop_eq_nil_of_le (show l.length ≤ j by rw [HN.out]; omega), List.drop_eq_nil_of_le (show k.length ≤ j by rw [HM.out]; omega)]
          exact Lib.hid rfl
        go_wp2
        go_ret
        exact ⟨by rw [HO.out]; rfl, HB.out⟩
end Go.Proofs.Ytnkofinielabkaa
