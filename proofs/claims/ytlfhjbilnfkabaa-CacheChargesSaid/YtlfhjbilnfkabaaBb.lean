/- What changes a budget: add, Reserve, Release, Change; New. -/
import Derived.Test.YtlfhjbilnfkabaaBa
import Derived.StillTailTactics
namespace Go.Proofs.Ytlfhjbilnfkabaa
open Go.RowKit Go.MuLone
open BM

/-- what a call leaves that changes the budget at b -/
def Out (w : World) (b : Nat) (c : Int) (r : Int × S) (e : Ending) (w' : World) : Prop := e = .returned (.int .i64 r.1) ∧ BAt w' b c r.2 ∧ w.grownBy w' (some b)

theorem put_used (s : S) {k : Int} (hk : known k) (v : Int) : (s.put k v).used = s.used - s.of k + v := by
  rcases known_cases hk with rfl | rfl | rfl | rfl <;> simp [S.put, S.set, S.of, S.used] <;> omega
theorem set_used (s : S) {k : Int} (hk : known k) (v : Int) : (s.set k v).used = s.used - s.of k + v := by
  rcases known_cases hk with rfl | rfl | rfl | rfl <;> simp [S.set, S.of, S.used] <;> omega

set_option maxHeartbeats 1000000 in
theorem add_full {w : World} {b : Nat} {c : Int} {s : S} (h : BAt w b c s) (ok : Ok s) (k n : Int) (hb : n > s.lim - s.used) :
    Calls Try.prog 54 #[.pointer (some ⟨b, 0, none⟩), .int .i64 k, .int .i64 n] w (Out w b c (14, s)) := by
  have HL := Lib.hid (left_any h ok)
  have H := Lib.hid h
  obtain ⟨l, hl⟩ : ∃ l, s.lim - s.used = l := ⟨_, rfl⟩
  rw [hl] at HL hb
  clear h ok hl
  go_enter Try.func54, Try.ntmps54
  go_wp2_with fail
  refine HL.out.mono ?_
  rintro e w' ⟨rfl, hB⟩
  have HB := Lib.hid hB
  clear hB
  go_wp2
  go_ret
  exact ⟨rfl, H.out.below HB.out, grown_below HB.out⟩

set_option maxRecDepth 100000 in
set_option maxHeartbeats 2000000 in
theorem add_fits0 {w : World} {b : Nat} {c : Int} {s : S} (h : BAt w b c s) (ok : Ok s) (n : Int) (hb : ¬ n > s.lim - s.used) (hn : 0 ≤ s.k0 + n) :
    Calls Try.prog 54 #[.pointer (some ⟨b, 0, none⟩), .int .i64 0, .int .i64 n] w (Out w b c (0, s.put 0 (s.k0 + n))) := by
  have HL := Lib.hid (left_any h ok)
  have HN : Hid (∀ W, W.grownBy W (some b) → BAt W b c s → BAt ((((W.setCell ⟨b, 4, none⟩ (.int .i64 (max s.high (s.used + n)))).setCell ⟨b, 3, none⟩ (.int .i64 (s.used + n)))).setCell ⟨b, 5, none⟩ (.int .i64 (s.k0 + n))) b c (s.put 0 (s.k0 + n))) := fun W _ hW => by
    have := heap_set_fr (heap_set_fr (heap_set_fr hW 4 (.int .i64 (max s.high (s.used + n)))) 3 (.int .i64 (s.used + n))) 5 (.int .i64 (s.k0 + n))
    unfold BAt
    rw [this]
    simp [bC, S.put, S.set, S.used]
    omega
  obtain ⟨p0, p1, p2, p3, uh, h1, h2⟩ := ok
  have hkl : s.k0 ≤ 1099511627776 := by unfold S.used at uh; omega
  have hkp : 0 ≤ s.k0 := p0
  have hu : 0 ≤ s.used := by unfold S.used; omega
  have hun : 0 ≤ s.used + n := by unfold S.used; omega
  have H := Lib.hid h
  obtain ⟨l, hl⟩ : ∃ l, s.lim - s.used = l := ⟨_, rfl⟩
  have hlb : s.used + n ≤ s.lim := by omega
  rw [hl] at HL hb
  have HC4 : Hid (∀ W, BAt W b c s → W.cell? ⟨b, 4, none⟩ = some (.int .i64 s.high)) := fun W hW => hW.cell 4
  have HC3 : Hid (∀ W, BAt W b c s → W.cell? ⟨b, 3, none⟩ = some (.int .i64 s.used)) := fun W hW => hW.cell 3
  have HCK : Hid (∀ W, BAt W b c s → W.cell? ⟨b, 5, none⟩ = some (.int .i64 s.k0)) := fun W hW => hW.cell 5
  obtain ⟨u, hu'⟩ : ∃ u, s.used = u := ⟨_, rfl⟩
  obtain ⟨h0, hh'⟩ : ∃ h0, s.high = h0 := ⟨_, rfl⟩
  obtain ⟨x, hx'⟩ : ∃ x, s.k0 = x := ⟨_, rfl⟩
  rw [hu'] at HN HC3 hu hun uh hlb
  rw [hh'] at HN HC4 uh h1
  rw [hx'] at HN HCK hkl hkp hn
  obtain ⟨v, hv⟩ : ∃ v, u + n = v := ⟨_, rfl⟩
  obtain ⟨y, hy⟩ : ∃ y, x + n = y := ⟨_, rfl⟩
  rw [hv] at HN hun hlb
  rw [hy] at HN hn
  obtain ⟨s', hs'⟩ : ∃ s', s.put 0 y = s' := ⟨_, rfl⟩
  rw [hs'] at HN
  rw [hx', hy, hs']
  have HYY := Lib.hid hy
  have hyb : y ≤ 9223372036854775807 := by omega
  clear h hl p0 p1 p2 p3 hu' hh' hx' hs'
  go_enter Try.func54, Try.ntmps54
  go_wp2_with fail
  refine HL.out.mono ?_
  rintro e w1 ⟨rfl, hB⟩
  have HG := Lib.hid (grown_below (r := some b) hB)
  have HB1 := Lib.hid (H.out.below hB)
  clear hB H HL
  have c3 := HC3.out _ HB1.out
  go_wp2_with fail
  refine (load_any b 3 _ _ c3).mono ?_
  rintro e w2 ⟨rfl, rfl⟩
  go_wp2_with fail
  refine wp_region_still_tail 9 (by kernel_rfl) (by kernel_rfl) ?_
  simp only [List.take_succ_cons, List.take_zero, List.drop_succ_cons, List.drop_zero]
  have HB2 : Hid (BAt ({ w1 with drawn := w1.drawn + 1 } : World) b c s) := HB1.out
  have HG2 : Hid (w.grownBy ({ w1 with drawn := w1.drawn + 1 } : World) (some b)) := grown_trans HG.out (grown_drewN (grown_refl w1 _) 1)
  generalize ({ w1 with drawn := w1.drawn + 1 } : World) = w3 at HB2 HG2 ⊢
  clear HB1 HG c3
  have c4 := HC4.out _ HB2.out
  have f4 := HB2.out.frozen 4
  have HLD := Lib.hid (load_q b 4 _ _ c4)
  repeat still_step
  still_call HLD.out
  repeat still_step
  refine wpStill_nil ?_
  go_wp2_with fail
  · have hM : max h0 v = v := by omega
    rw [hM] at HN
    have HST := Lib.hid (store_any b 4 _ v w3 c4 f4)
    refine HST.out.mono ?_
    rintro e w4 ⟨rfl, rfl⟩
    have c3' : (w3.setCell ⟨b, 4, none⟩ (.int .i64 v)).cell? ⟨b, 3, none⟩ = some (.int .i64 u) := (World.cell?_setCell_other _ ⟨b, 4, none⟩ ⟨b, 3, none⟩ _ (by simp)).trans (HC3.out _ HB2.out)
    have f3' : (w3.setCell ⟨b, 4, none⟩ (.int .i64 v)).frozen? ⟨b, 3, none⟩ = false := by simp [HB2.out.frozen 3]
    go_wp2_with fail
    refine (store_any b 3 _ v _ c3' f3').mono ?_
    rintro e w5 ⟨rfl, rfl⟩
    have ck : ((w3.setCell ⟨b, 4, none⟩ (.int .i64 v)).setCell ⟨b, 3, none⟩ (.int .i64 v)).cell? ⟨b, 5, none⟩ = some (.int .i64 x) := (World.cell?_setCell_other _ ⟨b, 3, none⟩ ⟨b, 5, none⟩ _ (by simp)).trans ((World.cell?_setCell_other _ ⟨b, 4, none⟩ ⟨b, 5, none⟩ _ (by simp)).trans (HCK.out _ HB2.out))
    have fk : ((w3.setCell ⟨b, 4, none⟩ (.int .i64 v)).setCell ⟨b, 3, none⟩ (.int .i64 v)).frozen? ⟨b, 5, none⟩ = false := by simp [HB2.out.frozen 5]
    go_wp2_with fail
    refine (add_at b 5 _ _ y HYY.out (by omega) _ ck fk).mono ?_
    rintro e w6 ⟨rfl, rfl⟩
    go_wp2
    go_ret
    exact ⟨rfl, HN.out _ (grown_refl _ _) HB2.out, grown_set (grown_set (grown_set HG2.out _ _) _ _) _ _⟩
  · have hM : max h0 v = h0 := by omega
    rw [hM] at HN
    have HST := Lib.hid (store_any b 4 _ h0 w3 c4 f4)
    refine HST.out.mono ?_
    rintro e w4 ⟨rfl, rfl⟩
    have c3' : (w3.setCell ⟨b, 4, none⟩ (.int .i64 h0)).cell? ⟨b, 3, none⟩ = some (.int .i64 u) := (World.cell?_setCell_other _ ⟨b, 4, none⟩ ⟨b, 3, none⟩ _ (by simp)).trans (HC3.out _ HB2.out)
    have f3' : (w3.setCell ⟨b, 4, none⟩ (.int .i64 h0)).frozen? ⟨b, 3, none⟩ = false := by simp [HB2.out.frozen 3]
    go_wp2_with fail
    refine (store_any b 3 _ v _ c3' f3').mono ?_
    rintro e w5 ⟨rfl, rfl⟩
    have ck : ((w3.setCell ⟨b, 4, none⟩ (.int .i64 h0)).setCell ⟨b, 3, none⟩ (.int .i64 v)).cell? ⟨b, 5, none⟩ = some (.int .i64 x) := (World.cell?_setCell_other _ ⟨b, 3, none⟩ ⟨b, 5, none⟩ _ (by simp)).trans ((World.cell?_setCell_other _ ⟨b, 4, none⟩ ⟨b, 5, none⟩ _ (by simp)).trans (HCK.out _ HB2.out))
    have fk : ((w3.setCell ⟨b, 4, none⟩ (.int .i64 h0)).setCell ⟨b, 3, none⟩ (.int .i64 v)).frozen? ⟨b, 5, none⟩ = false := by simp [HB2.out.frozen 5]
    go_wp2_with fail
    refine (add_at b 5 _ _ y HYY.out (by omega) _ ck fk).mono ?_
    rintro e w6 ⟨rfl, rfl⟩
    go_wp2
    go_ret
    exact ⟨rfl, HN.out _ (grown_refl _ _) HB2.out, grown_set (grown_set (grown_set HG2.out _ _) _ _) _ _⟩

set_option maxRecDepth 100000 in
set_option maxHeartbeats 2000000 in
theorem add_fits1 {w : World} {b : Nat} {c : Int} {s : S} (h : BAt w b c s) (ok : Ok s) (n : Int) (hb : ¬ n > s.lim - s.used) (hn : 0 ≤ s.k1 + n) :
    Calls Try.prog 54 #[.pointer (some ⟨b, 0, none⟩), .int .i64 1, .int .i64 n] w (Out w b c (0, s.put 1 (s.k1 + n))) := by
  have HL := Lib.hid (left_any h ok)
  have HN : Hid (∀ W, W.grownBy W (some b) → BAt W b c s → BAt ((((W.setCell ⟨b, 4, none⟩ (.int .i64 (max s.high (s.used + n)))).setCell ⟨b, 3, none⟩ (.int .i64 (s.used + n)))).setCell ⟨b, 6, none⟩ (.int .i64 (s.k1 + n))) b c (s.put 1 (s.k1 + n))) := fun W _ hW => by
    have := heap_set_fr (heap_set_fr (heap_set_fr hW 4 (.int .i64 (max s.high (s.used + n)))) 3 (.int .i64 (s.used + n))) 6 (.int .i64 (s.k1 + n))
    unfold BAt
    rw [this]
    simp [bC, S.put, S.set, S.used]
    omega
  obtain ⟨p0, p1, p2, p3, uh, h1, h2⟩ := ok
  have hkl : s.k1 ≤ 1099511627776 := by unfold S.used at uh; omega
  have hkp : 0 ≤ s.k1 := p1
  have hu : 0 ≤ s.used := by unfold S.used; omega
  have hun : 0 ≤ s.used + n := by unfold S.used; omega
  have H := Lib.hid h
  obtain ⟨l, hl⟩ : ∃ l, s.lim - s.used = l := ⟨_, rfl⟩
  have hlb : s.used + n ≤ s.lim := by omega
  rw [hl] at HL hb
  have HC4 : Hid (∀ W, BAt W b c s → W.cell? ⟨b, 4, none⟩ = some (.int .i64 s.high)) := fun W hW => hW.cell 4
  have HC3 : Hid (∀ W, BAt W b c s → W.cell? ⟨b, 3, none⟩ = some (.int .i64 s.used)) := fun W hW => hW.cell 3
  have HCK : Hid (∀ W, BAt W b c s → W.cell? ⟨b, 6, none⟩ = some (.int .i64 s.k1)) := fun W hW => hW.cell 6
  obtain ⟨u, hu'⟩ : ∃ u, s.used = u := ⟨_, rfl⟩
  obtain ⟨h0, hh'⟩ : ∃ h0, s.high = h0 := ⟨_, rfl⟩
  obtain ⟨x, hx'⟩ : ∃ x, s.k1 = x := ⟨_, rfl⟩
  rw [hu'] at HN HC3 hu hun uh hlb
  rw [hh'] at HN HC4 uh h1
  rw [hx'] at HN HCK hkl hkp hn
  obtain ⟨v, hv⟩ : ∃ v, u + n = v := ⟨_, rfl⟩
  obtain ⟨y, hy⟩ : ∃ y, x + n = y := ⟨_, rfl⟩
  rw [hv] at HN hun hlb
  rw [hy] at HN hn
  obtain ⟨s', hs'⟩ : ∃ s', s.put 1 y = s' := ⟨_, rfl⟩
  rw [hs'] at HN
  rw [hx', hy, hs']
  have HYY := Lib.hid hy
  have hyb : y ≤ 9223372036854775807 := by omega
  clear h hl p0 p1 p2 p3 hu' hh' hx' hs'
  go_enter Try.func54, Try.ntmps54
  go_wp2_with fail
  refine HL.out.mono ?_
  rintro e w1 ⟨rfl, hB⟩
  have HG := Lib.hid (grown_below (r := some b) hB)
  have HB1 := Lib.hid (H.out.below hB)
  clear hB H HL
  have c3 := HC3.out _ HB1.out
  go_wp2_with fail
  refine (load_any b 3 _ _ c3).mono ?_
  rintro e w2 ⟨rfl, rfl⟩
  go_wp2_with fail
  refine wp_region_still_tail 9 (by kernel_rfl) (by kernel_rfl) ?_
  simp only [List.take_succ_cons, List.take_zero, List.drop_succ_cons, List.drop_zero]
  have HB2 : Hid (BAt ({ w1 with drawn := w1.drawn + 1 } : World) b c s) := HB1.out
  have HG2 : Hid (w.grownBy ({ w1 with drawn := w1.drawn + 1 } : World) (some b)) := grown_trans HG.out (grown_drewN (grown_refl w1 _) 1)
  generalize ({ w1 with drawn := w1.drawn + 1 } : World) = w3 at HB2 HG2 ⊢
  clear HB1 HG c3
  have c4 := HC4.out _ HB2.out
  have f4 := HB2.out.frozen 4
  have HLD := Lib.hid (load_q b 4 _ _ c4)
  repeat still_step
  still_call HLD.out
  repeat still_step
  refine wpStill_nil ?_
  go_wp2_with fail
  · have hM : max h0 v = v := by omega
    rw [hM] at HN
    have HST := Lib.hid (store_any b 4 _ v w3 c4 f4)
    refine HST.out.mono ?_
    rintro e w4 ⟨rfl, rfl⟩
    have c3' : (w3.setCell ⟨b, 4, none⟩ (.int .i64 v)).cell? ⟨b, 3, none⟩ = some (.int .i64 u) := (World.cell?_setCell_other _ ⟨b, 4, none⟩ ⟨b, 3, none⟩ _ (by simp)).trans (HC3.out _ HB2.out)
    have f3' : (w3.setCell ⟨b, 4, none⟩ (.int .i64 v)).frozen? ⟨b, 3, none⟩ = false := by simp [HB2.out.frozen 3]
    go_wp2_with fail
    refine (store_any b 3 _ v _ c3' f3').mono ?_
    rintro e w5 ⟨rfl, rfl⟩
    have ck : ((w3.setCell ⟨b, 4, none⟩ (.int .i64 v)).setCell ⟨b, 3, none⟩ (.int .i64 v)).cell? ⟨b, 6, none⟩ = some (.int .i64 x) := (World.cell?_setCell_other _ ⟨b, 3, none⟩ ⟨b, 6, none⟩ _ (by simp)).trans ((World.cell?_setCell_other _ ⟨b, 4, none⟩ ⟨b, 6, none⟩ _ (by simp)).trans (HCK.out _ HB2.out))
    have fk : ((w3.setCell ⟨b, 4, none⟩ (.int .i64 v)).setCell ⟨b, 3, none⟩ (.int .i64 v)).frozen? ⟨b, 6, none⟩ = false := by simp [HB2.out.frozen 6]
    go_wp2_with fail
    refine (add_at b 6 _ _ y HYY.out (by omega) _ ck fk).mono ?_
    rintro e w6 ⟨rfl, rfl⟩
    go_wp2
    go_ret
    exact ⟨rfl, HN.out _ (grown_refl _ _) HB2.out, grown_set (grown_set (grown_set HG2.out _ _) _ _) _ _⟩
  · have hM : max h0 v = h0 := by omega
    rw [hM] at HN
    have HST := Lib.hid (store_any b 4 _ h0 w3 c4 f4)
    refine HST.out.mono ?_
    rintro e w4 ⟨rfl, rfl⟩
    have c3' : (w3.setCell ⟨b, 4, none⟩ (.int .i64 h0)).cell? ⟨b, 3, none⟩ = some (.int .i64 u) := (World.cell?_setCell_other _ ⟨b, 4, none⟩ ⟨b, 3, none⟩ _ (by simp)).trans (HC3.out _ HB2.out)
    have f3' : (w3.setCell ⟨b, 4, none⟩ (.int .i64 h0)).frozen? ⟨b, 3, none⟩ = false := by simp [HB2.out.frozen 3]
    go_wp2_with fail
    refine (store_any b 3 _ v _ c3' f3').mono ?_
    rintro e w5 ⟨rfl, rfl⟩
    have ck : ((w3.setCell ⟨b, 4, none⟩ (.int .i64 h0)).setCell ⟨b, 3, none⟩ (.int .i64 v)).cell? ⟨b, 6, none⟩ = some (.int .i64 x) := (World.cell?_setCell_other _ ⟨b, 3, none⟩ ⟨b, 6, none⟩ _ (by simp)).trans ((World.cell?_setCell_other _ ⟨b, 4, none⟩ ⟨b, 6, none⟩ _ (by simp)).trans (HCK.out _ HB2.out))
    have fk : ((w3.setCell ⟨b, 4, none⟩ (.int .i64 h0)).setCell ⟨b, 3, none⟩ (.int .i64 v)).frozen? ⟨b, 6, none⟩ = false := by simp [HB2.out.frozen 6]
    go_wp2_with fail
    refine (add_at b 6 _ _ y HYY.out (by omega) _ ck fk).mono ?_
    rintro e w6 ⟨rfl, rfl⟩
    go_wp2
    go_ret
    exact ⟨rfl, HN.out _ (grown_refl _ _) HB2.out, grown_set (grown_set (grown_set HG2.out _ _) _ _) _ _⟩

set_option maxRecDepth 100000 in
set_option maxHeartbeats 2000000 in
theorem add_fits2 {w : World} {b : Nat} {c : Int} {s : S} (h : BAt w b c s) (ok : Ok s) (n : Int) (hb : ¬ n > s.lim - s.used) (hn : 0 ≤ s.k2 + n) :
    Calls Try.prog 54 #[.pointer (some ⟨b, 0, none⟩), .int .i64 2, .int .i64 n] w (Out w b c (0, s.put 2 (s.k2 + n))) := by
  have HL := Lib.hid (left_any h ok)
  have HN : Hid (∀ W, W.grownBy W (some b) → BAt W b c s → BAt ((((W.setCell ⟨b, 4, none⟩ (.int .i64 (max s.high (s.used + n)))).setCell ⟨b, 3, none⟩ (.int .i64 (s.used + n)))).setCell ⟨b, 7, none⟩ (.int .i64 (s.k2 + n))) b c (s.put 2 (s.k2 + n))) := fun W _ hW => by
    have := heap_set_fr (heap_set_fr (heap_set_fr hW 4 (.int .i64 (max s.high (s.used + n)))) 3 (.int .i64 (s.used + n))) 7 (.int .i64 (s.k2 + n))
    unfold BAt
    rw [this]
    simp [bC, S.put, S.set, S.used]
    omega
  obtain ⟨p0, p1, p2, p3, uh, h1, h2⟩ := ok
  have hkl : s.k2 ≤ 1099511627776 := by unfold S.used at uh; omega
  have hkp : 0 ≤ s.k2 := p2
  have hu : 0 ≤ s.used := by unfold S.used; omega
  have hun : 0 ≤ s.used + n := by unfold S.used; omega
  have H := Lib.hid h
  obtain ⟨l, hl⟩ : ∃ l, s.lim - s.used = l := ⟨_, rfl⟩
  have hlb : s.used + n ≤ s.lim := by omega
  rw [hl] at HL hb
  have HC4 : Hid (∀ W, BAt W b c s → W.cell? ⟨b, 4, none⟩ = some (.int .i64 s.high)) := fun W hW => hW.cell 4
  have HC3 : Hid (∀ W, BAt W b c s → W.cell? ⟨b, 3, none⟩ = some (.int .i64 s.used)) := fun W hW => hW.cell 3
  have HCK : Hid (∀ W, BAt W b c s → W.cell? ⟨b, 7, none⟩ = some (.int .i64 s.k2)) := fun W hW => hW.cell 7
  obtain ⟨u, hu'⟩ : ∃ u, s.used = u := ⟨_, rfl⟩
  obtain ⟨h0, hh'⟩ : ∃ h0, s.high = h0 := ⟨_, rfl⟩
  obtain ⟨x, hx'⟩ : ∃ x, s.k2 = x := ⟨_, rfl⟩
  rw [hu'] at HN HC3 hu hun uh hlb
  rw [hh'] at HN HC4 uh h1
  rw [hx'] at HN HCK hkl hkp hn
  obtain ⟨v, hv⟩ : ∃ v, u + n = v := ⟨_, rfl⟩
  obtain ⟨y, hy⟩ : ∃ y, x + n = y := ⟨_, rfl⟩
  rw [hv] at HN hun hlb
  rw [hy] at HN hn
  obtain ⟨s', hs'⟩ : ∃ s', s.put 2 y = s' := ⟨_, rfl⟩
  rw [hs'] at HN
  rw [hx', hy, hs']
  have HYY := Lib.hid hy
  have hyb : y ≤ 9223372036854775807 := by omega
  clear h hl p0 p1 p2 p3 hu' hh' hx' hs'
  go_enter Try.func54, Try.ntmps54
  go_wp2_with fail
  refine HL.out.mono ?_
  rintro e w1 ⟨rfl, hB⟩
  have HG := Lib.hid (grown_below (r := some b) hB)
  have HB1 := Lib.hid (H.out.below hB)
  clear hB H HL
  have c3 := HC3.out _ HB1.out
  go_wp2_with fail
  refine (load_any b 3 _ _ c3).mono ?_
  rintro e w2 ⟨rfl, rfl⟩
  go_wp2_with fail
  refine wp_region_still_tail 9 (by kernel_rfl) (by kernel_rfl) ?_
  simp only [List.take_succ_cons, List.take_zero, List.drop_succ_cons, List.drop_zero]
  have HB2 : Hid (BAt ({ w1 with drawn := w1.drawn + 1 } : World) b c s) := HB1.out
  have HG2 : Hid (w.grownBy ({ w1 with drawn := w1.drawn + 1 } : World) (some b)) := grown_trans HG.out (grown_drewN (grown_refl w1 _) 1)
  generalize ({ w1 with drawn := w1.drawn + 1 } : World) = w3 at HB2 HG2 ⊢
  clear HB1 HG c3
  have c4 := HC4.out _ HB2.out
  have f4 := HB2.out.frozen 4
  have HLD := Lib.hid (load_q b 4 _ _ c4)
  repeat still_step
  still_call HLD.out
  repeat still_step
  refine wpStill_nil ?_
  go_wp2_with fail
  · have hM : max h0 v = v := by omega
    rw [hM] at HN
    have HST := Lib.hid (store_any b 4 _ v w3 c4 f4)
    refine HST.out.mono ?_
    rintro e w4 ⟨rfl, rfl⟩
    have c3' : (w3.setCell ⟨b, 4, none⟩ (.int .i64 v)).cell? ⟨b, 3, none⟩ = some (.int .i64 u) := (World.cell?_setCell_other _ ⟨b, 4, none⟩ ⟨b, 3, none⟩ _ (by simp)).trans (HC3.out _ HB2.out)
    have f3' : (w3.setCell ⟨b, 4, none⟩ (.int .i64 v)).frozen? ⟨b, 3, none⟩ = false := by simp [HB2.out.frozen 3]
    go_wp2_with fail
    refine (store_any b 3 _ v _ c3' f3').mono ?_
    rintro e w5 ⟨rfl, rfl⟩
    have ck : ((w3.setCell ⟨b, 4, none⟩ (.int .i64 v)).setCell ⟨b, 3, none⟩ (.int .i64 v)).cell? ⟨b, 7, none⟩ = some (.int .i64 x) := (World.cell?_setCell_other _ ⟨b, 3, none⟩ ⟨b, 7, none⟩ _ (by simp)).trans ((World.cell?_setCell_other _ ⟨b, 4, none⟩ ⟨b, 7, none⟩ _ (by simp)).trans (HCK.out _ HB2.out))
    have fk : ((w3.setCell ⟨b, 4, none⟩ (.int .i64 v)).setCell ⟨b, 3, none⟩ (.int .i64 v)).frozen? ⟨b, 7, none⟩ = false := by simp [HB2.out.frozen 7]
    go_wp2_with fail
    refine (add_at b 7 _ _ y HYY.out (by omega) _ ck fk).mono ?_
    rintro e w6 ⟨rfl, rfl⟩
    go_wp2
    go_ret
    exact ⟨rfl, HN.out _ (grown_refl _ _) HB2.out, grown_set (grown_set (grown_set HG2.out _ _) _ _) _ _⟩
  · have hM : max h0 v = h0 := by omega
    rw [hM] at HN
    have HST := Lib.hid (store_any b 4 _ h0 w3 c4 f4)
    refine HST.out.mono ?_
    rintro e w4 ⟨rfl, rfl⟩
    have c3' : (w3.setCell ⟨b, 4, none⟩ (.int .i64 h0)).cell? ⟨b, 3, none⟩ = some (.int .i64 u) := (World.cell?_setCell_other _ ⟨b, 4, none⟩ ⟨b, 3, none⟩ _ (by simp)).trans (HC3.out _ HB2.out)
    have f3' : (w3.setCell ⟨b, 4, none⟩ (.int .i64 h0)).frozen? ⟨b, 3, none⟩ = false := by simp [HB2.out.frozen 3]
    go_wp2_with fail
    refine (store_any b 3 _ v _ c3' f3').mono ?_
    rintro e w5 ⟨rfl, rfl⟩
    have ck : ((w3.setCell ⟨b, 4, none⟩ (.int .i64 h0)).setCell ⟨b, 3, none⟩ (.int .i64 v)).cell? ⟨b, 7, none⟩ = some (.int .i64 x) := (World.cell?_setCell_other _ ⟨b, 3, none⟩ ⟨b, 7, none⟩ _ (by simp)).trans ((World.cell?_setCell_other _ ⟨b, 4, none⟩ ⟨b, 7, none⟩ _ (by simp)).trans (HCK.out _ HB2.out))
    have fk : ((w3.setCell ⟨b, 4, none⟩ (.int .i64 h0)).setCell ⟨b, 3, none⟩ (.int .i64 v)).frozen? ⟨b, 7, none⟩ = false := by simp [HB2.out.frozen 7]
    go_wp2_with fail
    refine (add_at b 7 _ _ y HYY.out (by omega) _ ck fk).mono ?_
    rintro e w6 ⟨rfl, rfl⟩
    go_wp2
    go_ret
    exact ⟨rfl, HN.out _ (grown_refl _ _) HB2.out, grown_set (grown_set (grown_set HG2.out _ _) _ _) _ _⟩

set_option maxRecDepth 100000 in
set_option maxHeartbeats 2000000 in
theorem add_fits3 {w : World} {b : Nat} {c : Int} {s : S} (h : BAt w b c s) (ok : Ok s) (n : Int) (hb : ¬ n > s.lim - s.used) (hn : 0 ≤ s.k3 + n) :
    Calls Try.prog 54 #[.pointer (some ⟨b, 0, none⟩), .int .i64 3, .int .i64 n] w (Out w b c (0, s.put 3 (s.k3 + n))) := by
  have HL := Lib.hid (left_any h ok)
  have HN : Hid (∀ W, W.grownBy W (some b) → BAt W b c s → BAt ((((W.setCell ⟨b, 4, none⟩ (.int .i64 (max s.high (s.used + n)))).setCell ⟨b, 3, none⟩ (.int .i64 (s.used + n)))).setCell ⟨b, 8, none⟩ (.int .i64 (s.k3 + n))) b c (s.put 3 (s.k3 + n))) := fun W _ hW => by
    have := heap_set_fr (heap_set_fr (heap_set_fr hW 4 (.int .i64 (max s.high (s.used + n)))) 3 (.int .i64 (s.used + n))) 8 (.int .i64 (s.k3 + n))
    unfold BAt
    rw [this]
    simp [bC, S.put, S.set, S.used]
    omega
  obtain ⟨p0, p1, p2, p3, uh, h1, h2⟩ := ok
  have hkl : s.k3 ≤ 1099511627776 := by unfold S.used at uh; omega
  have hkp : 0 ≤ s.k3 := p3
  have hu : 0 ≤ s.used := by unfold S.used; omega
  have hun : 0 ≤ s.used + n := by unfold S.used; omega
  have H := Lib.hid h
  obtain ⟨l, hl⟩ : ∃ l, s.lim - s.used = l := ⟨_, rfl⟩
  have hlb : s.used + n ≤ s.lim := by omega
  rw [hl] at HL hb
  have HC4 : Hid (∀ W, BAt W b c s → W.cell? ⟨b, 4, none⟩ = some (.int .i64 s.high)) := fun W hW => hW.cell 4
  have HC3 : Hid (∀ W, BAt W b c s → W.cell? ⟨b, 3, none⟩ = some (.int .i64 s.used)) := fun W hW => hW.cell 3
  have HCK : Hid (∀ W, BAt W b c s → W.cell? ⟨b, 8, none⟩ = some (.int .i64 s.k3)) := fun W hW => hW.cell 8
  obtain ⟨u, hu'⟩ : ∃ u, s.used = u := ⟨_, rfl⟩
  obtain ⟨h0, hh'⟩ : ∃ h0, s.high = h0 := ⟨_, rfl⟩
  obtain ⟨x, hx'⟩ : ∃ x, s.k3 = x := ⟨_, rfl⟩
  rw [hu'] at HN HC3 hu hun uh hlb
  rw [hh'] at HN HC4 uh h1
  rw [hx'] at HN HCK hkl hkp hn
  obtain ⟨v, hv⟩ : ∃ v, u + n = v := ⟨_, rfl⟩
  obtain ⟨y, hy⟩ : ∃ y, x + n = y := ⟨_, rfl⟩
  rw [hv] at HN hun hlb
  rw [hy] at HN hn
  obtain ⟨s', hs'⟩ : ∃ s', s.put 3 y = s' := ⟨_, rfl⟩
  rw [hs'] at HN
  rw [hx', hy, hs']
  have HYY := Lib.hid hy
  have hyb : y ≤ 9223372036854775807 := by omega
  clear h hl p0 p1 p2 p3 hu' hh' hx' hs'
  go_enter Try.func54, Try.ntmps54
  go_wp2_with fail
  refine HL.out.mono ?_
  rintro e w1 ⟨rfl, hB⟩
  have HG := Lib.hid (grown_below (r := some b) hB)
  have HB1 := Lib.hid (H.out.below hB)
  clear hB H HL
  have c3 := HC3.out _ HB1.out
  go_wp2_with fail
  refine (load_any b 3 _ _ c3).mono ?_
  rintro e w2 ⟨rfl, rfl⟩
  go_wp2_with fail
  refine wp_region_still_tail 9 (by kernel_rfl) (by kernel_rfl) ?_
  simp only [List.take_succ_cons, List.take_zero, List.drop_succ_cons, List.drop_zero]
  have HB2 : Hid (BAt ({ w1 with drawn := w1.drawn + 1 } : World) b c s) := HB1.out
  have HG2 : Hid (w.grownBy ({ w1 with drawn := w1.drawn + 1 } : World) (some b)) := grown_trans HG.out (grown_drewN (grown_refl w1 _) 1)
  generalize ({ w1 with drawn := w1.drawn + 1 } : World) = w3 at HB2 HG2 ⊢
  clear HB1 HG c3
  have c4 := HC4.out _ HB2.out
  have f4 := HB2.out.frozen 4
  have HLD := Lib.hid (load_q b 4 _ _ c4)
  repeat still_step
  still_call HLD.out
  repeat still_step
  refine wpStill_nil ?_
  go_wp2_with fail
  · have hM : max h0 v = v := by omega
    rw [hM] at HN
    have HST := Lib.hid (store_any b 4 _ v w3 c4 f4)
    refine HST.out.mono ?_
    rintro e w4 ⟨rfl, rfl⟩
    have c3' : (w3.setCell ⟨b, 4, none⟩ (.int .i64 v)).cell? ⟨b, 3, none⟩ = some (.int .i64 u) := (World.cell?_setCell_other _ ⟨b, 4, none⟩ ⟨b, 3, none⟩ _ (by simp)).trans (HC3.out _ HB2.out)
    have f3' : (w3.setCell ⟨b, 4, none⟩ (.int .i64 v)).frozen? ⟨b, 3, none⟩ = false := by simp [HB2.out.frozen 3]
    go_wp2_with fail
    refine (store_any b 3 _ v _ c3' f3').mono ?_
    rintro e w5 ⟨rfl, rfl⟩
    have ck : ((w3.setCell ⟨b, 4, none⟩ (.int .i64 v)).setCell ⟨b, 3, none⟩ (.int .i64 v)).cell? ⟨b, 8, none⟩ = some (.int .i64 x) := (World.cell?_setCell_other _ ⟨b, 3, none⟩ ⟨b, 8, none⟩ _ (by simp)).trans ((World.cell?_setCell_other _ ⟨b, 4, none⟩ ⟨b, 8, none⟩ _ (by simp)).trans (HCK.out _ HB2.out))
    have fk : ((w3.setCell ⟨b, 4, none⟩ (.int .i64 v)).setCell ⟨b, 3, none⟩ (.int .i64 v)).frozen? ⟨b, 8, none⟩ = false := by simp [HB2.out.frozen 8]
    go_wp2_with fail
    refine (add_at b 8 _ _ y HYY.out (by omega) _ ck fk).mono ?_
    rintro e w6 ⟨rfl, rfl⟩
    go_wp2
    go_ret
    exact ⟨rfl, HN.out _ (grown_refl _ _) HB2.out, grown_set (grown_set (grown_set HG2.out _ _) _ _) _ _⟩
  · have hM : max h0 v = h0 := by omega
    rw [hM] at HN
    have HST := Lib.hid (store_any b 4 _ h0 w3 c4 f4)
    refine HST.out.mono ?_
    rintro e w4 ⟨rfl, rfl⟩
    have c3' : (w3.setCell ⟨b, 4, none⟩ (.int .i64 h0)).cell? ⟨b, 3, none⟩ = some (.int .i64 u) := (World.cell?_setCell_other _ ⟨b, 4, none⟩ ⟨b, 3, none⟩ _ (by simp)).trans (HC3.out _ HB2.out)
    have f3' : (w3.setCell ⟨b, 4, none⟩ (.int .i64 h0)).frozen? ⟨b, 3, none⟩ = false := by simp [HB2.out.frozen 3]
    go_wp2_with fail
    refine (store_any b 3 _ v _ c3' f3').mono ?_
    rintro e w5 ⟨rfl, rfl⟩
    have ck : ((w3.setCell ⟨b, 4, none⟩ (.int .i64 h0)).setCell ⟨b, 3, none⟩ (.int .i64 v)).cell? ⟨b, 8, none⟩ = some (.int .i64 x) := (World.cell?_setCell_other _ ⟨b, 3, none⟩ ⟨b, 8, none⟩ _ (by simp)).trans ((World.cell?_setCell_other _ ⟨b, 4, none⟩ ⟨b, 8, none⟩ _ (by simp)).trans (HCK.out _ HB2.out))
    have fk : ((w3.setCell ⟨b, 4, none⟩ (.int .i64 h0)).setCell ⟨b, 3, none⟩ (.int .i64 v)).frozen? ⟨b, 8, none⟩ = false := by simp [HB2.out.frozen 8]
    go_wp2_with fail
    refine (add_at b 8 _ _ y HYY.out (by omega) _ ck fk).mono ?_
    rintro e w6 ⟨rfl, rfl⟩
    go_wp2
    go_ret
    exact ⟨rfl, HN.out _ (grown_refl _ _) HB2.out, grown_set (grown_set (grown_set HG2.out _ _) _ _) _ _⟩

theorem add_any {w : World} {b : Nat} {c : Int} {s : S} (h : BAt w b c s) (ok : Ok s) (k n : Int) (hk : known k) (hn : 0 ≤ s.of k + n) :
    Calls Try.prog 54 #[.pointer (some ⟨b, 0, none⟩), .int .i64 k, .int .i64 n] w (Out w b c (if n > s.lim - s.used then (14, s) else (0, s.put k (s.of k + n)))) := by
  by_cases hb : n > s.lim - s.used
  · rw [if_pos hb]; exact add_full h ok k n hb
  · rw [if_neg hb]
    rcases known_cases hk with rfl | rfl | rfl | rfl
    · exact add_fits0 h ok n hb hn
    · exact add_fits1 h ok n hb hn
    · exact add_fits2 h ok n hb hn
    · exact add_fits3 h ok n hb hn
end Go.Proofs.Ytlfhjbilnfkabaa
