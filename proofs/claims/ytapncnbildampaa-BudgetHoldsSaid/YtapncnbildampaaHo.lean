/- BudgetHolds: at no time is more held than may be, nor less than nothing; what was held at most never falls. For every limit and every calls. -/
import Derived.Test.YtapncnbildampaaOpen
namespace Go.Proofs.Ytapncnbildampaa
open Go.ChangeShapes Go.WideShapes Go.ChangeAt Go.RowKit
open BM
namespace lawHolds

theorem high_put (s : S) (k v : Int) : s.high ≤ (s.put k v).high := by simp [S.put]; omega
theorem lim_set (s : S) (k v : Int) : (s.set k v).lim = s.lim := by
  unfold S.set; repeat' split
  all_goals rfl
theorem lim_put (s : S) (k v : Int) : (s.put k v).lim = s.lim := lim_set s k v
/-- a call leaves the limit, and never makes High fall -/
def Up (s t : S) : Prop := t.lim = s.lim ∧ s.high ≤ t.high
theorem up_reserve (k n : Int) (s : S) : Up s (reserve k n s).2 := by
  unfold reserve; repeat' split
  · exact ⟨rfl, Int.le_refl _⟩
  · exact ⟨rfl, Int.le_refl _⟩
  · exact ⟨lim_put _ _ _, high_put _ _ _⟩
theorem up_release (k n : Int) (s : S) : Up s (release k n s).2 := by
  unfold release; repeat' split
  · exact ⟨rfl, Int.le_refl _⟩
  · exact ⟨rfl, Int.le_refl _⟩
  · exact ⟨lim_put _ _ _, high_put _ _ _⟩
theorem up_change (k n : Int) (s : S) : Up s (change k n s).2 := by
  unfold change; repeat' split
  · exact ⟨rfl, Int.le_refl _⟩
  · exact ⟨rfl, Int.le_refl _⟩
  · exact ⟨lim_put _ _ _, high_put _ _ _⟩

/-- a budget whose limit and greatest sum are told -/
structure Hl (W w : World) (b : Nat) (t g : Int) (s : S) : Prop where
  lv : Lv W w b s
  lim : s.lim = t
  high : g ≤ s.high

/-- what a call leaves -/
def HOut (W : World) (b : Nat) (t g : Int) (e : Ending) (w' : World) : Prop := ∃ c s, e = .returned (.int .i64 c) ∧ Hl W w' b t g s
section
variable {W w : World} {b : Nat} {t g : Int} {s : S} (h : Hl W w b t g s) (k n : Int) (hn : n ≤ 9223372036854775807)
include h hn
theorem Hl.reserve : Calls Try.prog 14 #[.pointer (some ⟨b, 0, none⟩), .int .i64 k, .int .i64 n] w (HOut W b t g) :=
  (h.lv.reserve k n hn rfl).mono fun _ _ ⟨he, hl⟩ => ⟨_, _, he, hl, (up_reserve k n s).1.trans h.lim, Int.le_trans h.high (up_reserve k n s).2⟩
theorem Hl.release : Calls Try.prog 15 #[.pointer (some ⟨b, 0, none⟩), .int .i64 k, .int .i64 n] w (HOut W b t g) :=
  (h.lv.release k n hn rfl).mono fun _ _ ⟨he, hl⟩ => ⟨_, _, he, hl, (up_release k n s).1.trans h.lim, Int.le_trans h.high (up_release k n s).2⟩
theorem Hl.change : Calls Try.prog 16 #[.pointer (some ⟨b, 0, none⟩), .int .i64 k, .int .i64 n] w (HOut W b t g) :=
  (h.lv.change k n hn rfl).mono fun _ _ ⟨he, hl⟩ => ⟨_, _, he, hl, (up_change k n s).1.trans h.lim, Int.le_trans h.high (up_change k n s).2⟩
end

/-- the sum of the first j kinds -/
def part (s : S) (j : Nat) : Int := (if 0 < j then s.k0 else 0) + (if 1 < j then s.k1 else 0) + (if 2 < j then s.k2 else 0) + (if 3 < j then s.k3 else 0)
theorem part0 (s : S) : part s 0 = 0 := by simp [part]
theorem part4 (s : S) : part s 4 = s.used := by simp [part, S.used]

set_option maxRecDepth 100000 in
set_option maxHeartbeats 8000000 in
theorem walk (l : Int) (A : Option Addr) (n cap : Nat) (sc : List AC) (w : World) (hlen : sc.length = n) (hin : ActsIn w w.heap.size A sc) (hb : n * 24 ≤ reachBytes) :
    Calls Try.prog 4 #[.int .i64 l, .slice A n cap] w fun e w' => e = .returned (.bool true) ∧ Below w.heap.size w w' := by
  have hn : n ≤ 9223372036854775807 := by unfold reachBytes at hb; omega
  have HIN := Lib.hid hin
  have HLEN := Lib.hid hlen
  have HT : Hid (top l = min (max l 0) 1099511627776) := rfl
  clear hin hb hlen
  go_enter Try.func4, Try.ntmps4
  go_wp2_with fail
  refine (lv_made (Below.refl _ w) l).mono ?_
  rintro e w1 ⟨b, rfl, h1, -, -⟩
  have H1 := Lib.hid h1
  clear h1
  go_wp2_with fail
  refine (wakes_any _).mono ?_
  rintro e w3 ⟨rfl, hB⟩
  have H3 := Lib.hid (H1.out.trans hB)
  clear hB H1
  go_wp2_with fail
  · have hT : top l = 1099511627776 := by rw [HT.out]; omega
    have H4 : Hid (Hl w w3 b 1099511627776 0 (new l)) := ⟨H3.out, hT, Int.le_refl _⟩
    clear hT H3
    go_loopw [7, 23] (fun g i wr => ∃ (k : Nat) (s : S) (g' : Int), k ≤ n ∧ i = .int .i64 k ∧ g = .int .i64 g' ∧ Hl w wr b 1099511627776 g' s) (fun _ i _ => n - (intOf i).toNat)
    case atStart => exact ⟨0, _, 0, by omega, rfl, rfl, H4.out⟩
    case round =>
      obtain ⟨k, s, g, hk, rfl, rfl, hbo⟩ := hrel
      have HBO := Lib.hid hbo
      clear hbo
      by_cases hlt : k < n
      · have hkl : k < sc.length := by rw [HLEN.out]; exact hlt
        obtain ⟨q, off, hA, hql, hc⟩ := (HIN.out.below HBO.out.lv.below).2 (by omega)
        obtain ⟨c0, c1, c2⟩ := hc k hkl
        obtain ⟨a, ha⟩ : ∃ a, sc[k] = a := ⟨_, rfl⟩
        have hwf : a.wf := HIN.out.1 a (by rw [← ha]; exact List.getElem_mem hkl)
        rw [ha] at c0 c1 c2
        obtain ⟨d, kk, nn⟩ := a
        obtain ⟨hwd, hwk, hwn⟩ := hwf
        simp only at c0 c1 c2 hwd hwk hwn
        have HAL : Hid (Hl w (wr.alloc (.cells #[.int .i64 d, .int .i64 kk, .int .i64 nn] 30)) b 1099511627776 g s) := ⟨HBO.out.lv.trans ((Below.refl _ _).alloc (Nat.le_refl _) _), HBO.out.lim, HBO.out.high⟩
        subst hA
        clear hc ha
        by_cases hm0 : d.tmod 3 = 0
        · have HCALL := Lib.hid (HAL.out.reserve kk nn hwn.2)
          go_wp2_with fail
          refine HCALL.out.mono ?_
          rintro e w5 ⟨cc, s', rfl, h5⟩
          have H5 := Lib.hid h5
          have okk := h5.lv.ok
          obtain ⟨p0, p1, p2, p3, uh, hl2, hlt2⟩ := okk
          have hgg := h5.high
          have hlm := h5.lim
          have hk4 : s'.used ≤ s'.lim := by omega
          have hb0 : s'.k0 + s'.k1 + s'.k2 + s'.k3 ≤ 1099511627776 := by unfold S.used at uh; omega
          have HPU := Lib.hid (part4 s')
          have HUQ := Lib.hid (fun W' (hW : BAt W' b 0 s') => used_q hW s'.used rfl)
          have HHQ := Lib.hid (fun W' (hW : BAt W' b 0 s') => high_q hW s'.high rfl)
          have HLQ := Lib.hid (fun W' (hW : BAt W' b 0 s') => left_v hW h5.lv.ok 1099511627776 s'.used hlm rfl)
          have HF0 : Hid (∀ W' (_ : BAt W' b 0 s'), Calls Try.prog 13 #[.pointer (some ⟨b, 0, none⟩), .int .i64 0] W' fun e w' => e = .returned (.int .i64 s'.k0) ∧ w' = W') := fun W' hW => of_q hW 0 s'.k0 (by simp [S.of])
          have HF1 : Hid (∀ W' (_ : BAt W' b 0 s'), Calls Try.prog 13 #[.pointer (some ⟨b, 0, none⟩), .int .i64 1] W' fun e w' => e = .returned (.int .i64 s'.k1) ∧ w' = W') := fun W' hW => of_q hW 1 s'.k1 (by simp [S.of])
          have HF2 : Hid (∀ W' (_ : BAt W' b 0 s'), Calls Try.prog 13 #[.pointer (some ⟨b, 0, none⟩), .int .i64 2] W' fun e w' => e = .returned (.int .i64 s'.k2) ∧ w' = W') := fun W' hW => of_q hW 2 s'.k2 (by simp [S.of])
          have HF3 : Hid (∀ W' (_ : BAt W' b 0 s'), Calls Try.prog 13 #[.pointer (some ⟨b, 0, none⟩), .int .i64 3] W' fun e w' => e = .returned (.int .i64 s'.k3) ∧ w' = W') := fun W' hW => of_q hW 3 s'.k3 (by simp [S.of])
          have hu0 : 0 ≤ s'.used := by unfold S.used; omega
          have HSU : Hid (s'.used = s'.k0 + s'.k1 + s'.k2 + s'.k3) := rfl
          obtain ⟨u, hu⟩ : ∃ u, s'.used = u := ⟨_, rfl⟩
          obtain ⟨hh, hhe⟩ : ∃ u, s'.high = u := ⟨_, rfl⟩
          obtain ⟨x0, e0⟩ : ∃ u, s'.k0 = u := ⟨_, rfl⟩
          obtain ⟨x1, e1⟩ : ∃ u, s'.k1 = u := ⟨_, rfl⟩
          obtain ⟨x2, e2⟩ : ∃ u, s'.k2 = u := ⟨_, rfl⟩
          obtain ⟨x3, e3⟩ : ∃ u, s'.k3 = u := ⟨_, rfl⟩
          have HHE := Lib.hid hhe
          rw [hu] at HUQ HLQ hu0 uh hk4 HSU
          rw [hhe] at HHQ uh hl2 hgg
          rw [e0] at HF0 p0 hb0 HSU
          rw [e1] at HF1 p1 hb0 HSU
          rw [e2] at HF2 p2 hb0 HSU
          rw [e3] at HF3 p3 hb0 HSU
          rw [hlm] at hk4 hl2 hlt2
          clear h5 hu hhe e0 e1 e2 e3 hlm HPU
          have n1 : ¬ u < 0 := by omega
          have n2 : ¬ hh < u := by omega
          have n3 : ¬ 1099511627776 < hh := by omega
          have n4 : ¬ hh < g := by omega
          go_wp2_with fail
          refine (HUQ.out _ H5.out.lv.at_).mono ?_
          rintro e w6 ⟨rfl, rfl⟩
          go_wp2_with fail
          refine (HHQ.out _ H5.out.lv.at_).mono ?_
          rintro e w6 ⟨rfl, rfl⟩
          go_wp2_with fail
          go_loopw [12, 13] (fun a j wr => (a = .int .i64 0 ∧ j = .int .i64 0 ∧ Hl w wr b 1099511627776 g s') ∨ (a = .int .i64 x0 ∧ j = .int .i64 1 ∧ Hl w wr b 1099511627776 g s') ∨ (a = .int .i64 (x0 + x1) ∧ j = .int .i64 2 ∧ Hl w wr b 1099511627776 g s') ∨ (a = .int .i64 (x0 + x1 + x2) ∧ j = .int .i64 3 ∧ Hl w wr b 1099511627776 g s') ∨ (a = .int .i64 (x0 + x1 + x2 + x3) ∧ j = .int .i64 4 ∧ Hl w wr b 1099511627776 g s')) (fun _ j _ => 4 - (intOf j).toNat)
          case atStart => exact Or.inl ⟨rfl, rfl, H5.out⟩
          case round =>
            rcases hrel with ⟨rfl, rfl, h⟩ | ⟨rfl, rfl, h⟩ | ⟨rfl, rfl, h⟩ | ⟨rfl, rfl, h⟩ | ⟨rfl, rfl, h⟩
            · have H6 := Lib.hid h
              clear h
              go_wp2_with fail
              refine (HF0.out _ H6.out.lv.at_).mono ?_
              rintro e w7 ⟨rfl, rfl⟩
              go_wp2_with fail
              refine (HF0.out _ H6.out.lv.at_).mono ?_
              rintro e w7 ⟨rfl, rfl⟩
              go_wp2
              go_roundw
              case rel => exact Or.inr (Or.inl ⟨by go_num, rfl, H6.out⟩)
              case measure => simp [intOf]
            · have H6 := Lib.hid h
              clear h
              go_wp2_with fail
              refine (HF1.out _ H6.out.lv.at_).mono ?_
              rintro e w7 ⟨rfl, rfl⟩
              go_wp2_with fail
              refine (HF1.out _ H6.out.lv.at_).mono ?_
              rintro e w7 ⟨rfl, rfl⟩
              go_wp2
              go_roundw
              case rel => exact Or.inr (Or.inr (Or.inl ⟨rfl, rfl, H6.out⟩))
              case measure => simp [intOf]
            · have H6 := Lib.hid h
              clear h
              go_wp2_with fail
              refine (HF2.out _ H6.out.lv.at_).mono ?_
              rintro e w7 ⟨rfl, rfl⟩
              go_wp2_with fail
              refine (HF2.out _ H6.out.lv.at_).mono ?_
              rintro e w7 ⟨rfl, rfl⟩
              go_wp2
              go_roundw
              case rel => exact Or.inr (Or.inr (Or.inr (Or.inl ⟨rfl, rfl, H6.out⟩)))
              case measure => simp [intOf]
            · have H6 := Lib.hid h
              clear h
              go_wp2_with fail
              refine (HF3.out _ H6.out.lv.at_).mono ?_
              rintro e w7 ⟨rfl, rfl⟩
              go_wp2_with fail
              refine (HF3.out _ H6.out.lv.at_).mono ?_
              rintro e w7 ⟨rfl, rfl⟩
              go_wp2
              go_roundw
              case rel => exact Or.inr (Or.inr (Or.inr (Or.inr ⟨rfl, rfl, H6.out⟩)))
              case measure => simp [intOf]
            · have H6 := Lib.hid h
              clear h
              rw [← HSU.out]
              go_wp2_with fail
              refine (HLQ.out _ H6.out.lv.at_).mono ?_
              rintro e w7 ⟨rfl, nq, rfl⟩
              have H7 : Hid (Hl w (_) b 1099511627776 hh s') := ⟨H6.out.lv.trans (below_drewN (Below.refl _ _) nq), H6.out.lim, Int.le_of_eq HHE.out.symm⟩
              go_wp2
              go_roundw
              case rel => exact ⟨k + 1, s', hh, by omega, by go_num, rfl, H7.out⟩
              case measure => simp [intOf]; omega
        · by_cases hm1 : d.tmod 3 = 1
          · have HCALL := Lib.hid (HAL.out.release kk nn hwn.2)
            go_wp2_with fail
            refine HCALL.out.mono ?_
            rintro e w5 ⟨cc, s', rfl, h5⟩
            have H5 := Lib.hid h5
            have okk := h5.lv.ok
            obtain ⟨p0, p1, p2, p3, uh, hl2, hlt2⟩ := okk
            have hgg := h5.high
            have hlm := h5.lim
            have hk4 : s'.used ≤ s'.lim := by omega
            have hb0 : s'.k0 + s'.k1 + s'.k2 + s'.k3 ≤ 1099511627776 := by unfold S.used at uh; omega
            have HPU := Lib.hid (part4 s')
            have HUQ := Lib.hid (fun W' (hW : BAt W' b 0 s') => used_q hW s'.used rfl)
            have HHQ := Lib.hid (fun W' (hW : BAt W' b 0 s') => high_q hW s'.high rfl)
            have HLQ := Lib.hid (fun W' (hW : BAt W' b 0 s') => left_v hW h5.lv.ok 1099511627776 s'.used hlm rfl)
            have HF0 : Hid (∀ W' (_ : BAt W' b 0 s'), Calls Try.prog 13 #[.pointer (some ⟨b, 0, none⟩), .int .i64 0] W' fun e w' => e = .returned (.int .i64 s'.k0) ∧ w' = W') := fun W' hW => of_q hW 0 s'.k0 (by simp [S.of])
            have HF1 : Hid (∀ W' (_ : BAt W' b 0 s'), Calls Try.prog 13 #[.pointer (some ⟨b, 0, none⟩), .int .i64 1] W' fun e w' => e = .returned (.int .i64 s'.k1) ∧ w' = W') := fun W' hW => of_q hW 1 s'.k1 (by simp [S.of])
            have HF2 : Hid (∀ W' (_ : BAt W' b 0 s'), Calls Try.prog 13 #[.pointer (some ⟨b, 0, none⟩), .int .i64 2] W' fun e w' => e = .returned (.int .i64 s'.k2) ∧ w' = W') := fun W' hW => of_q hW 2 s'.k2 (by simp [S.of])
            have HF3 : Hid (∀ W' (_ : BAt W' b 0 s'), Calls Try.prog 13 #[.pointer (some ⟨b, 0, none⟩), .int .i64 3] W' fun e w' => e = .returned (.int .i64 s'.k3) ∧ w' = W') := fun W' hW => of_q hW 3 s'.k3 (by simp [S.of])
            have hu0 : 0 ≤ s'.used := by unfold S.used; omega
            have HSU : Hid (s'.used = s'.k0 + s'.k1 + s'.k2 + s'.k3) := rfl
            obtain ⟨u, hu⟩ : ∃ u, s'.used = u := ⟨_, rfl⟩
            obtain ⟨hh, hhe⟩ : ∃ u, s'.high = u := ⟨_, rfl⟩
            obtain ⟨x0, e0⟩ : ∃ u, s'.k0 = u := ⟨_, rfl⟩
            obtain ⟨x1, e1⟩ : ∃ u, s'.k1 = u := ⟨_, rfl⟩
            obtain ⟨x2, e2⟩ : ∃ u, s'.k2 = u := ⟨_, rfl⟩
            obtain ⟨x3, e3⟩ : ∃ u, s'.k3 = u := ⟨_, rfl⟩
            have HHE := Lib.hid hhe
            rw [hu] at HUQ HLQ hu0 uh hk4 HSU
            rw [hhe] at HHQ uh hl2 hgg
            rw [e0] at HF0 p0 hb0 HSU
            rw [e1] at HF1 p1 hb0 HSU
            rw [e2] at HF2 p2 hb0 HSU
            rw [e3] at HF3 p3 hb0 HSU
            rw [hlm] at hk4 hl2 hlt2
            clear h5 hu hhe e0 e1 e2 e3 hlm HPU
            have n1 : ¬ u < 0 := by omega
            have n2 : ¬ hh < u := by omega
            have n3 : ¬ 1099511627776 < hh := by omega
            have n4 : ¬ hh < g := by omega
            go_wp2_with fail
            refine (HUQ.out _ H5.out.lv.at_).mono ?_
            rintro e w6 ⟨rfl, rfl⟩
            go_wp2_with fail
            refine (HHQ.out _ H5.out.lv.at_).mono ?_
            rintro e w6 ⟨rfl, rfl⟩
            go_wp2_with fail
            go_loopw [12, 13] (fun a j wr => (a = .int .i64 0 ∧ j = .int .i64 0 ∧ Hl w wr b 1099511627776 g s') ∨ (a = .int .i64 x0 ∧ j = .int .i64 1 ∧ Hl w wr b 1099511627776 g s') ∨ (a = .int .i64 (x0 + x1) ∧ j = .int .i64 2 ∧ Hl w wr b 1099511627776 g s') ∨ (a = .int .i64 (x0 + x1 + x2) ∧ j = .int .i64 3 ∧ Hl w wr b 1099511627776 g s') ∨ (a = .int .i64 (x0 + x1 + x2 + x3) ∧ j = .int .i64 4 ∧ Hl w wr b 1099511627776 g s')) (fun _ j _ => 4 - (intOf j).toNat)
            case atStart => exact Or.inl ⟨rfl, rfl, H5.out⟩
            case round =>
              rcases hrel with ⟨rfl, rfl, h⟩ | ⟨rfl, rfl, h⟩ | ⟨rfl, rfl, h⟩ | ⟨rfl, rfl, h⟩ | ⟨rfl, rfl, h⟩
              · have H6 := Lib.hid h
                clear h
                go_wp2_with fail
                refine (HF0.out _ H6.out.lv.at_).mono ?_
                rintro e w7 ⟨rfl, rfl⟩
                go_wp2_with fail
                refine (HF0.out _ H6.out.lv.at_).mono ?_
                rintro e w7 ⟨rfl, rfl⟩
                go_wp2
                go_roundw
                case rel => exact Or.inr (Or.inl ⟨by go_num, rfl, H6.out⟩)
                case measure => simp [intOf]
              · have H6 := Lib.hid h
                clear h
                go_wp2_with fail
                refine (HF1.out _ H6.out.lv.at_).mono ?_
                rintro e w7 ⟨rfl, rfl⟩
                go_wp2_with fail
                refine (HF1.out _ H6.out.lv.at_).mono ?_
                rintro e w7 ⟨rfl, rfl⟩
                go_wp2
                go_roundw
                case rel => exact Or.inr (Or.inr (Or.inl ⟨rfl, rfl, H6.out⟩))
                case measure => simp [intOf]
              · have H6 := Lib.hid h
                clear h
                go_wp2_with fail
                refine (HF2.out _ H6.out.lv.at_).mono ?_
                rintro e w7 ⟨rfl, rfl⟩
                go_wp2_with fail
                refine (HF2.out _ H6.out.lv.at_).mono ?_
                rintro e w7 ⟨rfl, rfl⟩
                go_wp2
                go_roundw
                case rel => exact Or.inr (Or.inr (Or.inr (Or.inl ⟨rfl, rfl, H6.out⟩)))
                case measure => simp [intOf]
              · have H6 := Lib.hid h
                clear h
                go_wp2_with fail
                refine (HF3.out _ H6.out.lv.at_).mono ?_
                rintro e w7 ⟨rfl, rfl⟩
                go_wp2_with fail
                refine (HF3.out _ H6.out.lv.at_).mono ?_
                rintro e w7 ⟨rfl, rfl⟩
                go_wp2
                go_roundw
                case rel => exact Or.inr (Or.inr (Or.inr (Or.inr ⟨rfl, rfl, H6.out⟩)))
                case measure => simp [intOf]
              · have H6 := Lib.hid h
                clear h
                rw [← HSU.out]
                go_wp2_with fail
                refine (HLQ.out _ H6.out.lv.at_).mono ?_
                rintro e w7 ⟨rfl, nq, rfl⟩
                have H7 : Hid (Hl w (_) b 1099511627776 hh s') := ⟨H6.out.lv.trans (below_drewN (Below.refl _ _) nq), H6.out.lim, Int.le_of_eq HHE.out.symm⟩
                go_wp2
                go_roundw
                case rel => exact ⟨k + 1, s', hh, by omega, by go_num, rfl, H7.out⟩
                case measure => simp [intOf]; omega
          · have HCALL := Lib.hid (HAL.out.change kk nn hwn.2)
            have b0 : (d.tmod 3 == 0) = false := by simp [hm0]
            have b1 : (d.tmod 3 == 1) = false := by simp [hm1]
            go_wp2_with fail
            refine HCALL.out.mono ?_
            rintro e w5 ⟨cc, s', rfl, h5⟩
            have H5 := Lib.hid h5
            have okk := h5.lv.ok
            obtain ⟨p0, p1, p2, p3, uh, hl2, hlt2⟩ := okk
            have hgg := h5.high
            have hlm := h5.lim
            have hk4 : s'.used ≤ s'.lim := by omega
            have hb0 : s'.k0 + s'.k1 + s'.k2 + s'.k3 ≤ 1099511627776 := by unfold S.used at uh; omega
            have HPU := Lib.hid (part4 s')
            have HUQ := Lib.hid (fun W' (hW : BAt W' b 0 s') => used_q hW s'.used rfl)
            have HHQ := Lib.hid (fun W' (hW : BAt W' b 0 s') => high_q hW s'.high rfl)
            have HLQ := Lib.hid (fun W' (hW : BAt W' b 0 s') => left_v hW h5.lv.ok 1099511627776 s'.used hlm rfl)
            have HF0 : Hid (∀ W' (_ : BAt W' b 0 s'), Calls Try.prog 13 #[.pointer (some ⟨b, 0, none⟩), .int .i64 0] W' fun e w' => e = .returned (.int .i64 s'.k0) ∧ w' = W') := fun W' hW => of_q hW 0 s'.k0 (by simp [S.of])
            have HF1 : Hid (∀ W' (_ : BAt W' b 0 s'), Calls Try.prog 13 #[.pointer (some ⟨b, 0, none⟩), .int .i64 1] W' fun e w' => e = .returned (.int .i64 s'.k1) ∧ w' = W') := fun W' hW => of_q hW 1 s'.k1 (by simp [S.of])
            have HF2 : Hid (∀ W' (_ : BAt W' b 0 s'), Calls Try.prog 13 #[.pointer (some ⟨b, 0, none⟩), .int .i64 2] W' fun e w' => e = .returned (.int .i64 s'.k2) ∧ w' = W') := fun W' hW => of_q hW 2 s'.k2 (by simp [S.of])
            have HF3 : Hid (∀ W' (_ : BAt W' b 0 s'), Calls Try.prog 13 #[.pointer (some ⟨b, 0, none⟩), .int .i64 3] W' fun e w' => e = .returned (.int .i64 s'.k3) ∧ w' = W') := fun W' hW => of_q hW 3 s'.k3 (by simp [S.of])
            have hu0 : 0 ≤ s'.used := by unfold S.used; omega
            have HSU : Hid (s'.used = s'.k0 + s'.k1 + s'.k2 + s'.k3) := rfl
            obtain ⟨u, hu⟩ : ∃ u, s'.used = u := ⟨_, rfl⟩
            obtain ⟨hh, hhe⟩ : ∃ u, s'.high = u := ⟨_, rfl⟩
            obtain ⟨x0, e0⟩ : ∃ u, s'.k0 = u := ⟨_, rfl⟩
            obtain ⟨x1, e1⟩ : ∃ u, s'.k1 = u := ⟨_, rfl⟩
            obtain ⟨x2, e2⟩ : ∃ u, s'.k2 = u := ⟨_, rfl⟩
            obtain ⟨x3, e3⟩ : ∃ u, s'.k3 = u := ⟨_, rfl⟩
            have HHE := Lib.hid hhe
            rw [hu] at HUQ HLQ hu0 uh hk4 HSU
            rw [hhe] at HHQ uh hl2 hgg
            rw [e0] at HF0 p0 hb0 HSU
            rw [e1] at HF1 p1 hb0 HSU
            rw [e2] at HF2 p2 hb0 HSU
            rw [e3] at HF3 p3 hb0 HSU
            rw [hlm] at hk4 hl2 hlt2
            clear h5 hu hhe e0 e1 e2 e3 hlm HPU
            have n1 : ¬ u < 0 := by omega
            have n2 : ¬ hh < u := by omega
            have n3 : ¬ 1099511627776 < hh := by omega
            have n4 : ¬ hh < g := by omega
            go_wp2_with fail
            refine (HUQ.out _ H5.out.lv.at_).mono ?_
            rintro e w6 ⟨rfl, rfl⟩
            go_wp2_with fail
            refine (HHQ.out _ H5.out.lv.at_).mono ?_
            rintro e w6 ⟨rfl, rfl⟩
            go_wp2_with fail
            go_loopw [12, 13] (fun a j wr => (a = .int .i64 0 ∧ j = .int .i64 0 ∧ Hl w wr b 1099511627776 g s') ∨ (a = .int .i64 x0 ∧ j = .int .i64 1 ∧ Hl w wr b 1099511627776 g s') ∨ (a = .int .i64 (x0 + x1) ∧ j = .int .i64 2 ∧ Hl w wr b 1099511627776 g s') ∨ (a = .int .i64 (x0 + x1 + x2) ∧ j = .int .i64 3 ∧ Hl w wr b 1099511627776 g s') ∨ (a = .int .i64 (x0 + x1 + x2 + x3) ∧ j = .int .i64 4 ∧ Hl w wr b 1099511627776 g s')) (fun _ j _ => 4 - (intOf j).toNat)
            case atStart => exact Or.inl ⟨rfl, rfl, H5.out⟩
            case round =>
              rcases hrel with ⟨rfl, rfl, h⟩ | ⟨rfl, rfl, h⟩ | ⟨rfl, rfl, h⟩ | ⟨rfl, rfl, h⟩ | ⟨rfl, rfl, h⟩
              · have H6 := Lib.hid h
                clear h
                go_wp2_with fail
                refine (HF0.out _ H6.out.lv.at_).mono ?_
                rintro e w7 ⟨rfl, rfl⟩
                go_wp2_with fail
                refine (HF0.out _ H6.out.lv.at_).mono ?_
                rintro e w7 ⟨rfl, rfl⟩
                go_wp2
                go_roundw
                case rel => exact Or.inr (Or.inl ⟨by go_num, rfl, H6.out⟩)
                case measure => simp [intOf]
              · have H6 := Lib.hid h
                clear h
                go_wp2_with fail
                refine (HF1.out _ H6.out.lv.at_).mono ?_
                rintro e w7 ⟨rfl, rfl⟩
                go_wp2_with fail
                refine (HF1.out _ H6.out.lv.at_).mono ?_
                rintro e w7 ⟨rfl, rfl⟩
                go_wp2
                go_roundw
                case rel => exact Or.inr (Or.inr (Or.inl ⟨rfl, rfl, H6.out⟩))
                case measure => simp [intOf]
              · have H6 := Lib.hid h
                clear h
                go_wp2_with fail
                refine (HF2.out _ H6.out.lv.at_).mono ?_
                rintro e w7 ⟨rfl, rfl⟩
                go_wp2_with fail
                refine (HF2.out _ H6.out.lv.at_).mono ?_
                rintro e w7 ⟨rfl, rfl⟩
                go_wp2
                go_roundw
                case rel => exact Or.inr (Or.inr (Or.inr (Or.inl ⟨rfl, rfl, H6.out⟩)))
                case measure => simp [intOf]
              · have H6 := Lib.hid h
                clear h
                go_wp2_with fail
                refine (HF3.out _ H6.out.lv.at_).mono ?_
                rintro e w7 ⟨rfl, rfl⟩
                go_wp2_with fail
                refine (HF3.out _ H6.out.lv.at_).mono ?_
                rintro e w7 ⟨rfl, rfl⟩
                go_wp2
                go_roundw
                case rel => exact Or.inr (Or.inr (Or.inr (Or.inr ⟨rfl, rfl, H6.out⟩)))
                case measure => simp [intOf]
              · have H6 := Lib.hid h
                clear h
                rw [← HSU.out]
                go_wp2_with fail
                refine (HLQ.out _ H6.out.lv.at_).mono ?_
                rintro e w7 ⟨rfl, nq, rfl⟩
                have H7 : Hid (Hl w (_) b 1099511627776 hh s') := ⟨H6.out.lv.trans (below_drewN (Below.refl _ _) nq), H6.out.lim, Int.le_of_eq HHE.out.symm⟩
                go_wp2
                go_roundw
                case rel => exact ⟨k + 1, s', hh, by omega, by go_num, rfl, H7.out⟩
                case measure => simp [intOf]; omega
      · have hkn : k = n := by omega
        subst hkn
        go_wp2
        go_ret
        exact ⟨rfl, HBO.out.lv.below⟩
  · have hT : top l = l := by rw [HT.out]; omega
    have H4 : Hid (Hl w w3 b l 0 (new l)) := ⟨H3.out, hT, Int.le_refl _⟩
    clear hT H3
    go_loopw [7, 23] (fun g i wr => ∃ (k : Nat) (s : S) (g' : Int), k ≤ n ∧ i = .int .i64 k ∧ g = .int .i64 g' ∧ Hl w wr b l g' s) (fun _ i _ => n - (intOf i).toNat)
    case atStart => exact ⟨0, _, 0, by omega, rfl, rfl, H4.out⟩
    case round =>
      obtain ⟨k, s, g, hk, rfl, rfl, hbo⟩ := hrel
      have HBO := Lib.hid hbo
      clear hbo
      by_cases hlt : k < n
      · have hkl : k < sc.length := by rw [HLEN.out]; exact hlt
        obtain ⟨q, off, hA, hql, hc⟩ := (HIN.out.below HBO.out.lv.below).2 (by omega)
        obtain ⟨c0, c1, c2⟩ := hc k hkl
        obtain ⟨a, ha⟩ : ∃ a, sc[k] = a := ⟨_, rfl⟩
        have hwf : a.wf := HIN.out.1 a (by rw [← ha]; exact List.getElem_mem hkl)
        rw [ha] at c0 c1 c2
        obtain ⟨d, kk, nn⟩ := a
        obtain ⟨hwd, hwk, hwn⟩ := hwf
        simp only at c0 c1 c2 hwd hwk hwn
        have HAL : Hid (Hl w (wr.alloc (.cells #[.int .i64 d, .int .i64 kk, .int .i64 nn] 30)) b l g s) := ⟨HBO.out.lv.trans ((Below.refl _ _).alloc (Nat.le_refl _) _), HBO.out.lim, HBO.out.high⟩
        subst hA
        clear hc ha
        by_cases hm0 : d.tmod 3 = 0
        · have HCALL := Lib.hid (HAL.out.reserve kk nn hwn.2)
          go_wp2_with fail
          refine HCALL.out.mono ?_
          rintro e w5 ⟨cc, s', rfl, h5⟩
          have H5 := Lib.hid h5
          have okk := h5.lv.ok
          obtain ⟨p0, p1, p2, p3, uh, hl2, hlt2⟩ := okk
          have hgg := h5.high
          have hlm := h5.lim
          have hk4 : s'.used ≤ s'.lim := by omega
          have hb0 : s'.k0 + s'.k1 + s'.k2 + s'.k3 ≤ 1099511627776 := by unfold S.used at uh; omega
          have HPU := Lib.hid (part4 s')
          have HUQ := Lib.hid (fun W' (hW : BAt W' b 0 s') => used_q hW s'.used rfl)
          have HHQ := Lib.hid (fun W' (hW : BAt W' b 0 s') => high_q hW s'.high rfl)
          have HLQ := Lib.hid (fun W' (hW : BAt W' b 0 s') => left_v hW h5.lv.ok l s'.used hlm rfl)
          have HF0 : Hid (∀ W' (_ : BAt W' b 0 s'), Calls Try.prog 13 #[.pointer (some ⟨b, 0, none⟩), .int .i64 0] W' fun e w' => e = .returned (.int .i64 s'.k0) ∧ w' = W') := fun W' hW => of_q hW 0 s'.k0 (by simp [S.of])
          have HF1 : Hid (∀ W' (_ : BAt W' b 0 s'), Calls Try.prog 13 #[.pointer (some ⟨b, 0, none⟩), .int .i64 1] W' fun e w' => e = .returned (.int .i64 s'.k1) ∧ w' = W') := fun W' hW => of_q hW 1 s'.k1 (by simp [S.of])
          have HF2 : Hid (∀ W' (_ : BAt W' b 0 s'), Calls Try.prog 13 #[.pointer (some ⟨b, 0, none⟩), .int .i64 2] W' fun e w' => e = .returned (.int .i64 s'.k2) ∧ w' = W') := fun W' hW => of_q hW 2 s'.k2 (by simp [S.of])
          have HF3 : Hid (∀ W' (_ : BAt W' b 0 s'), Calls Try.prog 13 #[.pointer (some ⟨b, 0, none⟩), .int .i64 3] W' fun e w' => e = .returned (.int .i64 s'.k3) ∧ w' = W') := fun W' hW => of_q hW 3 s'.k3 (by simp [S.of])
          have hu0 : 0 ≤ s'.used := by unfold S.used; omega
          have HSU : Hid (s'.used = s'.k0 + s'.k1 + s'.k2 + s'.k3) := rfl
          obtain ⟨u, hu⟩ : ∃ u, s'.used = u := ⟨_, rfl⟩
          obtain ⟨hh, hhe⟩ : ∃ u, s'.high = u := ⟨_, rfl⟩
          obtain ⟨x0, e0⟩ : ∃ u, s'.k0 = u := ⟨_, rfl⟩
          obtain ⟨x1, e1⟩ : ∃ u, s'.k1 = u := ⟨_, rfl⟩
          obtain ⟨x2, e2⟩ : ∃ u, s'.k2 = u := ⟨_, rfl⟩
          obtain ⟨x3, e3⟩ : ∃ u, s'.k3 = u := ⟨_, rfl⟩
          have HHE := Lib.hid hhe
          rw [hu] at HUQ HLQ hu0 uh hk4 HSU
          rw [hhe] at HHQ uh hl2 hgg
          rw [e0] at HF0 p0 hb0 HSU
          rw [e1] at HF1 p1 hb0 HSU
          rw [e2] at HF2 p2 hb0 HSU
          rw [e3] at HF3 p3 hb0 HSU
          rw [hlm] at hk4 hl2 hlt2
          clear h5 hu hhe e0 e1 e2 e3 hlm HPU
          have n1 : ¬ u < 0 := by omega
          have n2 : ¬ hh < u := by omega
          have n3 : ¬ l < hh := by omega
          have n4 : ¬ hh < g := by omega
          go_wp2_with fail
          refine (HUQ.out _ H5.out.lv.at_).mono ?_
          rintro e w6 ⟨rfl, rfl⟩
          go_wp2_with fail
          refine (HHQ.out _ H5.out.lv.at_).mono ?_
          rintro e w6 ⟨rfl, rfl⟩
          go_wp2_with fail
          go_loopw [12, 13] (fun a j wr => (a = .int .i64 0 ∧ j = .int .i64 0 ∧ Hl w wr b l g s') ∨ (a = .int .i64 x0 ∧ j = .int .i64 1 ∧ Hl w wr b l g s') ∨ (a = .int .i64 (x0 + x1) ∧ j = .int .i64 2 ∧ Hl w wr b l g s') ∨ (a = .int .i64 (x0 + x1 + x2) ∧ j = .int .i64 3 ∧ Hl w wr b l g s') ∨ (a = .int .i64 (x0 + x1 + x2 + x3) ∧ j = .int .i64 4 ∧ Hl w wr b l g s')) (fun _ j _ => 4 - (intOf j).toNat)
          case atStart => exact Or.inl ⟨rfl, rfl, H5.out⟩
          case round =>
            rcases hrel with ⟨rfl, rfl, h⟩ | ⟨rfl, rfl, h⟩ | ⟨rfl, rfl, h⟩ | ⟨rfl, rfl, h⟩ | ⟨rfl, rfl, h⟩
            · have H6 := Lib.hid h
              clear h
              go_wp2_with fail
              refine (HF0.out _ H6.out.lv.at_).mono ?_
              rintro e w7 ⟨rfl, rfl⟩
              go_wp2_with fail
              refine (HF0.out _ H6.out.lv.at_).mono ?_
              rintro e w7 ⟨rfl, rfl⟩
              go_wp2
              go_roundw
              case rel => exact Or.inr (Or.inl ⟨by go_num, rfl, H6.out⟩)
              case measure => simp [intOf]
            · have H6 := Lib.hid h
              clear h
              go_wp2_with fail
              refine (HF1.out _ H6.out.lv.at_).mono ?_
              rintro e w7 ⟨rfl, rfl⟩
              go_wp2_with fail
              refine (HF1.out _ H6.out.lv.at_).mono ?_
              rintro e w7 ⟨rfl, rfl⟩
              go_wp2
              go_roundw
              case rel => exact Or.inr (Or.inr (Or.inl ⟨rfl, rfl, H6.out⟩))
              case measure => simp [intOf]
            · have H6 := Lib.hid h
              clear h
              go_wp2_with fail
              refine (HF2.out _ H6.out.lv.at_).mono ?_
              rintro e w7 ⟨rfl, rfl⟩
              go_wp2_with fail
              refine (HF2.out _ H6.out.lv.at_).mono ?_
              rintro e w7 ⟨rfl, rfl⟩
              go_wp2
              go_roundw
              case rel => exact Or.inr (Or.inr (Or.inr (Or.inl ⟨rfl, rfl, H6.out⟩)))
              case measure => simp [intOf]
            · have H6 := Lib.hid h
              clear h
              go_wp2_with fail
              refine (HF3.out _ H6.out.lv.at_).mono ?_
              rintro e w7 ⟨rfl, rfl⟩
              go_wp2_with fail
              refine (HF3.out _ H6.out.lv.at_).mono ?_
              rintro e w7 ⟨rfl, rfl⟩
              go_wp2
              go_roundw
              case rel => exact Or.inr (Or.inr (Or.inr (Or.inr ⟨rfl, rfl, H6.out⟩)))
              case measure => simp [intOf]
            · have H6 := Lib.hid h
              clear h
              rw [← HSU.out]
              go_wp2_with fail
              refine (HLQ.out _ H6.out.lv.at_).mono ?_
              rintro e w7 ⟨rfl, nq, rfl⟩
              have H7 : Hid (Hl w (_) b l hh s') := ⟨H6.out.lv.trans (below_drewN (Below.refl _ _) nq), H6.out.lim, Int.le_of_eq HHE.out.symm⟩
              go_wp2
              go_roundw
              case rel => exact ⟨k + 1, s', hh, by omega, by go_num, rfl, H7.out⟩
              case measure => simp [intOf]; omega
        · by_cases hm1 : d.tmod 3 = 1
          · have HCALL := Lib.hid (HAL.out.release kk nn hwn.2)
            go_wp2_with fail
            refine HCALL.out.mono ?_
            rintro e w5 ⟨cc, s', rfl, h5⟩
            have H5 := Lib.hid h5
            have okk := h5.lv.ok
            obtain ⟨p0, p1, p2, p3, uh, hl2, hlt2⟩ := okk
            have hgg := h5.high
            have hlm := h5.lim
            have hk4 : s'.used ≤ s'.lim := by omega
            have hb0 : s'.k0 + s'.k1 + s'.k2 + s'.k3 ≤ 1099511627776 := by unfold S.used at uh; omega
            have HPU := Lib.hid (part4 s')
            have HUQ := Lib.hid (fun W' (hW : BAt W' b 0 s') => used_q hW s'.used rfl)
            have HHQ := Lib.hid (fun W' (hW : BAt W' b 0 s') => high_q hW s'.high rfl)
            have HLQ := Lib.hid (fun W' (hW : BAt W' b 0 s') => left_v hW h5.lv.ok l s'.used hlm rfl)
            have HF0 : Hid (∀ W' (_ : BAt W' b 0 s'), Calls Try.prog 13 #[.pointer (some ⟨b, 0, none⟩), .int .i64 0] W' fun e w' => e = .returned (.int .i64 s'.k0) ∧ w' = W') := fun W' hW => of_q hW 0 s'.k0 (by simp [S.of])
            have HF1 : Hid (∀ W' (_ : BAt W' b 0 s'), Calls Try.prog 13 #[.pointer (some ⟨b, 0, none⟩), .int .i64 1] W' fun e w' => e = .returned (.int .i64 s'.k1) ∧ w' = W') := fun W' hW => of_q hW 1 s'.k1 (by simp [S.of])
            have HF2 : Hid (∀ W' (_ : BAt W' b 0 s'), Calls Try.prog 13 #[.pointer (some ⟨b, 0, none⟩), .int .i64 2] W' fun e w' => e = .returned (.int .i64 s'.k2) ∧ w' = W') := fun W' hW => of_q hW 2 s'.k2 (by simp [S.of])
            have HF3 : Hid (∀ W' (_ : BAt W' b 0 s'), Calls Try.prog 13 #[.pointer (some ⟨b, 0, none⟩), .int .i64 3] W' fun e w' => e = .returned (.int .i64 s'.k3) ∧ w' = W') := fun W' hW => of_q hW 3 s'.k3 (by simp [S.of])
            have hu0 : 0 ≤ s'.used := by unfold S.used; omega
            have HSU : Hid (s'.used = s'.k0 + s'.k1 + s'.k2 + s'.k3) := rfl
            obtain ⟨u, hu⟩ : ∃ u, s'.used = u := ⟨_, rfl⟩
            obtain ⟨hh, hhe⟩ : ∃ u, s'.high = u := ⟨_, rfl⟩
            obtain ⟨x0, e0⟩ : ∃ u, s'.k0 = u := ⟨_, rfl⟩
            obtain ⟨x1, e1⟩ : ∃ u, s'.k1 = u := ⟨_, rfl⟩
            obtain ⟨x2, e2⟩ : ∃ u, s'.k2 = u := ⟨_, rfl⟩
            obtain ⟨x3, e3⟩ : ∃ u, s'.k3 = u := ⟨_, rfl⟩
            have HHE := Lib.hid hhe
            rw [hu] at HUQ HLQ hu0 uh hk4 HSU
            rw [hhe] at HHQ uh hl2 hgg
            rw [e0] at HF0 p0 hb0 HSU
            rw [e1] at HF1 p1 hb0 HSU
            rw [e2] at HF2 p2 hb0 HSU
            rw [e3] at HF3 p3 hb0 HSU
            rw [hlm] at hk4 hl2 hlt2
            clear h5 hu hhe e0 e1 e2 e3 hlm HPU
            have n1 : ¬ u < 0 := by omega
            have n2 : ¬ hh < u := by omega
            have n3 : ¬ l < hh := by omega
            have n4 : ¬ hh < g := by omega
            go_wp2_with fail
            refine (HUQ.out _ H5.out.lv.at_).mono ?_
            rintro e w6 ⟨rfl, rfl⟩
            go_wp2_with fail
            refine (HHQ.out _ H5.out.lv.at_).mono ?_
            rintro e w6 ⟨rfl, rfl⟩
            go_wp2_with fail
            go_loopw [12, 13] (fun a j wr => (a = .int .i64 0 ∧ j = .int .i64 0 ∧ Hl w wr b l g s') ∨ (a = .int .i64 x0 ∧ j = .int .i64 1 ∧ Hl w wr b l g s') ∨ (a = .int .i64 (x0 + x1) ∧ j = .int .i64 2 ∧ Hl w wr b l g s') ∨ (a = .int .i64 (x0 + x1 + x2) ∧ j = .int .i64 3 ∧ Hl w wr b l g s') ∨ (a = .int .i64 (x0 + x1 + x2 + x3) ∧ j = .int .i64 4 ∧ Hl w wr b l g s')) (fun _ j _ => 4 - (intOf j).toNat)
            case atStart => exact Or.inl ⟨rfl, rfl, H5.out⟩
            case round =>
              rcases hrel with ⟨rfl, rfl, h⟩ | ⟨rfl, rfl, h⟩ | ⟨rfl, rfl, h⟩ | ⟨rfl, rfl, h⟩ | ⟨rfl, rfl, h⟩
              · have H6 := Lib.hid h
                clear h
                go_wp2_with fail
                refine (HF0.out _ H6.out.lv.at_).mono ?_
                rintro e w7 ⟨rfl, rfl⟩
                go_wp2_with fail
                refine (HF0.out _ H6.out.lv.at_).mono ?_
                rintro e w7 ⟨rfl, rfl⟩
                go_wp2
                go_roundw
                case rel => exact Or.inr (Or.inl ⟨by go_num, rfl, H6.out⟩)
                case measure => simp [intOf]
              · have H6 := Lib.hid h
                clear h
                go_wp2_with fail
                refine (HF1.out _ H6.out.lv.at_).mono ?_
                rintro e w7 ⟨rfl, rfl⟩
                go_wp2_with fail
                refine (HF1.out _ H6.out.lv.at_).mono ?_
                rintro e w7 ⟨rfl, rfl⟩
                go_wp2
                go_roundw
                case rel => exact Or.inr (Or.inr (Or.inl ⟨rfl, rfl, H6.out⟩))
                case measure => simp [intOf]
              · have H6 := Lib.hid h
                clear h
                go_wp2_with fail
                refine (HF2.out _ H6.out.lv.at_).mono ?_
                rintro e w7 ⟨rfl, rfl⟩
                go_wp2_with fail
                refine (HF2.out _ H6.out.lv.at_).mono ?_
                rintro e w7 ⟨rfl, rfl⟩
                go_wp2
                go_roundw
                case rel => exact Or.inr (Or.inr (Or.inr (Or.inl ⟨rfl, rfl, H6.out⟩)))
                case measure => simp [intOf]
              · have H6 := Lib.hid h
                clear h
                go_wp2_with fail
                refine (HF3.out _ H6.out.lv.at_).mono ?_
                rintro e w7 ⟨rfl, rfl⟩
                go_wp2_with fail
                refine (HF3.out _ H6.out.lv.at_).mono ?_
                rintro e w7 ⟨rfl, rfl⟩
                go_wp2
                go_roundw
                case rel => exact Or.inr (Or.inr (Or.inr (Or.inr ⟨rfl, rfl, H6.out⟩)))
                case measure => simp [intOf]
              · have H6 := Lib.hid h
                clear h
                rw [← HSU.out]
                go_wp2_with fail
                refine (HLQ.out _ H6.out.lv.at_).mono ?_
                rintro e w7 ⟨rfl, nq, rfl⟩
                have H7 : Hid (Hl w (_) b l hh s') := ⟨H6.out.lv.trans (below_drewN (Below.refl _ _) nq), H6.out.lim, Int.le_of_eq HHE.out.symm⟩
                go_wp2
                go_roundw
                case rel => exact ⟨k + 1, s', hh, by omega, by go_num, rfl, H7.out⟩
                case measure => simp [intOf]; omega
          · have HCALL := Lib.hid (HAL.out.change kk nn hwn.2)
            have b0 : (d.tmod 3 == 0) = false := by simp [hm0]
            have b1 : (d.tmod 3 == 1) = false := by simp [hm1]
            go_wp2_with fail
            refine HCALL.out.mono ?_
            rintro e w5 ⟨cc, s', rfl, h5⟩
            have H5 := Lib.hid h5
            have okk := h5.lv.ok
            obtain ⟨p0, p1, p2, p3, uh, hl2, hlt2⟩ := okk
            have hgg := h5.high
            have hlm := h5.lim
            have hk4 : s'.used ≤ s'.lim := by omega
            have hb0 : s'.k0 + s'.k1 + s'.k2 + s'.k3 ≤ 1099511627776 := by unfold S.used at uh; omega
            have HPU := Lib.hid (part4 s')
            have HUQ := Lib.hid (fun W' (hW : BAt W' b 0 s') => used_q hW s'.used rfl)
            have HHQ := Lib.hid (fun W' (hW : BAt W' b 0 s') => high_q hW s'.high rfl)
            have HLQ := Lib.hid (fun W' (hW : BAt W' b 0 s') => left_v hW h5.lv.ok l s'.used hlm rfl)
            have HF0 : Hid (∀ W' (_ : BAt W' b 0 s'), Calls Try.prog 13 #[.pointer (some ⟨b, 0, none⟩), .int .i64 0] W' fun e w' => e = .returned (.int .i64 s'.k0) ∧ w' = W') := fun W' hW => of_q hW 0 s'.k0 (by simp [S.of])
            have HF1 : Hid (∀ W' (_ : BAt W' b 0 s'), Calls Try.prog 13 #[.pointer (some ⟨b, 0, none⟩), .int .i64 1] W' fun e w' => e = .returned (.int .i64 s'.k1) ∧ w' = W') := fun W' hW => of_q hW 1 s'.k1 (by simp [S.of])
            have HF2 : Hid (∀ W' (_ : BAt W' b 0 s'), Calls Try.prog 13 #[.pointer (some ⟨b, 0, none⟩), .int .i64 2] W' fun e w' => e = .returned (.int .i64 s'.k2) ∧ w' = W') := fun W' hW => of_q hW 2 s'.k2 (by simp [S.of])
            have HF3 : Hid (∀ W' (_ : BAt W' b 0 s'), Calls Try.prog 13 #[.pointer (some ⟨b, 0, none⟩), .int .i64 3] W' fun e w' => e = .returned (.int .i64 s'.k3) ∧ w' = W') := fun W' hW => of_q hW 3 s'.k3 (by simp [S.of])
            have hu0 : 0 ≤ s'.used := by unfold S.used; omega
            have HSU : Hid (s'.used = s'.k0 + s'.k1 + s'.k2 + s'.k3) := rfl
            obtain ⟨u, hu⟩ : ∃ u, s'.used = u := ⟨_, rfl⟩
            obtain ⟨hh, hhe⟩ : ∃ u, s'.high = u := ⟨_, rfl⟩
            obtain ⟨x0, e0⟩ : ∃ u, s'.k0 = u := ⟨_, rfl⟩
            obtain ⟨x1, e1⟩ : ∃ u, s'.k1 = u := ⟨_, rfl⟩
            obtain ⟨x2, e2⟩ : ∃ u, s'.k2 = u := ⟨_, rfl⟩
            obtain ⟨x3, e3⟩ : ∃ u, s'.k3 = u := ⟨_, rfl⟩
            have HHE := Lib.hid hhe
            rw [hu] at HUQ HLQ hu0 uh hk4 HSU
            rw [hhe] at HHQ uh hl2 hgg
            rw [e0] at HF0 p0 hb0 HSU
            rw [e1] at HF1 p1 hb0 HSU
            rw [e2] at HF2 p2 hb0 HSU
            rw [e3] at HF3 p3 hb0 HSU
            rw [hlm] at hk4 hl2 hlt2
            clear h5 hu hhe e0 e1 e2 e3 hlm HPU
            have n1 : ¬ u < 0 := by omega
            have n2 : ¬ hh < u := by omega
            have n3 : ¬ l < hh := by omega
            have n4 : ¬ hh < g := by omega
            go_wp2_with fail
            refine (HUQ.out _ H5.out.lv.at_).mono ?_
            rintro e w6 ⟨rfl, rfl⟩
            go_wp2_with fail
            refine (HHQ.out _ H5.out.lv.at_).mono ?_
            rintro e w6 ⟨rfl, rfl⟩
            go_wp2_with fail
            go_loopw [12, 13] (fun a j wr => (a = .int .i64 0 ∧ j = .int .i64 0 ∧ Hl w wr b l g s') ∨ (a = .int .i64 x0 ∧ j = .int .i64 1 ∧ Hl w wr b l g s') ∨ (a = .int .i64 (x0 + x1) ∧ j = .int .i64 2 ∧ Hl w wr b l g s') ∨ (a = .int .i64 (x0 + x1 + x2) ∧ j = .int .i64 3 ∧ Hl w wr b l g s') ∨ (a = .int .i64 (x0 + x1 + x2 + x3) ∧ j = .int .i64 4 ∧ Hl w wr b l g s')) (fun _ j _ => 4 - (intOf j).toNat)
            case atStart => exact Or.inl ⟨rfl, rfl, H5.out⟩
            case round =>
              rcases hrel with ⟨rfl, rfl, h⟩ | ⟨rfl, rfl, h⟩ | ⟨rfl, rfl, h⟩ | ⟨rfl, rfl, h⟩ | ⟨rfl, rfl, h⟩
              · have H6 := Lib.hid h
                clear h
                go_wp2_with fail
                refine (HF0.out _ H6.out.lv.at_).mono ?_
                rintro e w7 ⟨rfl, rfl⟩
                go_wp2_with fail
                refine (HF0.out _ H6.out.lv.at_).mono ?_
                rintro e w7 ⟨rfl, rfl⟩
                go_wp2
                go_roundw
                case rel => exact Or.inr (Or.inl ⟨by go_num, rfl, H6.out⟩)
                case measure => simp [intOf]
              · have H6 := Lib.hid h
                clear h
                go_wp2_with fail
                refine (HF1.out _ H6.out.lv.at_).mono ?_
                rintro e w7 ⟨rfl, rfl⟩
                go_wp2_with fail
                refine (HF1.out _ H6.out.lv.at_).mono ?_
                rintro e w7 ⟨rfl, rfl⟩
                go_wp2
                go_roundw
                case rel => exact Or.inr (Or.inr (Or.inl ⟨rfl, rfl, H6.out⟩))
                case measure => simp [intOf]
              · have H6 := Lib.hid h
                clear h
                go_wp2_with fail
                refine (HF2.out _ H6.out.lv.at_).mono ?_
                rintro e w7 ⟨rfl, rfl⟩
                go_wp2_with fail
                refine (HF2.out _ H6.out.lv.at_).mono ?_
                rintro e w7 ⟨rfl, rfl⟩
                go_wp2
                go_roundw
                case rel => exact Or.inr (Or.inr (Or.inr (Or.inl ⟨rfl, rfl, H6.out⟩)))
                case measure => simp [intOf]
              · have H6 := Lib.hid h
                clear h
                go_wp2_with fail
                refine (HF3.out _ H6.out.lv.at_).mono ?_
                rintro e w7 ⟨rfl, rfl⟩
                go_wp2_with fail
                refine (HF3.out _ H6.out.lv.at_).mono ?_
                rintro e w7 ⟨rfl, rfl⟩
                go_wp2
                go_roundw
                case rel => exact Or.inr (Or.inr (Or.inr (Or.inr ⟨rfl, rfl, H6.out⟩)))
                case measure => simp [intOf]
              · have H6 := Lib.hid h
                clear h
                rw [← HSU.out]
                go_wp2_with fail
                refine (HLQ.out _ H6.out.lv.at_).mono ?_
                rintro e w7 ⟨rfl, nq, rfl⟩
                have H7 : Hid (Hl w (_) b l hh s') := ⟨H6.out.lv.trans (below_drewN (Below.refl _ _) nq), H6.out.lim, Int.le_of_eq HHE.out.symm⟩
                go_wp2
                go_roundw
                case rel => exact ⟨k + 1, s', hh, by omega, by go_num, rfl, H7.out⟩
                case measure => simp [intOf]; omega
      · have hkn : k = n := by omega
        subst hkn
        go_wp2
        go_ret
        exact ⟨rfl, HBO.out.lv.below⟩
  · have hT : top l = 0 := by rw [HT.out]; omega
    have H4 : Hid (Hl w w3 b 0 0 (new l)) := ⟨H3.out, hT, Int.le_refl _⟩
    clear hT H3
    go_loopw [7, 23] (fun g i wr => ∃ (k : Nat) (s : S) (g' : Int), k ≤ n ∧ i = .int .i64 k ∧ g = .int .i64 g' ∧ Hl w wr b 0 g' s) (fun _ i _ => n - (intOf i).toNat)
    case atStart => exact ⟨0, _, 0, by omega, rfl, rfl, H4.out⟩
    case round =>
      obtain ⟨k, s, g, hk, rfl, rfl, hbo⟩ := hrel
      have HBO := Lib.hid hbo
      clear hbo
      by_cases hlt : k < n
      · have hkl : k < sc.length := by rw [HLEN.out]; exact hlt
        obtain ⟨q, off, hA, hql, hc⟩ := (HIN.out.below HBO.out.lv.below).2 (by omega)
        obtain ⟨c0, c1, c2⟩ := hc k hkl
        obtain ⟨a, ha⟩ : ∃ a, sc[k] = a := ⟨_, rfl⟩
        have hwf : a.wf := HIN.out.1 a (by rw [← ha]; exact List.getElem_mem hkl)
        rw [ha] at c0 c1 c2
        obtain ⟨d, kk, nn⟩ := a
        obtain ⟨hwd, hwk, hwn⟩ := hwf
        simp only at c0 c1 c2 hwd hwk hwn
        have HAL : Hid (Hl w (wr.alloc (.cells #[.int .i64 d, .int .i64 kk, .int .i64 nn] 30)) b 0 g s) := ⟨HBO.out.lv.trans ((Below.refl _ _).alloc (Nat.le_refl _) _), HBO.out.lim, HBO.out.high⟩
        subst hA
        clear hc ha
        by_cases hm0 : d.tmod 3 = 0
        · have HCALL := Lib.hid (HAL.out.reserve kk nn hwn.2)
          go_wp2_with fail
          refine HCALL.out.mono ?_
          rintro e w5 ⟨cc, s', rfl, h5⟩
          have H5 := Lib.hid h5
          have okk := h5.lv.ok
          obtain ⟨p0, p1, p2, p3, uh, hl2, hlt2⟩ := okk
          have hgg := h5.high
          have hlm := h5.lim
          have hk4 : s'.used ≤ s'.lim := by omega
          have hb0 : s'.k0 + s'.k1 + s'.k2 + s'.k3 ≤ 1099511627776 := by unfold S.used at uh; omega
          have HPU := Lib.hid (part4 s')
          have HUQ := Lib.hid (fun W' (hW : BAt W' b 0 s') => used_q hW s'.used rfl)
          have HHQ := Lib.hid (fun W' (hW : BAt W' b 0 s') => high_q hW s'.high rfl)
          have HLQ := Lib.hid (fun W' (hW : BAt W' b 0 s') => left_v hW h5.lv.ok 0 s'.used hlm rfl)
          have HF0 : Hid (∀ W' (_ : BAt W' b 0 s'), Calls Try.prog 13 #[.pointer (some ⟨b, 0, none⟩), .int .i64 0] W' fun e w' => e = .returned (.int .i64 s'.k0) ∧ w' = W') := fun W' hW => of_q hW 0 s'.k0 (by simp [S.of])
          have HF1 : Hid (∀ W' (_ : BAt W' b 0 s'), Calls Try.prog 13 #[.pointer (some ⟨b, 0, none⟩), .int .i64 1] W' fun e w' => e = .returned (.int .i64 s'.k1) ∧ w' = W') := fun W' hW => of_q hW 1 s'.k1 (by simp [S.of])
          have HF2 : Hid (∀ W' (_ : BAt W' b 0 s'), Calls Try.prog 13 #[.pointer (some ⟨b, 0, none⟩), .int .i64 2] W' fun e w' => e = .returned (.int .i64 s'.k2) ∧ w' = W') := fun W' hW => of_q hW 2 s'.k2 (by simp [S.of])
          have HF3 : Hid (∀ W' (_ : BAt W' b 0 s'), Calls Try.prog 13 #[.pointer (some ⟨b, 0, none⟩), .int .i64 3] W' fun e w' => e = .returned (.int .i64 s'.k3) ∧ w' = W') := fun W' hW => of_q hW 3 s'.k3 (by simp [S.of])
          have hu0 : 0 ≤ s'.used := by unfold S.used; omega
          have HSU : Hid (s'.used = s'.k0 + s'.k1 + s'.k2 + s'.k3) := rfl
          obtain ⟨u, hu⟩ : ∃ u, s'.used = u := ⟨_, rfl⟩
          obtain ⟨hh, hhe⟩ : ∃ u, s'.high = u := ⟨_, rfl⟩
          obtain ⟨x0, e0⟩ : ∃ u, s'.k0 = u := ⟨_, rfl⟩
          obtain ⟨x1, e1⟩ : ∃ u, s'.k1 = u := ⟨_, rfl⟩
          obtain ⟨x2, e2⟩ : ∃ u, s'.k2 = u := ⟨_, rfl⟩
          obtain ⟨x3, e3⟩ : ∃ u, s'.k3 = u := ⟨_, rfl⟩
          have HHE := Lib.hid hhe
          rw [hu] at HUQ HLQ hu0 uh hk4 HSU
          rw [hhe] at HHQ uh hl2 hgg
          rw [e0] at HF0 p0 hb0 HSU
          rw [e1] at HF1 p1 hb0 HSU
          rw [e2] at HF2 p2 hb0 HSU
          rw [e3] at HF3 p3 hb0 HSU
          rw [hlm] at hk4 hl2 hlt2
          clear h5 hu hhe e0 e1 e2 e3 hlm HPU
          have n1 : ¬ u < 0 := by omega
          have n2 : ¬ hh < u := by omega
          have n3 : ¬ 0 < hh := by omega
          have n4 : ¬ hh < g := by omega
          go_wp2_with fail
          refine (HUQ.out _ H5.out.lv.at_).mono ?_
          rintro e w6 ⟨rfl, rfl⟩
          go_wp2_with fail
          refine (HHQ.out _ H5.out.lv.at_).mono ?_
          rintro e w6 ⟨rfl, rfl⟩
          go_wp2_with fail
          go_loopw [12, 13] (fun a j wr => (a = .int .i64 0 ∧ j = .int .i64 0 ∧ Hl w wr b 0 g s') ∨ (a = .int .i64 x0 ∧ j = .int .i64 1 ∧ Hl w wr b 0 g s') ∨ (a = .int .i64 (x0 + x1) ∧ j = .int .i64 2 ∧ Hl w wr b 0 g s') ∨ (a = .int .i64 (x0 + x1 + x2) ∧ j = .int .i64 3 ∧ Hl w wr b 0 g s') ∨ (a = .int .i64 (x0 + x1 + x2 + x3) ∧ j = .int .i64 4 ∧ Hl w wr b 0 g s')) (fun _ j _ => 4 - (intOf j).toNat)
          case atStart => exact Or.inl ⟨rfl, rfl, H5.out⟩
          case round =>
            rcases hrel with ⟨rfl, rfl, h⟩ | ⟨rfl, rfl, h⟩ | ⟨rfl, rfl, h⟩ | ⟨rfl, rfl, h⟩ | ⟨rfl, rfl, h⟩
            · have H6 := Lib.hid h
              clear h
              go_wp2_with fail
              refine (HF0.out _ H6.out.lv.at_).mono ?_
              rintro e w7 ⟨rfl, rfl⟩
              go_wp2_with fail
              refine (HF0.out _ H6.out.lv.at_).mono ?_
              rintro e w7 ⟨rfl, rfl⟩
              go_wp2
              go_roundw
              case rel => exact Or.inr (Or.inl ⟨by go_num, rfl, H6.out⟩)
              case measure => simp [intOf]
            · have H6 := Lib.hid h
              clear h
              go_wp2_with fail
              refine (HF1.out _ H6.out.lv.at_).mono ?_
              rintro e w7 ⟨rfl, rfl⟩
              go_wp2_with fail
              refine (HF1.out _ H6.out.lv.at_).mono ?_
              rintro e w7 ⟨rfl, rfl⟩
              go_wp2
              go_roundw
              case rel => exact Or.inr (Or.inr (Or.inl ⟨rfl, rfl, H6.out⟩))
              case measure => simp [intOf]
            · have H6 := Lib.hid h
              clear h
              go_wp2_with fail
              refine (HF2.out _ H6.out.lv.at_).mono ?_
              rintro e w7 ⟨rfl, rfl⟩
              go_wp2_with fail
              refine (HF2.out _ H6.out.lv.at_).mono ?_
              rintro e w7 ⟨rfl, rfl⟩
              go_wp2
              go_roundw
              case rel => exact Or.inr (Or.inr (Or.inr (Or.inl ⟨rfl, rfl, H6.out⟩)))
              case measure => simp [intOf]
            · have H6 := Lib.hid h
              clear h
              go_wp2_with fail
              refine (HF3.out _ H6.out.lv.at_).mono ?_
              rintro e w7 ⟨rfl, rfl⟩
              go_wp2_with fail
              refine (HF3.out _ H6.out.lv.at_).mono ?_
              rintro e w7 ⟨rfl, rfl⟩
              go_wp2
              go_roundw
              case rel => exact Or.inr (Or.inr (Or.inr (Or.inr ⟨rfl, rfl, H6.out⟩)))
              case measure => simp [intOf]
            · have H6 := Lib.hid h
              clear h
              rw [← HSU.out]
              go_wp2_with fail
              refine (HLQ.out _ H6.out.lv.at_).mono ?_
              rintro e w7 ⟨rfl, nq, rfl⟩
              have H7 : Hid (Hl w (_) b 0 hh s') := ⟨H6.out.lv.trans (below_drewN (Below.refl _ _) nq), H6.out.lim, Int.le_of_eq HHE.out.symm⟩
              go_wp2
              go_roundw
              case rel => exact ⟨k + 1, s', hh, by omega, by go_num, rfl, H7.out⟩
              case measure => simp [intOf]; omega
        · by_cases hm1 : d.tmod 3 = 1
          · have HCALL := Lib.hid (HAL.out.release kk nn hwn.2)
            go_wp2_with fail
            refine HCALL.out.mono ?_
            rintro e w5 ⟨cc, s', rfl, h5⟩
            have H5 := Lib.hid h5
            have okk := h5.lv.ok
            obtain ⟨p0, p1, p2, p3, uh, hl2, hlt2⟩ := okk
            have hgg := h5.high
            have hlm := h5.lim
            have hk4 : s'.used ≤ s'.lim := by omega
            have hb0 : s'.k0 + s'.k1 + s'.k2 + s'.k3 ≤ 1099511627776 := by unfold S.used at uh; omega
            have HPU := Lib.hid (part4 s')
            have HUQ := Lib.hid (fun W' (hW : BAt W' b 0 s') => used_q hW s'.used rfl)
            have HHQ := Lib.hid (fun W' (hW : BAt W' b 0 s') => high_q hW s'.high rfl)
            have HLQ := Lib.hid (fun W' (hW : BAt W' b 0 s') => left_v hW h5.lv.ok 0 s'.used hlm rfl)
            have HF0 : Hid (∀ W' (_ : BAt W' b 0 s'), Calls Try.prog 13 #[.pointer (some ⟨b, 0, none⟩), .int .i64 0] W' fun e w' => e = .returned (.int .i64 s'.k0) ∧ w' = W') := fun W' hW => of_q hW 0 s'.k0 (by simp [S.of])
            have HF1 : Hid (∀ W' (_ : BAt W' b 0 s'), Calls Try.prog 13 #[.pointer (some ⟨b, 0, none⟩), .int .i64 1] W' fun e w' => e = .returned (.int .i64 s'.k1) ∧ w' = W') := fun W' hW => of_q hW 1 s'.k1 (by simp [S.of])
            have HF2 : Hid (∀ W' (_ : BAt W' b 0 s'), Calls Try.prog 13 #[.pointer (some ⟨b, 0, none⟩), .int .i64 2] W' fun e w' => e = .returned (.int .i64 s'.k2) ∧ w' = W') := fun W' hW => of_q hW 2 s'.k2 (by simp [S.of])
            have HF3 : Hid (∀ W' (_ : BAt W' b 0 s'), Calls Try.prog 13 #[.pointer (some ⟨b, 0, none⟩), .int .i64 3] W' fun e w' => e = .returned (.int .i64 s'.k3) ∧ w' = W') := fun W' hW => of_q hW 3 s'.k3 (by simp [S.of])
            have hu0 : 0 ≤ s'.used := by unfold S.used; omega
            have HSU : Hid (s'.used = s'.k0 + s'.k1 + s'.k2 + s'.k3) := rfl
            obtain ⟨u, hu⟩ : ∃ u, s'.used = u := ⟨_, rfl⟩
            obtain ⟨hh, hhe⟩ : ∃ u, s'.high = u := ⟨_, rfl⟩
            obtain ⟨x0, e0⟩ : ∃ u, s'.k0 = u := ⟨_, rfl⟩
            obtain ⟨x1, e1⟩ : ∃ u, s'.k1 = u := ⟨_, rfl⟩
            obtain ⟨x2, e2⟩ : ∃ u, s'.k2 = u := ⟨_, rfl⟩
            obtain ⟨x3, e3⟩ : ∃ u, s'.k3 = u := ⟨_, rfl⟩
            have HHE := Lib.hid hhe
            rw [hu] at HUQ HLQ hu0 uh hk4 HSU
            rw [hhe] at HHQ uh hl2 hgg
            rw [e0] at HF0 p0 hb0 HSU
            rw [e1] at HF1 p1 hb0 HSU
            rw [e2] at HF2 p2 hb0 HSU
            rw [e3] at HF3 p3 hb0 HSU
            rw [hlm] at hk4 hl2 hlt2
            clear h5 hu hhe e0 e1 e2 e3 hlm HPU
            have n1 : ¬ u < 0 := by omega
            have n2 : ¬ hh < u := by omega
            have n3 : ¬ 0 < hh := by omega
            have n4 : ¬ hh < g := by omega
            go_wp2_with fail
            refine (HUQ.out _ H5.out.lv.at_).mono ?_
            rintro e w6 ⟨rfl, rfl⟩
            go_wp2_with fail
            refine (HHQ.out _ H5.out.lv.at_).mono ?_
            rintro e w6 ⟨rfl, rfl⟩
            go_wp2_with fail
            go_loopw [12, 13] (fun a j wr => (a = .int .i64 0 ∧ j = .int .i64 0 ∧ Hl w wr b 0 g s') ∨ (a = .int .i64 x0 ∧ j = .int .i64 1 ∧ Hl w wr b 0 g s') ∨ (a = .int .i64 (x0 + x1) ∧ j = .int .i64 2 ∧ Hl w wr b 0 g s') ∨ (a = .int .i64 (x0 + x1 + x2) ∧ j = .int .i64 3 ∧ Hl w wr b 0 g s') ∨ (a = .int .i64 (x0 + x1 + x2 + x3) ∧ j = .int .i64 4 ∧ Hl w wr b 0 g s')) (fun _ j _ => 4 - (intOf j).toNat)
            case atStart => exact Or.inl ⟨rfl, rfl, H5.out⟩
            case round =>
              rcases hrel with ⟨rfl, rfl, h⟩ | ⟨rfl, rfl, h⟩ | ⟨rfl, rfl, h⟩ | ⟨rfl, rfl, h⟩ | ⟨rfl, rfl, h⟩
              · have H6 := Lib.hid h
                clear h
                go_wp2_with fail
                refine (HF0.out _ H6.out.lv.at_).mono ?_
                rintro e w7 ⟨rfl, rfl⟩
                go_wp2_with fail
                refine (HF0.out _ H6.out.lv.at_).mono ?_
                rintro e w7 ⟨rfl, rfl⟩
                go_wp2
                go_roundw
                case rel => exact Or.inr (Or.inl ⟨by go_num, rfl, H6.out⟩)
                case measure => simp [intOf]
              · have H6 := Lib.hid h
                clear h
                go_wp2_with fail
                refine (HF1.out _ H6.out.lv.at_).mono ?_
                rintro e w7 ⟨rfl, rfl⟩
                go_wp2_with fail
                refine (HF1.out _ H6.out.lv.at_).mono ?_
                rintro e w7 ⟨rfl, rfl⟩
                go_wp2
                go_roundw
                case rel => exact Or.inr (Or.inr (Or.inl ⟨rfl, rfl, H6.out⟩))
                case measure => simp [intOf]
              · have H6 := Lib.hid h
                clear h
                go_wp2_with fail
                refine (HF2.out _ H6.out.lv.at_).mono ?_
                rintro e w7 ⟨rfl, rfl⟩
                go_wp2_with fail
                refine (HF2.out _ H6.out.lv.at_).mono ?_
                rintro e w7 ⟨rfl, rfl⟩
                go_wp2
                go_roundw
                case rel => exact Or.inr (Or.inr (Or.inr (Or.inl ⟨rfl, rfl, H6.out⟩)))
                case measure => simp [intOf]
              · have H6 := Lib.hid h
                clear h
                go_wp2_with fail
                refine (HF3.out _ H6.out.lv.at_).mono ?_
                rintro e w7 ⟨rfl, rfl⟩
                go_wp2_with fail
                refine (HF3.out _ H6.out.lv.at_).mono ?_
                rintro e w7 ⟨rfl, rfl⟩
                go_wp2
                go_roundw
                case rel => exact Or.inr (Or.inr (Or.inr (Or.inr ⟨rfl, rfl, H6.out⟩)))
                case measure => simp [intOf]
              · have H6 := Lib.hid h
                clear h
                rw [← HSU.out]
                go_wp2_with fail
                refine (HLQ.out _ H6.out.lv.at_).mono ?_
                rintro e w7 ⟨rfl, nq, rfl⟩
                have H7 : Hid (Hl w (_) b 0 hh s') := ⟨H6.out.lv.trans (below_drewN (Below.refl _ _) nq), H6.out.lim, Int.le_of_eq HHE.out.symm⟩
                go_wp2
                go_roundw
                case rel => exact ⟨k + 1, s', hh, by omega, by go_num, rfl, H7.out⟩
                case measure => simp [intOf]; omega
          · have HCALL := Lib.hid (HAL.out.change kk nn hwn.2)
            have b0 : (d.tmod 3 == 0) = false := by simp [hm0]
            have b1 : (d.tmod 3 == 1) = false := by simp [hm1]
            go_wp2_with fail
            refine HCALL.out.mono ?_
            rintro e w5 ⟨cc, s', rfl, h5⟩
            have H5 := Lib.hid h5
            have okk := h5.lv.ok
            obtain ⟨p0, p1, p2, p3, uh, hl2, hlt2⟩ := okk
            have hgg := h5.high
            have hlm := h5.lim
            have hk4 : s'.used ≤ s'.lim := by omega
            have hb0 : s'.k0 + s'.k1 + s'.k2 + s'.k3 ≤ 1099511627776 := by unfold S.used at uh; omega
            have HPU := Lib.hid (part4 s')
            have HUQ := Lib.hid (fun W' (hW : BAt W' b 0 s') => used_q hW s'.used rfl)
            have HHQ := Lib.hid (fun W' (hW : BAt W' b 0 s') => high_q hW s'.high rfl)
            have HLQ := Lib.hid (fun W' (hW : BAt W' b 0 s') => left_v hW h5.lv.ok 0 s'.used hlm rfl)
            have HF0 : Hid (∀ W' (_ : BAt W' b 0 s'), Calls Try.prog 13 #[.pointer (some ⟨b, 0, none⟩), .int .i64 0] W' fun e w' => e = .returned (.int .i64 s'.k0) ∧ w' = W') := fun W' hW => of_q hW 0 s'.k0 (by simp [S.of])
            have HF1 : Hid (∀ W' (_ : BAt W' b 0 s'), Calls Try.prog 13 #[.pointer (some ⟨b, 0, none⟩), .int .i64 1] W' fun e w' => e = .returned (.int .i64 s'.k1) ∧ w' = W') := fun W' hW => of_q hW 1 s'.k1 (by simp [S.of])
            have HF2 : Hid (∀ W' (_ : BAt W' b 0 s'), Calls Try.prog 13 #[.pointer (some ⟨b, 0, none⟩), .int .i64 2] W' fun e w' => e = .returned (.int .i64 s'.k2) ∧ w' = W') := fun W' hW => of_q hW 2 s'.k2 (by simp [S.of])
            have HF3 : Hid (∀ W' (_ : BAt W' b 0 s'), Calls Try.prog 13 #[.pointer (some ⟨b, 0, none⟩), .int .i64 3] W' fun e w' => e = .returned (.int .i64 s'.k3) ∧ w' = W') := fun W' hW => of_q hW 3 s'.k3 (by simp [S.of])
            have hu0 : 0 ≤ s'.used := by unfold S.used; omega
            have HSU : Hid (s'.used = s'.k0 + s'.k1 + s'.k2 + s'.k3) := rfl
            obtain ⟨u, hu⟩ : ∃ u, s'.used = u := ⟨_, rfl⟩
            obtain ⟨hh, hhe⟩ : ∃ u, s'.high = u := ⟨_, rfl⟩
            obtain ⟨x0, e0⟩ : ∃ u, s'.k0 = u := ⟨_, rfl⟩
            obtain ⟨x1, e1⟩ : ∃ u, s'.k1 = u := ⟨_, rfl⟩
            obtain ⟨x2, e2⟩ : ∃ u, s'.k2 = u := ⟨_, rfl⟩
            obtain ⟨x3, e3⟩ : ∃ u, s'.k3 = u := ⟨_, rfl⟩
            have HHE := Lib.hid hhe
            rw [hu] at HUQ HLQ hu0 uh hk4 HSU
            rw [hhe] at HHQ uh hl2 hgg
            rw [e0] at HF0 p0 hb0 HSU
            rw [e1] at HF1 p1 hb0 HSU
            rw [e2] at HF2 p2 hb0 HSU
            rw [e3] at HF3 p3 hb0 HSU
            rw [hlm] at hk4 hl2 hlt2
            clear h5 hu hhe e0 e1 e2 e3 hlm HPU
            have n1 : ¬ u < 0 := by omega
            have n2 : ¬ hh < u := by omega
            have n3 : ¬ 0 < hh := by omega
            have n4 : ¬ hh < g := by omega
            go_wp2_with fail
            refine (HUQ.out _ H5.out.lv.at_).mono ?_
            rintro e w6 ⟨rfl, rfl⟩
            go_wp2_with fail
            refine (HHQ.out _ H5.out.lv.at_).mono ?_
            rintro e w6 ⟨rfl, rfl⟩
            go_wp2_with fail
            go_loopw [12, 13] (fun a j wr => (a = .int .i64 0 ∧ j = .int .i64 0 ∧ Hl w wr b 0 g s') ∨ (a = .int .i64 x0 ∧ j = .int .i64 1 ∧ Hl w wr b 0 g s') ∨ (a = .int .i64 (x0 + x1) ∧ j = .int .i64 2 ∧ Hl w wr b 0 g s') ∨ (a = .int .i64 (x0 + x1 + x2) ∧ j = .int .i64 3 ∧ Hl w wr b 0 g s') ∨ (a = .int .i64 (x0 + x1 + x2 + x3) ∧ j = .int .i64 4 ∧ Hl w wr b 0 g s')) (fun _ j _ => 4 - (intOf j).toNat)
            case atStart => exact Or.inl ⟨rfl, rfl, H5.out⟩
            case round =>
              rcases hrel with ⟨rfl, rfl, h⟩ | ⟨rfl, rfl, h⟩ | ⟨rfl, rfl, h⟩ | ⟨rfl, rfl, h⟩ | ⟨rfl, rfl, h⟩
              · have H6 := Lib.hid h
                clear h
                go_wp2_with fail
                refine (HF0.out _ H6.out.lv.at_).mono ?_
                rintro e w7 ⟨rfl, rfl⟩
                go_wp2_with fail
                refine (HF0.out _ H6.out.lv.at_).mono ?_
                rintro e w7 ⟨rfl, rfl⟩
                go_wp2
                go_roundw
                case rel => exact Or.inr (Or.inl ⟨by go_num, rfl, H6.out⟩)
                case measure => simp [intOf]
              · have H6 := Lib.hid h
                clear h
                go_wp2_with fail
                refine (HF1.out _ H6.out.lv.at_).mono ?_
                rintro e w7 ⟨rfl, rfl⟩
                go_wp2_with fail
                refine (HF1.out _ H6.out.lv.at_).mono ?_
                rintro e w7 ⟨rfl, rfl⟩
                go_wp2
                go_roundw
                case rel => exact Or.inr (Or.inr (Or.inl ⟨rfl, rfl, H6.out⟩))
                case measure => simp [intOf]
              · have H6 := Lib.hid h
                clear h
                go_wp2_with fail
                refine (HF2.out _ H6.out.lv.at_).mono ?_
                rintro e w7 ⟨rfl, rfl⟩
                go_wp2_with fail
                refine (HF2.out _ H6.out.lv.at_).mono ?_
                rintro e w7 ⟨rfl, rfl⟩
                go_wp2
                go_roundw
                case rel => exact Or.inr (Or.inr (Or.inr (Or.inl ⟨rfl, rfl, H6.out⟩)))
                case measure => simp [intOf]
              · have H6 := Lib.hid h
                clear h
                go_wp2_with fail
                refine (HF3.out _ H6.out.lv.at_).mono ?_
                rintro e w7 ⟨rfl, rfl⟩
                go_wp2_with fail
                refine (HF3.out _ H6.out.lv.at_).mono ?_
                rintro e w7 ⟨rfl, rfl⟩
                go_wp2
                go_roundw
                case rel => exact Or.inr (Or.inr (Or.inr (Or.inr ⟨rfl, rfl, H6.out⟩)))
                case measure => simp [intOf]
              · have H6 := Lib.hid h
                clear h
                rw [← HSU.out]
                go_wp2_with fail
                refine (HLQ.out _ H6.out.lv.at_).mono ?_
                rintro e w7 ⟨rfl, nq, rfl⟩
                have H7 : Hid (Hl w (_) b 0 hh s') := ⟨H6.out.lv.trans (below_drewN (Below.refl _ _) nq), H6.out.lim, Int.le_of_eq HHE.out.symm⟩
                go_wp2
                go_roundw
                case rel => exact ⟨k + 1, s', hh, by omega, by go_num, rfl, H7.out⟩
                case measure => simp [intOf]; omega
      · have hkn : k = n := by omega
        subst hkn
        go_wp2
        go_ret
        exact ⟨rfl, HBO.out.lv.below⟩

set_option maxRecDepth 100000 in
theorem contract (H : Type) (enc : TypeId × Value → H) (W : World) (base : Nat) (args : Array Value) (ds gs : List (DataW H)) (before : List MemPlace)
    (hval : ∀ (j : Nat) t v, Try.f4.params[j]? = some t → args[j]? = some v → Value.okWide Try.prog W .any base t v)
    (hW : DataW.Whole enc Try.prog Try.f4.params.toList Rows.budgetHoldsSpec.vars false W args.toList ds gs before)
    (hz : (DataW.weightsEach Try.prog Try.f4.params.toList (ds ++ gs)).all (· ≤ reachBytes) = true) :
    Calls Try.prog 4 args W fun e W' => ∃ v, e = .returned v ∧ Rows.budgetHoldsSpec.post enc Try.prog Try.f4 false true false false W args v W' := by
  have hW' := hW
  obtain ⟨p, q, hA0, hV, rfl, hfz, hnd⟩ := hW
  have hA : DataW.TrodAll enc Try.prog W 0 (fun _ => true) true Try.f4.params.toList args.toList ds p := hA0
  rw [Try.params4] at hA hval hz
  obtain ⟨v0, vs0, d0, ds0, p0, q0, hargs, rfl, rfl, h0, r0⟩ := trodAll_cons hA
  obtain ⟨v1, vs1, d1, ds1, p1, q1, rfl, rfl, rfl, h1, r1⟩ := trodAll_cons r0
  obtain ⟨rfl, rfl, rfl⟩ := trodAll_nil r1
  obtain rfl : args = #[v0, v1] := by cases args; simp_all
  obtain ⟨rfl, rfl⟩ := trodVars_none hV
  obtain ⟨l, rfl, rfl, rfl, wl⟩ := open_int Try.underlying2 (hval 0 2 v0 rfl rfl) h0
  have hl : -9223372036854775808 ≤ l ∧ l ≤ 9223372036854775807 := by simpa [Lit.wf, IntKind.min, IntKind.max, IntKind.signed, IntKind.bits] using wl
  obtain ⟨scA, scN, scC, sc, rfl, hlensc, hinsc, hbsc⟩ := open_acts (hval 1 22 v1 rfl rfl) h1 (parts_sized hz (j := 1) rfl rfl)
  refine (walk l scA scN scC sc W hlensc hinsc hbsc).mono fun e W' ⟨he, hB⟩ => ?_
  subst he
  exact ⟨_, rfl, law_post Try.laidOut (by kernel_rfl) rfl rfl Try.underlying4 hW' rfl hB⟩

set_option maxRecDepth 100000 in
theorem lifted (os : Os) (started : os.Started) (H : Type) (enc : TypeId × Value → H) :
    ReturnsInHanded {} Try.checked os 4 .any (Rows.budgetHoldsSpec.pre6 enc Try.prog Try.f4 Rows.budgetHoldsRow.domain false) (Rows.budgetHoldsSpec.post enc Try.prog Try.f4 false true false false) := by
  refine returnsInHanded_of_change_sized (C := Try.checked) Try.own started (by kernel_rfl) Try.func4
    (ChangeSpec.witness6 (enc := enc) (C := Try.checked) false ⟨#[], #[.int .i64 0, .slice none 0 0], []⟩ 8 (by kernel_rfl) (by kernel_rfl) (by kernel_rfl) (by kernel_rfl)) ?_
  intro W base args ds gs before hval hW _ hz _
  exact contract H enc W base args ds gs before hval hW hz

theorem proved : Rows.BudgetHoldsSaid :=
  OpenClaim.holds_of_wide 4 Try.f4 rfl rfl rfl rfl rfl rfl rfl ⟨rfl, rfl, rfl, rfl, rfl⟩ rfl rfl rfl rfl rfl (by kernel_rfl) Try.func4 (by kernel_rfl)
    (of_decide_eq_true (by kernel_rfl)) (by unfold Func.isWrapper; first | (rw [if_pos (by decide +kernel)]; kernel_rfl) | (rw [if_neg (by decide +kernel)]; exact ⟨rfl, rfl⟩))
    (fun os started H enc _ => lifted os started H enc)
end lawHolds
end Go.Proofs.Ytapncnbildampaa
