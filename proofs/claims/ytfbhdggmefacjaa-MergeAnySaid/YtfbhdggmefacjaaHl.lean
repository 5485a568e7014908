/- Less of sources. -/
import Derived.Test.YtfbhdggmefacjaaHp
namespace Go.Proofs.Ytfbhdggmefacjaa
open Go.RowKit
open SK HP

theorem ltS_cons (s t : Src) {a b : E} {l m : List E} (hs : s.left = a :: l) (ht : t.left = b :: m) : ltS s t = (less a b || (!less b a && decide (s.place < t.place))) := by
  simp [ltS, Src.hd, hs, ht]

set_option maxRecDepth 100000 in
set_option maxHeartbeats 4000000 in
theorem hless_any {W0 w : World} {p : Nat} {v : Value} {L : List Src} (h : Hp W0 w p v L) (i j : Nat) (hi : i < L.length) (hj : j < L.length) :
    Calls Try.prog 81 #[v, .int .i64 i, .int .i64 j] w fun e w' => e = .returned (.bool (ltS L[i] L[j])) ∧ Below w.heap.size w w' := by
  obtain ⟨g, cap, hv, hcap, -, -, -⟩ := h.slice (by omega)
  have z1 := h.at_ hv hi
  have z2 := h.at_ hv hj
  have o1 := h.obj _ (List.getElem_mem hi)
  have o2 := h.obj _ (List.getElem_mem hj)
  obtain ⟨e1, -, ne1, pl1⟩ := h.ents _ (List.getElem_mem hi)
  obtain ⟨e2, -, ne2, pl2⟩ := h.ents _ (List.getElem_mem hj)
  have E1 := e1.below h.below
  have E2 := e2.below h.below
  obtain ⟨s, hs⟩ : ∃ s, L[i] = s := ⟨_, rfl⟩
  obtain ⟨t, ht⟩ : ∃ t, L[j] = t := ⟨_, rfl⟩
  rw [hs] at z1 o1 E1 ne1 pl1 ⊢
  rw [ht] at z2 o2 E2 ne2 pl2 ⊢
  obtain ⟨n, hn⟩ : ∃ n, L.length = n := ⟨_, rfl⟩
  rw [hn] at hv hi hj hcap
  have hn6 : n ≤ 1000000 := by rw [← hn]; exact h.few
  clear hs ht hn h e1 e2
  obtain ⟨b1, A1, c1, p1, l1⟩ := s
  obtain ⟨b2, A2, c2, p2, l2⟩ := t
  simp only [ptrS, objS] at z1 z2 o1 o2 E1 E2 ne1 ne2 pl1 pl2
  obtain ⟨x, l1, rfl⟩ := List.exists_cons_of_ne_nil ne1
  obtain ⟨y, l2, rfl⟩ := List.exists_cons_of_ne_nil ne2
  rw [ltS_cons ⟨b1, A1, c1, p1, x :: l1⟩ ⟨b2, A2, c2, p2, y :: l2⟩ rfl rfl]
  obtain ⟨q1, f1, hA1, hq1, hc1⟩ := E1.at_ (by simp)
  obtain ⟨q2, f2, hA2, hq2, hc2⟩ := E2.at_ (by simp)
  have k1 := hc1 0 (by simp)
  have k2 := hc2 0 (by simp)
  simp only [List.getElem_cons_zero, Nat.zero_mul, Nat.add_zero] at k1 k2
  obtain ⟨x0, x1, x2, x3, x4⟩ := k1
  obtain ⟨y0, y1, y2, y3, y4⟩ := k2
  have u0 : w.cell? ⟨b1, 0, none⟩ = some (.slice A1 (l1.length + 1) c1) := cell_of_row _ _ _ _ _ _ o1
  have u1 : w.cell? ⟨b1, 1, none⟩ = some (.int .i64 p1) := cell_of_row _ _ _ _ _ _ o1
  have v0 : w.cell? ⟨b2, 0, none⟩ = some (.slice A2 (l2.length + 1) c2) := cell_of_row _ _ _ _ _ _ o2
  have v1 : w.cell? ⟨b2, 1, none⟩ = some (.int .i64 p2) := cell_of_row _ _ _ _ _ _ o2
  have HL : Hid (∀ W, Calls Try.prog 24 #[x.val, y.val] W fun e w' => e = .returned (.bool (less x y)) ∧ Below W.heap.size W w') := fun W => less_any x y W
  have HL2 : Hid (∀ W, Calls Try.prog 24 #[y.val, x.val] W fun e w' => e = .returned (.bool (less y x)) ∧ Below W.heap.size W w') := fun W => less_any y x W
  have hlb1 : b1 < w.heap.size := lt_of_at o1
  have hlb2 : b2 < w.heap.size := lt_of_at o2
  have hlg : g < w.heap.size := block_lt_of_cell z1
  clear hc1 hc2 o1 o2 E1 E2 ne1 ne2
  obtain ⟨k1, a1, d1, t1, r1⟩ := x
  obtain ⟨k2, a2, d2, t2, r2⟩ := y
  obtain ⟨L1, hL1⟩ : ∃ L1, less ⟨k1, a1, d1, t1, r1⟩ ⟨k2, a2, d2, t2, r2⟩ = L1 := ⟨_, rfl⟩
  obtain ⟨L2, hL2⟩ : ∃ L2, less ⟨k2, a2, d2, t2, r2⟩ ⟨k1, a1, d1, t1, r1⟩ = L2 := ⟨_, rfl⟩
  rw [hL1] at HL ⊢
  rw [hL2] at HL2 ⊢
  simp only [E.val] at HL HL2 x0 x1 x2 x3 x4 y0 y1 y2 y3 y4
  obtain ⟨m1, hm1⟩ : ∃ m, l1.length + 1 = m := ⟨_, rfl⟩
  obtain ⟨m2, hm2⟩ : ∃ m, l2.length + 1 = m := ⟨_, rfl⟩
  rw [hm1] at u0
  rw [hm2] at v0
  have hm1p : 0 < m1 := by omega
  have hm2p : 0 < m2 := by omega
  have hm1i : (0 : Int) < (m1 : Int) := by omega
  have hm2i : (0 : Int) < (m2 : Int) := by omega
  clear hL1 hL2 hm1 hm2
  subst hv; subst hA1; subst hA2
  have i0 : (0 : Int) ≤ (i : Int) := by omega
  have i1 : (i : Int) < (n : Int) := by omega
  have j0 : (0 : Int) ≤ (j : Int) := by omega
  have j1 : (j : Int) < (n : Int) := by omega
  have hB : Below w.heap.size w w := Below.refl _ _
  have nn0 := World.new_ne w ⟨g, i, none⟩ z1
  have nn1 := World.new_ne w ⟨g, j, none⟩ z2
  have nn2 := World.new_ne w ⟨b1, 0, none⟩ u0
  have nn3 := World.new_ne w ⟨b2, 0, none⟩ v0
  have nn4 := World.new_ne w ⟨q1, f1, none⟩ x0
  have nn5 := World.new_ne w ⟨q1, f1 + 1, none⟩ x1
  have nn6 := World.new_ne w ⟨q1, f1 + 2, none⟩ x2
  have nn7 := World.new_ne w ⟨q1, f1 + 3, none⟩ x3
  have nn8 := World.new_ne w ⟨q1, f1 + 4, none⟩ x4
  have nn9 := World.new_ne w ⟨q2, f2, none⟩ y0
  have nn10 := World.new_ne w ⟨q2, f2 + 1, none⟩ y1
  have nn11 := World.new_ne w ⟨q2, f2 + 2, none⟩ y2
  have nn12 := World.new_ne w ⟨q2, f2 + 3, none⟩ y3
  have nn13 := World.new_ne w ⟨q2, f2 + 4, none⟩ y4
  go_enter Try.func81, Try.ntmps81
  go_wp2_with fail
  go_region_held3 (fun w' => w'.cell? ⟨g, i, none⟩ = some (.pointer (some ⟨b1, 0, none⟩)) ∧ w'.cell? ⟨g, j, none⟩ = some (.pointer (some ⟨b2, 0, none⟩)) ∧ w'.cell? ⟨b1, 0, none⟩ = some (.slice (some ⟨q1, f1, none⟩) m1 c1) ∧ w'.cell? ⟨b2, 0, none⟩ = some (.slice (some ⟨q2, f2, none⟩) m2 c2) ∧ w'.cell? ⟨q1, f1, none⟩ = some (.string k1) ∧ w'.cell? ⟨q1, f1 + 1, none⟩ = some (.int .i64 a1) ∧ w'.cell? ⟨q1, f1 + 2, none⟩ = some (.bool d1) ∧ w'.cell? ⟨q1, f1 + 3, none⟩ = some (.string t1) ∧ w'.cell? ⟨q1, f1 + 4, none⟩ = some (.int .i64 r1) ∧ w'.cell? ⟨q2, f2, none⟩ = some (.string k2) ∧ w'.cell? ⟨q2, f2 + 1, none⟩ = some (.int .i64 a2) ∧ w'.cell? ⟨q2, f2 + 2, none⟩ = some (.bool d2) ∧ w'.cell? ⟨q2, f2 + 3, none⟩ = some (.string t2) ∧ w'.cell? ⟨q2, f2 + 4, none⟩ = some (.int .i64 r2))
    (first | go_keep | fail)
    (first | fail)
  all_goals clear nn0 nn1 nn2 nn3 nn4 nn5 nn6 nn7 nn8 nn9 nn10 nn11 nn12 nn13
  · obtain ⟨hr1, hr2, hbel, hsz⟩ := two_new w #[.string k1, .int .i64 a1, .bool d1, .string t1, .int .i64 r1] #[.string k2, .int .i64 a2, .bool d2, .string t2, .int .i64 r2] 37
    go_wp2_with fail
    generalize hq : World.drew _ = W1 at hr1 hr2 hbel hsz ⊢
    have HR1 := Lib.hid hr1
    have HR2 := Lib.hid hr2
    have HBW := Lib.hid hbel
    obtain ⟨B, hBe⟩ : ∃ B, w.heap.size = B := ⟨_, rfl⟩
    have HBE := Lib.hid hBe
    rw [hBe] at hr1 hr2 hbel hsz HR1 HR2 hlb1 hlb2 hlg hq1 hq2 ⊢
    clear x0 x1 x2 x3 x4 y0 y1 y2 y3 y4 hr1 hr2
    refine (HL.out _).mono ?_
    rintro e w1 ⟨rfl, hb1⟩
    have HB1 : Hid (Below B w w1) := Lib.hid (hbel.trans (hb1.mono (by omega)))
    have G1 : w1.heap[B]? = some (.cells #[.string k1, .int .i64 a1, .bool d1, .string t1, .int .i64 r1] 37 (0, 0)) := (hb1.block (B) (by omega)).trans HR1.out
    have g0 : w1.cell? ⟨B, 0, none⟩ = some (.string k1) := cell_of_row _ _ _ _ _ _ G1
    have g1 : w1.cell? ⟨B, 1, none⟩ = some (.int .i64 a1) := cell_of_row _ _ _ _ _ _ G1
    have g2 : w1.cell? ⟨B, 2, none⟩ = some (.bool d1) := cell_of_row _ _ _ _ _ _ G1
    have g3 : w1.cell? ⟨B, 3, none⟩ = some (.string t1) := cell_of_row _ _ _ _ _ _ G1
    have g4 : w1.cell? ⟨B, 4, none⟩ = some (.int .i64 r1) := cell_of_row _ _ _ _ _ _ G1
    have G2 : w1.heap[B + 1]? = some (.cells #[.string k2, .int .i64 a2, .bool d2, .string t2, .int .i64 r2] 37 (0, 0)) := (hb1.block (B + 1) (by omega)).trans HR2.out
    have h0 : w1.cell? ⟨B + 1, 0, none⟩ = some (.string k2) := cell_of_row _ _ _ _ _ _ G2
    have h1 : w1.cell? ⟨B + 1, 1, none⟩ = some (.int .i64 a2) := cell_of_row _ _ _ _ _ _ G2
    have h2 : w1.cell? ⟨B + 1, 2, none⟩ = some (.bool d2) := cell_of_row _ _ _ _ _ _ G2
    have h3 : w1.cell? ⟨B + 1, 3, none⟩ = some (.string t2) := cell_of_row _ _ _ _ _ _ G2
    have h4 : w1.cell? ⟨B + 1, 4, none⟩ = some (.int .i64 r2) := cell_of_row _ _ _ _ _ _ G2
    have hs1 : B + 2 ≤ w1.heap.size := by have := hb1.size; omega
    clear hb1 hbel hsz G1 G2
    cases L1
    · go_wp2_with fail
      refine (HL2.out _).mono ?_
      rintro e w2 ⟨rfl, hb2⟩
      have HB2 : Hid (Below B w w2) := Lib.hid (HB1.out.trans (hb2.mono (by omega)))
      have HBE2 : Hid (Below w.heap.size w w2) := Lib.hid (by rw [HBE.out]; exact HB2.out)
      have s1 : w2.cell? ⟨g, i, none⟩ = some (.pointer (some ⟨b1, 0, none⟩)) := (HB2.out.cell (p := ⟨g, i, none⟩) hlg).trans z1
      have s2 : w2.cell? ⟨g, j, none⟩ = some (.pointer (some ⟨b2, 0, none⟩)) := (HB2.out.cell (p := ⟨g, j, none⟩) hlg).trans z2
      have s3 : w2.cell? ⟨b1, 1, none⟩ = some (.int .i64 p1) := (HB2.out.cell (p := ⟨b1, 1, none⟩) hlb1).trans u1
      have s4 : w2.cell? ⟨b2, 1, none⟩ = some (.int .i64 p2) := (HB2.out.cell (p := ⟨b2, 1, none⟩) hlb2).trans v1
      clear g0 g1 g2 g3 g4 h0 h1 h2 h3 h4 z1 z2 u0 u1 v0 v1 hb2
      cases L2
      · go_wp2_with fail
        go_quiet (fail)
        go_wp2
        go_ret
        exact ⟨by simp, below_drewN HBE2.out _⟩
      · go_wp2
        go_ret
        exact ⟨rfl, HBE2.out⟩
    · go_wp2
      go_ret
      exact ⟨rfl, by rw [HBE.out]; exact HB1.out⟩
  · obtain ⟨hr1, hr2, hbel, hsz⟩ := two_new w #[.string k2, .int .i64 a2, .bool d2, .string t2, .int .i64 r2] #[.string k1, .int .i64 a1, .bool d1, .string t1, .int .i64 r1] 37
    go_wp2_with fail
    generalize hq : World.drew _ = W1 at hr1 hr2 hbel hsz ⊢
    have HR1 := Lib.hid hr2
    have HR2 := Lib.hid hr1
    have HBW := Lib.hid hbel
    obtain ⟨B, hBe⟩ : ∃ B, w.heap.size = B := ⟨_, rfl⟩
    have HBE := Lib.hid hBe
    rw [hBe] at hr1 hr2 hbel hsz HR1 HR2 hlb1 hlb2 hlg hq1 hq2 ⊢
    clear x0 x1 x2 x3 x4 y0 y1 y2 y3 y4 hr1 hr2
    refine (HL.out _).mono ?_
    rintro e w1 ⟨rfl, hb1⟩
    have HB1 : Hid (Below B w w1) := Lib.hid (hbel.trans (hb1.mono (by omega)))
    have G1 : w1.heap[B + 1]? = some (.cells #[.string k1, .int .i64 a1, .bool d1, .string t1, .int .i64 r1] 37 (0, 0)) := (hb1.block (B + 1) (by omega)).trans HR1.out
    have g0 : w1.cell? ⟨B + 1, 0, none⟩ = some (.string k1) := cell_of_row _ _ _ _ _ _ G1
    have g1 : w1.cell? ⟨B + 1, 1, none⟩ = some (.int .i64 a1) := cell_of_row _ _ _ _ _ _ G1
    have g2 : w1.cell? ⟨B + 1, 2, none⟩ = some (.bool d1) := cell_of_row _ _ _ _ _ _ G1
    have g3 : w1.cell? ⟨B + 1, 3, none⟩ = some (.string t1) := cell_of_row _ _ _ _ _ _ G1
    have g4 : w1.cell? ⟨B + 1, 4, none⟩ = some (.int .i64 r1) := cell_of_row _ _ _ _ _ _ G1
    have G2 : w1.heap[B]? = some (.cells #[.string k2, .int .i64 a2, .bool d2, .string t2, .int .i64 r2] 37 (0, 0)) := (hb1.block (B) (by omega)).trans HR2.out
    have h0 : w1.cell? ⟨B, 0, none⟩ = some (.string k2) := cell_of_row _ _ _ _ _ _ G2
    have h1 : w1.cell? ⟨B, 1, none⟩ = some (.int .i64 a2) := cell_of_row _ _ _ _ _ _ G2
    have h2 : w1.cell? ⟨B, 2, none⟩ = some (.bool d2) := cell_of_row _ _ _ _ _ _ G2
    have h3 : w1.cell? ⟨B, 3, none⟩ = some (.string t2) := cell_of_row _ _ _ _ _ _ G2
    have h4 : w1.cell? ⟨B, 4, none⟩ = some (.int .i64 r2) := cell_of_row _ _ _ _ _ _ G2
    have hs1 : B + 2 ≤ w1.heap.size := by have := hb1.size; omega
    clear hb1 hbel hsz G1 G2
    cases L1
    · go_wp2_with fail
      refine (HL2.out _).mono ?_
      rintro e w2 ⟨rfl, hb2⟩
      have HB2 : Hid (Below B w w2) := Lib.hid (HB1.out.trans (hb2.mono (by omega)))
      have HBE2 : Hid (Below w.heap.size w w2) := Lib.hid (by rw [HBE.out]; exact HB2.out)
      have s1 : w2.cell? ⟨g, i, none⟩ = some (.pointer (some ⟨b1, 0, none⟩)) := (HB2.out.cell (p := ⟨g, i, none⟩) hlg).trans z1
      have s2 : w2.cell? ⟨g, j, none⟩ = some (.pointer (some ⟨b2, 0, none⟩)) := (HB2.out.cell (p := ⟨g, j, none⟩) hlg).trans z2
      have s3 : w2.cell? ⟨b1, 1, none⟩ = some (.int .i64 p1) := (HB2.out.cell (p := ⟨b1, 1, none⟩) hlb1).trans u1
      have s4 : w2.cell? ⟨b2, 1, none⟩ = some (.int .i64 p2) := (HB2.out.cell (p := ⟨b2, 1, none⟩) hlb2).trans v1
      clear g0 g1 g2 g3 g4 h0 h1 h2 h3 h4 z1 z2 u0 u1 v0 v1 hb2
      cases L2
      · go_wp2_with fail
        go_quiet (fail)
        go_wp2
        go_ret
        exact ⟨by simp, below_drewN HBE2.out _⟩
      · go_wp2
        go_ret
        exact ⟨rfl, HBE2.out⟩
    · go_wp2
      go_ret
      exact ⟨rfl, by rw [HBE.out]; exact HB1.out⟩
end Go.Proofs.Ytfbhdggmefacjaa
