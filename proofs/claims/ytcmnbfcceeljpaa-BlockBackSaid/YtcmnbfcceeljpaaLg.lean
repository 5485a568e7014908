/- BlockBack: entries are read back from their bytes, however often keys are told whole. For every entries and every number. -/
import Derived.Test.YtcmnbfcceeljpaaFd
import Derived.Test.YtcmnbfcceeljpaaBa
namespace Go.Proofs.Ytcmnbfcceeljpaa
open Go.ChangeShapes Go.WideShapes Go.ChangeAt Go.RowKit
open SK
namespace lawBack

theorem below_drew1 {a w8 : World} (h : Below a.drew.heap.size a.drew w8) : Below a.heap.size a w8 := Below.trans (Below.drew (Below.refl _ a)) h
theorem below_alloc1 {a w8 : World} {o : Obj} (h : Below (a.alloc o).drew.heap.size (a.alloc o).drew w8) : Below a.heap.size a w8 ∧ w8.heap[a.heap.size]? = some o :=
  ⟨Below.trans (Below.drew ((Below.refl _ a).alloc (Nat.le_refl _) o)) (h.mono (by show a.heap.size ≤ (a.alloc o).heap.size; simp)), (h.block a.heap.size (by show a.heap.size < (a.alloc o).heap.size; simp)).trans (heap_alloc_new a o)⟩

set_option maxRecDepth 100000 in
set_option maxHeartbeats 4000000 in
theorem walk (A : Option Addr) (n cap : Nat) (l : List E) (v : Int) (w : World) (hn : l.length = n) (hin : EntsIn w A l) (hb : n * 56 ≤ reachBytes) :
    Calls Try.prog 7 #[.slice A n cap, .int .i64 v] w fun e w' => e = .returned (.bool true) ∧ Below w.heap.size w w' := by
  have HL := Lib.hid (lists_in A n cap l w hn hin hb)
  have hn47 : n ≤ 140737488351232 := by unfold reachBytes at hb; omega
  have HW : Hid (∀ W, Calls Try.prog 13 #[] W fun r w' => r = .returned (.bool true) ∧ Below W.heap.size W w') := fun W => wakes_any W
  have HP : Hid (∀ W A1 c1, EntsIn W A1 l ∧ n ≤ c1 → Calls Try.prog 14 #[.slice A1 n c1, .int .i64 v] W fun e w' => e = .returned (.tuple #[.string ⟨(BK.buildOut l v).1.toArray⟩, .int .i64 (BK.buildOut l v).2]) ∧ Below W.heap.size W w') := fun W A1 c1 h => build_any A1 n c1 l v W hn h.2 h.1 hn47
  have hok : (BK.buildOut l v).2 = 0 → n ≤ 4096 ∧ (∀ W, Calls Try.prog 16 #[.string ⟨(BK.buildOut l v).1.toArray⟩] W fun e w' => ∃ A c, e = .returned (.tuple #[.slice A n c, .int .i64 0]) ∧ EntsIn w' A l ∧ (∀ x ∈ fb A, W.heap.size ≤ x ∧ x < w'.heap.size) ∧ Below W.heap.size W w') ∧
      ∀ W j (hj : j < l.length), Calls Try.prog 18 #[.string ⟨(BK.buildOut l v).1.toArray⟩, .string l[j].key, .int .i64 l[j].seq] W fun e w' => e = .returned (.tuple #[(l[j]).val, .bool true, .int .i64 0]) ∧ Below W.heap.size W w' := fun h0 => by
    rcases BK.build_cases l v with ⟨h1, -⟩ | ⟨h1, h2, h3, h4, h5⟩
    · exact absurd h0 h1
    · rw [h5]
      refine ⟨by omega, fun W => by rw [← hn]; exact back_any l v.toNat h3 h4 hin.wf W, fun W j hj => ?_⟩
      have hlen := BK.buildB_len h4 hin.wf h3 v.toNat
      have hget := BK.get_build (v := v.toNat) h3 h4 hin.wf
      obtain ⟨r1, r2⟩ := BK.getC_ok hget
      have hp := find_any (⟨(BK.buildB l v.toNat).toArray⟩ : ByteArray) l[j].key l[j].seq W (by rw [mk_size]; omega)
      have hd : (⟨(BK.buildB l v.toNat).toArray⟩ : ByteArray).data.toList = BK.buildB l v.toNat := rfl
      rw [hd, r1, r2, BK.get_self (BK.ok_sorted h4) hj] at hp
      exact hp
  obtain ⟨T, hT⟩ : ∃ T : ByteArray, (⟨(BK.buildOut l v).1.toArray⟩ : ByteArray) = T := ⟨_, rfl⟩
  obtain ⟨C, hC⟩ : ∃ C, (BK.buildOut l v).2 = C := ⟨_, rfl⟩
  rw [hT, hC] at HP
  simp only [hT, hC] at hok
  have HOK := Lib.hid hok
  have HLN := Lib.hid hn
  clear hT hC hn hin hb hn47 hok
  go_enter Try.func7, Try.ntmps7
  go_wp2_with fail
  refine HL.out.mono ?_
  rintro e w1 ⟨A1, c1, A2, c2, rfl, h1, h2, hb1, hs1⟩
  have H1 := Lib.hid h1
  have HB1 := Lib.hid hb1
  have HS1 := Lib.hid hs1
  clear h1 h2 hb1 hs1 HL
  go_wp2_with fail
  refine (HP.out _ _ _ H1.out).mono ?_
  rintro e w2 ⟨rfl, hb2⟩
  have H12 : Hid (EntsIn w2 A1 l) := Lib.hid (H1.out.1.below hb2)
  have HB2 : Hid (Below w.heap.size w w2) := Lib.hid (HB1.out.trans (hb2.mono HS1.out))
  have HS2 : Hid (w.heap.size ≤ w2.heap.size) := Lib.hid (Nat.le_trans HS1.out hb2.size)
  clear hb2 HP
  go_wp2_with fail
  refine (HW.out _).mono ?_
  rintro r w4 ⟨rfl, hb4⟩
  have H14 : Hid (EntsIn w4 A1 l) := Lib.hid (H12.out.below hb4)
  have HB4 : Hid (Below w.heap.size w w4) := Lib.hid (HB2.out.trans (hb4.mono HS2.out))
  have HS4 : Hid (w.heap.size ≤ w4.heap.size) := Lib.hid (Nat.le_trans HS2.out hb4.size)
  clear hb4
  by_cases h0 : C = 0
  · subst h0
    obtain ⟨hn4, hp1, hp2⟩ := HOK.out rfl
    have HR1 := Lib.hid hp1
    have HR2 := Lib.hid hp2
    have HN4 := Lib.hid hn4
    clear hn4 hp1 hp2 HOK
    go_wp2_with fail
    refine (HR1.out _).mono ?_
    rintro r w5 ⟨A3, c3, rfl, h3, -, hb5⟩
    have H35 := Lib.hid h3
    have H15 := Lib.hid (H14.out.below hb5)
    have HB5 : Hid (Below w.heap.size w w5) := Lib.hid (HB4.out.trans (hb5.mono HS4.out))
    clear h3 hb5 HR1
    have hnn : ((n : Int) == (n : Int)) = true := beq_self_eq_true _
    go_wp2_with fail
    go_loopw [49] (fun i wr => ∃ j : Nat, j ≤ n ∧ i = .int .i64 j ∧ Below w.heap.size w wr ∧ Below w5.heap.size w5 wr) (fun i _ => n - (intOf i).toNat)
    case atStart => exact ⟨0, by omega, rfl, HB5.out, Below.refl _ _⟩
    case round =>
      obtain ⟨j, hj, rfl, hbw, hk⟩ := hrel
      by_cases hlt : j < n
      · have hjl : j < l.length := by rw [HLN.out]; omega
        have HFD := Lib.hid (fun W => HR2.out W j hjl)
        obtain ⟨b, off, hA, hbl, hc⟩ := (H15.out.below hk).at_ (by omega)
        obtain ⟨z0, z1, z2, z3, z4⟩ := hc j hjl
        obtain ⟨b', off', hA', hbl', hc'⟩ := (H35.out.below hk).at_ (by omega)
        obtain ⟨y0, y1, y2, y3, y4⟩ := hc' j hjl
        obtain ⟨e, he⟩ : ∃ e, l[j] = e := ⟨_, rfl⟩
        rw [he] at z0 z1 z2 z3 z4 y0 y1 y2 y3 y4 HFD
        subst hA hA'
        obtain ⟨k2, q2, g2, v2, t2⟩ := e
        simp only [E.val] at z0 z1 z2 z3 z4 y0 y1 y2 y3 y4 HFD
        have hee1 := fun W => ent_any W k2 k2 q2 q2 g2 g2 v2 v2 t2 t2
        have heq1 : eqB ⟨k2, q2, g2, v2, t2⟩ ⟨k2, q2, g2, v2, t2⟩ = true := (eqB_iff _ _).2 rfl
        simp only [heq1, Bool.not_true] at hee1
        have g0 : (0 : Int) ≤ (j : Int) := by omega
        have g1 : (j : Int) < (n : Int) := by omega
        have hn4 : n ≤ 4096 := HN4.out
        have HB7 := Lib.hid hbw
        have HK7 := Lib.hid hk
        have HKEEP : Hid (∀ W, Below wr.heap.size wr W → W.cell? ⟨b, off + j * 5, none⟩ = some (.string k2) ∧ W.cell? ⟨b, off + j * 5 + 1, none⟩ = some (.int .i64 q2) ∧ W.cell? ⟨b, off + j * 5 + 2, none⟩ = some (.bool g2) ∧ W.cell? ⟨b, off + j * 5 + 3, none⟩ = some (.string v2) ∧ W.cell? ⟨b, off + j * 5 + 4, none⟩ = some (.int .i64 t2)) := Lib.hid (fun W h => by
          have hm := fun (p : Addr) (hp : p.block < wr.heap.size) => h.cell (p := p) hp
          exact ⟨(hm ⟨_, _, none⟩ hbl).trans z0, (hm ⟨_, _, none⟩ hbl).trans z1, (hm ⟨_, _, none⟩ hbl).trans z2, (hm ⟨_, _, none⟩ hbl).trans z3, (hm ⟨_, _, none⟩ hbl).trans z4⟩)
        clear hk hbw hbl hbl' hc hc' he heq1
        go_wp2_with fail
        go_quiet (fail)
        clear y0 y1 y2 y3 y4
        generalize hq : World.drewN wr _ = wq
        have HBQ : Hid (Below wr.heap.size wr wq) := Lib.hid (by rw [← hq]; exact below_drewN (Below.refl _ _) _)
        have HKQ : Hid (∀ W, Below wq.heap.size wq W → W.cell? ⟨b, off + j * 5, none⟩ = some (.string k2) ∧ W.cell? ⟨b, off + j * 5 + 1, none⟩ = some (.int .i64 q2) ∧ W.cell? ⟨b, off + j * 5 + 2, none⟩ = some (.bool g2) ∧ W.cell? ⟨b, off + j * 5 + 3, none⟩ = some (.string v2) ∧ W.cell? ⟨b, off + j * 5 + 4, none⟩ = some (.int .i64 t2)) := Lib.hid (fun W h => HKEEP.out _ (HBQ.out.trans (h.mono HBQ.out.size)))
        have HSZQ : Hid (wq.heap.size = wr.heap.size) := Lib.hid (by rw [← hq]; rfl)
        have HBW9 : Hid (∀ W, Below wq.heap.size wq W → Below w.heap.size w W ∧ Below w5.heap.size w5 W) := Lib.hid (fun W h => ⟨HB7.out.trans ((HBQ.out.trans (h.mono HBQ.out.size)).mono HB7.out.size), HK7.out.trans ((HBQ.out.trans (h.mono HBQ.out.size)).mono HK7.out.size)⟩)
        have q0 : wq.cell? ⟨b, off + j * 5, none⟩ = some (.string k2) := (HKQ.out _ (Below.refl _ _)).1
        have q1 : wq.cell? ⟨b, off + j * 5 + 1, none⟩ = some (.int .i64 q2) := (HKQ.out _ (Below.refl _ _)).2.1
        clear z0 z1 z2 z3 z4 hq
        go_wp2_with fail
        go_region_held3 (fun W => W.cell? ⟨b, off + j * 5, none⟩ = some (.string k2) ∧ W.cell? ⟨b, off + j * 5 + 1, none⟩ = some (.int .i64 q2))
          (first | with_reducible exact HS2.out | with_reducible exact HS3.out _ | with_reducible exact HS5.out | with_reducible exact HS4.out _ _ _ _ _ | go_keep | fail)
          (first
            | (go_at_call 18; refine (HFD.out _).mono ?_; rintro r w8 ⟨rfl, hb8⟩
               have HB8 : Hid (Below wq.heap.size wq w8) := by with_reducible exact Lib.hid (below_drew1 hb8)
               have HS2 : Hid (w8.cell? ⟨b, off + j * 5, none⟩ = some (.string k2) ∧ w8.cell? ⟨b, off + j * 5 + 1, none⟩ = some (.int .i64 q2)) := Lib.hid ⟨(HKQ.out _ HB8.out).1, (HKQ.out _ HB8.out).2.1⟩
               have HS3 : Hid (∀ o, (w8.alloc o).cell? ⟨b, off + j * 5, none⟩ = some (.string k2) ∧ (w8.alloc o).cell? ⟨b, off + j * 5 + 1, none⟩ = some (.int .i64 q2)) := Lib.hid (fun o => ⟨(HKQ.out _ (HB8.out.alloc HB8.out.size o)).1, (HKQ.out _ (HB8.out.alloc HB8.out.size o)).2.1⟩)
               clear hb8)
            | (go_at_call 18; refine (HFD.out _).mono ?_; rintro r w8 ⟨rfl, hb8⟩
               have hb9 := by with_reducible exact below_alloc1 hb8
               have HB8 : Hid (Below wq.heap.size wq w8) := Lib.hid hb9.1
               have HRX : Hid (w8.heap[wq.heap.size]? = some (.cells #[.string ⟨#[]⟩, .int .i64 0, .bool false, .string ⟨#[]⟩, .int .i64 0] 45 (0, 0))) := Lib.hid hb9.2
               have HS5 : Hid (w8.cell? ⟨b, off + j * 5, none⟩ = some (.string k2) ∧ w8.cell? ⟨b, off + j * 5 + 1, none⟩ = some (.int .i64 q2)) := Lib.hid ⟨(HKQ.out _ HB8.out).1, (HKQ.out _ HB8.out).2.1⟩
               have HS4 : Hid (∀ u0 u1 u2 u3 u4, (((((w8.setCell ⟨wq.heap.size, 0, none⟩ u0).setCell ⟨wq.heap.size, 1, none⟩ u1).setCell ⟨wq.heap.size, 2, none⟩ u2).setCell ⟨wq.heap.size, 3, none⟩ u3).setCell ⟨wq.heap.size, 4, none⟩ u4).cell? ⟨b, off + j * 5, none⟩ = some (.string k2) ∧ (((((w8.setCell ⟨wq.heap.size, 0, none⟩ u0).setCell ⟨wq.heap.size, 1, none⟩ u1).setCell ⟨wq.heap.size, 2, none⟩ u2).setCell ⟨wq.heap.size, 3, none⟩ u3).setCell ⟨wq.heap.size, 4, none⟩ u4).cell? ⟨b, off + j * 5 + 1, none⟩ = some (.int .i64 q2)) := Lib.hid (fun u0 u1 u2 u3 u4 =>
                 have hx := below_new (below_new (below_new (below_new (below_new HB8.out (Nat.le_refl _) 0 u0) (Nat.le_refl _) 1 u1) (Nat.le_refl _) 2 u2) (Nat.le_refl _) 3 u3) (Nat.le_refl _) 4 u4
                 ⟨(HKQ.out _ hx).1, (HKQ.out _ hx).2.1⟩)
               have x0 : w8.cell? ⟨wq.heap.size, 0, none⟩ = some (.string ⟨#[]⟩) := cell_of_row _ _ _ _ _ _ HRX.out
               have x1 : w8.cell? ⟨wq.heap.size, 1, none⟩ = some (.int .i64 0) := cell_of_row _ _ _ _ _ _ HRX.out
               have x2 : w8.cell? ⟨wq.heap.size, 2, none⟩ = some (.bool false) := cell_of_row _ _ _ _ _ _ HRX.out
               have x3 : w8.cell? ⟨wq.heap.size, 3, none⟩ = some (.string ⟨#[]⟩) := cell_of_row _ _ _ _ _ _ HRX.out
               have x4 : w8.cell? ⟨wq.heap.size, 4, none⟩ = some (.int .i64 0) := cell_of_row _ _ _ _ _ _ HRX.out
               have f0 : w8.frozen? ⟨wq.heap.size, 0, none⟩ = false := frozen_of_row _ _ _ _ _ HRX.out
               have f1 : w8.frozen? ⟨wq.heap.size, 1, none⟩ = false := frozen_of_row _ _ _ _ _ HRX.out
               have f2 : w8.frozen? ⟨wq.heap.size, 2, none⟩ = false := frozen_of_row _ _ _ _ _ HRX.out
               have f3 : w8.frozen? ⟨wq.heap.size, 3, none⟩ = false := frozen_of_row _ _ _ _ _ HRX.out
               have f4 : w8.frozen? ⟨wq.heap.size, 4, none⟩ = false := frozen_of_row _ _ _ _ _ HRX.out
               clear hb8 hb9)
            | fail)
        · clear HS2 HS3
          have HBY : Hid (Below wq.heap.size wq (w8.alloc (.cells #[.string k2, .int .i64 q2, .bool g2, .string v2, .int .i64 t2] 45))) := Lib.hid (HB8.out.alloc HB8.out.size _)
          have HRO : Hid ((w8.alloc (.cells #[.string k2, .int .i64 q2, .bool g2, .string v2, .int .i64 t2] 45)).heap[w8.heap.size]? = some (.cells #[.string k2, .int .i64 q2, .bool g2, .string v2, .int .i64 t2] 45 (0, 0))) := Lib.hid (heap_alloc_new w8 _)
          generalize (w8.alloc (.cells #[.string k2, .int .i64 q2, .bool g2, .string v2, .int .i64 t2] 45)) = w9 at HBY HRO ⊢
          obtain ⟨x, hx⟩ : ∃ x, w8.heap.size = x := ⟨_, rfl⟩
          rw [hx] at HRO ⊢
          clear hx
          obtain ⟨z0, z1, z2, z3, z4⟩ := HKQ.out _ HBY.out
          obtain ⟨HBF, HKF⟩ := HBW9.out _ HBY.out
          have HBG := Lib.hid HBF
          have HKG := Lib.hid HKF
          have r0 : w9.cell? ⟨x, 0, none⟩ = some (.string k2) := cell_of_row _ _ _ _ _ _ HRO.out
          have r1 : w9.cell? ⟨x, 1, none⟩ = some (.int .i64 q2) := cell_of_row _ _ _ _ _ _ HRO.out
          have r2 : w9.cell? ⟨x, 2, none⟩ = some (.bool g2) := cell_of_row _ _ _ _ _ _ HRO.out
          have r3 : w9.cell? ⟨x, 3, none⟩ = some (.string v2) := cell_of_row _ _ _ _ _ _ HRO.out
          have r4 : w9.cell? ⟨x, 4, none⟩ = some (.int .i64 t2) := cell_of_row _ _ _ _ _ _ HRO.out
          clear HBF HKF q0 q1
          go_wp2_with fail
          go_quiet (fail)
          go_wp2
          go_roundw
          case rel => exact ⟨j + 1, by omega, by go_num, below_drewN HBG.out _, below_drewN HKG.out _⟩
          case measure => simp [intOf]; omega
        · clear HS4 HS5 x0 x1 x2 x3 x4 f0 f1 f2 f3 f4
          have HBY : Hid (Below wq.heap.size wq (((((w8.setCell ⟨wq.heap.size, 0, none⟩ (.string k2)).setCell ⟨wq.heap.size, 1, none⟩ (.int .i64 q2)).setCell ⟨wq.heap.size, 2, none⟩ (.bool g2)).setCell ⟨wq.heap.size, 3, none⟩ (.string v2)).setCell ⟨wq.heap.size, 4, none⟩ (.int .i64 t2))) := Lib.hid (below_new (below_new (below_new (below_new (below_new HB8.out (Nat.le_refl _) _ _) (Nat.le_refl _) _ _) (Nat.le_refl _) _ _) (Nat.le_refl _) _ _) (Nat.le_refl _) _ _)
          have HRO : Hid ((((((w8.setCell ⟨wq.heap.size, 0, none⟩ (.string k2)).setCell ⟨wq.heap.size, 1, none⟩ (.int .i64 q2)).setCell ⟨wq.heap.size, 2, none⟩ (.bool g2)).setCell ⟨wq.heap.size, 3, none⟩ (.string v2)).setCell ⟨wq.heap.size, 4, none⟩ (.int .i64 t2)).heap[wq.heap.size]? = some (.cells #[.string k2, .int .i64 q2, .bool g2, .string v2, .int .i64 t2] 45 (0, 0))) := Lib.hid (heap_set_fr (heap_set_fr (heap_set_fr (heap_set_fr (heap_set_fr HRX.out 0 (.string k2)) 1 (.int .i64 q2)) 2 (.bool g2)) 3 (.string v2)) 4 (.int .i64 t2))
          generalize (((((w8.setCell ⟨wq.heap.size, 0, none⟩ (.string k2)).setCell ⟨wq.heap.size, 1, none⟩ (.int .i64 q2)).setCell ⟨wq.heap.size, 2, none⟩ (.bool g2)).setCell ⟨wq.heap.size, 3, none⟩ (.string v2)).setCell ⟨wq.heap.size, 4, none⟩ (.int .i64 t2)) = w9 at HBY HRO ⊢
          obtain ⟨x, hx⟩ : ∃ x, wq.heap.size = x := ⟨_, rfl⟩
          rw [hx] at HRO ⊢
          clear hx
          obtain ⟨z0, z1, z2, z3, z4⟩ := HKQ.out _ HBY.out
          obtain ⟨HBF, HKF⟩ := HBW9.out _ HBY.out
          have HBG := Lib.hid HBF
          have HKG := Lib.hid HKF
          have r0 : w9.cell? ⟨x, 0, none⟩ = some (.string k2) := cell_of_row _ _ _ _ _ _ HRO.out
          have r1 : w9.cell? ⟨x, 1, none⟩ = some (.int .i64 q2) := cell_of_row _ _ _ _ _ _ HRO.out
          have r2 : w9.cell? ⟨x, 2, none⟩ = some (.bool g2) := cell_of_row _ _ _ _ _ _ HRO.out
          have r3 : w9.cell? ⟨x, 3, none⟩ = some (.string v2) := cell_of_row _ _ _ _ _ _ HRO.out
          have r4 : w9.cell? ⟨x, 4, none⟩ = some (.int .i64 t2) := cell_of_row _ _ _ _ _ _ HRO.out
          clear HBF HKF q0 q1
          go_wp2_with fail
          go_quiet (fail)
          go_wp2
          go_roundw
          case rel => exact ⟨j + 1, by omega, by go_num, below_drewN HBG.out _, below_drewN HKG.out _⟩
          case measure => simp [intOf]; omega
      · have HB7 := Lib.hid hbw
        have hjn : j = n := by omega
        subst hjn
        clear hbw hk
        go_wp2
        go_ret
        exact ⟨rfl, HB7.out⟩
  · have hbe : (C == 0) = false := by simpa using h0
    have hbn : (C != 0) = true := by simpa using h0
    go_wp2_with (go_at_call 13; refine (HW.out _).mono ?_; rintro r w5 ⟨rfl, hb5⟩
                 have HB5 : Hid (Below w.heap.size w w5) := Lib.hid (HB4.out.trans (hb5.mono HS4.out))
                 clear hb5)
    go_ret
    exact ⟨rfl, HB5.out⟩

set_option maxRecDepth 100000 in
theorem contract (H : Type) (enc : TypeId × Value → H) (W : World) (base : Nat) (args : Array Value) (ds gs : List (DataW H)) (before : List MemPlace)
    (hval : ∀ (j : Nat) t v, Try.f7.params[j]? = some t → args[j]? = some v → Value.okWide Try.prog W .any base t v)
    (hW : DataW.Whole enc Try.prog Try.f7.params.toList Rows.blockBackSpec.vars false W args.toList ds gs before)
    (hz : (DataW.weightsEach Try.prog Try.f7.params.toList (ds ++ gs)).all (· ≤ reachBytes) = true) :
    Calls Try.prog 7 args W fun e W' => ∃ v, e = .returned v ∧ Rows.blockBackSpec.post enc Try.prog Try.f7 false true false false W args v W' := by
  have hW' := hW
  obtain ⟨p, q, hA0, hV, rfl, hfz, hnd⟩ := hW
  have hA : DataW.TrodAll enc Try.prog W 0 (fun _ => true) true Try.f7.params.toList args.toList ds p := hA0
  rw [Try.params7] at hA hval hz
  obtain ⟨v0, vs0, d0, ds0, p0, q0, hargs, rfl, rfl, h0, r0⟩ := trodAll_cons hA
  obtain ⟨v1, vs1, d1, ds1, p1, q1, rfl, rfl, rfl, h1, r1⟩ := trodAll_cons r0
  obtain ⟨rfl, rfl, rfl⟩ := trodAll_nil r1
  obtain rfl : args = #[v0, v1] := by cases args; simp_all
  obtain ⟨rfl, rfl⟩ := trodVars_none hV
  obtain ⟨lA, lN, lC, l, rfl, hlenl, hinl, hbl, hcapl⟩ := open_ents (hval 0 22 v0 rfl rfl) h0 (parts_sized hz (j := 0) rfl rfl)
  obtain ⟨every, rfl, rfl, rfl, wevery⟩ := open_int Try.underlying3 (hval 1 3 v1 rfl rfl) h1
  have hevery : -9223372036854775808 ≤ every ∧ every ≤ 9223372036854775807 := by simpa [Lit.wf, IntKind.min, IntKind.max, IntKind.signed, IntKind.bits] using wevery
  refine (walk lA lN lC l every W hlenl hinl hbl).mono fun e W' ⟨he, hB⟩ => ?_
  subst he
  exact ⟨_, rfl, law_post Try.laidOut (by kernel_rfl) rfl rfl Try.underlying4 hW' rfl hB⟩

set_option maxRecDepth 100000 in
theorem lifted (os : Os) (started : os.Started) (H : Type) (enc : TypeId × Value → H) :
    ReturnsInHanded {} Try.checked os 7 .any (Rows.blockBackSpec.pre6 enc Try.prog Try.f7 Rows.blockBackRow.domain false) (Rows.blockBackSpec.post enc Try.prog Try.f7 false true false false) := by
  refine returnsInHanded_of_change_sized (C := Try.checked) Try.own started (by kernel_rfl) Try.func7
    (ChangeSpec.witness6 (enc := enc) (C := Try.checked) false ⟨#[], #[.slice none 0 0, .int .i64 0], []⟩ 8 (by kernel_rfl) (by kernel_rfl) (by kernel_rfl) (by kernel_rfl)) ?_
  intro W base args ds gs before hval hW _ hz _
  exact contract H enc W base args ds gs before hval hW hz

theorem proved : Rows.BlockBackSaid :=
  OpenClaim.holds_of_wide 7 Try.f7 rfl rfl rfl rfl rfl rfl rfl ⟨rfl, rfl, rfl, rfl, rfl⟩ rfl rfl rfl rfl rfl (by kernel_rfl) Try.func7 (by kernel_rfl)
    (of_decide_eq_true (by kernel_rfl)) (by unfold Func.isWrapper; first | (rw [if_pos (by decide +kernel)]; kernel_rfl) | (rw [if_neg (by decide +kernel)]; exact ⟨rfl, rfl⟩))
    (fun os started H enc _ => lifted os started H enc)
end lawBack
end Go.Proofs.Ytcmnbfcceeljpaa
