/- Texts joined by bundle.py: Kk. -/
import Derived.Test.YtffdiiolgflbkaaZba
import Derived.Test.YtffdiiolgflbkaaZbb

/- after: the versions behind all edits that can be. Layer 15's. Made by gen_kk.py. -/
namespace Go.Proofs.Ytffdiiolgflbkaa
open Go.RowKit Go.Maps
open VS
attribute [local go_sem ↓] Go.wp_at_zero Go.wp_at_succ

theorem edits15_head (W : World) (A : Option Addr) (n cap m : Nat) (h : m ≤ cap) : (Instr.slice 70 (.slice A n cap) none (some (.int .i64 (m : Int))) none).run Try.prog W = .ok (.slice A m cap) W := by
  have hs : ∀ w, (sizeOf (Try.prog.elem 70)).run Try.prog w = .ok 5 w := fun w => by kernel_rfl
  rw [run_slice_h W 70 A n cap (by kernel_rfl) .i64 (m : Int) (by omega) (by omega), hs]
  simp only [Result.andThen, sliced, Int.toNat_natCast, Nat.sub_zero, Nat.zero_mul, add_zero', Option.map_id']
  split <;> rfl

set_option maxRecDepth 100000 in
set_option maxHeartbeats 4000000 in
theorem after15_any (A0 : Option Addr) (n0 c0 : Nat) (l : List EX) (w : World) (hl : l.length = n0) (hin : EdsIn w A0 l) (hc : n0 ≤ c0) (hs : (l.map fun x => x.e.wt).sum ≤ 1048576) :
    Calls Try.prog 23 #[.slice A0 n0 c0] w fun r w' => AfterOut r w' ∧ Below w.heap.size w w' := by
  obtain ⟨m, hm⟩ : ∃ m, min n0 40 = m := ⟨_, rfl⟩
  have hmin : min (n0 : Int) 40 = (m : Int) := by omega
  have hm1 : m ≤ n0 ∧ m ≤ 40 := by omega
  have hsl := fun W => edits15_head W A0 n0 c0 m (by omega)
  have HIN := Lib.hid hin
  have HL := Lib.hid hl
  have HM := Lib.hid hm1
  have HT := Lib.hid (fun j => Nat.le_trans (tot_le l j) hs)
  have HTS := Lib.hid (fun j (h : j < l.length) => tot_succ h)
  clear hm hin hl hc hs hm1
  go_enter Try.func23, Try.ntmps23
  go_wp2_with fail
  have hal : Below w.heap.size w ((((w.alloc (.cells #[.slice none 0 0, .slice none 0 0, .slice none 0 0, .slice none 0 0, .int .i64 0, .int .i64 0, .int .i64 0] 26)).alloc (.cells #[.slice none 0 0, .int .i64 0, .int .i64 0, .int .i64 0] 29)).alloc (.cells #[.slice none 0 0, .slice none 0 0, .slice none 0 0, .slice none 0 0, .int .i64 0, .int .i64 0, .int .i64 0] 26)).alloc (.cells #[.slice none 0 0, .int .i64 0, .int .i64 0, .int .i64 0] 29)) := ((((Below.refl _ w).alloc (Nat.le_refl _) _).alloc (by simp) _).alloc (by simp <;> omega) _).alloc (by simp <;> omega) _
  have hsz : ((((w.alloc (.cells #[.slice none 0 0, .slice none 0 0, .slice none 0 0, .slice none 0 0, .int .i64 0, .int .i64 0, .int .i64 0] 26)).alloc (.cells #[.slice none 0 0, .int .i64 0, .int .i64 0, .int .i64 0] 29)).alloc (.cells #[.slice none 0 0, .slice none 0 0, .slice none 0 0, .slice none 0 0, .int .i64 0, .int .i64 0, .int .i64 0] 26)).alloc (.cells #[.slice none 0 0, .int .i64 0, .int .i64 0, .int .i64 0] 29)).heap.size = w.heap.size + 4 := by simp
  have hy0 : ((((w.alloc (.cells #[.slice none 0 0, .slice none 0 0, .slice none 0 0, .slice none 0 0, .int .i64 0, .int .i64 0, .int .i64 0] 26)).alloc (.cells #[.slice none 0 0, .int .i64 0, .int .i64 0, .int .i64 0] 29)).alloc (.cells #[.slice none 0 0, .slice none 0 0, .slice none 0 0, .slice none 0 0, .int .i64 0, .int .i64 0, .int .i64 0] 26)).alloc (.cells #[.slice none 0 0, .int .i64 0, .int .i64 0, .int .i64 0] 29)).heap[w.heap.size]? = some (.cells #[.slice none 0 0, .slice none 0 0, .slice none 0 0, .slice none 0 0, .int .i64 0, .int .i64 0, .int .i64 0] 26 (0, 0)) := by
    rw [Below.heap_alloc _ _ _ (by simp <;> omega), Below.heap_alloc _ _ _ (by simp <;> omega), Below.heap_alloc _ _ _ (by simp <;> omega)]
    exact heap_alloc_new w _
  have hy1 : ((((w.alloc (.cells #[.slice none 0 0, .slice none 0 0, .slice none 0 0, .slice none 0 0, .int .i64 0, .int .i64 0, .int .i64 0] 26)).alloc (.cells #[.slice none 0 0, .int .i64 0, .int .i64 0, .int .i64 0] 29)).alloc (.cells #[.slice none 0 0, .slice none 0 0, .slice none 0 0, .slice none 0 0, .int .i64 0, .int .i64 0, .int .i64 0] 26)).alloc (.cells #[.slice none 0 0, .int .i64 0, .int .i64 0, .int .i64 0] 29)).heap[w.heap.size + 1]? = some (.cells #[.slice none 0 0, .int .i64 0, .int .i64 0, .int .i64 0] 29 (0, 0)) := by
    rw [Below.heap_alloc _ _ _ (by simp <;> omega), Below.heap_alloc _ _ _ (by simp <;> omega)]
    have := heap_alloc_new (w.alloc (.cells #[.slice none 0 0, .slice none 0 0, .slice none 0 0, .slice none 0 0, .int .i64 0, .int .i64 0, .int .i64 0] 26)) (.cells #[.slice none 0 0, .int .i64 0, .int .i64 0, .int .i64 0] 29)
    simpa using this
  have hr0 : ((((w.alloc (.cells #[.slice none 0 0, .slice none 0 0, .slice none 0 0, .slice none 0 0, .int .i64 0, .int .i64 0, .int .i64 0] 26)).alloc (.cells #[.slice none 0 0, .int .i64 0, .int .i64 0, .int .i64 0] 29)).alloc (.cells #[.slice none 0 0, .slice none 0 0, .slice none 0 0, .slice none 0 0, .int .i64 0, .int .i64 0, .int .i64 0] 26)).alloc (.cells #[.slice none 0 0, .int .i64 0, .int .i64 0, .int .i64 0] 29)).heap[w.heap.size + 2]? = some (.cells #[.slice none 0 0, .slice none 0 0, .slice none 0 0, .slice none 0 0, .int .i64 0, .int .i64 0, .int .i64 0] 26 (0, 0)) := by
    rw [Below.heap_alloc _ _ _ (by simp <;> omega)]
    have := heap_alloc_new ((w.alloc (.cells #[.slice none 0 0, .slice none 0 0, .slice none 0 0, .slice none 0 0, .int .i64 0, .int .i64 0, .int .i64 0] 26)).alloc (.cells #[.slice none 0 0, .int .i64 0, .int .i64 0, .int .i64 0] 29)) (.cells #[.slice none 0 0, .slice none 0 0, .slice none 0 0, .slice none 0 0, .int .i64 0, .int .i64 0, .int .i64 0] 26)
    simpa using this
  have hr1 : ((((w.alloc (.cells #[.slice none 0 0, .slice none 0 0, .slice none 0 0, .slice none 0 0, .int .i64 0, .int .i64 0, .int .i64 0] 26)).alloc (.cells #[.slice none 0 0, .int .i64 0, .int .i64 0, .int .i64 0] 29)).alloc (.cells #[.slice none 0 0, .slice none 0 0, .slice none 0 0, .slice none 0 0, .int .i64 0, .int .i64 0, .int .i64 0] 26)).alloc (.cells #[.slice none 0 0, .int .i64 0, .int .i64 0, .int .i64 0] 29)).heap[w.heap.size + 3]? = some (.cells #[.slice none 0 0, .int .i64 0, .int .i64 0, .int .i64 0] 29 (0, 0)) := by
    have := heap_alloc_new (((w.alloc (.cells #[.slice none 0 0, .slice none 0 0, .slice none 0 0, .slice none 0 0, .int .i64 0, .int .i64 0, .int .i64 0] 26)).alloc (.cells #[.slice none 0 0, .int .i64 0, .int .i64 0, .int .i64 0] 29)).alloc (.cells #[.slice none 0 0, .slice none 0 0, .slice none 0 0, .slice none 0 0, .int .i64 0, .int .i64 0, .int .i64 0] 26)) (.cells #[.slice none 0 0, .int .i64 0, .int .i64 0, .int .i64 0] 29)
    simpa using this
  generalize ((((w.alloc (.cells #[.slice none 0 0, .slice none 0 0, .slice none 0 0, .slice none 0 0, .int .i64 0, .int .i64 0, .int .i64 0] 26)).alloc (.cells #[.slice none 0 0, .int .i64 0, .int .i64 0, .int .i64 0] 29)).alloc (.cells #[.slice none 0 0, .slice none 0 0, .slice none 0 0, .slice none 0 0, .int .i64 0, .int .i64 0, .int .i64 0] 26)).alloc (.cells #[.slice none 0 0, .int .i64 0, .int .i64 0, .int .i64 0] 29)) = w0 at hal hsz hy0 hy1 hr0 hr1 ⊢
  obtain ⟨x, hx⟩ : ∃ x, w.heap.size + 2 = x := ⟨_, rfl⟩
  obtain ⟨z, hz⟩ : ∃ z, w.heap.size = z := ⟨_, rfl⟩
  have HX : Hid (w.heap.size = z ∧ z + 2 = x) := Lib.hid ⟨hz, by omega⟩
  have e3 : z + 1 + 1 + 1 = x + 1 := by omega
  have e4 : z + 1 + 1 = x := by omega
  have e5 : z + 2 = x := by omega
  have e6 : z + 3 = x + 1 := by omega
  have HLOW : Hid (∀ W, Below x w0 W → Below w.heap.size w W) := Lib.hid fun W h => hal.trans (h.mono (by omega))
  rw [hz] at hal hsz hy0 hy1 hr0 hr1 ⊢
  first | rw [e3, e4] | rw [e6, e5] | rw [e5]
  rw [e5] at hr0
  rw [e6] at hr1
  have HST0 : Hid (St x w0 nilA nilN nilN none 0 0 V.none) := Lib.hid ⟨hr0, hr1, VerIn.nil w0, In5.nil w0 none, rfl, ok_none, fun _ _ _ h => (by cases h), fun _ h => (by cases h), by omega⟩
  have HZR : Hid (∀ W, Below x w0 W → W.heap[z]? = some (.cells #[.slice none 0 0, .slice none 0 0, .slice none 0 0, .slice none 0 0, .int .i64 0, .int .i64 0, .int .i64 0] 26 (0, 0)) ∧ W.heap[z + 1]? = some (.cells #[.slice none 0 0, .int .i64 0, .int .i64 0, .int .i64 0] 29 (0, 0))) := Lib.hid fun W h => ⟨(h.block z (by omega)).trans hy0, (h.block (z + 1) (by omega)).trans hy1⟩
  clear hal hsz hr0 hr1 hy0 hy1 hx hz e3 e4 e5 e6
  go_wp2_with fail
  go_loopw [6, 22] (fun s i wr => ∃ (j : Nat) (rm : Int), j ≤ m ∧ i = .int .i64 j ∧ s = .int .i64 rm ∧ (0 ≤ rm ∧ rm ≤ 1152921504606846976) ∧ Below x w0 wr ∧ ∃ A N C A5 n5 c5 v, St x wr A N C A5 n5 c5 v ∧ v.L.length ≤ tot l j ∧ Nums v) (fun _ i _ => m - (intOf i).toNat)
  case atStart => exact ⟨0, _, by omega, rfl, rfl, ⟨by decide, by decide⟩, Below.refl _ _, _, _, _, _, _, _, _, HST0.out, by simp [V.none], ⟨i64_lit (by decide), i64_lit (by decide), i64_lit (by decide)⟩, by decide, by decide, by decide⟩
  case round =>
    obtain ⟨j, rm, hj, rfl, rfl, hrm, hbw, A, N, C, A5, n5, c5, v, hst, hvl, hnv⟩ := hrel
    have HB := Lib.hid hbw
    have HRM := Lib.hid hrm
    clear hrm
    have HST := Lib.hid hst
    have HVL := Lib.hid hvl
    have HNUM := Lib.hid hnv
    by_cases hlt : j < m
    · have hjl : j < l.length := by have := HL.out; have := HM.out; omega
      have hed := (HIN.out.below (HLOW.out _ hbw))
      obtain ⟨cb, off, hA, hbl, hcc⟩ := hed.at_ (by omega)
      obtain ⟨q0, q1, q2, q3, q4⟩ := hcc j hjl
      have HE := Lib.hid (hed.ed l[j] (List.getElem_mem hjl))
      have HTJ := Lib.hid (HTS.out j hjl)
      have HTJ1 := Lib.hid (HT.out (j + 1))
      obtain ⟨X, hX⟩ : ∃ X, l[j] = X := ⟨_, rfl⟩
      rw [hX] at q0 q1 q2 q3 q4 HE HTJ
      obtain ⟨B, nb, kb, D, md, kd, e⟩ := X
      simp only at q0 q1 q2 q3 q4
      have HE1 : Hid (EdIn wr B nb kb D md kd e) := HE
      have HSM : Hid (n5 ≤ 1048576 ∧ nb ≤ 1048576 ∧ md ≤ 1048576 ∧ (apply v e).1.L.length ≤ tot l (j + 1) ∧ tot l (j + 1) ≤ 1048576) := Lib.hid (by
        have h1 := HTJ.out
        have h2 := HTJ1.out
        have h3 := wt_add e
        have h4 := HE1.out.alen
        have h5 := HE1.out.dlen
        have h6 := hst.len
        have h7 := apply_small v e
        simp only at h1
        refine ⟨by omega, by omega, by omega, by omega, h2⟩)
      have g0 : (0 : Int) ≤ (j : Int) := by omega
      have g1 : (j : Int) < (m : Int) := by omega
      subst hA
      have HNE := Lib.hid (apply_nums v HNUM.out HE1.out)
      clear hed hcc hX hjl hst hvl hbw HE hnv
      go_upto_region 7 with fail
      have hba : Below wr.heap.size wr (wr.alloc (.cells #[.slice B nb kb, .slice D md kd, .int .i64 e.log, .int .i64 e.next, .int .i64 e.seq] 118)) := (Below.refl _ wr).alloc (Nat.le_refl _) _
      have hr33 := heap_alloc_new wr (.cells #[.slice B nb kb, .slice D md kd, .int .i64 e.log, .int .i64 e.next, .int .i64 e.seq] 118)
      have HST1 := Lib.hid (HST.out.below hba)
      have HBA : Hid (Below x w0 (wr.alloc (.cells #[.slice B nb kb, .slice D md kd, .int .i64 e.log, .int .i64 e.next, .int .i64 e.seq] 118))) := Lib.hid (HB.out.trans (hba.mono (by have := HST.out.sz; omega)))
      have HEA := Lib.hid (HE1.out.below hba)
      have hp6s : wr.heap.size < (wr.alloc (.cells #[.slice B nb kb, .slice D md kd, .int .i64 e.log, .int .i64 e.next, .int .i64 e.seq] 118)).heap.size := by simp
      obtain ⟨p6, hp6⟩ : ∃ p, wr.heap.size = p := ⟨_, rfl⟩
      have HP6 : Hid (x + 2 ≤ p6) := Lib.hid (by have := HST.out.sz; omega)
      generalize wr.alloc (.cells #[.slice B nb kb, .slice D md kd, .int .i64 e.log, .int .i64 e.next, .int .i64 e.seq] 118) = wa at HST1 HBA HEA hr33 hp6s ⊢
      rw [hp6] at hr33 hp6s ⊢
      have xz0 : wa.cell? ⟨p6, 0, none⟩ = some (.slice B nb kb) := cell_of_row _ _ _ _ _ _ hr33
      have xz1 : wa.cell? ⟨p6, 1, none⟩ = some (.slice D md kd) := cell_of_row _ _ _ _ _ _ hr33
      have xz2 : wa.cell? ⟨p6, 2, none⟩ = some (.int .i64 e.log) := cell_of_row _ _ _ _ _ _ hr33
      have xz3 : wa.cell? ⟨p6, 3, none⟩ = some (.int .i64 e.next) := cell_of_row _ _ _ _ _ _ hr33
      have xz4 : wa.cell? ⟨p6, 4, none⟩ = some (.int .i64 e.seq) := cell_of_row _ _ _ _ _ _ hr33
      have HXZ := Lib.hid hr33
      have HNB := Lib.hid HEA.out.alen
      clear hba hr33 hp6 hp6s q0 q1 q2 q3 q4 HE1
      go_wp2_with fail
      go_loopw [6, 29] (fun s i wx => ∃ (k : Nat) (rk : Int), k ≤ nb ∧ i = .int .i64 k ∧ s = .int .i64 rk ∧ (0 ≤ rk ∧ rk ≤ 1152921504606846976) ∧ wa = wx) (fun _ i _ => nb - (intOf i).toNat)
      case atStart => exact ⟨0, rm, by omega, rfl, rfl, HRM.out, rfl⟩
      case round =>
        obtain ⟨k, rk, hk, rfl, rfl, hrk, rfl⟩ := hrel
        have HRK := Lib.hid hrk
        clear hrk
        by_cases hkl : k < nb
        · have hkl2 : k < e.add.length := by rw [HNB.out]; exact hkl
          obtain ⟨cb2, off2, hA2, hbl2, hcc2⟩ := HEA.out.add.at_ (by omega)
          obtain ⟨u0, u1, u2, u3, u4⟩ := hcc2 k hkl2
          have HWF := Lib.hid (HEA.out.add.wf e.add[k] (List.getElem_mem hkl2))
          obtain ⟨Y, hY⟩ : ∃ Y, e.add[k] = Y := ⟨_, rfl⟩
          rw [hY] at u0 u1 u2 u3 u4 HWF
          obtain ⟨lv2, q2, sz, s2, t2⟩ := Y
          simp only at u0 u1 u2 u3 u4
          have f0 : (0 : Int) ≤ (k : Int) := by omega
          have f1 : (k : Int) < (nb : Int) := by omega
          subst hA2
          clear hcc2 hY hkl2
          obtain ⟨b1, hb1⟩ : ∃ b, decide ((1099511627776 : Int) < sz) = b := ⟨_, rfl⟩
          obtain ⟨b2, hb2⟩ : ∃ b, decide (rk < sz) = b := ⟨_, rfl⟩
          obtain ⟨mx, hmx⟩ : ∃ M, max 0 sz = M := ⟨_, rfl⟩
          have HMX := Lib.hid hmx
          by_cases hbb : b1 = true ∨ b2 = true
          · have hbo : (b1 = true) ∨ (b1 = false ∧ b2 = true) := by
              cases b1 <;> simp at hbb ⊢ <;> exact hbb
            rcases hbo with rfl | ⟨rfl, rfl⟩
            all_goals clear hbb
            all_goals go_upto_region 11 with fail
            all_goals clear u0 u1 u2 u3 u4 xz0 xz1 xz2 xz3 xz4
            all_goals (
              have hzr := HZR.out wa HBA.out
              have ya0 : wa.cell? ⟨x, 0, none⟩ = some (.slice (A 0) (N 0) (C 0)) := cell_of_row _ _ _ _ _ _ HST1.out.rowV
              have ya1 : wa.cell? ⟨x, 1, none⟩ = some (.slice (A 1) (N 1) (C 1)) := cell_of_row _ _ _ _ _ _ HST1.out.rowV
              have ya2 : wa.cell? ⟨x, 2, none⟩ = some (.slice (A 2) (N 2) (C 2)) := cell_of_row _ _ _ _ _ _ HST1.out.rowV
              have ya3 : wa.cell? ⟨x, 3, none⟩ = some (.slice (A 3) (N 3) (C 3)) := cell_of_row _ _ _ _ _ _ HST1.out.rowV
              have ya4 : wa.cell? ⟨x, 4, none⟩ = some (.int .i64 v.log) := cell_of_row _ _ _ _ _ _ HST1.out.rowV
              have ya5 : wa.cell? ⟨x, 5, none⟩ = some (.int .i64 v.next) := cell_of_row _ _ _ _ _ _ HST1.out.rowV
              have ya6 : wa.cell? ⟨x, 6, none⟩ = some (.int .i64 v.seq) := cell_of_row _ _ _ _ _ _ HST1.out.rowV
              have yb0 : wa.cell? ⟨x + 1, 0, none⟩ = some (.slice A5 n5 c5) := cell_of_row _ _ _ _ _ _ HST1.out.rowR
              have yb1 : wa.cell? ⟨x + 1, 1, none⟩ = some (.int .i64 v.log) := cell_of_row _ _ _ _ _ _ HST1.out.rowR
              have yb2 : wa.cell? ⟨x + 1, 2, none⟩ = some (.int .i64 v.next) := cell_of_row _ _ _ _ _ _ HST1.out.rowR
              have yb3 : wa.cell? ⟨x + 1, 3, none⟩ = some (.int .i64 v.seq) := cell_of_row _ _ _ _ _ _ HST1.out.rowR
              have hfx : ∀ k, k ≠ z → (((((((wa.setCell ⟨z, 0, none⟩ (.slice (A 0) (N 0) (C 0))).setCell ⟨z, 1, none⟩ (.slice (A 1) (N 1) (C 1))).setCell ⟨z, 2, none⟩ (.slice (A 2) (N 2) (C 2))).setCell ⟨z, 3, none⟩ (.slice (A 3) (N 3) (C 3))).setCell ⟨z, 4, none⟩ (.int .i64 v.log)).setCell ⟨z, 5, none⟩ (.int .i64 v.next)).setCell ⟨z, 6, none⟩ (.int .i64 v.seq)).heap[k]? = wa.heap[k]? := fun k hk => (((((((Below.heap_setCell _ ⟨z, 6, none⟩ _ _ hk).trans (Below.heap_setCell _ ⟨z, 5, none⟩ _ _ hk)).trans (Below.heap_setCell _ ⟨z, 4, none⟩ _ _ hk)).trans (Below.heap_setCell _ ⟨z, 3, none⟩ _ _ hk)).trans (Below.heap_setCell _ ⟨z, 2, none⟩ _ _ hk)).trans (Below.heap_setCell _ ⟨z, 1, none⟩ _ _ hk)).trans (Below.heap_setCell _ ⟨z, 0, none⟩ _ _ hk))
              have hgx : ∀ k, k ≠ z + 1 → (((((((((((wa.setCell ⟨z, 0, none⟩ (.slice (A 0) (N 0) (C 0))).setCell ⟨z, 1, none⟩ (.slice (A 1) (N 1) (C 1))).setCell ⟨z, 2, none⟩ (.slice (A 2) (N 2) (C 2))).setCell ⟨z, 3, none⟩ (.slice (A 3) (N 3) (C 3))).setCell ⟨z, 4, none⟩ (.int .i64 v.log)).setCell ⟨z, 5, none⟩ (.int .i64 v.next)).setCell ⟨z, 6, none⟩ (.int .i64 v.seq)).setCell ⟨z + 1, 0, none⟩ (.slice A5 n5 c5)).setCell ⟨z + 1, 1, none⟩ (.int .i64 v.log)).setCell ⟨z + 1, 2, none⟩ (.int .i64 v.next)).setCell ⟨z + 1, 3, none⟩ (.int .i64 v.seq)).heap[k]? = (((((((wa.setCell ⟨z, 0, none⟩ (.slice (A 0) (N 0) (C 0))).setCell ⟨z, 1, none⟩ (.slice (A 1) (N 1) (C 1))).setCell ⟨z, 2, none⟩ (.slice (A 2) (N 2) (C 2))).setCell ⟨z, 3, none⟩ (.slice (A 3) (N 3) (C 3))).setCell ⟨z, 4, none⟩ (.int .i64 v.log)).setCell ⟨z, 5, none⟩ (.int .i64 v.next)).setCell ⟨z, 6, none⟩ (.int .i64 v.seq)).heap[k]? := fun k hk => ((((Below.heap_setCell _ ⟨z + 1, 3, none⟩ _ _ hk).trans (Below.heap_setCell _ ⟨z + 1, 2, none⟩ _ _ hk)).trans (Below.heap_setCell _ ⟨z + 1, 1, none⟩ _ _ hk)).trans (Below.heap_setCell _ ⟨z + 1, 0, none⟩ _ _ hk))
              have hr11f := (hfx (x + 1) (by have := HX.out; omega)).trans HST1.out.rowR
              have hrxf := (hfx (z + 1) (by omega)).trans hzr.2
              have yc0 : (((((((wa.setCell ⟨z, 0, none⟩ (.slice (A 0) (N 0) (C 0))).setCell ⟨z, 1, none⟩ (.slice (A 1) (N 1) (C 1))).setCell ⟨z, 2, none⟩ (.slice (A 2) (N 2) (C 2))).setCell ⟨z, 3, none⟩ (.slice (A 3) (N 3) (C 3))).setCell ⟨z, 4, none⟩ (.int .i64 v.log)).setCell ⟨z, 5, none⟩ (.int .i64 v.next)).setCell ⟨z, 6, none⟩ (.int .i64 v.seq)).cell? ⟨x + 1, 0, none⟩ = some (.slice A5 n5 c5) := cell_of_row _ _ _ _ _ _ hr11f
              have yc1 : (((((((wa.setCell ⟨z, 0, none⟩ (.slice (A 0) (N 0) (C 0))).setCell ⟨z, 1, none⟩ (.slice (A 1) (N 1) (C 1))).setCell ⟨z, 2, none⟩ (.slice (A 2) (N 2) (C 2))).setCell ⟨z, 3, none⟩ (.slice (A 3) (N 3) (C 3))).setCell ⟨z, 4, none⟩ (.int .i64 v.log)).setCell ⟨z, 5, none⟩ (.int .i64 v.next)).setCell ⟨z, 6, none⟩ (.int .i64 v.seq)).cell? ⟨x + 1, 1, none⟩ = some (.int .i64 v.log) := cell_of_row _ _ _ _ _ _ hr11f
              have yc2 : (((((((wa.setCell ⟨z, 0, none⟩ (.slice (A 0) (N 0) (C 0))).setCell ⟨z, 1, none⟩ (.slice (A 1) (N 1) (C 1))).setCell ⟨z, 2, none⟩ (.slice (A 2) (N 2) (C 2))).setCell ⟨z, 3, none⟩ (.slice (A 3) (N 3) (C 3))).setCell ⟨z, 4, none⟩ (.int .i64 v.log)).setCell ⟨z, 5, none⟩ (.int .i64 v.next)).setCell ⟨z, 6, none⟩ (.int .i64 v.seq)).cell? ⟨x + 1, 2, none⟩ = some (.int .i64 v.next) := cell_of_row _ _ _ _ _ _ hr11f
              have yc3 : (((((((wa.setCell ⟨z, 0, none⟩ (.slice (A 0) (N 0) (C 0))).setCell ⟨z, 1, none⟩ (.slice (A 1) (N 1) (C 1))).setCell ⟨z, 2, none⟩ (.slice (A 2) (N 2) (C 2))).setCell ⟨z, 3, none⟩ (.slice (A 3) (N 3) (C 3))).setCell ⟨z, 4, none⟩ (.int .i64 v.log)).setCell ⟨z, 5, none⟩ (.int .i64 v.next)).setCell ⟨z, 6, none⟩ (.int .i64 v.seq)).cell? ⟨x + 1, 3, none⟩ = some (.int .i64 v.seq) := cell_of_row _ _ _ _ _ _ hr11f
              have yd0 : wa.cell? ⟨z, 0, none⟩ = some (.slice none 0 0) := cell_of_row _ _ _ _ _ _ hzr.1
              have yd1 : wa.cell? ⟨z, 1, none⟩ = some (.slice none 0 0) := cell_of_row _ _ _ _ _ _ hzr.1
              have yd2 : wa.cell? ⟨z, 2, none⟩ = some (.slice none 0 0) := cell_of_row _ _ _ _ _ _ hzr.1
              have yd3 : wa.cell? ⟨z, 3, none⟩ = some (.slice none 0 0) := cell_of_row _ _ _ _ _ _ hzr.1
              have yd4 : wa.cell? ⟨z, 4, none⟩ = some (.int .i64 0) := cell_of_row _ _ _ _ _ _ hzr.1
              have yd5 : wa.cell? ⟨z, 5, none⟩ = some (.int .i64 0) := cell_of_row _ _ _ _ _ _ hzr.1
              have yd6 : wa.cell? ⟨z, 6, none⟩ = some (.int .i64 0) := cell_of_row _ _ _ _ _ _ hzr.1
              have ye0 : wa.frozen? ⟨z, 0, none⟩ = false := frozen_of_row _ _ _ _ _ hzr.1
              have ye1 : wa.frozen? ⟨z, 1, none⟩ = false := frozen_of_row _ _ _ _ _ hzr.1
              have ye2 : wa.frozen? ⟨z, 2, none⟩ = false := frozen_of_row _ _ _ _ _ hzr.1
              have ye3 : wa.frozen? ⟨z, 3, none⟩ = false := frozen_of_row _ _ _ _ _ hzr.1
              have ye4 : wa.frozen? ⟨z, 4, none⟩ = false := frozen_of_row _ _ _ _ _ hzr.1
              have ye5 : wa.frozen? ⟨z, 5, none⟩ = false := frozen_of_row _ _ _ _ _ hzr.1
              have ye6 : wa.frozen? ⟨z, 6, none⟩ = false := frozen_of_row _ _ _ _ _ hzr.1
              have yf0 : (((((((wa.setCell ⟨z, 0, none⟩ (.slice (A 0) (N 0) (C 0))).setCell ⟨z, 1, none⟩ (.slice (A 1) (N 1) (C 1))).setCell ⟨z, 2, none⟩ (.slice (A 2) (N 2) (C 2))).setCell ⟨z, 3, none⟩ (.slice (A 3) (N 3) (C 3))).setCell ⟨z, 4, none⟩ (.int .i64 v.log)).setCell ⟨z, 5, none⟩ (.int .i64 v.next)).setCell ⟨z, 6, none⟩ (.int .i64 v.seq)).cell? ⟨z + 1, 0, none⟩ = some (.slice none 0 0) := cell_of_row _ _ _ _ _ _ hrxf
              have yf1 : (((((((wa.setCell ⟨z, 0, none⟩ (.slice (A 0) (N 0) (C 0))).setCell ⟨z, 1, none⟩ (.slice (A 1) (N 1) (C 1))).setCell ⟨z, 2, none⟩ (.slice (A 2) (N 2) (C 2))).setCell ⟨z, 3, none⟩ (.slice (A 3) (N 3) (C 3))).setCell ⟨z, 4, none⟩ (.int .i64 v.log)).setCell ⟨z, 5, none⟩ (.int .i64 v.next)).setCell ⟨z, 6, none⟩ (.int .i64 v.seq)).cell? ⟨z + 1, 1, none⟩ = some (.int .i64 0) := cell_of_row _ _ _ _ _ _ hrxf
              have yf2 : (((((((wa.setCell ⟨z, 0, none⟩ (.slice (A 0) (N 0) (C 0))).setCell ⟨z, 1, none⟩ (.slice (A 1) (N 1) (C 1))).setCell ⟨z, 2, none⟩ (.slice (A 2) (N 2) (C 2))).setCell ⟨z, 3, none⟩ (.slice (A 3) (N 3) (C 3))).setCell ⟨z, 4, none⟩ (.int .i64 v.log)).setCell ⟨z, 5, none⟩ (.int .i64 v.next)).setCell ⟨z, 6, none⟩ (.int .i64 v.seq)).cell? ⟨z + 1, 2, none⟩ = some (.int .i64 0) := cell_of_row _ _ _ _ _ _ hrxf
              have yf3 : (((((((wa.setCell ⟨z, 0, none⟩ (.slice (A 0) (N 0) (C 0))).setCell ⟨z, 1, none⟩ (.slice (A 1) (N 1) (C 1))).setCell ⟨z, 2, none⟩ (.slice (A 2) (N 2) (C 2))).setCell ⟨z, 3, none⟩ (.slice (A 3) (N 3) (C 3))).setCell ⟨z, 4, none⟩ (.int .i64 v.log)).setCell ⟨z, 5, none⟩ (.int .i64 v.next)).setCell ⟨z, 6, none⟩ (.int .i64 v.seq)).cell? ⟨z + 1, 3, none⟩ = some (.int .i64 0) := cell_of_row _ _ _ _ _ _ hrxf
              have yg0 : (((((((wa.setCell ⟨z, 0, none⟩ (.slice (A 0) (N 0) (C 0))).setCell ⟨z, 1, none⟩ (.slice (A 1) (N 1) (C 1))).setCell ⟨z, 2, none⟩ (.slice (A 2) (N 2) (C 2))).setCell ⟨z, 3, none⟩ (.slice (A 3) (N 3) (C 3))).setCell ⟨z, 4, none⟩ (.int .i64 v.log)).setCell ⟨z, 5, none⟩ (.int .i64 v.next)).setCell ⟨z, 6, none⟩ (.int .i64 v.seq)).frozen? ⟨z + 1, 0, none⟩ = false := frozen_of_row _ _ _ _ _ hrxf
              have yg1 : (((((((wa.setCell ⟨z, 0, none⟩ (.slice (A 0) (N 0) (C 0))).setCell ⟨z, 1, none⟩ (.slice (A 1) (N 1) (C 1))).setCell ⟨z, 2, none⟩ (.slice (A 2) (N 2) (C 2))).setCell ⟨z, 3, none⟩ (.slice (A 3) (N 3) (C 3))).setCell ⟨z, 4, none⟩ (.int .i64 v.log)).setCell ⟨z, 5, none⟩ (.int .i64 v.next)).setCell ⟨z, 6, none⟩ (.int .i64 v.seq)).frozen? ⟨z + 1, 1, none⟩ = false := frozen_of_row _ _ _ _ _ hrxf
              have yg2 : (((((((wa.setCell ⟨z, 0, none⟩ (.slice (A 0) (N 0) (C 0))).setCell ⟨z, 1, none⟩ (.slice (A 1) (N 1) (C 1))).setCell ⟨z, 2, none⟩ (.slice (A 2) (N 2) (C 2))).setCell ⟨z, 3, none⟩ (.slice (A 3) (N 3) (C 3))).setCell ⟨z, 4, none⟩ (.int .i64 v.log)).setCell ⟨z, 5, none⟩ (.int .i64 v.next)).setCell ⟨z, 6, none⟩ (.int .i64 v.seq)).frozen? ⟨z + 1, 2, none⟩ = false := frozen_of_row _ _ _ _ _ hrxf
              have yg3 : (((((((wa.setCell ⟨z, 0, none⟩ (.slice (A 0) (N 0) (C 0))).setCell ⟨z, 1, none⟩ (.slice (A 1) (N 1) (C 1))).setCell ⟨z, 2, none⟩ (.slice (A 2) (N 2) (C 2))).setCell ⟨z, 3, none⟩ (.slice (A 3) (N 3) (C 3))).setCell ⟨z, 4, none⟩ (.int .i64 v.log)).setCell ⟨z, 5, none⟩ (.int .i64 v.next)).setCell ⟨z, 6, none⟩ (.int .i64 v.seq)).frozen? ⟨z + 1, 3, none⟩ = false := frozen_of_row _ _ _ _ _ hrxf
              have hq1 : (((((((((((wa.setCell ⟨z, 0, none⟩ (.slice (A 0) (N 0) (C 0))).setCell ⟨z, 1, none⟩ (.slice (A 1) (N 1) (C 1))).setCell ⟨z, 2, none⟩ (.slice (A 2) (N 2) (C 2))).setCell ⟨z, 3, none⟩ (.slice (A 3) (N 3) (C 3))).setCell ⟨z, 4, none⟩ (.int .i64 v.log)).setCell ⟨z, 5, none⟩ (.int .i64 v.next)).setCell ⟨z, 6, none⟩ (.int .i64 v.seq)).setCell ⟨z + 1, 0, none⟩ (.slice A5 n5 c5)).setCell ⟨z + 1, 1, none⟩ (.int .i64 v.log)).setCell ⟨z + 1, 2, none⟩ (.int .i64 v.next)).setCell ⟨z + 1, 3, none⟩ (.int .i64 v.seq)).heap[z]? = some (.cells #[.slice (A 0) (N 0) (C 0), .slice (A 1) (N 1) (C 1), .slice (A 2) (N 2) (C 2), .slice (A 3) (N 3) (C 3), .int .i64 v.log, .int .i64 v.next, .int .i64 v.seq] 26 (0, 0)) := (hgx z (by omega)).trans (by
                have := (Lib.heap_setCell_same (i := 6) (Lib.heap_setCell_same (i := 5) (Lib.heap_setCell_same (i := 4) (Lib.heap_setCell_same (i := 3) (Lib.heap_setCell_same (i := 2) (Lib.heap_setCell_same (i := 1) (Lib.heap_setCell_same (i := 0) hzr.1 (.slice (A 0) (N 0) (C 0))) (.slice (A 1) (N 1) (C 1))) (.slice (A 2) (N 2) (C 2))) (.slice (A 3) (N 3) (C 3))) (.int .i64 v.log)) (.int .i64 v.next)) (.int .i64 v.seq))
                simpa using this)
              have hq2 : (((((((((((wa.setCell ⟨z, 0, none⟩ (.slice (A 0) (N 0) (C 0))).setCell ⟨z, 1, none⟩ (.slice (A 1) (N 1) (C 1))).setCell ⟨z, 2, none⟩ (.slice (A 2) (N 2) (C 2))).setCell ⟨z, 3, none⟩ (.slice (A 3) (N 3) (C 3))).setCell ⟨z, 4, none⟩ (.int .i64 v.log)).setCell ⟨z, 5, none⟩ (.int .i64 v.next)).setCell ⟨z, 6, none⟩ (.int .i64 v.seq)).setCell ⟨z + 1, 0, none⟩ (.slice A5 n5 c5)).setCell ⟨z + 1, 1, none⟩ (.int .i64 v.log)).setCell ⟨z + 1, 2, none⟩ (.int .i64 v.next)).setCell ⟨z + 1, 3, none⟩ (.int .i64 v.seq)).heap[z + 1]? = some (.cells #[.slice A5 n5 c5, .int .i64 v.log, .int .i64 v.next, .int .i64 v.seq] 29 (0, 0)) := by
                have := (Lib.heap_setCell_same (i := 3) (Lib.heap_setCell_same (i := 2) (Lib.heap_setCell_same (i := 1) (Lib.heap_setCell_same (i := 0) hrxf (.slice A5 n5 c5)) (.int .i64 v.log)) (.int .i64 v.next)) (.int .i64 v.seq))
                simpa using this
              have hq3 : ∀ k, k ≠ z → k ≠ z + 1 → (((((((((((wa.setCell ⟨z, 0, none⟩ (.slice (A 0) (N 0) (C 0))).setCell ⟨z, 1, none⟩ (.slice (A 1) (N 1) (C 1))).setCell ⟨z, 2, none⟩ (.slice (A 2) (N 2) (C 2))).setCell ⟨z, 3, none⟩ (.slice (A 3) (N 3) (C 3))).setCell ⟨z, 4, none⟩ (.int .i64 v.log)).setCell ⟨z, 5, none⟩ (.int .i64 v.next)).setCell ⟨z, 6, none⟩ (.int .i64 v.seq)).setCell ⟨z + 1, 0, none⟩ (.slice A5 n5 c5)).setCell ⟨z + 1, 1, none⟩ (.int .i64 v.log)).setCell ⟨z + 1, 2, none⟩ (.int .i64 v.next)).setCell ⟨z + 1, 3, none⟩ (.int .i64 v.seq)).heap[k]? = wa.heap[k]? := fun k h1 h2 => (hgx k h2).trans (hfx k h1)
              have hq4 : Below 0 wa (((((((((((wa.setCell ⟨z, 0, none⟩ (.slice (A 0) (N 0) (C 0))).setCell ⟨z, 1, none⟩ (.slice (A 1) (N 1) (C 1))).setCell ⟨z, 2, none⟩ (.slice (A 2) (N 2) (C 2))).setCell ⟨z, 3, none⟩ (.slice (A 3) (N 3) (C 3))).setCell ⟨z, 4, none⟩ (.int .i64 v.log)).setCell ⟨z, 5, none⟩ (.int .i64 v.next)).setCell ⟨z, 6, none⟩ (.int .i64 v.seq)).setCell ⟨z + 1, 0, none⟩ (.slice A5 n5 c5)).setCell ⟨z + 1, 1, none⟩ (.int .i64 v.log)).setCell ⟨z + 1, 2, none⟩ (.int .i64 v.next)).setCell ⟨z + 1, 3, none⟩ (.int .i64 v.seq)) := ((((((((((((Below.refl 0 wa).setCell (p := ⟨z, 0, none⟩) (Nat.zero_le _) (.slice (A 0) (N 0) (C 0))).setCell (p := ⟨z, 1, none⟩) (Nat.zero_le _) (.slice (A 1) (N 1) (C 1))).setCell (p := ⟨z, 2, none⟩) (Nat.zero_le _) (.slice (A 2) (N 2) (C 2))).setCell (p := ⟨z, 3, none⟩) (Nat.zero_le _) (.slice (A 3) (N 3) (C 3))).setCell (p := ⟨z, 4, none⟩) (Nat.zero_le _) (.int .i64 v.log)).setCell (p := ⟨z, 5, none⟩) (Nat.zero_le _) (.int .i64 v.next)).setCell (p := ⟨z, 6, none⟩) (Nat.zero_le _) (.int .i64 v.seq)).setCell (p := ⟨z + 1, 0, none⟩) (Nat.zero_le _) (.slice A5 n5 c5)).setCell (p := ⟨z + 1, 1, none⟩) (Nat.zero_le _) (.int .i64 v.log)).setCell (p := ⟨z + 1, 2, none⟩) (Nat.zero_le _) (.int .i64 v.next)).setCell (p := ⟨z + 1, 3, none⟩) (Nat.zero_le _) (.int .i64 v.seq))
              have HQ := Lib.hid (two_drew hq1 hq2 hq3 hq4)
              clear hfx hgx hr11f hrxf hq1 hq2 hq3 hq4 hzr
              go_region
              generalize (((((((((((wa.setCell ⟨z, 0, none⟩ (.slice (A 0) (N 0) (C 0))).setCell ⟨z, 1, none⟩ (.slice (A 1) (N 1) (C 1))).setCell ⟨z, 2, none⟩ (.slice (A 2) (N 2) (C 2))).setCell ⟨z, 3, none⟩ (.slice (A 3) (N 3) (C 3))).setCell ⟨z, 4, none⟩ (.int .i64 v.log)).setCell ⟨z, 5, none⟩ (.int .i64 v.next)).setCell ⟨z, 6, none⟩ (.int .i64 v.seq)).setCell ⟨z + 1, 0, none⟩ (.slice A5 n5 c5)).setCell ⟨z + 1, 1, none⟩ (.int .i64 v.log)).setCell ⟨z + 1, 2, none⟩ (.int .i64 v.next)).setCell ⟨z + 1, 3, none⟩ (.int .i64 v.seq)).drew = w9 at HQ ⊢
              obtain ⟨hx1, hx2, hx3, hx4⟩ := HQ.out
              have HEND : Hid (VerIn w9 A N C v.L ∧ In5 w9 A5 v.L ∧ Below w.heap.size w w9) := Lib.hid ⟨ver_far HST1.out.ver hx4.size fun k hk a ha _ => hx3 _ (by have := HST1.out.fv k hk a ha; have := HX.out; omega) (by have := HST1.out.fv k hk a ha; have := HX.out; omega), in5_far HST1.out.in5 hx4.size fun q hq => (by
                  cases hA5 : A5 with
                  | none => rw [hA5] at hq; simp [fb] at hq
                  | some a =>
                    rw [hA5] at hq
                    have h1 := HST1.out.fr a hA5
                    have h2 : q = a.block := by simpa [fb] using hq
                    have := HX.out
                    exact hx3 q (by omega) (by omega)), (HLOW.out _ HBA.out).trans ⟨hx4.os, hx4.tape, hx4.output, hx4.size, fun k hk => hx3 k (by have := HX.out; omega) (by have := HX.out; omega)⟩⟩
              clear hx3 hx4 HQ ya0 ya1 ya2 ya3 ya4 ya5 ya6 yb0 yb1 yb2 yb3 yc0 yc1 yc2 yc3 yd0 yd1 yd2 yd3 yd4 yd5 yd6 ye0 ye1 ye2 ye3 ye4 ye5 ye6 yf0 yf1 yf2 yf3 yg0 yg1 yg2 yg3
              go_wp2_with fail
              refine bodyPost_ret (results_cells2 rfl _ w9 z (z + 1) _ _ rfl rfl (run_loadVar_row (P := Try.prog) _ _ _ _ _ _ _ hx1 Try.underlying26 rfl rfl) (run_loadVar_row (P := Try.prog) _ _ _ _ _ _ _ hx2 Try.underlying29 rfl rfl)) rfl ?_
              exact ⟨⟨A, N, C, A5, n5, c5, v, rfl, HEND.out.1, HEND.out.2.1, HST1.out.len, by have := HVL.out; have := HT.out j; have := HST1.out.len; omega, HST1.out.ok, HNUM.out⟩, HEND.out.2.2⟩)
          · have hb1f : b1 = false := by cases b1 <;> simp at hbb ⊢
            have hb2f : b2 = false := by cases b2 <;> simp [hb1f] at hbb ⊢
            subst hb1f; subst hb2f
            have h1 := of_decide_eq_false hb1
            have h2 := of_decide_eq_false hb2
            have hw1 : IntKind.i64.wrap (rk - mx) = rk - mx := IntWalk.i64_in _ ⟨by have := HRK.out; omega, by have := HRK.out; omega⟩
            have HRK2 : Hid (0 ≤ rk - mx ∧ rk - mx ≤ 1152921504606846976) := Lib.hid ⟨by have := HRK.out; omega, by have := HRK.out; omega⟩
            obtain ⟨rk2, hrk2⟩ : ∃ r, rk - mx = r := ⟨_, rfl⟩
            rw [hrk2] at hw1 HRK2
            have hks : k < 1048576 := by have := HSM.out; omega
            clear hbb h1 h2
            go_wp2_with fail
            go_roundw
            case rel => exact ⟨k + 1, rk2, by omega, by go_num, by first | rfl | simp_all, HRK2.out, by first | rfl | trivial⟩
            case measure => simp [intOf]; omega
        · obtain rfl : k = nb := by omega
          obtain ⟨rm2, hrm2⟩ : ∃ r, rk = r := ⟨_, rfl⟩
          rw [hrm2] at HRK ⊢
          have HRM2 := HRK
          clear hrm2
          go_upto_region 14 with fail
          go_wp2_with fail
          refine (edits15_any B k kb D md kd e _ HEA.out (by have := HSM.out; omega) (by have := HSM.out; omega)).mono ?_
          rintro r w1 ⟨A1, c1, D1, d1, A2, c2, D2, d2, rfl, he1, he2, hb1⟩
          have HE2 := Lib.hid he1
          have HE3 := Lib.hid he2
          have HST2 := Lib.hid (HST1.out.below hb1)
          have HB2 : Hid (Below x w0 w1) := Lib.hid (HBA.out.trans (hb1.mono (by have := HST1.out.sz; omega)))
          clear he1 he2 hb1 xz0 xz1 xz2 xz3 xz4 HEA
          go_upto_region 15 with fail
          obtain ⟨P, hP⟩ : ∃ P, apply v e = P := ⟨_, rfl⟩
          have hfine := apply_fine HST2.out.ok e
          rw [hP] at HSM hfine HNE
          obtain ⟨v2, g⟩ := P
          simp only at HSM hfine HNE
          have HP := Lib.hid hP
          have HOK2 := Lib.hid hfine
          clear hP hfine
          have hb2 : Below w1.heap.size w1 ((w1.alloc (.cells #[.slice A1 k c1, .slice D1 md d1, .int .i64 e.log, .int .i64 e.next, .int .i64 e.seq] 36)).alloc (.cells #[.slice A2 k c2, .slice D2 md d2, .int .i64 e.log, .int .i64 e.next, .int .i64 e.seq] 38)) := ((Below.refl _ w1).alloc (Nat.le_refl _) _).alloc (by simp) _
          have hr7 : ((w1.alloc (.cells #[.slice A1 k c1, .slice D1 md d1, .int .i64 e.log, .int .i64 e.next, .int .i64 e.seq] 36)).alloc (.cells #[.slice A2 k c2, .slice D2 md d2, .int .i64 e.log, .int .i64 e.next, .int .i64 e.seq] 38)).heap[w1.heap.size]? = some (.cells #[.slice A1 k c1, .slice D1 md d1, .int .i64 e.log, .int .i64 e.next, .int .i64 e.seq] 36 (0, 0)) := (Below.heap_alloc _ _ _ (by simp)).trans (heap_alloc_new w1 _)
          have hr8 : ((w1.alloc (.cells #[.slice A1 k c1, .slice D1 md d1, .int .i64 e.log, .int .i64 e.next, .int .i64 e.seq] 36)).alloc (.cells #[.slice A2 k c2, .slice D2 md d2, .int .i64 e.log, .int .i64 e.next, .int .i64 e.seq] 38)).heap[w1.heap.size + 1]? = some (.cells #[.slice A2 k c2, .slice D2 md d2, .int .i64 e.log, .int .i64 e.next, .int .i64 e.seq] 38 (0, 0)) := by
            have := heap_alloc_new (w1.alloc (.cells #[.slice A1 k c1, .slice D1 md d1, .int .i64 e.log, .int .i64 e.next, .int .i64 e.seq] 36)) (.cells #[.slice A2 k c2, .slice D2 md d2, .int .i64 e.log, .int .i64 e.next, .int .i64 e.seq] 38)
            simpa using this
          have hs2 : ((w1.alloc (.cells #[.slice A1 k c1, .slice D1 md d1, .int .i64 e.log, .int .i64 e.next, .int .i64 e.seq] 36)).alloc (.cells #[.slice A2 k c2, .slice D2 md d2, .int .i64 e.log, .int .i64 e.next, .int .i64 e.seq] 38)).heap.size = w1.heap.size + 2 := by simp
          generalize (w1.alloc (.cells #[.slice A1 k c1, .slice D1 md d1, .int .i64 e.log, .int .i64 e.next, .int .i64 e.seq] 36)).alloc (.cells #[.slice A2 k c2, .slice D2 md d2, .int .i64 e.log, .int .i64 e.next, .int .i64 e.seq] 38) = w2 at hb2 hr7 hr8 hs2 ⊢
          obtain ⟨p7, hp7⟩ : ∃ p, w1.heap.size = p := ⟨_, rfl⟩
          have HST3 := Lib.hid (HST2.out.below hb2)
          have HB3 : Hid (Below x w0 w2) := Lib.hid (HB2.out.trans (hb2.mono (by have := HST2.out.sz; omega)))
          have HE4 := Lib.hid (HE2.out.below hb2)
          have HE5 := Lib.hid (HE3.out.below hb2)
          have HP7 : Hid (x + 2 ≤ p7 ∧ p7 + 2 = w2.heap.size) := Lib.hid ⟨by have := HST2.out.sz; omega, by omega⟩
          rw [hp7] at hr7 hr8 ⊢
          have HR7 := Lib.hid hr7
          have xa0 : w2.cell? ⟨x + 1, 0, none⟩ = some (.slice A5 n5 c5) := cell_of_row _ _ _ _ _ _ HST3.out.rowR
          have xa1 : w2.cell? ⟨x + 1, 1, none⟩ = some (.int .i64 v.log) := cell_of_row _ _ _ _ _ _ HST3.out.rowR
          have xa2 : w2.cell? ⟨x + 1, 2, none⟩ = some (.int .i64 v.next) := cell_of_row _ _ _ _ _ _ HST3.out.rowR
          have xa3 : w2.cell? ⟨x + 1, 3, none⟩ = some (.int .i64 v.seq) := cell_of_row _ _ _ _ _ _ HST3.out.rowR
          have xb0 : w2.cell? ⟨p7 + 1, 0, none⟩ = some (.slice A2 k c2) := cell_of_row _ _ _ _ _ _ hr8
          have xb1 : w2.cell? ⟨p7 + 1, 1, none⟩ = some (.slice D2 md d2) := cell_of_row _ _ _ _ _ _ hr8
          have xb2 : w2.cell? ⟨p7 + 1, 2, none⟩ = some (.int .i64 e.log) := cell_of_row _ _ _ _ _ _ hr8
          have xb3 : w2.cell? ⟨p7 + 1, 3, none⟩ = some (.int .i64 e.next) := cell_of_row _ _ _ _ _ _ hr8
          have xb4 : w2.cell? ⟨p7 + 1, 4, none⟩ = some (.int .i64 e.seq) := cell_of_row _ _ _ _ _ _ hr8
          clear hb2 hs2 hr7 hr8 hp7 HE2 HE3 HST2 HB2
          go_wp2_with fail
          refine (rapply_any A5 n5 c5 v A2 k c2 D2 md d2 e w2 HST3.out.in5 HST3.out.len (by have := HSM.out; omega) HE5.out (by have := HSM.out; omega) (by have := HSM.out; omega)).mono ?_
          rintro r w3 ⟨ha, hb3⟩
          unfold RApplyOut at ha
          rw [HP.out] at ha
          obtain ⟨A8, C8, rfl, hi8, hc8, hf8⟩ := ha
          simp only at hi8 hc8
          obtain ⟨n8, hn8⟩ : ∃ k, v2.L.length = k := ⟨_, rfl⟩
          rw [hn8] at HSM ⊢
          have HN8 := Lib.hid hn8
          have HI8 := Lib.hid hi8
          have HF8 : Hid (∀ a, A8 = some a → x + 2 ≤ a.block) := Lib.hid fun a h => by have := hf8 a h; have := HP7.out; omega
          have HST4 := Lib.hid (HST3.out.below hb3)
          have HB4 : Hid (Below x w0 w3) := Lib.hid (HB3.out.trans (hb3.mono (by have := HST3.out.sz; omega)))
          have HE6 := Lib.hid (HE4.out.below hb3)
          have HR73 := Lib.hid ((hb3.block p7 (by have := HP7.out; omega)).trans HR7.out)
          have HS3 : Hid (p7 + 2 ≤ w3.heap.size) := Lib.hid (by have := hb3.size; have := HP7.out; omega)
          clear hi8 hc8 hf8 hn8 hb3 HST3 HB3 HE4 HE5 HR7 xa0 xa1 xa2 xa3 xb0 xb1 xb2 xb3 xb4
          go_upto_region 16 with fail
          have hb4 : Below w3.heap.size w3 (w3.alloc (.cells #[.slice A8 n8 C8, .int .i64 v2.log, .int .i64 v2.next, .int .i64 v2.seq] 29)) := (Below.refl _ w3).alloc (Nat.le_refl _) _
          have hr9 := heap_alloc_new w3 (.cells #[.slice A8 n8 C8, .int .i64 v2.log, .int .i64 v2.next, .int .i64 v2.seq] 29)
          have hs4 : (w3.alloc (.cells #[.slice A8 n8 C8, .int .i64 v2.log, .int .i64 v2.next, .int .i64 v2.seq] 29)).heap.size = w3.heap.size + 1 := by simp
          generalize w3.alloc (.cells #[.slice A8 n8 C8, .int .i64 v2.log, .int .i64 v2.next, .int .i64 v2.seq] 29) = w4 at hb4 hr9 hs4 ⊢
          obtain ⟨p9, hp9⟩ : ∃ p, w3.heap.size = p := ⟨_, rfl⟩
          have HST5 := Lib.hid (HST4.out.below hb4)
          have HB5 : Hid (Below x w0 w4) := Lib.hid (HB4.out.trans (hb4.mono (by have := HST4.out.sz; omega)))
          have HE7 := Lib.hid (HE6.out.below hb4)
          have HI9 := Lib.hid (HI8.out.below hb4)
          have hr7 := (hb4.block p7 (by have := HS3.out; omega)).trans HR73.out
          have HP9 : Hid (x + 2 ≤ p9 ∧ p9 + 1 = w4.heap.size ∧ p7 + 2 ≤ p9) := Lib.hid ⟨by have := HP7.out; have := HS3.out; omega, by omega, by have := HS3.out; omega⟩
          rw [hp9] at hr9 ⊢
          have HR9 := Lib.hid hr9
          have xc0 : w4.cell? ⟨x, 0, none⟩ = some (.slice (A 0) (N 0) (C 0)) := cell_of_row _ _ _ _ _ _ HST5.out.rowV
          have xc1 : w4.cell? ⟨x, 1, none⟩ = some (.slice (A 1) (N 1) (C 1)) := cell_of_row _ _ _ _ _ _ HST5.out.rowV
          have xc2 : w4.cell? ⟨x, 2, none⟩ = some (.slice (A 2) (N 2) (C 2)) := cell_of_row _ _ _ _ _ _ HST5.out.rowV
          have xc3 : w4.cell? ⟨x, 3, none⟩ = some (.slice (A 3) (N 3) (C 3)) := cell_of_row _ _ _ _ _ _ HST5.out.rowV
          have xc4 : w4.cell? ⟨x, 4, none⟩ = some (.int .i64 v.log) := cell_of_row _ _ _ _ _ _ HST5.out.rowV
          have xc5 : w4.cell? ⟨x, 5, none⟩ = some (.int .i64 v.next) := cell_of_row _ _ _ _ _ _ HST5.out.rowV
          have xc6 : w4.cell? ⟨x, 6, none⟩ = some (.int .i64 v.seq) := cell_of_row _ _ _ _ _ _ HST5.out.rowV
          have xd0 : w4.cell? ⟨p7, 0, none⟩ = some (.slice A1 k c1) := cell_of_row _ _ _ _ _ _ hr7
          have xd1 : w4.cell? ⟨p7, 1, none⟩ = some (.slice D1 md d1) := cell_of_row _ _ _ _ _ _ hr7
          have xd2 : w4.cell? ⟨p7, 2, none⟩ = some (.int .i64 e.log) := cell_of_row _ _ _ _ _ _ hr7
          have xd3 : w4.cell? ⟨p7, 3, none⟩ = some (.int .i64 e.next) := cell_of_row _ _ _ _ _ _ hr7
          have xd4 : w4.cell? ⟨p7, 4, none⟩ = some (.int .i64 e.seq) := cell_of_row _ _ _ _ _ _ hr7
          clear hb4 hr9 hs4 hp9 hr7 HST4 HB4 HE6 HI8 HR73
          go_wp2_with fail
          refine (apply_any A N C v A1 k c1 D1 md d1 e w4 HST5.out.ver HST5.out.ok (by have := HSM.out; have := HST5.out.len; omega) HE7.out (by have := HSM.out; omega) (by have := HSM.out; omega)).mono ?_
          rintro r w5 ⟨ha, hb5⟩
          unfold ApplyOut at ha
          rw [HP.out] at ha
          obtain ⟨A7, N7, C7, rfl, hv3, hf3⟩ := ha
          simp only at hv3
          have HF7 : Hid (∀ k, k < 4 → ∀ a, A7 k = some a → x + 2 ≤ a.block) := Lib.hid fun k hk a h => by have := hf3 k hk a h; have := HP9.out; omega
          have HV7 := Lib.hid hv3
          have HST6 := Lib.hid (HST5.out.below hb5)
          have HB6 : Hid (Below x w0 w5) := Lib.hid (HB5.out.trans (hb5.mono (by have := HST5.out.sz; omega)))
          have HI10 := Lib.hid (HI9.out.below hb5)
          have HR95 := Lib.hid ((hb5.block p9 (by have := HP9.out; omega)).trans HR9.out)
          have HS5 : Hid (p9 + 1 ≤ w5.heap.size) := Lib.hid (by have := hb5.size; have := HP9.out; omega)
          clear hv3 hf3 hb5 HST5 HB5 HE7 HI9 HR9 xc0 xc1 xc2 xc3 xc4 xc5 xc6 xd0 xd1 xd2 xd3 xd4
          go_upto_region 17 with fail
          have hb6 : Below w5.heap.size w5 (w5.alloc (.cells #[.slice (A7 0) (N7 0) (C7 0), .slice (A7 1) (N7 1) (C7 1), .slice (A7 2) (N7 2) (C7 2), .slice (A7 3) (N7 3) (C7 3), .int .i64 v2.log, .int .i64 v2.next, .int .i64 v2.seq] 26)) := (Below.refl _ w5).alloc (Nat.le_refl _) _
          have hr11 := heap_alloc_new w5 (.cells #[.slice (A7 0) (N7 0) (C7 0), .slice (A7 1) (N7 1) (C7 1), .slice (A7 2) (N7 2) (C7 2), .slice (A7 3) (N7 3) (C7 3), .int .i64 v2.log, .int .i64 v2.next, .int .i64 v2.seq] 26)
          generalize w5.alloc (.cells #[.slice (A7 0) (N7 0) (C7 0), .slice (A7 1) (N7 1) (C7 1), .slice (A7 2) (N7 2) (C7 2), .slice (A7 3) (N7 3) (C7 3), .int .i64 v2.log, .int .i64 v2.next, .int .i64 v2.seq] 26) = w8 at hb6 hr11 ⊢
          obtain ⟨p11, hp11⟩ : ∃ p, w5.heap.size = p := ⟨_, rfl⟩
          have HST9 := Lib.hid (HST6.out.below hb6)
          have HB9 : Hid (Below x w0 w8) := Lib.hid (HB6.out.trans (hb6.mono (by have := HST6.out.sz; omega)))
          have HV12 := Lib.hid (HV7.out.below hb6)
          have HI12 := Lib.hid (HI10.out.below hb6)
          have hr9 := (hb6.block p9 (by have := HS5.out; omega)).trans HR95.out
          rw [hp11] at hr11 ⊢
          have HP11 : Hid (x + 2 ≤ p9 ∧ x + 2 ≤ p11 ∧ p9 < p11) := Lib.hid ⟨HP9.out.1, by have := HP9.out; have := HS5.out; omega, by have := HS5.out; omega⟩
          clear hb6 hp11 HST6 HB6 HV7 HI10 HR95 HP9 HP7 HS3 HS5
          by_cases hg : g = 0
          · subst hg
            go_upto_region 18 with fail
            have HRW := Lib.hid (And.intro HST9.out.rowV HST9.out.rowR)
            have ya0 : w8.cell? ⟨p11, 0, none⟩ = some (.slice (A7 0) (N7 0) (C7 0)) := cell_of_row _ _ _ _ _ _ hr11
            have ya1 : w8.cell? ⟨p11, 1, none⟩ = some (.slice (A7 1) (N7 1) (C7 1)) := cell_of_row _ _ _ _ _ _ hr11
            have ya2 : w8.cell? ⟨p11, 2, none⟩ = some (.slice (A7 2) (N7 2) (C7 2)) := cell_of_row _ _ _ _ _ _ hr11
            have ya3 : w8.cell? ⟨p11, 3, none⟩ = some (.slice (A7 3) (N7 3) (C7 3)) := cell_of_row _ _ _ _ _ _ hr11
            have ya4 : w8.cell? ⟨p11, 4, none⟩ = some (.int .i64 v2.log) := cell_of_row _ _ _ _ _ _ hr11
            have ya5 : w8.cell? ⟨p11, 5, none⟩ = some (.int .i64 v2.next) := cell_of_row _ _ _ _ _ _ hr11
            have ya6 : w8.cell? ⟨p11, 6, none⟩ = some (.int .i64 v2.seq) := cell_of_row _ _ _ _ _ _ hr11
            have yb0 : w8.cell? ⟨p9, 0, none⟩ = some (.slice A8 n8 C8) := cell_of_row _ _ _ _ _ _ hr9
            have yb1 : w8.cell? ⟨p9, 1, none⟩ = some (.int .i64 v2.log) := cell_of_row _ _ _ _ _ _ hr9
            have yb2 : w8.cell? ⟨p9, 2, none⟩ = some (.int .i64 v2.next) := cell_of_row _ _ _ _ _ _ hr9
            have yb3 : w8.cell? ⟨p9, 3, none⟩ = some (.int .i64 v2.seq) := cell_of_row _ _ _ _ _ _ hr9
            have hfx : ∀ k, k ≠ x → (((((((w8.setCell ⟨x, 0, none⟩ (.slice (A7 0) (N7 0) (C7 0))).setCell ⟨x, 1, none⟩ (.slice (A7 1) (N7 1) (C7 1))).setCell ⟨x, 2, none⟩ (.slice (A7 2) (N7 2) (C7 2))).setCell ⟨x, 3, none⟩ (.slice (A7 3) (N7 3) (C7 3))).setCell ⟨x, 4, none⟩ (.int .i64 v2.log)).setCell ⟨x, 5, none⟩ (.int .i64 v2.next)).setCell ⟨x, 6, none⟩ (.int .i64 v2.seq)).heap[k]? = w8.heap[k]? := fun k hk => (((((((Below.heap_setCell _ ⟨x, 6, none⟩ _ _ hk).trans (Below.heap_setCell _ ⟨x, 5, none⟩ _ _ hk)).trans (Below.heap_setCell _ ⟨x, 4, none⟩ _ _ hk)).trans (Below.heap_setCell _ ⟨x, 3, none⟩ _ _ hk)).trans (Below.heap_setCell _ ⟨x, 2, none⟩ _ _ hk)).trans (Below.heap_setCell _ ⟨x, 1, none⟩ _ _ hk)).trans (Below.heap_setCell _ ⟨x, 0, none⟩ _ _ hk))
            have hgx : ∀ k, k ≠ x + 1 → (((((((((((w8.setCell ⟨x, 0, none⟩ (.slice (A7 0) (N7 0) (C7 0))).setCell ⟨x, 1, none⟩ (.slice (A7 1) (N7 1) (C7 1))).setCell ⟨x, 2, none⟩ (.slice (A7 2) (N7 2) (C7 2))).setCell ⟨x, 3, none⟩ (.slice (A7 3) (N7 3) (C7 3))).setCell ⟨x, 4, none⟩ (.int .i64 v2.log)).setCell ⟨x, 5, none⟩ (.int .i64 v2.next)).setCell ⟨x, 6, none⟩ (.int .i64 v2.seq)).setCell ⟨x + 1, 0, none⟩ (.slice A8 n8 C8)).setCell ⟨x + 1, 1, none⟩ (.int .i64 v2.log)).setCell ⟨x + 1, 2, none⟩ (.int .i64 v2.next)).setCell ⟨x + 1, 3, none⟩ (.int .i64 v2.seq)).heap[k]? = (((((((w8.setCell ⟨x, 0, none⟩ (.slice (A7 0) (N7 0) (C7 0))).setCell ⟨x, 1, none⟩ (.slice (A7 1) (N7 1) (C7 1))).setCell ⟨x, 2, none⟩ (.slice (A7 2) (N7 2) (C7 2))).setCell ⟨x, 3, none⟩ (.slice (A7 3) (N7 3) (C7 3))).setCell ⟨x, 4, none⟩ (.int .i64 v2.log)).setCell ⟨x, 5, none⟩ (.int .i64 v2.next)).setCell ⟨x, 6, none⟩ (.int .i64 v2.seq)).heap[k]? := fun k hk => ((((Below.heap_setCell _ ⟨x + 1, 3, none⟩ _ _ hk).trans (Below.heap_setCell _ ⟨x + 1, 2, none⟩ _ _ hk)).trans (Below.heap_setCell _ ⟨x + 1, 1, none⟩ _ _ hk)).trans (Below.heap_setCell _ ⟨x + 1, 0, none⟩ _ _ hk))
            have hr11f := (hfx p9 (by have := HP11.out; omega)).trans hr9
            have hrxf := (hfx (x + 1) (by omega)).trans HRW.out.2
            have yc0 : (((((((w8.setCell ⟨x, 0, none⟩ (.slice (A7 0) (N7 0) (C7 0))).setCell ⟨x, 1, none⟩ (.slice (A7 1) (N7 1) (C7 1))).setCell ⟨x, 2, none⟩ (.slice (A7 2) (N7 2) (C7 2))).setCell ⟨x, 3, none⟩ (.slice (A7 3) (N7 3) (C7 3))).setCell ⟨x, 4, none⟩ (.int .i64 v2.log)).setCell ⟨x, 5, none⟩ (.int .i64 v2.next)).setCell ⟨x, 6, none⟩ (.int .i64 v2.seq)).cell? ⟨p9, 0, none⟩ = some (.slice A8 n8 C8) := cell_of_row _ _ _ _ _ _ hr11f
            have yc1 : (((((((w8.setCell ⟨x, 0, none⟩ (.slice (A7 0) (N7 0) (C7 0))).setCell ⟨x, 1, none⟩ (.slice (A7 1) (N7 1) (C7 1))).setCell ⟨x, 2, none⟩ (.slice (A7 2) (N7 2) (C7 2))).setCell ⟨x, 3, none⟩ (.slice (A7 3) (N7 3) (C7 3))).setCell ⟨x, 4, none⟩ (.int .i64 v2.log)).setCell ⟨x, 5, none⟩ (.int .i64 v2.next)).setCell ⟨x, 6, none⟩ (.int .i64 v2.seq)).cell? ⟨p9, 1, none⟩ = some (.int .i64 v2.log) := cell_of_row _ _ _ _ _ _ hr11f
            have yc2 : (((((((w8.setCell ⟨x, 0, none⟩ (.slice (A7 0) (N7 0) (C7 0))).setCell ⟨x, 1, none⟩ (.slice (A7 1) (N7 1) (C7 1))).setCell ⟨x, 2, none⟩ (.slice (A7 2) (N7 2) (C7 2))).setCell ⟨x, 3, none⟩ (.slice (A7 3) (N7 3) (C7 3))).setCell ⟨x, 4, none⟩ (.int .i64 v2.log)).setCell ⟨x, 5, none⟩ (.int .i64 v2.next)).setCell ⟨x, 6, none⟩ (.int .i64 v2.seq)).cell? ⟨p9, 2, none⟩ = some (.int .i64 v2.next) := cell_of_row _ _ _ _ _ _ hr11f
            have yc3 : (((((((w8.setCell ⟨x, 0, none⟩ (.slice (A7 0) (N7 0) (C7 0))).setCell ⟨x, 1, none⟩ (.slice (A7 1) (N7 1) (C7 1))).setCell ⟨x, 2, none⟩ (.slice (A7 2) (N7 2) (C7 2))).setCell ⟨x, 3, none⟩ (.slice (A7 3) (N7 3) (C7 3))).setCell ⟨x, 4, none⟩ (.int .i64 v2.log)).setCell ⟨x, 5, none⟩ (.int .i64 v2.next)).setCell ⟨x, 6, none⟩ (.int .i64 v2.seq)).cell? ⟨p9, 3, none⟩ = some (.int .i64 v2.seq) := cell_of_row _ _ _ _ _ _ hr11f
            have yd0 : w8.cell? ⟨x, 0, none⟩ = some (.slice (A 0) (N 0) (C 0)) := cell_of_row _ _ _ _ _ _ HRW.out.1
            have yd1 : w8.cell? ⟨x, 1, none⟩ = some (.slice (A 1) (N 1) (C 1)) := cell_of_row _ _ _ _ _ _ HRW.out.1
            have yd2 : w8.cell? ⟨x, 2, none⟩ = some (.slice (A 2) (N 2) (C 2)) := cell_of_row _ _ _ _ _ _ HRW.out.1
            have yd3 : w8.cell? ⟨x, 3, none⟩ = some (.slice (A 3) (N 3) (C 3)) := cell_of_row _ _ _ _ _ _ HRW.out.1
            have yd4 : w8.cell? ⟨x, 4, none⟩ = some (.int .i64 v.log) := cell_of_row _ _ _ _ _ _ HRW.out.1
            have yd5 : w8.cell? ⟨x, 5, none⟩ = some (.int .i64 v.next) := cell_of_row _ _ _ _ _ _ HRW.out.1
            have yd6 : w8.cell? ⟨x, 6, none⟩ = some (.int .i64 v.seq) := cell_of_row _ _ _ _ _ _ HRW.out.1
            have ye0 : w8.frozen? ⟨x, 0, none⟩ = false := frozen_of_row _ _ _ _ _ HRW.out.1
            have ye1 : w8.frozen? ⟨x, 1, none⟩ = false := frozen_of_row _ _ _ _ _ HRW.out.1
            have ye2 : w8.frozen? ⟨x, 2, none⟩ = false := frozen_of_row _ _ _ _ _ HRW.out.1
            have ye3 : w8.frozen? ⟨x, 3, none⟩ = false := frozen_of_row _ _ _ _ _ HRW.out.1
            have ye4 : w8.frozen? ⟨x, 4, none⟩ = false := frozen_of_row _ _ _ _ _ HRW.out.1
            have ye5 : w8.frozen? ⟨x, 5, none⟩ = false := frozen_of_row _ _ _ _ _ HRW.out.1
            have ye6 : w8.frozen? ⟨x, 6, none⟩ = false := frozen_of_row _ _ _ _ _ HRW.out.1
            have yf0 : (((((((w8.setCell ⟨x, 0, none⟩ (.slice (A7 0) (N7 0) (C7 0))).setCell ⟨x, 1, none⟩ (.slice (A7 1) (N7 1) (C7 1))).setCell ⟨x, 2, none⟩ (.slice (A7 2) (N7 2) (C7 2))).setCell ⟨x, 3, none⟩ (.slice (A7 3) (N7 3) (C7 3))).setCell ⟨x, 4, none⟩ (.int .i64 v2.log)).setCell ⟨x, 5, none⟩ (.int .i64 v2.next)).setCell ⟨x, 6, none⟩ (.int .i64 v2.seq)).cell? ⟨x + 1, 0, none⟩ = some (.slice A5 n5 c5) := cell_of_row _ _ _ _ _ _ hrxf
            have yf1 : (((((((w8.setCell ⟨x, 0, none⟩ (.slice (A7 0) (N7 0) (C7 0))).setCell ⟨x, 1, none⟩ (.slice (A7 1) (N7 1) (C7 1))).setCell ⟨x, 2, none⟩ (.slice (A7 2) (N7 2) (C7 2))).setCell ⟨x, 3, none⟩ (.slice (A7 3) (N7 3) (C7 3))).setCell ⟨x, 4, none⟩ (.int .i64 v2.log)).setCell ⟨x, 5, none⟩ (.int .i64 v2.next)).setCell ⟨x, 6, none⟩ (.int .i64 v2.seq)).cell? ⟨x + 1, 1, none⟩ = some (.int .i64 v.log) := cell_of_row _ _ _ _ _ _ hrxf
            have yf2 : (((((((w8.setCell ⟨x, 0, none⟩ (.slice (A7 0) (N7 0) (C7 0))).setCell ⟨x, 1, none⟩ (.slice (A7 1) (N7 1) (C7 1))).setCell ⟨x, 2, none⟩ (.slice (A7 2) (N7 2) (C7 2))).setCell ⟨x, 3, none⟩ (.slice (A7 3) (N7 3) (C7 3))).setCell ⟨x, 4, none⟩ (.int .i64 v2.log)).setCell ⟨x, 5, none⟩ (.int .i64 v2.next)).setCell ⟨x, 6, none⟩ (.int .i64 v2.seq)).cell? ⟨x + 1, 2, none⟩ = some (.int .i64 v.next) := cell_of_row _ _ _ _ _ _ hrxf
            have yf3 : (((((((w8.setCell ⟨x, 0, none⟩ (.slice (A7 0) (N7 0) (C7 0))).setCell ⟨x, 1, none⟩ (.slice (A7 1) (N7 1) (C7 1))).setCell ⟨x, 2, none⟩ (.slice (A7 2) (N7 2) (C7 2))).setCell ⟨x, 3, none⟩ (.slice (A7 3) (N7 3) (C7 3))).setCell ⟨x, 4, none⟩ (.int .i64 v2.log)).setCell ⟨x, 5, none⟩ (.int .i64 v2.next)).setCell ⟨x, 6, none⟩ (.int .i64 v2.seq)).cell? ⟨x + 1, 3, none⟩ = some (.int .i64 v.seq) := cell_of_row _ _ _ _ _ _ hrxf
            have yg0 : (((((((w8.setCell ⟨x, 0, none⟩ (.slice (A7 0) (N7 0) (C7 0))).setCell ⟨x, 1, none⟩ (.slice (A7 1) (N7 1) (C7 1))).setCell ⟨x, 2, none⟩ (.slice (A7 2) (N7 2) (C7 2))).setCell ⟨x, 3, none⟩ (.slice (A7 3) (N7 3) (C7 3))).setCell ⟨x, 4, none⟩ (.int .i64 v2.log)).setCell ⟨x, 5, none⟩ (.int .i64 v2.next)).setCell ⟨x, 6, none⟩ (.int .i64 v2.seq)).frozen? ⟨x + 1, 0, none⟩ = false := frozen_of_row _ _ _ _ _ hrxf
            have yg1 : (((((((w8.setCell ⟨x, 0, none⟩ (.slice (A7 0) (N7 0) (C7 0))).setCell ⟨x, 1, none⟩ (.slice (A7 1) (N7 1) (C7 1))).setCell ⟨x, 2, none⟩ (.slice (A7 2) (N7 2) (C7 2))).setCell ⟨x, 3, none⟩ (.slice (A7 3) (N7 3) (C7 3))).setCell ⟨x, 4, none⟩ (.int .i64 v2.log)).setCell ⟨x, 5, none⟩ (.int .i64 v2.next)).setCell ⟨x, 6, none⟩ (.int .i64 v2.seq)).frozen? ⟨x + 1, 1, none⟩ = false := frozen_of_row _ _ _ _ _ hrxf
            have yg2 : (((((((w8.setCell ⟨x, 0, none⟩ (.slice (A7 0) (N7 0) (C7 0))).setCell ⟨x, 1, none⟩ (.slice (A7 1) (N7 1) (C7 1))).setCell ⟨x, 2, none⟩ (.slice (A7 2) (N7 2) (C7 2))).setCell ⟨x, 3, none⟩ (.slice (A7 3) (N7 3) (C7 3))).setCell ⟨x, 4, none⟩ (.int .i64 v2.log)).setCell ⟨x, 5, none⟩ (.int .i64 v2.next)).setCell ⟨x, 6, none⟩ (.int .i64 v2.seq)).frozen? ⟨x + 1, 2, none⟩ = false := frozen_of_row _ _ _ _ _ hrxf
            have yg3 : (((((((w8.setCell ⟨x, 0, none⟩ (.slice (A7 0) (N7 0) (C7 0))).setCell ⟨x, 1, none⟩ (.slice (A7 1) (N7 1) (C7 1))).setCell ⟨x, 2, none⟩ (.slice (A7 2) (N7 2) (C7 2))).setCell ⟨x, 3, none⟩ (.slice (A7 3) (N7 3) (C7 3))).setCell ⟨x, 4, none⟩ (.int .i64 v2.log)).setCell ⟨x, 5, none⟩ (.int .i64 v2.next)).setCell ⟨x, 6, none⟩ (.int .i64 v2.seq)).frozen? ⟨x + 1, 3, none⟩ = false := frozen_of_row _ _ _ _ _ hrxf
            have hq1 : (((((((((((w8.setCell ⟨x, 0, none⟩ (.slice (A7 0) (N7 0) (C7 0))).setCell ⟨x, 1, none⟩ (.slice (A7 1) (N7 1) (C7 1))).setCell ⟨x, 2, none⟩ (.slice (A7 2) (N7 2) (C7 2))).setCell ⟨x, 3, none⟩ (.slice (A7 3) (N7 3) (C7 3))).setCell ⟨x, 4, none⟩ (.int .i64 v2.log)).setCell ⟨x, 5, none⟩ (.int .i64 v2.next)).setCell ⟨x, 6, none⟩ (.int .i64 v2.seq)).setCell ⟨x + 1, 0, none⟩ (.slice A8 n8 C8)).setCell ⟨x + 1, 1, none⟩ (.int .i64 v2.log)).setCell ⟨x + 1, 2, none⟩ (.int .i64 v2.next)).setCell ⟨x + 1, 3, none⟩ (.int .i64 v2.seq)).heap[x]? = some (.cells #[.slice (A7 0) (N7 0) (C7 0), .slice (A7 1) (N7 1) (C7 1), .slice (A7 2) (N7 2) (C7 2), .slice (A7 3) (N7 3) (C7 3), .int .i64 v2.log, .int .i64 v2.next, .int .i64 v2.seq] 26 (0, 0)) := (hgx x (by omega)).trans (by
              have := (Lib.heap_setCell_same (i := 6) (Lib.heap_setCell_same (i := 5) (Lib.heap_setCell_same (i := 4) (Lib.heap_setCell_same (i := 3) (Lib.heap_setCell_same (i := 2) (Lib.heap_setCell_same (i := 1) (Lib.heap_setCell_same (i := 0) HRW.out.1 (.slice (A7 0) (N7 0) (C7 0))) (.slice (A7 1) (N7 1) (C7 1))) (.slice (A7 2) (N7 2) (C7 2))) (.slice (A7 3) (N7 3) (C7 3))) (.int .i64 v2.log)) (.int .i64 v2.next)) (.int .i64 v2.seq))
              simpa using this)
            have hq2 : (((((((((((w8.setCell ⟨x, 0, none⟩ (.slice (A7 0) (N7 0) (C7 0))).setCell ⟨x, 1, none⟩ (.slice (A7 1) (N7 1) (C7 1))).setCell ⟨x, 2, none⟩ (.slice (A7 2) (N7 2) (C7 2))).setCell ⟨x, 3, none⟩ (.slice (A7 3) (N7 3) (C7 3))).setCell ⟨x, 4, none⟩ (.int .i64 v2.log)).setCell ⟨x, 5, none⟩ (.int .i64 v2.next)).setCell ⟨x, 6, none⟩ (.int .i64 v2.seq)).setCell ⟨x + 1, 0, none⟩ (.slice A8 n8 C8)).setCell ⟨x + 1, 1, none⟩ (.int .i64 v2.log)).setCell ⟨x + 1, 2, none⟩ (.int .i64 v2.next)).setCell ⟨x + 1, 3, none⟩ (.int .i64 v2.seq)).heap[x + 1]? = some (.cells #[.slice A8 n8 C8, .int .i64 v2.log, .int .i64 v2.next, .int .i64 v2.seq] 29 (0, 0)) := by
              have := (Lib.heap_setCell_same (i := 3) (Lib.heap_setCell_same (i := 2) (Lib.heap_setCell_same (i := 1) (Lib.heap_setCell_same (i := 0) hrxf (.slice A8 n8 C8)) (.int .i64 v2.log)) (.int .i64 v2.next)) (.int .i64 v2.seq))
              simpa using this
            have hq3 : ∀ k, k ≠ x → k ≠ x + 1 → (((((((((((w8.setCell ⟨x, 0, none⟩ (.slice (A7 0) (N7 0) (C7 0))).setCell ⟨x, 1, none⟩ (.slice (A7 1) (N7 1) (C7 1))).setCell ⟨x, 2, none⟩ (.slice (A7 2) (N7 2) (C7 2))).setCell ⟨x, 3, none⟩ (.slice (A7 3) (N7 3) (C7 3))).setCell ⟨x, 4, none⟩ (.int .i64 v2.log)).setCell ⟨x, 5, none⟩ (.int .i64 v2.next)).setCell ⟨x, 6, none⟩ (.int .i64 v2.seq)).setCell ⟨x + 1, 0, none⟩ (.slice A8 n8 C8)).setCell ⟨x + 1, 1, none⟩ (.int .i64 v2.log)).setCell ⟨x + 1, 2, none⟩ (.int .i64 v2.next)).setCell ⟨x + 1, 3, none⟩ (.int .i64 v2.seq)).heap[k]? = w8.heap[k]? := fun k h1 h2 => (hgx k h2).trans (hfx k h1)
            have hq4 : Below 0 w8 (((((((((((w8.setCell ⟨x, 0, none⟩ (.slice (A7 0) (N7 0) (C7 0))).setCell ⟨x, 1, none⟩ (.slice (A7 1) (N7 1) (C7 1))).setCell ⟨x, 2, none⟩ (.slice (A7 2) (N7 2) (C7 2))).setCell ⟨x, 3, none⟩ (.slice (A7 3) (N7 3) (C7 3))).setCell ⟨x, 4, none⟩ (.int .i64 v2.log)).setCell ⟨x, 5, none⟩ (.int .i64 v2.next)).setCell ⟨x, 6, none⟩ (.int .i64 v2.seq)).setCell ⟨x + 1, 0, none⟩ (.slice A8 n8 C8)).setCell ⟨x + 1, 1, none⟩ (.int .i64 v2.log)).setCell ⟨x + 1, 2, none⟩ (.int .i64 v2.next)).setCell ⟨x + 1, 3, none⟩ (.int .i64 v2.seq)) := ((((((((((((Below.refl 0 w8).setCell (p := ⟨x, 0, none⟩) (Nat.zero_le _) (.slice (A7 0) (N7 0) (C7 0))).setCell (p := ⟨x, 1, none⟩) (Nat.zero_le _) (.slice (A7 1) (N7 1) (C7 1))).setCell (p := ⟨x, 2, none⟩) (Nat.zero_le _) (.slice (A7 2) (N7 2) (C7 2))).setCell (p := ⟨x, 3, none⟩) (Nat.zero_le _) (.slice (A7 3) (N7 3) (C7 3))).setCell (p := ⟨x, 4, none⟩) (Nat.zero_le _) (.int .i64 v2.log)).setCell (p := ⟨x, 5, none⟩) (Nat.zero_le _) (.int .i64 v2.next)).setCell (p := ⟨x, 6, none⟩) (Nat.zero_le _) (.int .i64 v2.seq)).setCell (p := ⟨x + 1, 0, none⟩) (Nat.zero_le _) (.slice A8 n8 C8)).setCell (p := ⟨x + 1, 1, none⟩) (Nat.zero_le _) (.int .i64 v2.log)).setCell (p := ⟨x + 1, 2, none⟩) (Nat.zero_le _) (.int .i64 v2.next)).setCell (p := ⟨x + 1, 3, none⟩) (Nat.zero_le _) (.int .i64 v2.seq))
            have HQ := Lib.hid (two_drew hq1 hq2 hq3 hq4)
            clear hfx hgx hr11f hrxf hq1 hq2 hq3 hq4 hr9 hr11
            go_region
            generalize (((((((((((w8.setCell ⟨x, 0, none⟩ (.slice (A7 0) (N7 0) (C7 0))).setCell ⟨x, 1, none⟩ (.slice (A7 1) (N7 1) (C7 1))).setCell ⟨x, 2, none⟩ (.slice (A7 2) (N7 2) (C7 2))).setCell ⟨x, 3, none⟩ (.slice (A7 3) (N7 3) (C7 3))).setCell ⟨x, 4, none⟩ (.int .i64 v2.log)).setCell ⟨x, 5, none⟩ (.int .i64 v2.next)).setCell ⟨x, 6, none⟩ (.int .i64 v2.seq)).setCell ⟨x + 1, 0, none⟩ (.slice A8 n8 C8)).setCell ⟨x + 1, 1, none⟩ (.int .i64 v2.log)).setCell ⟨x + 1, 2, none⟩ (.int .i64 v2.next)).setCell ⟨x + 1, 3, none⟩ (.int .i64 v2.seq)).drew = w9 at HQ ⊢
            obtain ⟨hx1, hx2, hx3, hx4⟩ := HQ.out
            have HST10 : Hid (St x w9 A7 N7 C7 A8 n8 C8 v2) := Lib.hid ⟨hx1, hx2, ver_far HV12.out hx4.size fun k hk a ha _ => hx3 _ (by have := HF7.out k hk a ha; omega) (by have := HF7.out k hk a ha; omega), in5_far HI12.out hx4.size fun z hz => (by
                cases hA8 : A8 with
                | none => rw [hA8] at hz; simp [fb] at hz
                | some a =>
                  rw [hA8] at hz
                  have h1 := HF8.out a hA8
                  have h2 : z = a.block := by simpa [fb] using hz
                  exact hx3 z (by omega) (by omega)), HN8.out, HOK2.out, HF7.out, HF8.out, Nat.le_trans HST9.out.sz hx4.size⟩
            have HB10 : Hid (Below x w0 w9) := Lib.hid (HB9.out.trans ⟨hx4.os, hx4.tape, hx4.output, hx4.size, fun k hk => hx3 k (by omega) (by omega)⟩)
            clear hx1 hx2 hx3 hx4 HQ ya0 ya1 ya2 ya3 ya4 ya5 ya6 yb0 yb1 yb2 yb3 yc0 yc1 yc2 yc3 yd0 yd1 yd2 yd3 yd4 yd5 yd6 ye0 ye1 ye2 ye3 ye4 ye5 ye6 yf0 yf1 yf2 yf3 yg0 yg1 yg2 yg3
            go_wp2_with fail
            go_roundw
            case rel => exact ⟨j + 1, rm2, by omega, by go_num, rfl, HRM2.out, HB10.out, _, _, _, _, _, _, _, HST10.out, by have := HSM.out; have := HN8.out; omega, HNE.out⟩
            case measure => simp [intOf]; omega
          · have hg' : (g == 0) = false := by simpa using hg
            clear hr9 hr11
            go_wp2_with fail
            go_roundw
            case rel => exact ⟨j + 1, rm2, by omega, by go_num, rfl, HRM2.out, HB9.out, _, _, _, _, _, _, _, HST9.out, by have := HTJ.out; have := HVL.out; omega, HNUM.out⟩
            case measure => simp [intOf]; omega
    · obtain rfl : j = m := by omega
      clear hst hvl hbw hnv
      go_upto_region 20 with fail
      have hzr := HZR.out wr HB.out
      have ya0 : wr.cell? ⟨x, 0, none⟩ = some (.slice (A 0) (N 0) (C 0)) := cell_of_row _ _ _ _ _ _ HST.out.rowV
      have ya1 : wr.cell? ⟨x, 1, none⟩ = some (.slice (A 1) (N 1) (C 1)) := cell_of_row _ _ _ _ _ _ HST.out.rowV
      have ya2 : wr.cell? ⟨x, 2, none⟩ = some (.slice (A 2) (N 2) (C 2)) := cell_of_row _ _ _ _ _ _ HST.out.rowV
      have ya3 : wr.cell? ⟨x, 3, none⟩ = some (.slice (A 3) (N 3) (C 3)) := cell_of_row _ _ _ _ _ _ HST.out.rowV
      have ya4 : wr.cell? ⟨x, 4, none⟩ = some (.int .i64 v.log) := cell_of_row _ _ _ _ _ _ HST.out.rowV
      have ya5 : wr.cell? ⟨x, 5, none⟩ = some (.int .i64 v.next) := cell_of_row _ _ _ _ _ _ HST.out.rowV
      have ya6 : wr.cell? ⟨x, 6, none⟩ = some (.int .i64 v.seq) := cell_of_row _ _ _ _ _ _ HST.out.rowV
      have yb0 : wr.cell? ⟨x + 1, 0, none⟩ = some (.slice A5 n5 c5) := cell_of_row _ _ _ _ _ _ HST.out.rowR
      have yb1 : wr.cell? ⟨x + 1, 1, none⟩ = some (.int .i64 v.log) := cell_of_row _ _ _ _ _ _ HST.out.rowR
      have yb2 : wr.cell? ⟨x + 1, 2, none⟩ = some (.int .i64 v.next) := cell_of_row _ _ _ _ _ _ HST.out.rowR
      have yb3 : wr.cell? ⟨x + 1, 3, none⟩ = some (.int .i64 v.seq) := cell_of_row _ _ _ _ _ _ HST.out.rowR
      have hfx : ∀ k, k ≠ z → (((((((wr.setCell ⟨z, 0, none⟩ (.slice (A 0) (N 0) (C 0))).setCell ⟨z, 1, none⟩ (.slice (A 1) (N 1) (C 1))).setCell ⟨z, 2, none⟩ (.slice (A 2) (N 2) (C 2))).setCell ⟨z, 3, none⟩ (.slice (A 3) (N 3) (C 3))).setCell ⟨z, 4, none⟩ (.int .i64 v.log)).setCell ⟨z, 5, none⟩ (.int .i64 v.next)).setCell ⟨z, 6, none⟩ (.int .i64 v.seq)).heap[k]? = wr.heap[k]? := fun k hk => (((((((Below.heap_setCell _ ⟨z, 6, none⟩ _ _ hk).trans (Below.heap_setCell _ ⟨z, 5, none⟩ _ _ hk)).trans (Below.heap_setCell _ ⟨z, 4, none⟩ _ _ hk)).trans (Below.heap_setCell _ ⟨z, 3, none⟩ _ _ hk)).trans (Below.heap_setCell _ ⟨z, 2, none⟩ _ _ hk)).trans (Below.heap_setCell _ ⟨z, 1, none⟩ _ _ hk)).trans (Below.heap_setCell _ ⟨z, 0, none⟩ _ _ hk))
      have hgx : ∀ k, k ≠ z + 1 → (((((((((((wr.setCell ⟨z, 0, none⟩ (.slice (A 0) (N 0) (C 0))).setCell ⟨z, 1, none⟩ (.slice (A 1) (N 1) (C 1))).setCell ⟨z, 2, none⟩ (.slice (A 2) (N 2) (C 2))).setCell ⟨z, 3, none⟩ (.slice (A 3) (N 3) (C 3))).setCell ⟨z, 4, none⟩ (.int .i64 v.log)).setCell ⟨z, 5, none⟩ (.int .i64 v.next)).setCell ⟨z, 6, none⟩ (.int .i64 v.seq)).setCell ⟨z + 1, 0, none⟩ (.slice A5 n5 c5)).setCell ⟨z + 1, 1, none⟩ (.int .i64 v.log)).setCell ⟨z + 1, 2, none⟩ (.int .i64 v.next)).setCell ⟨z + 1, 3, none⟩ (.int .i64 v.seq)).heap[k]? = (((((((wr.setCell ⟨z, 0, none⟩ (.slice (A 0) (N 0) (C 0))).setCell ⟨z, 1, none⟩ (.slice (A 1) (N 1) (C 1))).setCell ⟨z, 2, none⟩ (.slice (A 2) (N 2) (C 2))).setCell ⟨z, 3, none⟩ (.slice (A 3) (N 3) (C 3))).setCell ⟨z, 4, none⟩ (.int .i64 v.log)).setCell ⟨z, 5, none⟩ (.int .i64 v.next)).setCell ⟨z, 6, none⟩ (.int .i64 v.seq)).heap[k]? := fun k hk => ((((Below.heap_setCell _ ⟨z + 1, 3, none⟩ _ _ hk).trans (Below.heap_setCell _ ⟨z + 1, 2, none⟩ _ _ hk)).trans (Below.heap_setCell _ ⟨z + 1, 1, none⟩ _ _ hk)).trans (Below.heap_setCell _ ⟨z + 1, 0, none⟩ _ _ hk))
      have hr11f := (hfx (x + 1) (by have := HX.out; omega)).trans HST.out.rowR
      have hrxf := (hfx (z + 1) (by omega)).trans hzr.2
      have yc0 : (((((((wr.setCell ⟨z, 0, none⟩ (.slice (A 0) (N 0) (C 0))).setCell ⟨z, 1, none⟩ (.slice (A 1) (N 1) (C 1))).setCell ⟨z, 2, none⟩ (.slice (A 2) (N 2) (C 2))).setCell ⟨z, 3, none⟩ (.slice (A 3) (N 3) (C 3))).setCell ⟨z, 4, none⟩ (.int .i64 v.log)).setCell ⟨z, 5, none⟩ (.int .i64 v.next)).setCell ⟨z, 6, none⟩ (.int .i64 v.seq)).cell? ⟨x + 1, 0, none⟩ = some (.slice A5 n5 c5) := cell_of_row _ _ _ _ _ _ hr11f
      have yc1 : (((((((wr.setCell ⟨z, 0, none⟩ (.slice (A 0) (N 0) (C 0))).setCell ⟨z, 1, none⟩ (.slice (A 1) (N 1) (C 1))).setCell ⟨z, 2, none⟩ (.slice (A 2) (N 2) (C 2))).setCell ⟨z, 3, none⟩ (.slice (A 3) (N 3) (C 3))).setCell ⟨z, 4, none⟩ (.int .i64 v.log)).setCell ⟨z, 5, none⟩ (.int .i64 v.next)).setCell ⟨z, 6, none⟩ (.int .i64 v.seq)).cell? ⟨x + 1, 1, none⟩ = some (.int .i64 v.log) := cell_of_row _ _ _ _ _ _ hr11f
      have yc2 : (((((((wr.setCell ⟨z, 0, none⟩ (.slice (A 0) (N 0) (C 0))).setCell ⟨z, 1, none⟩ (.slice (A 1) (N 1) (C 1))).setCell ⟨z, 2, none⟩ (.slice (A 2) (N 2) (C 2))).setCell ⟨z, 3, none⟩ (.slice (A 3) (N 3) (C 3))).setCell ⟨z, 4, none⟩ (.int .i64 v.log)).setCell ⟨z, 5, none⟩ (.int .i64 v.next)).setCell ⟨z, 6, none⟩ (.int .i64 v.seq)).cell? ⟨x + 1, 2, none⟩ = some (.int .i64 v.next) := cell_of_row _ _ _ _ _ _ hr11f
      have yc3 : (((((((wr.setCell ⟨z, 0, none⟩ (.slice (A 0) (N 0) (C 0))).setCell ⟨z, 1, none⟩ (.slice (A 1) (N 1) (C 1))).setCell ⟨z, 2, none⟩ (.slice (A 2) (N 2) (C 2))).setCell ⟨z, 3, none⟩ (.slice (A 3) (N 3) (C 3))).setCell ⟨z, 4, none⟩ (.int .i64 v.log)).setCell ⟨z, 5, none⟩ (.int .i64 v.next)).setCell ⟨z, 6, none⟩ (.int .i64 v.seq)).cell? ⟨x + 1, 3, none⟩ = some (.int .i64 v.seq) := cell_of_row _ _ _ _ _ _ hr11f
      have yd0 : wr.cell? ⟨z, 0, none⟩ = some (.slice none 0 0) := cell_of_row _ _ _ _ _ _ hzr.1
      have yd1 : wr.cell? ⟨z, 1, none⟩ = some (.slice none 0 0) := cell_of_row _ _ _ _ _ _ hzr.1
      have yd2 : wr.cell? ⟨z, 2, none⟩ = some (.slice none 0 0) := cell_of_row _ _ _ _ _ _ hzr.1
      have yd3 : wr.cell? ⟨z, 3, none⟩ = some (.slice none 0 0) := cell_of_row _ _ _ _ _ _ hzr.1
      have yd4 : wr.cell? ⟨z, 4, none⟩ = some (.int .i64 0) := cell_of_row _ _ _ _ _ _ hzr.1
      have yd5 : wr.cell? ⟨z, 5, none⟩ = some (.int .i64 0) := cell_of_row _ _ _ _ _ _ hzr.1
      have yd6 : wr.cell? ⟨z, 6, none⟩ = some (.int .i64 0) := cell_of_row _ _ _ _ _ _ hzr.1
      have ye0 : wr.frozen? ⟨z, 0, none⟩ = false := frozen_of_row _ _ _ _ _ hzr.1
      have ye1 : wr.frozen? ⟨z, 1, none⟩ = false := frozen_of_row _ _ _ _ _ hzr.1
      have ye2 : wr.frozen? ⟨z, 2, none⟩ = false := frozen_of_row _ _ _ _ _ hzr.1
      have ye3 : wr.frozen? ⟨z, 3, none⟩ = false := frozen_of_row _ _ _ _ _ hzr.1
      have ye4 : wr.frozen? ⟨z, 4, none⟩ = false := frozen_of_row _ _ _ _ _ hzr.1
      have ye5 : wr.frozen? ⟨z, 5, none⟩ = false := frozen_of_row _ _ _ _ _ hzr.1
      have ye6 : wr.frozen? ⟨z, 6, none⟩ = false := frozen_of_row _ _ _ _ _ hzr.1
      have yf0 : (((((((wr.setCell ⟨z, 0, none⟩ (.slice (A 0) (N 0) (C 0))).setCell ⟨z, 1, none⟩ (.slice (A 1) (N 1) (C 1))).setCell ⟨z, 2, none⟩ (.slice (A 2) (N 2) (C 2))).setCell ⟨z, 3, none⟩ (.slice (A 3) (N 3) (C 3))).setCell ⟨z, 4, none⟩ (.int .i64 v.log)).setCell ⟨z, 5, none⟩ (.int .i64 v.next)).setCell ⟨z, 6, none⟩ (.int .i64 v.seq)).cell? ⟨z + 1, 0, none⟩ = some (.slice none 0 0) := cell_of_row _ _ _ _ _ _ hrxf
      have yf1 : (((((((wr.setCell ⟨z, 0, none⟩ (.slice (A 0) (N 0) (C 0))).setCell ⟨z, 1, none⟩ (.slice (A 1) (N 1) (C 1))).setCell ⟨z, 2, none⟩ (.slice (A 2) (N 2) (C 2))).setCell ⟨z, 3, none⟩ (.slice (A 3) (N 3) (C 3))).setCell ⟨z, 4, none⟩ (.int .i64 v.log)).setCell ⟨z, 5, none⟩ (.int .i64 v.next)).setCell ⟨z, 6, none⟩ (.int .i64 v.seq)).cell? ⟨z + 1, 1, none⟩ = some (.int .i64 0) := cell_of_row _ _ _ _ _ _ hrxf
      have yf2 : (((((((wr.setCell ⟨z, 0, none⟩ (.slice (A 0) (N 0) (C 0))).setCell ⟨z, 1, none⟩ (.slice (A 1) (N 1) (C 1))).setCell ⟨z, 2, none⟩ (.slice (A 2) (N 2) (C 2))).setCell ⟨z, 3, none⟩ (.slice (A 3) (N 3) (C 3))).setCell ⟨z, 4, none⟩ (.int .i64 v.log)).setCell ⟨z, 5, none⟩ (.int .i64 v.next)).setCell ⟨z, 6, none⟩ (.int .i64 v.seq)).cell? ⟨z + 1, 2, none⟩ = some (.int .i64 0) := cell_of_row _ _ _ _ _ _ hrxf
      have yf3 : (((((((wr.setCell ⟨z, 0, none⟩ (.slice (A 0) (N 0) (C 0))).setCell ⟨z, 1, none⟩ (.slice (A 1) (N 1) (C 1))).setCell ⟨z, 2, none⟩ (.slice (A 2) (N 2) (C 2))).setCell ⟨z, 3, none⟩ (.slice (A 3) (N 3) (C 3))).setCell ⟨z, 4, none⟩ (.int .i64 v.log)).setCell ⟨z, 5, none⟩ (.int .i64 v.next)).setCell ⟨z, 6, none⟩ (.int .i64 v.seq)).cell? ⟨z + 1, 3, none⟩ = some (.int .i64 0) := cell_of_row _ _ _ _ _ _ hrxf
      have yg0 : (((((((wr.setCell ⟨z, 0, none⟩ (.slice (A 0) (N 0) (C 0))).setCell ⟨z, 1, none⟩ (.slice (A 1) (N 1) (C 1))).setCell ⟨z, 2, none⟩ (.slice (A 2) (N 2) (C 2))).setCell ⟨z, 3, none⟩ (.slice (A 3) (N 3) (C 3))).setCell ⟨z, 4, none⟩ (.int .i64 v.log)).setCell ⟨z, 5, none⟩ (.int .i64 v.next)).setCell ⟨z, 6, none⟩ (.int .i64 v.seq)).frozen? ⟨z + 1, 0, none⟩ = false := frozen_of_row _ _ _ _ _ hrxf
      have yg1 : (((((((wr.setCell ⟨z, 0, none⟩ (.slice (A 0) (N 0) (C 0))).setCell ⟨z, 1, none⟩ (.slice (A 1) (N 1) (C 1))).setCell ⟨z, 2, none⟩ (.slice (A 2) (N 2) (C 2))).setCell ⟨z, 3, none⟩ (.slice (A 3) (N 3) (C 3))).setCell ⟨z, 4, none⟩ (.int .i64 v.log)).setCell ⟨z, 5, none⟩ (.int .i64 v.next)).setCell ⟨z, 6, none⟩ (.int .i64 v.seq)).frozen? ⟨z + 1, 1, none⟩ = false := frozen_of_row _ _ _ _ _ hrxf
      have yg2 : (((((((wr.setCell ⟨z, 0, none⟩ (.slice (A 0) (N 0) (C 0))).setCell ⟨z, 1, none⟩ (.slice (A 1) (N 1) (C 1))).setCell ⟨z, 2, none⟩ (.slice (A 2) (N 2) (C 2))).setCell ⟨z, 3, none⟩ (.slice (A 3) (N 3) (C 3))).setCell ⟨z, 4, none⟩ (.int .i64 v.log)).setCell ⟨z, 5, none⟩ (.int .i64 v.next)).setCell ⟨z, 6, none⟩ (.int .i64 v.seq)).frozen? ⟨z + 1, 2, none⟩ = false := frozen_of_row _ _ _ _ _ hrxf
      have yg3 : (((((((wr.setCell ⟨z, 0, none⟩ (.slice (A 0) (N 0) (C 0))).setCell ⟨z, 1, none⟩ (.slice (A 1) (N 1) (C 1))).setCell ⟨z, 2, none⟩ (.slice (A 2) (N 2) (C 2))).setCell ⟨z, 3, none⟩ (.slice (A 3) (N 3) (C 3))).setCell ⟨z, 4, none⟩ (.int .i64 v.log)).setCell ⟨z, 5, none⟩ (.int .i64 v.next)).setCell ⟨z, 6, none⟩ (.int .i64 v.seq)).frozen? ⟨z + 1, 3, none⟩ = false := frozen_of_row _ _ _ _ _ hrxf
      have hq1 : (((((((((((wr.setCell ⟨z, 0, none⟩ (.slice (A 0) (N 0) (C 0))).setCell ⟨z, 1, none⟩ (.slice (A 1) (N 1) (C 1))).setCell ⟨z, 2, none⟩ (.slice (A 2) (N 2) (C 2))).setCell ⟨z, 3, none⟩ (.slice (A 3) (N 3) (C 3))).setCell ⟨z, 4, none⟩ (.int .i64 v.log)).setCell ⟨z, 5, none⟩ (.int .i64 v.next)).setCell ⟨z, 6, none⟩ (.int .i64 v.seq)).setCell ⟨z + 1, 0, none⟩ (.slice A5 n5 c5)).setCell ⟨z + 1, 1, none⟩ (.int .i64 v.log)).setCell ⟨z + 1, 2, none⟩ (.int .i64 v.next)).setCell ⟨z + 1, 3, none⟩ (.int .i64 v.seq)).heap[z]? = some (.cells #[.slice (A 0) (N 0) (C 0), .slice (A 1) (N 1) (C 1), .slice (A 2) (N 2) (C 2), .slice (A 3) (N 3) (C 3), .int .i64 v.log, .int .i64 v.next, .int .i64 v.seq] 26 (0, 0)) := (hgx z (by omega)).trans (by
        have := (Lib.heap_setCell_same (i := 6) (Lib.heap_setCell_same (i := 5) (Lib.heap_setCell_same (i := 4) (Lib.heap_setCell_same (i := 3) (Lib.heap_setCell_same (i := 2) (Lib.heap_setCell_same (i := 1) (Lib.heap_setCell_same (i := 0) hzr.1 (.slice (A 0) (N 0) (C 0))) (.slice (A 1) (N 1) (C 1))) (.slice (A 2) (N 2) (C 2))) (.slice (A 3) (N 3) (C 3))) (.int .i64 v.log)) (.int .i64 v.next)) (.int .i64 v.seq))
        simpa using this)
      have hq2 : (((((((((((wr.setCell ⟨z, 0, none⟩ (.slice (A 0) (N 0) (C 0))).setCell ⟨z, 1, none⟩ (.slice (A 1) (N 1) (C 1))).setCell ⟨z, 2, none⟩ (.slice (A 2) (N 2) (C 2))).setCell ⟨z, 3, none⟩ (.slice (A 3) (N 3) (C 3))).setCell ⟨z, 4, none⟩ (.int .i64 v.log)).setCell ⟨z, 5, none⟩ (.int .i64 v.next)).setCell ⟨z, 6, none⟩ (.int .i64 v.seq)).setCell ⟨z + 1, 0, none⟩ (.slice A5 n5 c5)).setCell ⟨z + 1, 1, none⟩ (.int .i64 v.log)).setCell ⟨z + 1, 2, none⟩ (.int .i64 v.next)).setCell ⟨z + 1, 3, none⟩ (.int .i64 v.seq)).heap[z + 1]? = some (.cells #[.slice A5 n5 c5, .int .i64 v.log, .int .i64 v.next, .int .i64 v.seq] 29 (0, 0)) := by
        have := (Lib.heap_setCell_same (i := 3) (Lib.heap_setCell_same (i := 2) (Lib.heap_setCell_same (i := 1) (Lib.heap_setCell_same (i := 0) hrxf (.slice A5 n5 c5)) (.int .i64 v.log)) (.int .i64 v.next)) (.int .i64 v.seq))
        simpa using this
      have hq3 : ∀ k, k ≠ z → k ≠ z + 1 → (((((((((((wr.setCell ⟨z, 0, none⟩ (.slice (A 0) (N 0) (C 0))).setCell ⟨z, 1, none⟩ (.slice (A 1) (N 1) (C 1))).setCell ⟨z, 2, none⟩ (.slice (A 2) (N 2) (C 2))).setCell ⟨z, 3, none⟩ (.slice (A 3) (N 3) (C 3))).setCell ⟨z, 4, none⟩ (.int .i64 v.log)).setCell ⟨z, 5, none⟩ (.int .i64 v.next)).setCell ⟨z, 6, none⟩ (.int .i64 v.seq)).setCell ⟨z + 1, 0, none⟩ (.slice A5 n5 c5)).setCell ⟨z + 1, 1, none⟩ (.int .i64 v.log)).setCell ⟨z + 1, 2, none⟩ (.int .i64 v.next)).setCell ⟨z + 1, 3, none⟩ (.int .i64 v.seq)).heap[k]? = wr.heap[k]? := fun k h1 h2 => (hgx k h2).trans (hfx k h1)
      have hq4 : Below 0 wr (((((((((((wr.setCell ⟨z, 0, none⟩ (.slice (A 0) (N 0) (C 0))).setCell ⟨z, 1, none⟩ (.slice (A 1) (N 1) (C 1))).setCell ⟨z, 2, none⟩ (.slice (A 2) (N 2) (C 2))).setCell ⟨z, 3, none⟩ (.slice (A 3) (N 3) (C 3))).setCell ⟨z, 4, none⟩ (.int .i64 v.log)).setCell ⟨z, 5, none⟩ (.int .i64 v.next)).setCell ⟨z, 6, none⟩ (.int .i64 v.seq)).setCell ⟨z + 1, 0, none⟩ (.slice A5 n5 c5)).setCell ⟨z + 1, 1, none⟩ (.int .i64 v.log)).setCell ⟨z + 1, 2, none⟩ (.int .i64 v.next)).setCell ⟨z + 1, 3, none⟩ (.int .i64 v.seq)) := ((((((((((((Below.refl 0 wr).setCell (p := ⟨z, 0, none⟩) (Nat.zero_le _) (.slice (A 0) (N 0) (C 0))).setCell (p := ⟨z, 1, none⟩) (Nat.zero_le _) (.slice (A 1) (N 1) (C 1))).setCell (p := ⟨z, 2, none⟩) (Nat.zero_le _) (.slice (A 2) (N 2) (C 2))).setCell (p := ⟨z, 3, none⟩) (Nat.zero_le _) (.slice (A 3) (N 3) (C 3))).setCell (p := ⟨z, 4, none⟩) (Nat.zero_le _) (.int .i64 v.log)).setCell (p := ⟨z, 5, none⟩) (Nat.zero_le _) (.int .i64 v.next)).setCell (p := ⟨z, 6, none⟩) (Nat.zero_le _) (.int .i64 v.seq)).setCell (p := ⟨z + 1, 0, none⟩) (Nat.zero_le _) (.slice A5 n5 c5)).setCell (p := ⟨z + 1, 1, none⟩) (Nat.zero_le _) (.int .i64 v.log)).setCell (p := ⟨z + 1, 2, none⟩) (Nat.zero_le _) (.int .i64 v.next)).setCell (p := ⟨z + 1, 3, none⟩) (Nat.zero_le _) (.int .i64 v.seq))
      have HQ := Lib.hid (two_drew hq1 hq2 hq3 hq4)
      clear hfx hgx hr11f hrxf hq1 hq2 hq3 hq4 hzr
      go_region
      generalize (((((((((((wr.setCell ⟨z, 0, none⟩ (.slice (A 0) (N 0) (C 0))).setCell ⟨z, 1, none⟩ (.slice (A 1) (N 1) (C 1))).setCell ⟨z, 2, none⟩ (.slice (A 2) (N 2) (C 2))).setCell ⟨z, 3, none⟩ (.slice (A 3) (N 3) (C 3))).setCell ⟨z, 4, none⟩ (.int .i64 v.log)).setCell ⟨z, 5, none⟩ (.int .i64 v.next)).setCell ⟨z, 6, none⟩ (.int .i64 v.seq)).setCell ⟨z + 1, 0, none⟩ (.slice A5 n5 c5)).setCell ⟨z + 1, 1, none⟩ (.int .i64 v.log)).setCell ⟨z + 1, 2, none⟩ (.int .i64 v.next)).setCell ⟨z + 1, 3, none⟩ (.int .i64 v.seq)).drew = w9 at HQ ⊢
      obtain ⟨hx1, hx2, hx3, hx4⟩ := HQ.out
      have HEND : Hid (VerIn w9 A N C v.L ∧ In5 w9 A5 v.L ∧ Below w.heap.size w w9) := Lib.hid ⟨ver_far HST.out.ver hx4.size fun k hk a ha _ => hx3 _ (by have := HST.out.fv k hk a ha; have := HX.out; omega) (by have := HST.out.fv k hk a ha; have := HX.out; omega), in5_far HST.out.in5 hx4.size fun q hq => (by
          cases hA5 : A5 with
          | none => rw [hA5] at hq; simp [fb] at hq
          | some a =>
            rw [hA5] at hq
            have h1 := HST.out.fr a hA5
            have h2 : q = a.block := by simpa [fb] using hq
            have := HX.out
            exact hx3 q (by omega) (by omega)), (HLOW.out _ HB.out).trans ⟨hx4.os, hx4.tape, hx4.output, hx4.size, fun k hk => hx3 k (by have := HX.out; omega) (by have := HX.out; omega)⟩⟩
      clear hx3 hx4 HQ ya0 ya1 ya2 ya3 ya4 ya5 ya6 yb0 yb1 yb2 yb3 yc0 yc1 yc2 yc3 yd0 yd1 yd2 yd3 yd4 yd5 yd6 ye0 ye1 ye2 ye3 ye4 ye5 ye6 yf0 yf1 yf2 yf3 yg0 yg1 yg2 yg3
      go_wp2_with fail
      refine bodyPost_ret (results_cells2 rfl _ w9 z (z + 1) _ _ rfl rfl (run_loadVar_row (P := Try.prog) _ _ _ _ _ _ _ hx1 Try.underlying26 rfl rfl) (run_loadVar_row (P := Try.prog) _ _ _ _ _ _ _ hx2 Try.underlying29 rfl rfl)) rfl ?_
      exact ⟨⟨A, N, C, A5, n5, c5, v, rfl, HEND.out.1, HEND.out.2.1, HST.out.len, by have := HVL.out; have := HT.out j; have := HST.out.len; omega, HST.out.ok, HNUM.out⟩, HEND.out.2.2⟩
end Go.Proofs.Ytffdiiolgflbkaa

