/- An edit is put: the program's. -/
import Derived.Test.YtfodbblcflolgaaPr
import Derived.Test.YtfodbblcflolgaaPa
namespace Go.Proofs.Ytfodbblcflolgaa
open Go.RowKit
open VS
attribute [local go_sem ↓] Go.wp_at_zero Go.wp_at_succ

theorem ints_new (W : World) (l : List Int) (hw : ∀ z ∈ l, i64 z) (t : TypeId) : IntsIn (W.alloc (.cells (nums l).toArray t)) (W.alloc (.cells (nums l).toArray t)).heap.size (some ⟨W.heap.size, 0, none⟩) l := by
  refine ⟨hw, fun hn => ⟨_, 0, rfl, by simp, fun j hj => ?_⟩⟩
  have hr := heap_alloc_new W (.cells (nums l).toArray t)
  rw [cell_of_row _ _ _ _ _ _ hr]
  simp [nums, hj]

theorem wt_sum : ∀ {l : List M} {m : M}, m ∈ l → m.wt ≤ (l.map M.wt).sum
  | x :: l, m, hm => by
    rw [List.map_cons, List.sum_cons]
    rcases List.mem_cons.1 hm with rfl | hm
    · omega
    · have := wt_sum hm; omega
theorem put_bounds {l : List M} (ha : ∀ m ∈ l, m.wf) (hs : (l.map M.wt).sum ≤ 1048576) : (∀ j, (encMs (l.take j)).length ≤ 52428800) ∧ ∀ m ∈ l, m.wt ≤ 1048576 :=
  ⟨fun j => by
    have h1 := encMs_len (l.take j) fun m hm => ha m (List.mem_of_mem_take hm)
    have h2 := take_sum l j
    omega, fun m hm => Nat.le_trans (wt_sum hm) hs⟩

set_option maxRecDepth 100000 in
set_option maxHeartbeats 4000000 in
theorem put14_any (A : Option Addr) (n c : Nat) (D : Option Addr) (m d : Nat) (e : Ed) (w : World) (h : EdIn w A n c D m d e) (hs : (e.add.map M.wt).sum ≤ 1048576) (hn : n ≤ 1048576) (hm : m ≤ 1048576) :
    Calls Try.prog 16 #[.agg #[.slice A n c, .slice D m d, .int .i64 e.log, .int .i64 e.next, .int .i64 e.seq]] w fun r w' => r = .returned (.string ⟨(encE e).toArray⟩) ∧ Below w.heap.size w w' := by
  obtain ⟨hbd, hbm⟩ := put_bounds h.add.wf hs
  have HBD := Lib.hid hbd
  have HBM := Lib.hid hbm
  have HED := Lib.hid h
  have HN : Hid (e.add.length = n ∧ e.drop.length = m) := Lib.hid ⟨h.alen, h.dlen⟩
  have HE : Hid (encE e = encAll [e.log, e.next, e.seq, (m : Int)] ++ encAll e.drop ++ VM.enc (n : Int) ++ encMs e.add) := Lib.hid (by unfold encE; rw [h.alen, h.dlen])
  have HI4 : Hid (∀ z ∈ [e.log, e.next, e.seq, (m : Int)], i64 z) := Lib.hid (by
    intro z hz
    simp only [List.mem_cons, List.not_mem_nil, or_false] at hz
    rcases hz with rfl | rfl | rfl | rfl
    · exact h.log
    · exact h.next
    · exact h.seq
    · exact ⟨by omega, by omega⟩)
  have HL4 : Hid ((encAll [e.log, e.next, e.seq, (m : Int)]).length ≤ 40) := Lib.hid (by have := encAll_len _ HI4.out; simpa using this)
  have HLD : Hid ((encAll e.drop).length ≤ 10485760) := Lib.hid (by have := encAll_len e.drop h.drop.1; rw [h.dlen] at this; omega)
  have HN1 : Hid (1 ≤ (VM.enc (n : Int)).length) := Lib.hid (VM.enc_len (n := (n : Int)) (by omega) (by omega)).1
  have HLN : Hid ((VM.enc (n : Int)).length ≤ 10) := Lib.hid (VM.enc_len (n := (n : Int)) (by omega) (by omega)).2
  obtain ⟨F, hF⟩ : ∃ F, encE e = F := ⟨_, rfl⟩
  rw [hF] at HE ⊢
  obtain ⟨al, dl, lg, nx, sq⟩ := e
  simp only at HED HN HE HI4 HL4 HLD HLN HBD HBM ⊢
  obtain ⟨X4, hX4⟩ : ∃ X, encAll [lg, nx, sq, (m : Int)] = X := ⟨_, rfl⟩
  obtain ⟨XD, hXD⟩ : ∃ X, encAll dl = X := ⟨_, rfl⟩
  obtain ⟨XN, hXN⟩ : ∃ X, VM.enc (n : Int) = X := ⟨_, rfl⟩
  have C4 := Lib.hid (fun W A' (hW : IntsIn W W.heap.size A' [lg, nx, sq, (m : Int)]) => putAll_any A' 4 4 [lg, nx, sq, (m : Int)] W rfl hW (by omega))
  have CD := Lib.hid (fun W (hW : IntsIn W W.heap.size D dl) => putAll_any D m d dl W HN.out.2 hW (by omega))
  have CN := Lib.hid (fun W => put_any (n : Int) W (by omega) (by omega))
  rw [hX4] at C4 HE HL4
  rw [hXD] at CD HE HLD
  rw [hXN] at CN HE HLN HN1
  clear h hs hF hX4 hXD hXN hbd hbm
  have hl4 := HL4.out
  have hld := HLD.out
  have hln := HLN.out
  go_enter Try.func16, Try.ntmps16
  go_upto_region 2 with fail
  have hb0 : Below w.heap.size w ((w.alloc (.cells #[.slice A n c, .slice D m d, .int .i64 lg, .int .i64 nx, .int .i64 sq] 36)).alloc (.cells #[.pointer none, .slice none 0 0] 104)) := ((Below.refl _ w).alloc (Nat.le_refl _) _).alloc (by simp) _
  have hrp : ((w.alloc (.cells #[.slice A n c, .slice D m d, .int .i64 lg, .int .i64 nx, .int .i64 sq] 36)).alloc (.cells #[.pointer none, .slice none 0 0] 104)).heap[w.heap.size]? = some (.cells #[.slice A n c, .slice D m d, .int .i64 lg, .int .i64 nx, .int .i64 sq] 36 (0, 0)) := (Below.heap_alloc _ _ _ (by simp)).trans (heap_alloc_new w _)
  have hbl := bld_new (w.alloc (.cells #[.slice A n c, .slice D m d, .int .i64 lg, .int .i64 nx, .int .i64 sq] 36))
  have hsz : ((w.alloc (.cells #[.slice A n c, .slice D m d, .int .i64 lg, .int .i64 nx, .int .i64 sq] 36)).alloc (.cells #[.pointer none, .slice none 0 0] 104)).heap.size = w.heap.size + 2 := by simp
  rw [show (w.alloc (.cells #[.slice A n c, .slice D m d, .int .i64 lg, .int .i64 nx, .int .i64 sq] 36)).heap.size = w.heap.size + 1 by simp] at hbl
  generalize ((w.alloc (.cells #[.slice A n c, .slice D m d, .int .i64 lg, .int .i64 nx, .int .i64 sq] 36)).alloc (.cells #[.pointer none, .slice none 0 0] 104)) = w0 at hb0 hrp hbl hsz ⊢
  obtain ⟨p, hp⟩ : ∃ p, w.heap.size = p := ⟨_, rfl⟩
  obtain ⟨q, hq⟩ : ∃ q, p + 1 = q := ⟨_, rfl⟩
  have HP : Hid (w.heap.size = p ∧ p + 1 = q) := Lib.hid ⟨hp, hq⟩
  have HED0 := Lib.hid (HED.out.below hb0)
  rw [hp] at hrp hbl hsz ⊢
  rw [hq] at hbl ⊢
  have hp2 : p < q := by omega
  have HB0 := Lib.hid hb0
  have HZ : Hid (w0.heap.size = q + 1) := Lib.hid (by omega)
  have HROW : Hid (∀ W, Below q w0 W → W.heap[p]? = some (.cells #[.slice A n c, .slice D m d, .int .i64 lg, .int .i64 nx, .int .i64 sq] 36 (0, 0))) := Lib.hid fun W hW => (hW.block p hp2).trans hrp
  have HEDW : Hid (∀ W, Below q w0 W → EdIn W A n c D m d ⟨al, dl, lg, nx, sq⟩) := Lib.hid fun W hW => by
    have h1 := HED.out
    have hb : Below w.heap.size w W := hb0.trans (hW.mono (by omega))
    exact h1.below hb
  have HEND : Hid (∀ W, Below q w0 W → Below w.heap.size w W) := Lib.hid fun W hW => hb0.trans (hW.mono (by omega))
  have HBL0 := Lib.hid hbl
  have c0 : w0.cell? ⟨p, 0, none⟩ = some (.slice A n c) := cell_of_row _ _ _ _ _ _ hrp
  have c1 : w0.cell? ⟨p, 1, none⟩ = some (.slice D m d) := cell_of_row _ _ _ _ _ _ hrp
  have c2 : w0.cell? ⟨p, 2, none⟩ = some (.int .i64 lg) := cell_of_row _ _ _ _ _ _ hrp
  have c3 : w0.cell? ⟨p, 3, none⟩ = some (.int .i64 nx) := cell_of_row _ _ _ _ _ _ hrp
  have c4 : w0.cell? ⟨p, 4, none⟩ = some (.int .i64 sq) := cell_of_row _ _ _ _ _ _ hrp
  have HW0 := Lib.hid (ints_new w0 [lg, nx, sq, (m : Int)] HI4.out 2)
  have HAL : Hid (Below q w0 (w0.alloc (.cells #[.int .i64 lg, .int .i64 nx, .int .i64 sq, .int .i64 m] 2))) := Lib.hid ((Below.refl q w0).alloc (by omega) _)
  have HBLA : Hid (Bld q q [] (w0.alloc (.cells #[.int .i64 lg, .int .i64 nx, .int .i64 sq, .int .i64 m] 2))) := Lib.hid (hbl.kept ((Below.refl _ w0).alloc (Nat.le_refl _) _))
  clear hb0 hrp hbl hsz hp hq
  go_wp2_with fail
  refine (C4.out _ _ HW0.out).mono ?_
  rintro r w1 ⟨rfl, hb1⟩
  have HB1 : Hid (Below q w0 w1) := Lib.hid (HAL.out.trans (hb1.mono (by have := HZ.out; simp; omega)))
  have HBL1 := Lib.hid (HBLA.out.kept hb1)
  clear hb1 c0 c1 c2 c3 c4
  go_wp2_with fail
  refine (writeA_any q q [] X4 w1 HBL1.out (by simp; omega) (by have := HB1.out.size; have := HZ.out; omega)).mono ?_
  rintro r w2 ⟨rfl, hbl, hb, -⟩
  rw [List.nil_append] at hbl
  have HB2 : Hid (Below q w0 w2) := Lib.hid (HB1.out.trans hb)
  have HBL2 := Lib.hid hbl
  have d1 : w2.cell? ⟨p, 1, none⟩ = some (.slice D m d) := cell_of_row _ _ _ _ _ _ (HROW.out _ HB2.out)
  clear hb hbl
  go_wp2_with fail
  refine (CD.out _ (HEDW.out _ HB2.out).drop).mono ?_
  rintro r w3 ⟨rfl, hb3⟩
  have HB3 : Hid (Below q w0 w3) := Lib.hid (HB2.out.trans (hb3.mono (by have := HB2.out.size; have := HZ.out; omega)))
  have HBL3 := Lib.hid (HBL2.out.kept hb3)
  clear hb3 d1
  go_wp2_with fail
  refine (writeA_any q q X4 XD w3 HBL3.out (by omega) (by have := HB3.out.size; have := HZ.out; omega)).mono ?_
  rintro r w4 ⟨rfl, hbl, hb, -⟩
  have HB4 : Hid (Below q w0 w4) := Lib.hid (HB3.out.trans hb)
  have HBL4 := Lib.hid hbl
  have d0 : w4.cell? ⟨p, 0, none⟩ = some (.slice A n c) := cell_of_row _ _ _ _ _ _ (HROW.out _ HB4.out)
  clear hb hbl
  go_wp2_with fail
  refine (CN.out _).mono ?_
  rintro r w5 ⟨rfl, hb5⟩
  have HB5 : Hid (Below q w0 w5) := Lib.hid (HB4.out.trans (hb5.mono (by have := HB4.out.size; have := HZ.out; omega)))
  have HBL5 := Lib.hid (HBL4.out.kept hb5)
  clear hb5 d0
  go_wp2_with fail
  refine (writeA_any q q (X4 ++ XD) XN w5 HBL5.out (by rw [List.length_append]; omega) (by have := HB5.out.size; have := HZ.out; omega)).mono ?_
  rintro r w6 ⟨rfl, hbl, hb, -⟩
  have HB6 : Hid (Below q w0 w6) := Lib.hid (HB5.out.trans hb)
  have hpl : (X4 ++ XD ++ XN).length ≤ 10486000 := by rw [List.length_append, List.length_append]; omega
  obtain ⟨P, hP⟩ : ∃ P, X4 ++ XD ++ XN = P := ⟨_, rfl⟩
  rw [hP] at hbl HE hpl
  have HBL6 := Lib.hid hbl
  have HPL := Lib.hid hpl
  have HP1 : Hid (1 ≤ P.length) := Lib.hid (by rw [← hP, List.length_append, List.length_append]; have := HN1.out; omega)
  have d0 : w6.cell? ⟨p, 0, none⟩ = some (.slice A n c) := cell_of_row _ _ _ _ _ _ (HROW.out _ HB6.out)
  clear hb hbl hP hl4 hld hln hpl
  go_wp2_with fail
  clear d0
  go_loopw [30] (fun i wr => ∃ j : Nat, j ≤ n ∧ i = .int .i64 j ∧ Bld q q (P ++ encMs (al.take j)) wr ∧ Below q w0 wr) (fun i _ => n - (intOf i).toNat)
  case atStart => exact ⟨0, by omega, rfl, by simpa [encMs] using HBL6.out, HB6.out⟩
  case round =>
    obtain ⟨j, hj, rfl, hbl, hbw⟩ := hrel
    have HBL := Lib.hid hbl
    have HBW := Lib.hid hbw
    by_cases hlt : j < n
    · have hjl : j < al.length := by rw [HN.out.1]; exact hlt
      have hin5 : In5 wr A al := (HEDW.out _ hbw).add
      obtain ⟨cb, off, hA, hbk, hc⟩ := hin5.at_ (by omega)
      obtain ⟨c0, c1, c2, c3, c4⟩ := hc j hjl
      have hwf := hin5.wf _ (List.getElem_mem hjl)
      clear hin5
      have hwt := HBM.out _ (List.getElem_mem hjl)
      have HSN : Hid (encMs (al.take (j + 1)) = encMs (al.take j) ++ encM al[j]) := Lib.hid (encMs_snoc al j hjl)
      have hbj := HBD.out j
      obtain ⟨g, hg⟩ : ∃ g, al[j] = g := ⟨_, rfl⟩
      rw [hg] at c0 c1 c2 c3 c4 hwf hwt HSN
      obtain ⟨z0, z1, z2, z3, z4⟩ := g
      simp only [M.wt] at c0 c1 c2 c3 c4 hwt
      obtain ⟨L0, hL0⟩ : ∃ L, P ++ encMs (al.take j) = L := ⟨_, rfl⟩
      have hll : L0.length ≤ 63000000 := by rw [← hL0, List.length_append]; have := HPL.out; omega
      rw [hL0] at HBL
      have HI3 : Hid (∀ z ∈ [z0, z1, z2], i64 z) := Lib.hid (by
        intro z hz
        simp only [List.mem_cons, List.not_mem_nil, or_false] at hz
        rcases hz with rfl | rfl | rfl
        · exact hwf.lvl
        · exact hwf.file
        · exact hwf.size)
      have hx3 : (encAll [z0, z1, z2]).length ≤ 30 := by have := encAll_len _ HI3.out; simpa using this
      have hlo := textL_len z3 hwf.lo
      have hhi := textL_len z4 hwf.hi
      have HEQ : Hid (P ++ encMs (al.take (j + 1)) = L0 ++ encAll [z0, z1, z2] ++ textL z3 ++ textL z4) := Lib.hid (by
        rw [HSN.out, ← List.append_assoc, hL0]
        show L0 ++ (VM.enc z0 ++ VM.enc z1 ++ VM.enc z2 ++ textL z3 ++ textL z4) = _
        simp [encAll])
      have K3 := Lib.hid (fun W A' (hW : IntsIn W W.heap.size A' [z0, z1, z2]) => putAll_any A' 3 3 [z0, z1, z2] W rfl hW (by omega))
      have KL : Hid (∀ W, Calls Try.prog 42 #[.string z3] W fun e w' => e = .returned (.string ⟨(textL z3).toArray⟩) ∧ Below W.heap.size W w') := Lib.hid fun W => putText_any z3 W (by omega)
      have KH : Hid (∀ W, Calls Try.prog 42 #[.string z4] W fun e w' => e = .returned (.string ⟨(textL z4).toArray⟩) ∧ Below W.heap.size W w') := Lib.hid fun W => putText_any z4 W (by omega)
      obtain ⟨Y3, hY3⟩ : ∃ Y, encAll [z0, z1, z2] = Y := ⟨_, rfl⟩
      obtain ⟨YL, hYL⟩ : ∃ Y, textL z3 = Y := ⟨_, rfl⟩
      obtain ⟨YH, hYH⟩ : ∃ Y, textL z4 = Y := ⟨_, rfl⟩
      rw [hY3] at hx3 K3
      rw [hYL] at hlo KL
      rw [hYH] at hhi KH
      rw [hY3, hYL, hYH] at HEQ
      have HLEN : Hid (L0.length ≤ 63000000 ∧ Y3.length ≤ 30 ∧ YL.length ≤ 2000000 ∧ YH.length ≤ 2000000) := Lib.hid (by omega)
      have hal := (Below.refl wr.heap.size wr).alloc (Nat.le_refl _) (.cells #[.int .i64 z0, .int .i64 z1, .int .i64 z2, .string z3, .string z4] 81)
      have hry := heap_alloc_new wr (.cells #[.int .i64 z0, .int .i64 z1, .int .i64 z2, .string z3, .string z4] 81)
      subst hA
      clear hc hg hwf hwt hbj hL0 hll hx3 hlo hhi hY3 hYL hYH hbl hbw
      go_upto_region 8 with fail
      generalize wr.alloc (.cells #[.int .i64 z0, .int .i64 z1, .int .i64 z2, .string z3, .string z4] 81) = wa at hal hry ⊢
      obtain ⟨y, hy⟩ : ∃ y, wr.heap.size = y := ⟨_, rfl⟩
      have HQY : Hid (q + 1 ≤ y) := Lib.hid (by have := HBW.out.size; have := HZ.out; omega)
      have HBa : Hid (Below q w0 wa) := Lib.hid (HBW.out.trans (hal.mono (by have := HQY.out; omega)))
      have HBLa := Lib.hid (HBL.out.kept hal)
      rw [hy] at hry ⊢
      have HRY : Hid (wa.heap[y]? = some (.cells #[.int .i64 z0, .int .i64 z1, .int .i64 z2, .string z3, .string z4] 81 (0, 0))) := Lib.hid hry
      have HYA : Hid (∀ W, ApartB wa W → W.heap[y]? = some (.cells #[.int .i64 z0, .int .i64 z1, .int .i64 z2, .string z3, .string z4] 81 (0, 0))) := Lib.hid fun W hW => hW y _ _ _ HRY.out (by decide) (by decide)
      have e0 : wa.cell? ⟨y, 0, none⟩ = some (.int .i64 z0) := cell_of_row _ _ _ _ _ _ hry
      have e1 : wa.cell? ⟨y, 1, none⟩ = some (.int .i64 z1) := cell_of_row _ _ _ _ _ _ hry
      have e2 : wa.cell? ⟨y, 2, none⟩ = some (.int .i64 z2) := cell_of_row _ _ _ _ _ _ hry
      have HWa := Lib.hid (ints_new wa [z0, z1, z2] HI3.out 2)
      have HALa := Lib.hid ((Below.refl wa.heap.size wa).alloc (Nat.le_refl _) (.cells #[.int .i64 z0, .int .i64 z1, .int .i64 z2] 2))
      clear hal hry hy c0 c1 c2 c3 c4
      go_wp2_with fail
      refine (K3.out _ _ HWa.out).mono ?_
      rintro r w1' ⟨rfl, hb1⟩
      have hb1' : Below wa.heap.size wa w1' := HALa.out.trans (hb1.mono (by simp))
      have HBb : Hid (Below q w0 w1') := Lib.hid (HBa.out.trans (hb1'.mono (by have := HBa.out.size; have := HZ.out; omega)))
      have HBLb := Lib.hid (HBLa.out.kept hb1')
      have HAPb := Lib.hid (ApartB.below hb1')
      clear hb1 hb1' e0 e1 e2
      go_wp2_with fail
      refine (writeA_any q q L0 Y3 w1' HBLb.out (by have := HLEN.out; omega) (by have := HBb.out.size; have := HZ.out; omega)).mono ?_
      rintro r w2' ⟨rfl, hbl, hb, hap⟩
      have HBc : Hid (Below q w0 w2') := Lib.hid (HBb.out.trans hb)
      have HBLc := Lib.hid hbl
      have HAPc := Lib.hid (HAPb.out.trans hap)
      have e3 : w2'.cell? ⟨y, 3, none⟩ = some (.string z3) := cell_of_row _ _ _ _ _ _ (HYA.out _ HAPc.out)
      clear hb hbl hap
      go_wp2_with fail
      refine (KL.out _).mono ?_
      rintro r w3' ⟨rfl, hb1⟩
      have HBd : Hid (Below q w0 w3') := Lib.hid (HBc.out.trans (hb1.mono (by have := HBc.out.size; have := HZ.out; omega)))
      have HBLd := Lib.hid (HBLc.out.kept hb1)
      have HAPd := Lib.hid (HAPc.out.trans (ApartB.below hb1))
      clear hb1 e3
      go_wp2_with fail
      refine (writeA_any q q (L0 ++ Y3) YL w3' HBLd.out (by rw [List.length_append]; have := HLEN.out; omega) (by have := HBd.out.size; have := HZ.out; omega)).mono ?_
      rintro r w4' ⟨rfl, hbl, hb, hap⟩
      have HBe : Hid (Below q w0 w4') := Lib.hid (HBd.out.trans hb)
      have HBLe := Lib.hid hbl
      have HAPe := Lib.hid (HAPd.out.trans hap)
      have e4 : w4'.cell? ⟨y, 4, none⟩ = some (.string z4) := cell_of_row _ _ _ _ _ _ (HYA.out _ HAPe.out)
      clear hb hbl hap
      go_wp2_with fail
      refine (KH.out _).mono ?_
      rintro r w5' ⟨rfl, hb1⟩
      have HBf : Hid (Below q w0 w5') := Lib.hid (HBe.out.trans (hb1.mono (by have := HBe.out.size; have := HZ.out; omega)))
      have HBLf := Lib.hid (HBLe.out.kept hb1)
      clear hb1 e4
      go_wp2_with fail
      refine (writeA_any q q (L0 ++ Y3 ++ YL) YH w5' HBLf.out (by rw [List.length_append, List.length_append]; have := HLEN.out; omega) (by have := HBf.out.size; have := HZ.out; omega)).mono ?_
      rintro r w6' ⟨rfl, hbl, hb, -⟩
      have HBg : Hid (Below q w0 w6') := Lib.hid (HBf.out.trans hb)
      have HBLg : Hid (Bld q q (P ++ encMs (al.take (j + 1))) w6') := Lib.hid (by rw [HEQ.out]; exact hbl)
      clear hb hbl
      go_wp2
      go_roundw
      case rel => exact ⟨j + 1, by omega, by go_num, HBLg.out, HBg.out⟩
      case measure => simp [intOf]; omega
    · obtain rfl : j = n := by omega
      have htk : al.take j = al := List.take_of_length_le (by rw [HN.out.1]; exact Nat.le_refl _)
      rw [htk, ← HE.out] at HBL
      have hne : F ≠ [] := by
        rw [HE.out]
        intro h0
        have h1 := congrArg List.length h0
        have hp1 : 1 ≤ P.length := HP1.out
        rw [List.length_append, List.length_nil] at h1
        omega
      have HNE := Lib.hid hne
      clear hbl hbw htk hne
      go_wp2_with fail
      refine (bstring_any q q F wr HBL.out HNE.out).mono ?_
      rintro r w9 ⟨rfl, hb9⟩
      have HFIN := Lib.hid (HEND.out _ (HBW.out.trans hb9))
      clear hb9
      go_wp2
      go_ret
      exact ⟨rfl, HFIN.out⟩
end Go.Proofs.Ytfodbblcflolgaa
