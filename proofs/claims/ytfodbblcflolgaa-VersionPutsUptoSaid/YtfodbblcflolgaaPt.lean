/- An edit is put: the document's. -/
import Derived.Test.YtfodbblcflolgaaPs
import Derived.Test.YtfodbblcflolgaaVarB
namespace Go.Proofs.Ytfodbblcflolgaa
open Go.RowKit
open VS
attribute [local go_sem ↓] Go.wp_at_zero Go.wp_at_succ


theorem rtext14_any (s : ByteArray) (w : World) (hs : s.size ≤ 140737488351232) :
    Calls Try.prog 45 #[.string s] w fun e w' => e = .returned (.string ⟨(textL s).toArray⟩) ∧ Below w.heap.size w w' := by
  have hen := VM.enc_len (n := (s.size : Int)) (by omega) (by omega)
  have he : (⟨(VM.enc s.size).toArray⟩ : ByteArray) ++ s = ⟨(textL s).toArray⟩ := by
    apply ByteArray.ext
    apply Array.toList_inj.1
    simp [textL]
  have HE := Lib.hid he
  obtain ⟨l, hl⟩ : ∃ l : List UInt8, VM.enc (s.size : Int) = l := ⟨_, rfl⟩
  have HP := Lib.hid (fun W => refPut_any (s.size : Int) W (by omega) (by omega))
  rw [hl] at hen HE HP
  obtain ⟨hen1, hen2⟩ := hen
  clear he hl
  go_enter Try.func45, Try.ntmps45
  go_wp2_with fail
  refine (HP.out _).mono ?_
  rintro e w1 ⟨rfl, hB⟩
  go_wp2
  go_ret
  exact ⟨by rw [HE.out]; rfl, hB⟩

set_option maxRecDepth 100000 in
set_option maxHeartbeats 4000000 in
theorem rput14_any (A : Option Addr) (n c : Nat) (D : Option Addr) (m d : Nat) (e : Ed) (w : World) (h : EdIn w A n c D m d e) (hs : (e.add.map M.wt).sum ≤ 1048576) (hn : n ≤ 1048576) (hm : m ≤ 1048576) :
    Calls Try.prog 17 #[.agg #[.slice A n c, .slice D m d, .int .i64 e.log, .int .i64 e.next, .int .i64 e.seq]] w fun r w' => r = .returned (.string ⟨(encE e).toArray⟩) ∧ Below w.heap.size w w' := by
  obtain ⟨hbd, hbm⟩ := put_bounds h.add.wf hs
  have HBD := Lib.hid hbd
  have HBM := Lib.hid hbm
  have HED := Lib.hid h
  have HN : Hid (e.add.length = n ∧ e.drop.length = m) := Lib.hid ⟨h.alen, h.dlen⟩
  have HE : Hid (encE e = (VM.enc e.log ++ VM.enc e.next ++ VM.enc e.seq ++ VM.enc (m : Int)) ++ encAll e.drop ++ VM.enc (n : Int) ++ encMs e.add) := Lib.hid (by unfold encE; rw [h.alen, h.dlen]; simp [encAll])
  have hla := (VM.enc_len h.log.1 h.log.2).2
  have hlb := (VM.enc_len h.next.1 h.next.2).2
  have hlc := (VM.enc_len h.seq.1 h.seq.2).2
  have hlm := (VM.enc_len (n := (m : Int)) (by omega) (by omega)).2
  have HLD : Hid (∀ j, (encAll (e.drop.take j)).length ≤ 10485760) := Lib.hid fun j => by
    have := encAll_len (e.drop.take j) fun z hz => h.drop.1 z (List.mem_of_mem_take hz)
    rw [List.length_take, h.dlen] at this
    omega
  have hln := (VM.enc_len (n := (n : Int)) (by omega) (by omega)).2
  have CA := Lib.hid (fun W => refPut_any e.log W h.log.1 h.log.2)
  have CB := Lib.hid (fun W => refPut_any e.next W h.next.1 h.next.2)
  have CC := Lib.hid (fun W => refPut_any e.seq W h.seq.1 h.seq.2)
  have CM := Lib.hid (fun W => refPut_any (m : Int) W (by omega) (by omega))
  have CN := Lib.hid (fun W => refPut_any (n : Int) W (by omega) (by omega))
  obtain ⟨F, hF⟩ : ∃ F, encE e = F := ⟨_, rfl⟩
  rw [hF] at HE ⊢
  obtain ⟨al, dl, lg, nx, sq⟩ := e
  simp only at HED HN HE HLD HBD HBM CA CB CC hla hlb hlc ⊢
  obtain ⟨XA, hXA⟩ : ∃ X, VM.enc lg = X := ⟨_, rfl⟩
  obtain ⟨XB, hXB⟩ : ∃ X, VM.enc nx = X := ⟨_, rfl⟩
  obtain ⟨XC, hXC⟩ : ∃ X, VM.enc sq = X := ⟨_, rfl⟩
  obtain ⟨XM, hXM⟩ : ∃ X, VM.enc (m : Int) = X := ⟨_, rfl⟩
  obtain ⟨XN, hXN⟩ : ∃ X, VM.enc (n : Int) = X := ⟨_, rfl⟩
  rw [hXA] at CA HE hla
  rw [hXB] at CB HE hlb
  rw [hXC] at CC HE hlc
  rw [hXM] at CM HE hlm
  rw [hXN] at CN HE hln
  have k1 : ¬ 9223372036854775807 < XA.length + XB.length := by omega
  have k2 : ¬ 9223372036854775807 < XA.length + XB.length + XC.length := by omega
  have k3 : ¬ 9223372036854775807 < XA.length + XB.length + XC.length + XM.length := by omega
  have HXL : Hid ((XA ++ XB ++ XC ++ XM).length ≤ 40 ∧ XN.length ≤ 10) := Lib.hid (by rw [List.length_append, List.length_append, List.length_append]; omega)
  clear h hs hF hXA hXB hXC hXM hXN hbd hbm hla hlb hlc hlm hln
  go_enter Try.func17, Try.ntmps17
  go_wp2_with fail
  have hb0 : Below w.heap.size w (w.alloc (.cells #[.slice A n c, .slice D m d, .int .i64 lg, .int .i64 nx, .int .i64 sq] 38)) := (Below.refl _ w).alloc (Nat.le_refl _) _
  have hrp := heap_alloc_new w (.cells #[.slice A n c, .slice D m d, .int .i64 lg, .int .i64 nx, .int .i64 sq] 38)
  generalize w.alloc (.cells #[.slice A n c, .slice D m d, .int .i64 lg, .int .i64 nx, .int .i64 sq] 38) = w0 at hb0 hrp ⊢
  obtain ⟨p, hp⟩ : ∃ p, w.heap.size = p := ⟨_, rfl⟩
  rw [hp] at hrp ⊢
  have hpl := (Array.getElem?_eq_some_iff.1 hrp).1
  obtain ⟨B, hB⟩ : ∃ B, w0.heap.size = B := ⟨_, rfl⟩
  have HB : Hid (w0.heap.size = B ∧ p < B ∧ w.heap.size = p) := Lib.hid ⟨hB, by omega, hp⟩
  have HROW : Hid (∀ W, Below B w0 W → W.heap[p]? = some (.cells #[.slice A n c, .slice D m d, .int .i64 lg, .int .i64 nx, .int .i64 sq] 38 (0, 0))) := Lib.hid fun W hW => (hW.block p (by omega)).trans hrp
  have HEDW : Hid (∀ W, Below B w0 W → EdIn W A n c D m d ⟨al, dl, lg, nx, sq⟩) := Lib.hid fun W hW => HED.out.below (hb0.trans (hW.mono (by omega)))
  have HEND : Hid (∀ W, Below B w0 W → Below w.heap.size w W) := Lib.hid fun W hW => hb0.trans (hW.mono (by omega))
  have HSTEP : Hid (∀ W W', Below B w0 W → Below W.heap.size W W' → Below B w0 W') := Lib.hid fun W W' h1 h2 => h1.trans (h2.mono (by have := h1.size; omega))
  have c0 : w0.cell? ⟨p, 0, none⟩ = some (.slice A n c) := cell_of_row _ _ _ _ _ _ hrp
  have c1 : w0.cell? ⟨p, 1, none⟩ = some (.slice D m d) := cell_of_row _ _ _ _ _ _ hrp
  have c2 : w0.cell? ⟨p, 2, none⟩ = some (.int .i64 lg) := cell_of_row _ _ _ _ _ _ hrp
  have c3 : w0.cell? ⟨p, 3, none⟩ = some (.int .i64 nx) := cell_of_row _ _ _ _ _ _ hrp
  have c4 : w0.cell? ⟨p, 4, none⟩ = some (.int .i64 sq) := cell_of_row _ _ _ _ _ _ hrp
  have HBW0 : Hid (Below B w0 w0) := Lib.hid (Below.refl _ _)
  clear hb0 hrp hp hpl hB
  go_wp2_with fail
  refine (CA.out _).mono ?_
  rintro r w1 ⟨rfl, hb⟩
  have HBW1 := Lib.hid (HSTEP.out _ _ HBW0.out hb)
  have d3 : w1.cell? ⟨p, 3, none⟩ = some (.int .i64 nx) := cell_of_row _ _ _ _ _ _ (HROW.out _ HBW1.out)
  clear hb c0 c1 c2 c3 c4
  go_wp2_with fail
  refine (CB.out _).mono ?_
  rintro r w2 ⟨rfl, hb⟩
  have HBW2 := Lib.hid (HSTEP.out _ _ HBW1.out hb)
  have d4 : w2.cell? ⟨p, 4, none⟩ = some (.int .i64 sq) := cell_of_row _ _ _ _ _ _ (HROW.out _ HBW2.out)
  clear hb d3
  go_wp2_with fail
  refine (CC.out _).mono ?_
  rintro r w3 ⟨rfl, hb⟩
  have HBW3 := Lib.hid (HSTEP.out _ _ HBW2.out hb)
  have d1 : w3.cell? ⟨p, 1, none⟩ = some (.slice D m d) := cell_of_row _ _ _ _ _ _ (HROW.out _ HBW3.out)
  clear hb d4
  go_wp2_with fail
  refine (CM.out _).mono ?_
  rintro r w4 ⟨rfl, hb⟩
  have HBW4 := Lib.hid (HSTEP.out _ _ HBW3.out hb)
  clear hb d1
  go_wp2_with fail
  obtain ⟨P0, hP0⟩ : ∃ P, XA ++ XB ++ XC ++ XM = P := ⟨_, rfl⟩
  have HP0 := Lib.hid hP0
  rw [hP0] at HXL HE
  clear hP0 k1 k2 k3
  go_loopw [7, 8] (fun s i wr => ∃ j : Nat, j ≤ m ∧ i = .int .i64 j ∧ s = .string ⟨(P0 ++ encAll (dl.take j)).toArray⟩ ∧ Below B w0 wr) (fun _ i _ => m - (intOf i).toNat)
  case atStart => exact ⟨0, by omega, rfl, by rw [str_append, str_append, str_append, HP0.out]; simp [encAll], HBW4.out⟩
  case round =>
    obtain ⟨j, hj, rfl, rfl, hbw⟩ := hrel
    have HBW := Lib.hid hbw
    have d1 : wr.cell? ⟨p, 1, none⟩ = some (.slice D m d) := cell_of_row _ _ _ _ _ _ (HROW.out _ hbw)
    by_cases hlt : j < m
    · have hjl : j < dl.length := by rw [HN.out.2]; exact hlt
      have hin5 : IntsIn wr wr.heap.size D dl := (HEDW.out _ hbw).drop
      obtain ⟨cb, off, hA, hbk, hc⟩ := hin5.2 (by omega)
      have c0 := hc j hjl
      have hz := hin5.1 _ (List.getElem_mem hjl)
      have HSN := Lib.hid (encAll_snoc dl j hjl)
      have hbj := HLD.out j
      obtain ⟨z, hzz⟩ : ∃ z, dl[j] = z := ⟨_, rfl⟩
      rw [hzz] at c0 hz HSN
      have hyl := (VM.enc_len hz.1 hz.2).2
      have HC := Lib.hid (fun W => refPut_any z W hz.1 hz.2)
      obtain ⟨L0, hL0⟩ : ∃ L, P0 ++ encAll (dl.take j) = L := ⟨_, rfl⟩
      have hll : L0.length ≤ 11000000 := by rw [← hL0, List.length_append]; have := HXL.out; omega
      obtain ⟨Y, hY⟩ : ∃ Y, VM.enc z = Y := ⟨_, rfl⟩
      have HEQ : Hid (P0 ++ encAll (dl.take (j + 1)) = L0 ++ Y) := Lib.hid (by rw [HSN.out, ← List.append_assoc, hL0, hY])
      rw [hY] at hyl HC
      rw [hL0]
      have k1 : ¬ 9223372036854775807 < L0.length + Y.length := by omega
      have g0 : (0 : Int) ≤ (j : Int) := by omega
      have g1 : (j : Int) < (m : Int) := by omega
      subst hA
      clear hc hzz hz hL0 hY hin5 hbw hbj hll hyl
      go_wp2_with fail
      refine (HC.out _).mono ?_
      rintro r w5 ⟨rfl, hb⟩
      have HBX := Lib.hid (HSTEP.out _ _ HBW.out hb)
      clear hb d1 c0
      go_wp2
      go_roundw
      case rel => exact ⟨j + 1, by omega, by go_num, by rw [HEQ.out, str_append], HBX.out⟩
      case measure => simp [intOf]; omega
    · obtain rfl : j = m := by omega
      have htk : dl.take j = dl := List.take_of_length_le (by rw [HN.out.2]; exact Nat.le_refl _)
      have hbj := HLD.out j
      rw [htk] at hbj ⊢
      obtain ⟨P1, hP1⟩ : ∃ P, P0 ++ encAll dl = P := ⟨_, rfl⟩
      have hl1 : P1.length ≤ 11000000 := by rw [← hP1, List.length_append]; have := HXL.out; omega
      have k1 : ¬ 9223372036854775807 < P1.length + XN.length := by have := HXL.out; omega
      rw [hP1] at HE ⊢
      have HL1 := Lib.hid hl1
      have d0 : wr.cell? ⟨p, 0, none⟩ = some (.slice A n c) := cell_of_row _ _ _ _ _ _ (HROW.out _ HBW.out)
      clear hbw htk hbj hP1 hl1
      go_wp2_with fail
      refine (CN.out _).mono ?_
      rintro r w6 ⟨rfl, hb⟩
      have HBW6 := Lib.hid (HSTEP.out _ _ HBW.out hb)
      clear hb d0 d1
      go_wp2_with fail
      obtain ⟨P2, hP2⟩ : ∃ P, P1 ++ XN = P := ⟨_, rfl⟩
      have HP2 := Lib.hid hP2
      have hl2 : P2.length ≤ 12000000 := by rw [← hP2, List.length_append]; have := HXL.out; have := HL1.out; omega
      rw [hP2] at HE
      have HL2 := Lib.hid hl2
      clear hP2 hl2 k1
      go_loopw [7, 11] (fun s i wr => ∃ j : Nat, j ≤ n ∧ i = .int .i64 j ∧ s = .string ⟨(P2 ++ encMs (al.take j)).toArray⟩ ∧ Below B w0 wr) (fun _ i _ => n - (intOf i).toNat)
      case atStart => exact ⟨0, by omega, rfl, by rw [str_append, HP2.out]; simp [encMs], HBW6.out⟩
      case round =>
        obtain ⟨i, hi, rfl, rfl, hbw⟩ := hrel
        have HBV := Lib.hid hbw
        have d0 : wr.cell? ⟨p, 0, none⟩ = some (.slice A n c) := cell_of_row _ _ _ _ _ _ (HROW.out _ hbw)
        by_cases hlt : i < n
        · have hil : i < al.length := by rw [HN.out.1]; exact hlt
          have hin5 : In5 wr A al := (HEDW.out _ hbw).add
          obtain ⟨cb, off, hA, hbk, hc⟩ := hin5.at_ (by omega)
          obtain ⟨c0, c1, c2, c3, c4⟩ := hc i hil
          have hwf := hin5.wf _ (List.getElem_mem hil)
          have hwt := HBM.out _ (List.getElem_mem hil)
          have HSN := Lib.hid (encMs_snoc al i hil)
          have hbj := HBD.out i
          obtain ⟨g, hg⟩ : ∃ g, al[i] = g := ⟨_, rfl⟩
          rw [hg] at c0 c1 c2 c3 c4 hwf hwt HSN
          obtain ⟨z0, z1, z2, z3, z4⟩ := g
          simp only [M.wt] at c0 c1 c2 c3 c4 hwt
          have hy0 := (VM.enc_len hwf.lvl.1 hwf.lvl.2).2
          have hy1 := (VM.enc_len hwf.file.1 hwf.file.2).2
          have hy2 := (VM.enc_len hwf.size.1 hwf.size.2).2
          have hy3 := textL_len z3 hwf.lo
          have hy4 := textL_len z4 hwf.hi
          have K0 := Lib.hid (fun W => refPut_any z0 W hwf.lvl.1 hwf.lvl.2)
          have K1 := Lib.hid (fun W => refPut_any z1 W hwf.file.1 hwf.file.2)
          have K2 := Lib.hid (fun W => refPut_any z2 W hwf.size.1 hwf.size.2)
          have K3 := Lib.hid (fun W => rtext14_any z3 W hwf.lo)
          have K4 := Lib.hid (fun W => rtext14_any z4 W hwf.hi)
          obtain ⟨L0, hL0⟩ : ∃ L, P2 ++ encMs (al.take i) = L := ⟨_, rfl⟩
          have hll : L0.length ≤ 65000000 := by rw [← hL0, List.length_append]; have := HL2.out; omega
          have HEQ : Hid (P2 ++ encMs (al.take (i + 1)) = L0 ++ VM.enc z0 ++ VM.enc z1 ++ VM.enc z2 ++ textL z3 ++ textL z4) := Lib.hid (by
            rw [HSN.out, ← List.append_assoc, hL0]
            show L0 ++ (VM.enc z0 ++ VM.enc z1 ++ VM.enc z2 ++ textL z3 ++ textL z4) = _
            simp)
          simp only at hy0 hy1 hy2
          obtain ⟨Y0, hY0⟩ : ∃ Y, VM.enc z0 = Y := ⟨_, rfl⟩
          obtain ⟨Y1, hY1⟩ : ∃ Y, VM.enc z1 = Y := ⟨_, rfl⟩
          obtain ⟨Y2, hY2⟩ : ∃ Y, VM.enc z2 = Y := ⟨_, rfl⟩
          obtain ⟨Y3, hY3⟩ : ∃ Y, textL z3 = Y := ⟨_, rfl⟩
          obtain ⟨Y4, hY4⟩ : ∃ Y, textL z4 = Y := ⟨_, rfl⟩
          rw [hY0] at hy0 K0
          rw [hY1] at hy1 K1
          rw [hY2] at hy2 K2
          rw [hY3] at hy3 K3
          rw [hY4] at hy4 K4
          rw [hY0, hY1, hY2, hY3, hY4] at HEQ
          rw [hL0]
          have k1 : ¬ 9223372036854775807 < L0.length + Y0.length := by omega
          have k2 : ¬ 9223372036854775807 < L0.length + Y0.length + Y1.length := by omega
          have k3 : ¬ 9223372036854775807 < L0.length + Y0.length + Y1.length + Y2.length := by omega
          have k4 : ¬ 9223372036854775807 < L0.length + Y0.length + Y1.length + Y2.length + Y3.length := by omega
          have k5 : ¬ 9223372036854775807 < L0.length + Y0.length + Y1.length + Y2.length + Y3.length + Y4.length := by omega
          have g0 : (0 : Int) ≤ (i : Int) := by omega
          have g1 : (i : Int) < (n : Int) := by omega
          have hal := (Below.refl wr.heap.size wr).alloc (Nat.le_refl _) (.cells #[.int .i64 z0, .int .i64 z1, .int .i64 z2, .string z3, .string z4] 66)
          have hry := heap_alloc_new wr (.cells #[.int .i64 z0, .int .i64 z1, .int .i64 z2, .string z3, .string z4] 66)
          subst hA
          clear hc hg hwf hwt hin5 hbw hbj hL0 hll hY0 hY1 hY2 hY3 hY4 hy0 hy1 hy2 hy3 hy4
          go_upto_region 17 with fail
          have HBa := Lib.hid (HSTEP.out _ _ HBV.out hal)
          generalize wr.alloc (.cells #[.int .i64 z0, .int .i64 z1, .int .i64 z2, .string z3, .string z4] 66) = wa at hal hry HBa ⊢
          obtain ⟨y, hy⟩ : ∃ y, wr.heap.size = y := ⟨_, rfl⟩
          rw [hy] at hry ⊢
          have HRYa : Hid (wa.heap[y]? = some (.cells #[.int .i64 z0, .int .i64 z1, .int .i64 z2, .string z3, .string z4] 66 (0, 0))) := Lib.hid hry
          have e0 : wa.cell? ⟨y, 0, none⟩ = some (.int .i64 z0) := cell_of_row _ _ _ _ _ _ hry
          clear hal hry hy c0 c1 c2 c3 c4 d0
          go_wp2_with fail
          refine (K0.out _).mono ?_
          rintro r wb ⟨rfl, hb⟩
          have HBb := Lib.hid (HSTEP.out _ _ HBa.out hb)
          have HRYb := Lib.hid ((hb.block y (Array.getElem?_eq_some_iff.1 HRYa.out).1).trans HRYa.out)
          have e1 : wb.cell? ⟨y, 1, none⟩ = some (.int .i64 z1) := cell_of_row _ _ _ _ _ _ HRYb.out
          clear hb e0
          go_wp2_with fail
          refine (K1.out _).mono ?_
          rintro r wc ⟨rfl, hb⟩
          have HBc := Lib.hid (HSTEP.out _ _ HBb.out hb)
          have HRYc := Lib.hid ((hb.block y (Array.getElem?_eq_some_iff.1 HRYb.out).1).trans HRYb.out)
          have e2 : wc.cell? ⟨y, 2, none⟩ = some (.int .i64 z2) := cell_of_row _ _ _ _ _ _ HRYc.out
          clear hb e1
          go_wp2_with fail
          refine (K2.out _).mono ?_
          rintro r wd ⟨rfl, hb⟩
          have HBd := Lib.hid (HSTEP.out _ _ HBc.out hb)
          have HRYd := Lib.hid ((hb.block y (Array.getElem?_eq_some_iff.1 HRYc.out).1).trans HRYc.out)
          have e3 : wd.cell? ⟨y, 3, none⟩ = some (.string z3) := cell_of_row _ _ _ _ _ _ HRYd.out
          clear hb e2
          go_wp2_with fail
          refine (K3.out _).mono ?_
          rintro r we ⟨rfl, hb⟩
          have HBe := Lib.hid (HSTEP.out _ _ HBd.out hb)
          have HRYe := Lib.hid ((hb.block y (Array.getElem?_eq_some_iff.1 HRYd.out).1).trans HRYd.out)
          have e4 : we.cell? ⟨y, 4, none⟩ = some (.string z4) := cell_of_row _ _ _ _ _ _ HRYe.out
          clear hb e3
          go_wp2_with fail
          refine (K4.out _).mono ?_
          rintro r wf ⟨rfl, hb⟩
          have HBf := Lib.hid (HSTEP.out _ _ HBe.out hb)
          clear hb e4
          go_wp2
          go_roundw
          case rel => exact ⟨i + 1, by omega, by go_num, by rw [HEQ.out, str_append, str_append, str_append, str_append, str_append], HBf.out⟩
          case measure => simp [intOf]; omega
        · obtain rfl : i = n := by omega
          have htk : al.take i = al := List.take_of_length_le (by rw [HN.out.1]; exact Nat.le_refl _)
          rw [htk, ← HE.out]
          have HFIN := Lib.hid (HEND.out _ HBV.out)
          clear htk hbw
          go_wp2
          go_ret
          exact ⟨rfl, HFIN.out⟩
end Go.Proofs.Ytfodbblcflolgaa
