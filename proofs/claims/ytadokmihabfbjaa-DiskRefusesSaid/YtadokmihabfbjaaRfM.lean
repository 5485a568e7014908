/- The reference: Sync, Append. Made by gen_rfm.py. -/
import Derived.Test.YtadokmihabfbjaaRfL
namespace Go.Proofs.Ytadokmihabfbjaa
open Go.RowKit Go.Maps
open DM

theorem RS.at_nat (t : RS) (m : Nat) (h : m < t.files.length) : t.at (m : Int) = t.files[m] := by
  unfold RS.at
  rw [show (m : Int).toNat = m by omega, List.getD_eq_getElem?_getD, List.getElem?_eq_getElem h]
  rfl
theorem RS.put_nat (t : RS) (m : Nat) (f : F) : t.put (m : Int) f = { t with files := t.files.set m f } := by
  unfold RS.put
  rw [show (m : Int).toNat = m by omega]

set_option maxRecDepth 100000 in
set_option maxHeartbeats 4000000 in
theorem rsync_any {B : Nat} {w : World} {r : Nat} {t : RS} {g : RV} (h : RRep B w r t g) (hB : B ≤ w.heap.size) (k : ByteArray) (few : RFew t) (bc : t.cutLeft ≤ 9223372036854775807) (bb : t.brk ≤ 9223372036854775807) (done : t.trap.1 = 1 → RFew t.trap.2 ∧ RCut t.trap.2) :
    Calls Try.prog 24 #[.pointer (some ⟨r, 0, none⟩), .string k] w (ROut B w r (t.sync k.data.toList)) := by
  have c5 : w.cell? ⟨r, 5, none⟩ = some (.bool t.off) := RHalf.cells h 5
  have c2 : w.cell? ⟨r, 2, none⟩ = some g.nv := RHalf.cells h 2
  by_cases ho : t.off = true
  · have hr : t.sync k.data.toList = (13, t) := by unfold RS.sync; rw [if_pos ho]
    rw [hr]
    rw [ho] at c5
    clear hr ho few done
    go_enter Try.func24, Try.ntmps24
    go_wp2
    go_ret
    exact ⟨rfl, ⟨_, h⟩, MovesR.refl _ _⟩
  · have hof : t.off = false := by simpa using ho
    have HF := Lib.hid (rfind_any g.nv t.names k w h.body.nrow (by have := few.names; omega))
    rw [rfind_eq] at HF
    rw [hof] at c5
    have H := Lib.hid h
    by_cases hf : rfind' t.names k.data.toList < 0
    · have hr : t.sync k.data.toList = (10, t) := by unfold RS.sync; rw [if_neg ho, if_pos hf]
      rw [hr]
      obtain ⟨f, hff⟩ : ∃ f, rfind' t.names k.data.toList = f := ⟨_, rfl⟩
      rw [hff] at HF hf
      clear hr ho hof few done h hff
      go_enter Try.func24, Try.ntmps24
      go_wp2_with fail
      refine HF.out.mono ?_
      rintro e w1 ⟨rfl, hB1⟩
      have HB1 := Lib.hid hB1
      clear hB1
      go_wp2
      go_ret
      exact ⟨rfl, ⟨_, RRep.below H.out HB1.out⟩, (MovesR.refl B w).of_below HB1.out hB⟩
    · obtain ⟨p, hp, hpe⟩ := rfind_mem hf
      obtain ⟨p0, p1⟩ := few.nfile p hp
      rw [hpe] at p0 p1
      obtain ⟨m, hm⟩ : ∃ m : Nat, rfind' t.names k.data.toList = (m : Int) := ⟨(rfind' t.names k.data.toList).toNat, by omega⟩
      have hmf : m < t.files.length := by omega
      have hat := RS.at_nat t m hmf
      have HT := Lib.hid (fun W (hW : RRep B W r t g) (hBW : B ≤ W.heap.size) => trap_any hW hBW bc bb)
      have hr : t.sync k.data.toList = (if t.trap.1 = 0 then { t.trap.2 with files := t.files.set m ⟨t.files[m].data, t.files[m].data.length⟩ } else t.trap.2).finish t.trap.1 := by
        unfold RS.sync
        rw [if_neg ho, if_neg hf, hm, hat, RS.put_nat]
        rfl
      rw [hr]
      rw [hm] at HF p1 hf
      have hf3 : t.trap.2.files = t.files := rfl
      have hdl := (few.file _ (List.getElem_mem hmf)).2
      have DONE := Lib.hid done
      have hc3 := trap_cases t
      obtain ⟨c, hc⟩ : ∃ c, t.trap.1 = c := ⟨_, rfl⟩
      obtain ⟨t2, ht2⟩ : ∃ t2, t.trap.2 = t2 := ⟨_, rfl⟩
      rw [hc, ht2] at HT DONE ⊢
      rw [ht2] at hf3
      rw [hc] at hc3
      have HC3 := Lib.hid hc3
      have g2 : (0 : Int) ≤ (m : Int) := by omega
      clear ho hof h few done hp hpe p0 hm hat hr hc ht2 bc bb
      by_cases hc0 : c = 0
      · subst hc0
        rw [if_pos rfl]
        have hmf2 : m < t2.files.length := by rw [hf3]; exact hmf
        have hL : fC (t.files.set m ⟨t.files[m].data, t.files[m].data.length⟩) = (fC t2.files).set (m * 2 + 1) (.int .i64 (t.files[m].data.length : Nat)) := by
          rw [hf3]; exact fC_sync t.files m hmf _
        have hLn : (t.files.set m ⟨t.files[m].data, t.files[m].data.length⟩).length = t2.files.length := by rw [hf3]; simp
        have HFC := Lib.hid (fun (W : World) (b n c : Nat) (hW : RRep B W r t2 g) (hv : g.fv = .slice (some ⟨b, 0, none⟩) n c) => And.intro (RRep.fileCell hW hv (m * 2 + 1) _ hL hLn) (RRep.fileKin hW hv))
        have HIN : Hid (∀ W, RRep B W r t2 g → ∃ b c, g.fv = .slice (some ⟨b, 0, none⟩) t.files.length c ∧ b < W.heap.size ∧ W.cell? ⟨b, m * 2, none⟩ = some (encS t.files[m].data) ∧ W.cell? ⟨b, m * 2 + 1, none⟩ = some (.int .i64 t.files[m].sync) ∧ (∀ j, W.frozen? ⟨b, j, none⟩ = false)) := Lib.hid fun W hW => by
          have := RRep.fileIn hW m hmf2
          simp only [hf3] at this
          exact this
        obtain ⟨s, hs, -, hsz⟩ := enc_size t.files[m].data
        obtain ⟨fs', hfs'⟩ : ∃ fs', t.files.set m ⟨t.files[m].data, t.files[m].data.length⟩ = fs' := ⟨_, rfl⟩
        rw [hs] at HIN
        rw [hfs', ← hsz] at HFC
        rw [hfs']
        rw [← hsz] at hdl
        obtain ⟨S0, hS0⟩ : ∃ S0, t.files[m].sync = S0 := ⟨_, rfl⟩
        rw [hS0] at HIN
        obtain ⟨fl, hfl⟩ : ∃ fl, t.files.length = fl := ⟨_, rfl⟩
        rw [hfl] at HIN p1
        clear hL hLn hs hsz hfs' hS0 hfl hf3 hmf2 hc3
        go_enter Try.func24, Try.ntmps24
        go_wp2_with fail
        refine HF.out.mono ?_
        rintro e w1 ⟨rfl, hB1⟩
        have HM1 := Lib.hid ((MovesR.refl B w).of_below hB1 hB)
        have hBW : B ≤ w1.heap.size := Nat.le_trans hB hB1.size
        have HT1 := Lib.hid (HT.out w1 (RRep.below H.out hB1) hBW)
        clear hB1 HT HF
        go_wp2_with fail
        refine HT1.out.mono ?_
        rintro e w2 ⟨rfl, hr2, hm2, -⟩
        have HM2 := Lib.hid (HM1.out.trans hm2)
        have hBW2 : B ≤ w2.heap.size := Nat.le_trans hBW hm2.size
        obtain ⟨fb, fc, hfv, hfb, z1, z2, hfr⟩ := HIN.out w2 hr2
        have c1 : w2.cell? ⟨r, 1, none⟩ = some (.slice (some ⟨fb, 0, none⟩) fl fc) := by rw [← hfv]; exact RHalf.cells hr2 1
        have f2 := hfr (m * 2 + 1)
        obtain ⟨hr3, hk3, hk3'⟩ := HFC.out w2.drew fb _ _ (RRep.drew hr2) hfv
        have HR3 := Lib.hid hr3
        have HM3 := Lib.hid (HM2.out.drew.grown (grownBy_setCell w2.drew ⟨fb, m * 2 + 1, none⟩ (.int .i64 (s.size : Nat))) hBW2 (fun k e => by cases e; exact ⟨hk3', Or.inl hk3⟩))
        have hB3 : B ≤ (w2.drew.setCell ⟨fb, m * 2 + 1, none⟩ (.int .i64 (s.size : Nat))).heap.size := by rw [setCell_size]; exact hBW2
        have HFI := Lib.hid (finish_any HR3.out hB3 0 (Or.inl rfl) (fun e => by cases e))
        clear hr2 hm2 HM1 HT1 HIN HFC hfv hfr hr3 hk3 hk3' HM2
        go_wp2_with fail
        go_region
        all_goals
          go_wp2_with fail
          refine HFI.out.mono ?_
          rintro e w5 ⟨rfl, hr5, hm5⟩
          have HR5 := Lib.hid hr5
          have HM5 := Lib.hid (HM3.out.trans hm5)
          clear hr5 hm5
          go_wp2
          go_ret
          exact ⟨rfl, HR5.out, HM5.out⟩
      · rw [if_neg hc0]
        have hcb : (c == 0) = false := by simp [hc0]
        clear hdl hf3 hc3
        go_enter Try.func24, Try.ntmps24
        go_wp2_with fail
        refine HF.out.mono ?_
        rintro e w1 ⟨rfl, hB1⟩
        have HM1 := Lib.hid ((MovesR.refl B w).of_below hB1 hB)
        have hBW : B ≤ w1.heap.size := Nat.le_trans hB hB1.size
        have HT1 := Lib.hid (HT.out w1 (RRep.below H.out hB1) hBW)
        clear hB1 HT HF
        go_wp2_with fail
        refine HT1.out.mono ?_
        rintro e w2 ⟨rfl, hr2, hm2, -⟩
        have HM3 := Lib.hid (HM1.out.trans hm2)
        have hBW2 : B ≤ w2.heap.size := Nat.le_trans hBW hm2.size
        have HFI := Lib.hid (finish_any hr2 hBW2 c HC3.out DONE.out)
        clear hr2 hm2 HM1 HT1 hc0
        go_wp2_with fail
        refine HFI.out.mono ?_
        rintro e w5 ⟨rfl, hr5, hm5⟩
        have HR5 := Lib.hid hr5
        have HM5 := Lib.hid (HM3.out.trans hm5)
        clear hr5 hm5
        go_wp2
        go_ret
        exact ⟨rfl, HR5.out, HM5.out⟩

theorem enc_app {d : Bs} {s j : ByteArray} (hd : s.data.toList = d) : encS (d ++ j.data.toList) = .string (s ++ j) := by
  unfold encS
  congr 1
  apply str_ext
  rw [str_app, hd]

set_option maxRecDepth 100000 in
set_option maxHeartbeats 4000000 in
theorem rappend_any {B : Nat} {w : World} {r : Nat} {t : RS} {g : RV} (h : RRep B w r t g) (hB : B ≤ w.heap.size) (k j : ByteArray) (hj : j.size ≤ 140737488355328) (few : RFew t) (bc : t.cutLeft ≤ 9223372036854775807) (bb : t.brk ≤ 9223372036854775807)
    (done : 0 ≤ rfind' t.names k.data.toList → ¬ 1048576 < ((t.at (rfind' t.names k.data.toList)).data.length + j.data.toList.length : Int) → t.trap.1 = 1 → RFew (t.trap.2.put (rfind' t.names k.data.toList) ⟨(t.at (rfind' t.names k.data.toList)).data ++ j.data.toList, (t.at (rfind' t.names k.data.toList)).sync⟩) ∧ RCut (t.trap.2.put (rfind' t.names k.data.toList) ⟨(t.at (rfind' t.names k.data.toList)).data ++ j.data.toList, (t.at (rfind' t.names k.data.toList)).sync⟩)) :
    Calls Try.prog 23 #[.pointer (some ⟨r, 0, none⟩), .string k, .string j] w (ROut B w r (t.append k.data.toList j.data.toList)) := by
  have c5 : w.cell? ⟨r, 5, none⟩ = some (.bool t.off) := RHalf.cells h 5
  have c2 : w.cell? ⟨r, 2, none⟩ = some g.nv := RHalf.cells h 2
  by_cases ho : t.off = true
  · have hr : t.append k.data.toList j.data.toList = (13, t) := by unfold RS.append; rw [if_pos ho]
    rw [hr]
    rw [ho] at c5
    clear hr ho few done
    go_enter Try.func23, Try.ntmps23
    go_wp2
    go_ret
    exact ⟨rfl, ⟨_, h⟩, MovesR.refl _ _⟩
  · have hof : t.off = false := by simpa using ho
    have HF := Lib.hid (rfind_any g.nv t.names k w h.body.nrow (by have := few.names; omega))
    rw [rfind_eq] at HF
    rw [hof] at c5
    have H := Lib.hid h
    by_cases hf : rfind' t.names k.data.toList < 0
    · have hr : t.append k.data.toList j.data.toList = (10, t) := by unfold RS.append; rw [if_neg ho, if_pos hf]
      rw [hr]
      obtain ⟨f, hff⟩ : ∃ f, rfind' t.names k.data.toList = f := ⟨_, rfl⟩
      rw [hff] at HF hf
      clear hr ho hof few done h hff
      go_enter Try.func23, Try.ntmps23
      go_wp2_with fail
      refine HF.out.mono ?_
      rintro e w1 ⟨rfl, hB1⟩
      have HB1 := Lib.hid hB1
      clear hB1
      go_wp2
      go_ret
      exact ⟨rfl, ⟨_, RRep.below H.out HB1.out⟩, (MovesR.refl B w).of_below HB1.out hB⟩
    · obtain ⟨p, hp, hpe⟩ := rfind_mem hf
      obtain ⟨p0, p1⟩ := few.nfile p hp
      rw [hpe] at p0 p1
      obtain ⟨m, hm⟩ : ∃ m : Nat, rfind' t.names k.data.toList = (m : Int) := ⟨(rfind' t.names k.data.toList).toNat, by omega⟩
      have hmf : m < t.files.length := by omega
      have hat := RS.at_nat t m hmf
      have HT := Lib.hid (fun W (hW : RRep B W r t g) (hBW : B ≤ W.heap.size) => trap_any hW hBW bc bb)
      have HU := Lib.hid (fun W (hW : RRep B W r t g) => rused_any hW few)
      have hub := t.usedTo_le 1048576 (fun n => few.lens n) t.names.length
      rw [t.usedTo_end] at hub
      have hn4 := few.names
      have hub2 : t.used ≤ 4294967296 := by
        have : t.names.length * 1048576 ≤ 4096 * 1048576 := Nat.mul_le_mul_right _ hn4
        omega
      have hr : t.append k.data.toList j.data.toList = if 1048576 < (t.files[m].data.length + j.data.toList.length : Int) ∨ t.room < (t.used + j.data.toList.length : Int) then (12, t) else (if t.trap.1 = 2 then t.trap.2 else { t.trap.2 with files := t.files.set m ⟨t.files[m].data ++ j.data.toList, t.files[m].sync⟩ }).finish t.trap.1 := by
        unfold RS.append
        rw [if_neg ho, if_neg hf, hm, hat, RS.put_nat]
        rfl
      rw [hr]
      have done := done (by omega)
      rw [hm, hat, RS.put_nat] at done
      rw [hm] at HF p1 hf
      have hf3 : t.trap.2.files = t.files := rfl
      have hdl := (few.file _ (List.getElem_mem hmf)).2
      have hc3 := trap_cases t
      have c0 : w.cell? ⟨r, 0, none⟩ = some (.int .i64 t.room) := RHalf.cells h 0
      obtain ⟨fb0, fc0, hfv0, hfb0, q1o, -, -⟩ := RRep.fileIn h m hmf
      have cf : w.cell? ⟨r, 1, none⟩ = some (.slice (some ⟨fb0, 0, none⟩) t.files.length fc0) := by rw [← hfv0]; exact RHalf.cells h 1
      have hrl := RHalf.lt h
      have hL : fC (t.files.set m ⟨t.files[m].data ++ j.data.toList, t.files[m].sync⟩) = (fC t.trap.2.files).set (m * 2) (encS (t.files[m].data ++ j.data.toList)) := fC_data t.files m hmf _
      have hLn : (t.files.set m ⟨t.files[m].data ++ j.data.toList, t.files[m].sync⟩).length = t.trap.2.files.length := by rw [hf3]; simp
      have HFC := Lib.hid (fun (W : World) (b n c : Nat) (hW : RRep B W r t.trap.2 g) (hv : g.fv = .slice (some ⟨b, 0, none⟩) n c) => And.intro (RRep.fileCell hW hv (m * 2) _ hL hLn) (RRep.fileKin hW hv))
      obtain ⟨s, hs, hsd, hsz⟩ := enc_size t.files[m].data
      have hsa := enc_app (j := j) hsd
      have HIN : Hid (∀ W, RRep B W r t.trap.2 g → ∃ b c, g.fv = .slice (some ⟨b, 0, none⟩) t.files.length c ∧ b < W.heap.size ∧ W.cell? ⟨b, m * 2, none⟩ = some (.string s) ∧ W.cell? ⟨b, m * 2 + 1, none⟩ = some (.int .i64 t.files[m].sync) ∧ (∀ j, W.frozen? ⟨b, j, none⟩ = false)) := Lib.hid fun W hW => by rw [← hs]; exact RRep.fileIn hW m (show m < t.trap.2.files.length from hmf)
      have q1 : w.cell? ⟨fb0, m * 2, none⟩ = some (.string s) := by rw [← hs]; exact q1o
      clear q1o
      rw [hsa] at HFC
      rw [← hsz] at hdl
      have hjl := size_list j
      have DONE : Hid (¬ (1048576 : Int) < (s.size : Int) + (j.size : Int) → t.trap.1 = 1 → RFew { t.trap.2 with files := t.files.set m ⟨t.files[m].data ++ j.data.toList, t.files[m].sync⟩ } ∧ RCut { t.trap.2 with files := t.files.set m ⟨t.files[m].data ++ j.data.toList, t.files[m].sync⟩ }) := Lib.hid fun hn => done (by rw [← hsz, hjl]; exact hn)
      have hbig : ((1048576 : Int) < (t.files[m].data.length + j.data.toList.length : Int) ∨ t.room < (t.used + j.data.toList.length : Int)) ↔ ((1048576 : Int) < (s.size : Int) + (j.size : Int) ∨ t.room < (t.used : Int) + (j.size : Int)) := by
        rw [← hsz, hjl]
      obtain ⟨fs', hfs'⟩ : ∃ fs', t.files.set m ⟨t.files[m].data ++ j.data.toList, t.files[m].sync⟩ = fs' := ⟨_, rfl⟩
      rw [hfs'] at HFC DONE ⊢
      simp only [hbig]
      obtain ⟨c, hc⟩ : ∃ c, t.trap.1 = c := ⟨_, rfl⟩
      obtain ⟨t2, ht2⟩ : ∃ t2, t.trap.2 = t2 := ⟨_, rfl⟩
      rw [hc, ht2] at HT DONE ⊢
      rw [ht2] at HFC HIN
      rw [hc] at hc3
      have HC3 := Lib.hid hc3
      obtain ⟨fl, hfl⟩ : ∃ fl, t.files.length = fl := ⟨_, rfl⟩
      rw [hfl] at HIN p1 cf
      obtain ⟨U, hU⟩ : ∃ U, t.used = U := ⟨_, rfl⟩
      rw [hU] at HU hub2 ⊢
      obtain ⟨RM, hRM⟩ : ∃ x, t.room = x := ⟨_, rfl⟩
      rw [hRM] at c0 ⊢
      have g2 : (0 : Int) ≤ (m : Int) := by omega
      have HCL : Hid (∀ W, Below w.heap.size w W → W.cell? ⟨r, 0, none⟩ = some (.int .i64 RM) ∧ W.cell? ⟨r, 1, none⟩ = some (.slice (some ⟨fb0, 0, none⟩) fl fc0) ∧ W.cell? ⟨fb0, m * 2, none⟩ = some (.string s)) := Lib.hid fun W hW =>
        ⟨(hW.cell (p := ⟨r, 0, none⟩) hrl).trans c0, (hW.cell (p := ⟨r, 1, none⟩) hrl).trans cf, (hW.cell (p := ⟨fb0, m * 2, none⟩) hfb0).trans q1⟩
      clear ho hof h few done hp hpe p0 hm hat hr hc ht2 bc bb hf3 hL hLn hs hsd hsz hsa hbig hfs' hfl hU hRM hub hn4 c0 cf q1 hfv0 hfb0 hrl hjl hc3
      have v1 : IntKind.i64.wrap ((s.size : Int) + (j.size : Int)) = (s.size : Int) + (j.size : Int) := wrapN _ (by omega) (by omega)
      have v2 : IntKind.i64.wrap ((U : Int) + (j.size : Int)) = (U : Int) + (j.size : Int) := wrapN _ (by omega) (by omega)
      have hcat : ¬ (9223372036854775807 < s.size + j.size) := by omega
      by_cases hb1 : (1048576 : Int) < (s.size : Int) + (j.size : Int)
      · rw [if_pos (Or.inl hb1)]
        clear HT HFC HIN DONE
        go_enter Try.func23, Try.ntmps23
        go_wp2_with fail
        refine HF.out.mono ?_
        rintro e w1 ⟨rfl, hB1⟩
        have HB1 := Lib.hid hB1
        have HU1 := Lib.hid (HU.out w1 (RRep.below H.out hB1))
        clear hB1 HU HF
        go_wp2_with fail
        refine HU1.out.mono ?_
        rintro e w2 ⟨rfl, hB2⟩
        have HB2 := Lib.hid (HB1.out.trans (hB2.mono HB1.out.size))
        obtain ⟨d0, d1, d2⟩ := HCL.out w2 HB2.out
        clear hB2 HU1 HB1 HCL
        go_wp2
        go_ret
        exact ⟨rfl, ⟨_, RRep.below H.out HB2.out⟩, (MovesR.refl B w).of_below HB2.out hB⟩
      · by_cases hb2 : RM < (U : Int) + (j.size : Int)
        · rw [if_pos (Or.inr hb2)]
          clear HT HFC HIN DONE
          go_enter Try.func23, Try.ntmps23
          go_wp2_with fail
          refine HF.out.mono ?_
          rintro e w1 ⟨rfl, hB1⟩
          have HB1 := Lib.hid hB1
          have HU1 := Lib.hid (HU.out w1 (RRep.below H.out hB1))
          clear hB1 HU HF
          go_wp2_with fail
          refine HU1.out.mono ?_
          rintro e w2 ⟨rfl, hB2⟩
          have HB2 := Lib.hid (HB1.out.trans (hB2.mono HB1.out.size))
          obtain ⟨d0, d1, d2⟩ := HCL.out w2 HB2.out
          clear hB2 HU1 HB1 HCL
          go_wp2
          go_ret
          exact ⟨rfl, ⟨_, RRep.below H.out HB2.out⟩, (MovesR.refl B w).of_below HB2.out hB⟩
        · rw [if_neg (by rintro (h1 | h1); exact hb1 h1; exact hb2 h1)]
          by_cases hc2 : c = 2
          · subst hc2
            rw [if_pos rfl]
            clear HFC HIN DONE
            go_enter Try.func23, Try.ntmps23
            go_wp2_with fail
            refine HF.out.mono ?_
            rintro e w1 ⟨rfl, hB1⟩
            have HB1 := Lib.hid hB1
            have HU1 := Lib.hid (HU.out w1 (RRep.below H.out hB1))
            clear hB1 HU HF
            go_wp2_with fail
            refine HU1.out.mono ?_
            rintro e w2 ⟨rfl, hB2⟩
            have HB2 := Lib.hid (HB1.out.trans (hB2.mono HB1.out.size))
            obtain ⟨d0, d1, d2⟩ := HCL.out w2 HB2.out
            have HM2 := Lib.hid ((MovesR.refl B w).of_below HB2.out hB)
            have hBW : B ≤ w2.heap.size := Nat.le_trans hB HB2.out.size
            have HT1 := Lib.hid (HT.out w2 (RRep.below H.out HB2.out) hBW)
            clear hB2 HU1 HB1 HCL HT
            go_wp2_with fail
            refine HT1.out.mono ?_
            rintro e w3 ⟨rfl, hr3, hm3, -⟩
            have HM3 := Lib.hid (HM2.out.trans hm3)
            have HFI := Lib.hid (finish_full hr3)
            clear hr3 hm3 HM2 HT1 HB2
            go_wp2_with fail
            refine HFI.out.mono ?_
            rintro e w5 ⟨rfl, hr5, hm5⟩
            have HR5 := Lib.hid hr5
            have HM5 := Lib.hid (HM3.out.trans hm5)
            clear hr5 hm5
            go_wp2
            go_ret
            exact ⟨rfl, HR5.out, HM5.out⟩
          · rw [if_neg hc2]
            have hcb : (c != 2) = true := by simp [hc2]
            have DONE2 := Lib.hid (DONE.out hb1)
            clear DONE
            clear hc2
            go_enter Try.func23, Try.ntmps23
            go_wp2_with fail
            refine HF.out.mono ?_
            rintro e w1 ⟨rfl, hB1⟩
            have HB1 := Lib.hid hB1
            have HU1 := Lib.hid (HU.out w1 (RRep.below H.out hB1))
            clear hB1 HU HF
            go_wp2_with fail
            refine HU1.out.mono ?_
            rintro e w2 ⟨rfl, hB2⟩
            have HB2 := Lib.hid (HB1.out.trans (hB2.mono HB1.out.size))
            obtain ⟨d0, d1, d2⟩ := HCL.out w2 HB2.out
            have HM2 := Lib.hid ((MovesR.refl B w).of_below HB2.out hB)
            have hBW : B ≤ w2.heap.size := Nat.le_trans hB HB2.out.size
            have HT1 := Lib.hid (HT.out w2 (RRep.below H.out HB2.out) hBW)
            clear hB2 HU1 HB1 HCL HT
            go_wp2_with fail
            refine HT1.out.mono ?_
            rintro e w3 ⟨rfl, hr3, hm3, -⟩
            have HM4 := Lib.hid (HM2.out.trans hm3)
            have hBW2 : B ≤ w3.heap.size := Nat.le_trans hBW hm3.size
            obtain ⟨fb, fc, hfv, hfb, z1, z2, hfr⟩ := HIN.out w3 hr3
            have c1 : w3.cell? ⟨r, 1, none⟩ = some (.slice (some ⟨fb, 0, none⟩) fl fc) := by rw [← hfv]; exact RHalf.cells hr3 1
            have f2 := hfr (m * 2)
            obtain ⟨hr4, hk3, hk3'⟩ := HFC.out w3.drew fb _ _ (RRep.drew hr3) hfv
            have HR4 := Lib.hid hr4
            have HM3 := Lib.hid (HM4.out.drew.grown (grownBy_setCell w3.drew ⟨fb, m * 2, none⟩ (.string (s ++ j))) hBW2 (fun k e => by cases e; exact ⟨hk3', Or.inl hk3⟩))
            have hB3 : B ≤ (w3.drew.setCell ⟨fb, m * 2, none⟩ (.string (s ++ j))).heap.size := by rw [setCell_size]; exact hBW2
            have HFI := Lib.hid (finish_any HR4.out hB3 c HC3.out DONE2.out)
            clear hr3 hm3 HM2 HT1 HIN HFC hfv hfr hr4 hk3 hk3' HM4 HB2 d0 d1 d2
            go_wp2_with fail
            go_region
            all_goals
              go_wp2_with fail
              refine HFI.out.mono ?_
              rintro e w5 ⟨rfl, hr5, hm5⟩
              have HR5 := Lib.hid hr5
              have HM5 := Lib.hid (HM3.out.trans hm5)
              clear hr5 hm5
              go_wp2
              go_ret
              exact ⟨rfl, HR5.out, HM5.out⟩
end Go.Proofs.Ytadokmihabfbjaa
