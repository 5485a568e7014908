/- The reference: Remove, Rename, Read. -/
import Derived.Test.YtadokmihabfbjaaRfK
namespace Go.Proofs.Ytadokmihabfbjaa
open Go.RowKit Go.Maps
open DM

theorem rfind_mem {l : RN} {k : Bs} (h : ¬ rfind' l k < 0) : ∃ p ∈ l, p.2 = rfind' l k := by
  unfold rfind' at h ⊢
  cases hf : l.find? (fun p => p.1 == k) with
  | none => rw [hf] at h; exact absurd (by decide) h
  | some p => exact ⟨p, List.mem_of_find?_eq_some hf, rfl⟩

theorem prs_new {w : World} {B : Nat} (cs : Array Value) (x : RN) (n : Nat) (hn : x.length = n) (hc : cs.toList = pc x) (hp : n ≤ maxLen) (hB : B ≤ w.heap.size) : Prs B (w.alloc (.cells cs 58)) (.slice (some ⟨w.heap.size, 0, none⟩) n n) x := by
  subst hn
  have hl := pc_len x
  refine ⟨hl, .inr ⟨w.heap.size, x.length, cs, rfl, hB, heap_alloc_new w _, Nat.le_refl _, hp, ?_, ?_⟩⟩
  · rw [← hl, ← hc]; simp
  · rw [hc, ← hl, List.take_of_length_le (Nat.le_refl _)]

theorem enc_str (k : ByteArray) : encS k.data.toList = .string k := by unfold encS; rw [str_mk]

/-- what is asked of a reference whose call may change names by x -/
structure RGood (t : RS) (x : RN) : Prop where
  few : RFew t
  bc : t.cutLeft ≤ 9223372036854775807
  bb : t.brk ≤ 9223372036854775807
  done : t.trap.1 = 1 → RFew (t.trap.2.did x) ∧ RCut (t.trap.2.did x)

theorem nofind {k : ByteArray} {l : RN} {f : Int} (h : rfind l k.data.toList = f) : rfind' l k.data.toList = f := h

set_option maxHeartbeats 2000000 in
theorem rremove_any {B : Nat} {w : World} {r : Nat} {t : RS} {g : RV} (h : RRep B w r t g) (hB : B ≤ w.heap.size) (k : ByteArray) (good : RGood t [(k.data.toList, -1)]) :
    Calls Try.prog 27 #[.pointer (some ⟨r, 0, none⟩), .string k] w (ROut B w r (t.remove k.data.toList)) := by
  have c5 : w.cell? ⟨r, 5, none⟩ = some (.bool t.off) := RHalf.cells h 5
  have c2 : w.cell? ⟨r, 2, none⟩ = some g.nv := RHalf.cells h 2
  by_cases ho : t.off = true
  · have hr : t.remove k.data.toList = (13, t) := by unfold RS.remove; rw [if_pos ho]
    rw [hr]
    rw [ho] at c5
    clear hr ho good
    go_enter Try.func27, Try.ntmps27
    go_wp2
    go_ret
    exact ⟨rfl, ⟨_, h⟩, MovesR.refl _ _⟩
  · have hof : t.off = false := by simpa using ho
    have HF := Lib.hid (rfind_any g.nv t.names k w h.body.nrow (by have := good.few.names; omega))
    rw [rfind_eq] at HF
    by_cases hf : rfind' t.names k.data.toList < 0
    · have hr : t.remove k.data.toList = (10, t) := by unfold RS.remove; rw [if_neg ho, if_pos hf]
      rw [hr]
      rw [hof] at c5
      have H := Lib.hid h
      obtain ⟨f, hff⟩ : ∃ f, rfind' t.names k.data.toList = f := ⟨_, rfl⟩
      rw [hff] at HF hf
      clear hr ho hof good h hff
      go_enter Try.func27, Try.ntmps27
      go_wp2_with fail
      refine HF.out.mono ?_
      rintro e w1 ⟨rfl, hB1⟩
      have HB1 := Lib.hid hB1
      clear hB1
      go_wp2
      go_ret
      exact ⟨rfl, ⟨_, RRep.below H.out HB1.out⟩, (MovesR.refl B w).of_below HB1.out hB⟩
    · have hr : t.remove k.data.toList = t.names' [(k.data.toList, -1)] := by unfold RS.remove; rw [if_neg ho, if_neg hf]
      rw [hr]
      rw [hof] at c5
      have H := Lib.hid h
      have HN : Hid (∀ W, RRep B W r t g → B ≤ W.heap.size → Calls Try.prog 55 #[.pointer (some ⟨r, 0, none⟩), .agg #[.slice (some ⟨W.heap.size, 0, none⟩) 1 1]] (W.alloc (.cells #[.string k, .int .i64 (-1)] 58)) (ROut B (W.alloc (.cells #[.string k, .int .i64 (-1)] 58)) r (t.names' [(k.data.toList, -1)]))) := Lib.hid fun W hW hBW =>
        names_any (RHalf.alloc hW _) (by simp; omega) good.few _ [(k.data.toList, -1)] (prs_new _ _ 1 rfl (by simp [pc, enc_str]) (by unfold maxLen; omega) hBW) (by simp) good.bc good.bb good.done
      obtain ⟨f, hff⟩ : ∃ f, rfind' t.names k.data.toList = f := ⟨_, rfl⟩
      rw [hff] at HF hf
      clear hr ho hof good h hff
      go_enter Try.func27, Try.ntmps27
      go_wp2_with fail
      refine HF.out.mono ?_
      rintro e w1 ⟨rfl, hB1⟩
      have HM1 := Lib.hid ((MovesR.refl B w).of_below hB1 hB)
      have hBW : B ≤ w1.heap.size := Nat.le_trans hB hB1.size
      have HN1 := Lib.hid (HN.out w1 (RRep.below H.out hB1) hBW)
      clear hB1 HN HF
      go_wp2_with fail
      refine HN1.out.mono ?_
      rintro e w2 ⟨rfl, hr2, hm2⟩
      have HR2 := Lib.hid hr2
      have HM2 := Lib.hid ((HM1.out.alloc hBW _).trans hm2)
      clear hr2 hm2
      go_wp2
      go_ret
      exact ⟨rfl, HR2.out, HM2.out⟩

set_option maxHeartbeats 4000000 in
theorem rrename_any {B : Nat} {w : World} {r : Nat} {t : RS} {g : RV} (h : RRep B w r t g) (hB : B ≤ w.heap.size) (j k : ByteArray) (good : RGood t [(k.data.toList, rfind' t.names j.data.toList), (j.data.toList, -1)]) (good0 : RGood t []) :
    Calls Try.prog 26 #[.pointer (some ⟨r, 0, none⟩), .string j, .string k] w (ROut B w r (t.rename j.data.toList k.data.toList)) := by
  have c5 : w.cell? ⟨r, 5, none⟩ = some (.bool t.off) := RHalf.cells h 5
  have c2 : w.cell? ⟨r, 2, none⟩ = some g.nv := RHalf.cells h 2
  by_cases ho : t.off = true
  · have hr : t.rename j.data.toList k.data.toList = (13, t) := by unfold RS.rename; rw [if_pos ho]
    rw [hr]
    rw [ho] at c5
    clear hr ho good good0
    go_enter Try.func26, Try.ntmps26
    go_wp2
    go_ret
    exact ⟨rfl, ⟨_, h⟩, MovesR.refl _ _⟩
  · have hof : t.off = false := by simpa using ho
    have HF := Lib.hid (rfind_any g.nv t.names j w h.body.nrow (by have := good.few.names; omega))
    rw [rfind_eq] at HF
    have H := Lib.hid h
    rw [hof] at c5
    by_cases hf : rfind' t.names j.data.toList < 0
    · have hr : t.rename j.data.toList k.data.toList = (10, t) := by unfold RS.rename; rw [if_neg ho, if_pos hf]
      rw [hr]
      obtain ⟨f, hff⟩ : ∃ f, rfind' t.names j.data.toList = f := ⟨_, rfl⟩
      rw [hff] at HF hf
      clear hr ho hof good good0 h hff
      go_enter Try.func26, Try.ntmps26
      go_wp2_with fail
      refine HF.out.mono ?_
      rintro e w1 ⟨rfl, hB1⟩
      have HB1 := Lib.hid hB1
      clear hB1
      go_wp2
      go_ret
      exact ⟨rfl, ⟨_, RRep.below H.out HB1.out⟩, (MovesR.refl B w).of_below HB1.out hB⟩
    · by_cases hk0 : k.data.toList = []
      · have hr : t.rename j.data.toList k.data.toList = (2, t) := by unfold RS.rename; rw [if_neg ho, if_neg hf, if_pos (Or.inl hk0)]
        rw [hr]
        have hk : k = ⟨#[]⟩ := str_ext hk0
        subst hk
        obtain ⟨f, hff⟩ : ∃ f, rfind' t.names j.data.toList = f := ⟨_, rfl⟩
        rw [hff] at HF hf
        clear hr ho hof good good0 h hff hk0
        go_enter Try.func26, Try.ntmps26
        go_wp2_with fail
        refine HF.out.mono ?_
        rintro e w1 ⟨rfl, hB1⟩
        have HB1 := Lib.hid hB1
        clear hB1
        go_wp2
        go_ret
        exact ⟨rfl, ⟨_, RRep.below H.out HB1.out⟩, (MovesR.refl B w).of_below HB1.out hB⟩
      · have hkn : (k.toList == []) = false := by
          rw [beq_eq_false_iff_ne, ByteArray.toList_eq]; exact hk0
        by_cases hk64 : 64 < k.data.toList.length
        · have hr : t.rename j.data.toList k.data.toList = (2, t) := by unfold RS.rename; rw [if_neg ho, if_neg hf, if_pos (Or.inr hk64)]
          rw [hr]
          have hks : (64 : Int) < (k.size : Int) := by have := size_list k; omega
          obtain ⟨f, hff⟩ : ∃ f, rfind' t.names j.data.toList = f := ⟨_, rfl⟩
          rw [hff] at HF hf
          clear hr ho hof good good0 h hff hk0 hk64
          go_enter Try.func26, Try.ntmps26
          go_wp2_with fail
          refine HF.out.mono ?_
          rintro e w1 ⟨rfl, hB1⟩
          have HB1 := Lib.hid hB1
          clear hB1
          go_wp2
          go_ret
          exact ⟨rfl, ⟨_, RRep.below H.out HB1.out⟩, (MovesR.refl B w).of_below HB1.out hB⟩
        · have hks : ¬ (64 : Int) < (k.size : Int) := by have := size_list k; omega
          by_cases hjk : j = k
          · subst hjk
            have hr : t.rename j.data.toList j.data.toList = t.names' [] := by unfold RS.rename; rw [if_neg ho, if_neg hf, if_neg (by rintro (h1 | h1); exact hk0 h1; exact hk64 h1), if_pos rfl]
            rw [hr]
            have HN : Hid (∀ W, RRep B W r t g → B ≤ W.heap.size → Calls Try.prog 55 #[.pointer (some ⟨r, 0, none⟩), .agg #[.slice none 0 0]] W (ROut B W r (t.names' []))) := Lib.hid fun W hW hBW =>
              names_any hW hBW good0.few _ [] (World.ownsRow_nil _ _ _ _) (by simp) good0.bc good0.bb good0.done
            have hjj : (j.toList == j.toList) = true := by simp
            obtain ⟨f, hff⟩ : ∃ f, rfind' t.names j.data.toList = f := ⟨_, rfl⟩
            rw [hff] at HF hf
            clear hr ho hof good good0 h hff hk0 hk64
            go_enter Try.func26, Try.ntmps26
            go_wp2_with fail
            refine HF.out.mono ?_
            rintro e w1 ⟨rfl, hB1⟩
            have HM1 := Lib.hid ((MovesR.refl B w).of_below hB1 hB)
            have hBW : B ≤ w1.heap.size := Nat.le_trans hB hB1.size
            have HN1 := Lib.hid (HN.out w1 (RRep.below H.out hB1) hBW)
            clear hB1 HN HF
            go_wp2_with fail
            refine HN1.out.mono ?_
            rintro e w2 ⟨rfl, hr2, hm2⟩
            have HR2 := Lib.hid hr2
            have HM2 := Lib.hid (HM1.out.trans hm2)
            clear hr2 hm2
            go_wp2
            go_ret
            exact ⟨rfl, HR2.out, HM2.out⟩
          · have hne : j.data.toList ≠ k.data.toList := fun e => hjk (str_ext e)
            have hr : t.rename j.data.toList k.data.toList = t.names' [(k.data.toList, rfind' t.names j.data.toList), (j.data.toList, -1)] := by unfold RS.rename; rw [if_neg ho, if_neg hf, if_neg (by rintro (h1 | h1); exact hk0 h1; exact hk64 h1), if_neg hne]
            rw [hr]
            have hjj : (j.toList == k.toList) = false := by rw [beq_eq_false_iff_ne, ByteArray.toList_eq, ByteArray.toList_eq]; exact hne
            have HN : Hid (∀ W, RRep B W r t g → B ≤ W.heap.size → Calls Try.prog 55 #[.pointer (some ⟨r, 0, none⟩), .agg #[.slice (some ⟨W.heap.size, 0, none⟩) 2 2]] (W.alloc (.cells #[.string k, .int .i64 (rfind' t.names j.data.toList), .string j, .int .i64 (-1)] 58)) (ROut B (W.alloc (.cells #[.string k, .int .i64 (rfind' t.names j.data.toList), .string j, .int .i64 (-1)] 58)) r (t.names' [(k.data.toList, rfind' t.names j.data.toList), (j.data.toList, -1)]))) := Lib.hid fun W hW hBW =>
              names_any (RHalf.alloc hW _) (by simp; omega) good.few _ [(k.data.toList, rfind' t.names j.data.toList), (j.data.toList, -1)] (prs_new _ _ 2 rfl (by simp [pc, enc_str]) (by unfold maxLen; omega) hBW) (by simp) good.bc good.bb good.done
            obtain ⟨f, hff⟩ : ∃ f, rfind' t.names j.data.toList = f := ⟨_, rfl⟩
            rw [hff] at HF hf HN ⊢
            clear hr ho hof good good0 h hff hk0 hk64 hne hjk
            go_enter Try.func26, Try.ntmps26
            go_wp2_with fail
            refine HF.out.mono ?_
            rintro e w1 ⟨rfl, hB1⟩
            have HM1 := Lib.hid ((MovesR.refl B w).of_below hB1 hB)
            have hBW : B ≤ w1.heap.size := Nat.le_trans hB hB1.size
            have HN1 := Lib.hid (HN.out w1 (RRep.below H.out hB1) hBW)
            clear hB1 HN HF
            go_wp2_with fail
            refine HN1.out.mono ?_
            rintro e w2 ⟨rfl, hr2, hm2⟩
            have HR2 := Lib.hid hr2
            have HM2 := Lib.hid ((HM1.out.alloc hBW _).trans hm2)
            clear hr2 hm2
            go_wp2
            go_ret
            exact ⟨rfl, HR2.out, HM2.out⟩

def RText (w : World) (x : Bs × Int) (e : Ending) (w' : World) : Prop := e = .returned (.tuple #[encS x.1, .int .i64 x.2]) ∧ Below w.heap.size w w'

set_option maxHeartbeats 2000000 in
theorem rread_any {B : Nat} {w : World} {r : Nat} {t : RS} {g : RV} (h : RRep B w r t g) (few : RFew t) (k : ByteArray) :
    Calls Try.prog 28 #[.pointer (some ⟨r, 0, none⟩), .string k] w (RText w (t.read k.data.toList)) := by
  have c5 : w.cell? ⟨r, 5, none⟩ = some (.bool t.off) := RHalf.cells h 5
  have c2 : w.cell? ⟨r, 2, none⟩ = some g.nv := RHalf.cells h 2
  by_cases ho : t.off = true
  · have hr : t.read k.data.toList = ([], 13) := by unfold RS.read; rw [if_pos ho]
    rw [hr]
    rw [ho] at c5
    clear hr ho few h
    go_enter Try.func28, Try.ntmps28
    go_wp2
    go_ret2
    exact ⟨rfl, Below.refl _ _⟩
  · have hof : t.off = false := by simpa using ho
    have HF := Lib.hid (rfind_any g.nv t.names k w h.body.nrow (by have := few.names; omega))
    rw [rfind_eq] at HF
    rw [hof] at c5
    by_cases hf : rfind' t.names k.data.toList < 0
    · have hr : t.read k.data.toList = ([], 10) := by unfold RS.read; rw [if_neg ho, if_pos hf]
      rw [hr]
      obtain ⟨f, hff⟩ : ∃ f, rfind' t.names k.data.toList = f := ⟨_, rfl⟩
      rw [hff] at HF hf
      clear hr ho hof few h hff
      go_enter Try.func28, Try.ntmps28
      go_wp2_with fail
      refine HF.out.mono ?_
      rintro e w1 ⟨rfl, hB1⟩
      have HB1 := Lib.hid hB1
      clear hB1
      go_wp2
      go_ret2
      exact ⟨rfl, HB1.out⟩
    · have hr : t.read k.data.toList = ((t.at (rfind' t.names k.data.toList)).data, 0) := by unfold RS.read; rw [if_neg ho, if_neg hf]
      rw [hr]
      obtain ⟨p, hp, hpe⟩ := rfind_mem hf
      obtain ⟨p0, p1⟩ := few.nfile p hp
      rw [hpe] at p0 p1
      obtain ⟨m, hm⟩ : ∃ m : Nat, rfind' t.names k.data.toList = (m : Int) := ⟨(rfind' t.names k.data.toList).toNat, by omega⟩
      rw [hm] at HF p1 hf ⊢
      have hmf : m < t.files.length := by omega
      obtain ⟨fb, fc, hfv, hfbw, y1, -, -⟩ := RRep.fileIn h m hmf
      have c1 : w.cell? ⟨r, 1, none⟩ = some (.slice (some ⟨fb, 0, none⟩) t.files.length fc) := by rw [← hfv]; exact RHalf.cells h 1
      have hat : t.at (m : Int) = t.files[m] := by
        unfold RS.at
        rw [show (m : Int).toNat = m by omega, List.getD_eq_getElem?_getD, List.getElem?_eq_getElem hmf]
        rfl
      rw [hat]
      obtain ⟨s, hs, -, -⟩ := enc_size t.files[m].data
      rw [hs] at y1
      have HC : Hid (∀ W, Below w.heap.size w W → W.cell? ⟨r, 1, none⟩ = some (.slice (some ⟨fb, 0, none⟩) t.files.length fc) ∧ W.cell? ⟨fb, m * 2, none⟩ = some (.string s)) := Lib.hid fun W hW =>
        ⟨(hW.cell (p := ⟨r, 1, none⟩) (RHalf.lt h)).trans c1, (hW.cell (p := ⟨fb, m * 2, none⟩) hfbw).trans y1⟩
      have HS := Lib.hid hs
      obtain ⟨fl, hfl⟩ : ∃ fl, t.files.length = fl := ⟨_, rfl⟩
      rw [hfl] at HC p1
      have g2 : (0 : Int) ≤ (m : Int) := by omega
      clear hr ho hof few h hp hpe p0 hm hfv c1 y1 hat hs hfl
      go_enter Try.func28, Try.ntmps28
      go_wp2_with fail
      refine HF.out.mono ?_
      rintro e w1 ⟨rfl, hB1⟩
      have HB1 := Lib.hid hB1
      obtain ⟨d1, d2⟩ := HC.out w1 hB1
      clear hB1 HC
      go_wp2
      go_ret2
      exact ⟨by rw [HS.out]; rfl, HB1.out⟩
end Go.Proofs.Ytadokmihabfbjaa
