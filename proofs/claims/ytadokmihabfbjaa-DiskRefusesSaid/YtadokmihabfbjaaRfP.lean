/- The reference: Part, Spoil. -/
import Derived.Test.YtadokmihabfbjaaRfO
namespace Go.Proofs.Ytadokmihabfbjaa
open Go.RowKit Go.Maps
open DM

theorem s_slice (W : World) (s : ByteArray) (a b : Nat) (h : a ≤ b) (hb : b ≤ s.size) :
    (Instr.slice 9 (.string s) (some (.int .i64 (a : Int))) (some (.int .i64 (b : Int))) none).run Try.prog W = .ok (.string (s.extract a b)) W := by
  have i0 : (0 : Int) ≤ (a : Int) := by omega
  have i1 : (0 : Int) ≤ (b : Int) := by omega
  have i3 : (a : Int) ≤ (b : Int) := by omega
  have i4 : (b : Int) ≤ (s.size : Int) := by omega
  simp [Instr.slice, run_underlying Try.underlying9, Instr.sliceBounds, run_sliceBound, i0, i1, i3, i4]

theorem read_le {t : RS} (few : RFew t) (k : Bs) : (t.read k).1.length ≤ 1048576 := by
  unfold RS.read
  split
  · simp
  · split
    · simp
    · exact few.lens _

set_option maxHeartbeats 4000000 in
theorem rpart_any {B : Nat} {w : World} {r : Nat} {t : RS} {g : RV} (h : RRep B w r t g) (few : RFew t) (k : ByteArray) (i n : Int) (hi : fits i) (hn : fits n) :
    Calls Try.prog 30 #[.pointer (some ⟨r, 0, none⟩), .string k, .int .i64 i, .int .i64 n] w (RText w (t.part k.data.toList i n)) := by
  have HR := Lib.hid (rread_any h few k)
  have hle := read_le few k.data.toList
  unfold RS.part
  unfold fits at hi hn
  obtain ⟨x, hx⟩ : ∃ x, t.read k.data.toList = x := ⟨_, rfl⟩
  rw [hx] at HR hle ⊢
  obtain ⟨D, e0⟩ := x
  simp only at hle ⊢
  obtain ⟨s, hs, hsd, hsz⟩ := enc_size D
  unfold RText at HR
  simp only [hs] at HR
  rw [← hsz] at hle
  clear h few hx
  by_cases he : e0 = 0
  · subst he
    rw [if_neg (by simp)]
    simp only [← hsz]
    by_cases hbad : i < 0 ∨ n < 0 ∨ (s.size : Int) < i ∨ (s.size : Int) - i < n
    · rw [if_pos hbad]
      by_cases h1 : i < 0
      · clear hbad
        go_enter Try.func30, Try.ntmps30
        go_wp2_with fail
        refine HR.out.mono ?_
        rintro e w1 ⟨rfl, hB1⟩
        have HB1 := Lib.hid hB1
        clear hB1
        go_wp2
        go_ret2
        exact ⟨rfl, HB1.out⟩
      · by_cases h2 : n < 0
        · clear hbad
          go_enter Try.func30, Try.ntmps30
          go_wp2_with fail
          refine HR.out.mono ?_
          rintro e w1 ⟨rfl, hB1⟩
          have HB1 := Lib.hid hB1
          clear hB1
          go_wp2
          go_ret2
          exact ⟨rfl, HB1.out⟩
        · by_cases h3 : (s.size : Int) < i
          · clear hbad
            go_enter Try.func30, Try.ntmps30
            go_wp2_with fail
            refine HR.out.mono ?_
            rintro e w1 ⟨rfl, hB1⟩
            have HB1 := Lib.hid hB1
            clear hB1
            go_wp2
            go_ret2
            exact ⟨rfl, HB1.out⟩
          · have h4 : (s.size : Int) - i < n := by omega
            have v0 : IntKind.i64.wrap ((s.size : Int) - i) = (s.size : Int) - i := wrapN _ (by omega) (by omega)
            clear hbad
            go_enter Try.func30, Try.ntmps30
            go_wp2_with fail
            refine HR.out.mono ?_
            rintro e w1 ⟨rfl, hB1⟩
            have HB1 := Lib.hid hB1
            clear hB1
            go_wp2
            go_ret2
            exact ⟨rfl, HB1.out⟩
    · rw [if_neg hbad]
      have h1 : ¬ i < 0 := fun h => hbad (Or.inl h)
      have h2 : ¬ n < 0 := fun h => hbad (Or.inr (Or.inl h))
      have h3 : ¬ (s.size : Int) < i := fun h => hbad (Or.inr (Or.inr (Or.inl h)))
      have h4 : ¬ (s.size : Int) - i < n := fun h => hbad (Or.inr (Or.inr (Or.inr h)))
      obtain ⟨I, rfl⟩ : ∃ I : Nat, i = (I : Int) := ⟨i.toNat, by omega⟩
      obtain ⟨N, rfl⟩ : ∃ N : Nat, n = (N : Int) := ⟨n.toNat, by omega⟩
      obtain ⟨J, hJ⟩ : ∃ J, I + N = J := ⟨_, rfl⟩
      have hJ2 : (I : Int) + (N : Int) = (J : Int) := by omega
      have hsl := fun W => s_slice W s I J (by omega) (by omega)
      have hres : encS (List.take N (List.drop I D)) = .string (s.extract I J) := by
        unfold encS
        congr 1
        apply str_ext
        rw [Lib.extract_data, hsd, ← hJ, show I + N - I = N by omega]
      have HRES := Lib.hid hres
      obtain ⟨te, hte⟩ : ∃ te, s.extract I J = te := ⟨_, rfl⟩
      rw [hte] at hsl HRES
      have v0 : IntKind.i64.wrap ((s.size : Int) - (I : Int)) = (s.size : Int) - (I : Int) := wrapN _ (by omega) (by omega)
      have v1 : IntKind.i64.wrap (J : Int) = (J : Int) := wrapN _ (by omega) (by omega)
      clear hbad hres hte hJ hs hsd hsz
      go_enter Try.func30, Try.ntmps30
      go_wp2_with fail
      refine HR.out.mono ?_
      rintro e w1 ⟨rfl, hB1⟩
      have HB1 := Lib.hid hB1
      clear hB1
      go_wp2
      go_ret2
      refine ⟨?_, HB1.out⟩
      show Ending.returned (.tuple #[.string te, .int .i64 0]) = Ending.returned (.tuple #[encS (List.take N (List.drop I D)), .int .i64 0])
      rw [HRES.out]
  · rw [if_pos he]
    have hne : (e0 != 0) = true := by simp [he]
    clear he
    go_enter Try.func30, Try.ntmps30
    go_wp2_with fail
    refine HR.out.mono ?_
    rintro e w1 ⟨rfl, hB1⟩
    have HB1 := Lib.hid hB1
    clear hB1
    go_wp2
    go_ret2
    exact ⟨rfl, HB1.out⟩

theorem spoil_row (w : World) (s : ByteArray) : ∃ (G : Nat) (W1 : World), (convert 9 79 (.string s)).run Try.prog w = .ok (.slice (some ⟨w.heap.size, 0, none⟩) s.size G) W1 ∧ Below w.heap.size w W1 ∧
    ∀ (J : Nat) (hJ : J < s.size), W1.cell? ⟨w.heap.size, J, none⟩ = some (.int .u8 (s[J].toNat : Int)) ∧ W1.frozen? ⟨w.heap.size, J, none⟩ = false ∧
    ∀ y : UInt8, (convert 79 9 (.slice (some ⟨w.heap.size, 0, none⟩) s.size G)).run Try.prog (W1.setCell ⟨w.heap.size, J, none⟩ (.int .u8 (y.toNat : Int))).drew = .ok (.string ⟨(s.data.toList.set J y).toArray⟩) (W1.setCell ⟨w.heap.size, J, none⟩ (.int .u8 (y.toNat : Int))).drew := by
  obtain ⟨G, W1, cs, fr, h1, h2, h3, h4⟩ := bytes_of_text w s
  refine ⟨G, W1, h1, h4, fun J hJ => ⟨?_, (h3 J hJ).2, fun y => ?_⟩⟩
  · rw [cell_of_row _ _ _ _ _ _ h2]
    exact (h3 J hJ).1
  · have hsz : (⟨(s.data.toList.set J y).toArray⟩ : ByteArray).size = s.size := by
      show (s.data.toList.set J y).toArray.size = s.data.size
      rw [List.size_toArray, List.length_set, Array.length_toList]
    have hg := heap_set_fr h2 J (.int .u8 (y.toNat : Int))
    have h := Lib.run_convert_whole (P := Try.prog) (W1.setCell ⟨w.heap.size, J, none⟩ (.int .u8 (y.toNat : Int))).drew 79 5 9 Try.underlying79 Try.underlying5 Try.underlying9 w.heap.size 0 ⟨(s.data.toList.set J y).toArray⟩ (fun i hi => by
      have hi' : i < s.size := by rw [← hsz]; exact hi
      rw [Nat.zero_add, cell_of_row _ _ _ _ _ _ (show (W1.setCell ⟨w.heap.size, J, none⟩ (.int .u8 (y.toNat : Int))).drew.heap[w.heap.size]? = _ from hg)]
      by_cases hij : i = J
      · subst hij
        have hlt : i < cs.size := (Array.getElem?_eq_some_iff.1 (h3 i hJ).1).1
        rw [Array.getElem?_setIfInBounds_self_of_lt hlt]
        have : (⟨(s.data.toList.set i y).toArray⟩ : ByteArray)[i] = y := by
          show (s.data.toList.set i y).toArray[i]'hi = y
          rw [List.getElem_toArray, List.getElem_set_self]
        rw [this]
      · rw [Array.getElem?_setIfInBounds_ne (fun e => hij e.symm), (h3 i hi').1]
        have : (⟨(s.data.toList.set J y).toArray⟩ : ByteArray)[i] = s[i] := by
          show (s.data.toList.set J y).toArray[i]'hi = s.data[i]'hi'
          rw [List.getElem_toArray, List.getElem_set_ne (fun e => hij e.symm), Array.getElem_toList]
        rw [this]) G
    rw [hsz] at h
    exact h

set_option maxRecDepth 100000 in
set_option maxHeartbeats 4000000 in
theorem rspoil_any {B : Nat} {w : World} {r : Nat} {t : RS} {g : RV} (h : RRep B w r t g) (hB : B ≤ w.heap.size) (few : RFew t) (k : ByteArray) (bit : Int) (hbit : fits bit) :
    Calls Try.prog 38 #[.pointer (some ⟨r, 0, none⟩), .string k, .int .i64 bit] w (RVoid B w r (t.spoil k.data.toList bit)) := by
  have c2 : w.cell? ⟨r, 2, none⟩ = some g.nv := RHalf.cells h 2
  have HF := Lib.hid (rfind_any g.nv t.names k w h.body.nrow (by have := few.names; omega))
  rw [rfind_eq] at HF
  have H := Lib.hid h
  by_cases hf : rfind' t.names k.data.toList < 0
  · have hr : t.spoil k.data.toList bit = t := by unfold RS.spoil; rw [if_pos hf]
    rw [hr]
    obtain ⟨f, hff⟩ : ∃ f, rfind' t.names k.data.toList = f := ⟨_, rfl⟩
    rw [hff] at HF hf
    clear hr few h hff
    go_enter Try.func38, Try.ntmps38
    go_wp2_with fail
    refine HF.out.mono ?_
    rintro e w1 ⟨rfl, hB1⟩
    have HB1 := Lib.hid hB1
    clear hB1
    go_wp2
    go_end0
    exact ⟨rfl, ⟨_, RRep.below H.out HB1.out⟩, (MovesR.refl B w).of_below HB1.out hB⟩
  · obtain ⟨p, hp, hpe⟩ := rfind_mem hf
    obtain ⟨p0, p1⟩ := few.nfile p hp
    rw [hpe] at p0 p1
    obtain ⟨m, hm⟩ : ∃ m : Nat, rfind' t.names k.data.toList = (m : Int) := ⟨(rfind' t.names k.data.toList).toNat, by omega⟩
    have hmf : m < t.files.length := by omega
    have hat := RS.at_nat t m hmf
    obtain ⟨s, hs, hsd, hsz⟩ := enc_size t.files[m].data
    have hdl := (few.file _ (List.getElem_mem hmf)).2
    rw [← hsz] at hdl
    have HIN : Hid (∀ W, RRep B W r t g → ∃ b c, g.fv = .slice (some ⟨b, 0, none⟩) t.files.length c ∧ b < W.heap.size ∧ W.cell? ⟨b, m * 2, none⟩ = some (.string s) ∧ W.cell? ⟨b, m * 2 + 1, none⟩ = some (.int .i64 t.files[m].sync) ∧ (∀ j, W.frozen? ⟨b, j, none⟩ = false)) := Lib.hid fun W hW => by rw [← hs]; exact RRep.fileIn hW m hmf
    have g2 : (0 : Int) ≤ (m : Int) := by omega
    by_cases hd : t.files[m].data = []
    · have hr : t.spoil k.data.toList bit = t := by unfold RS.spoil; rw [if_neg hf, hm, hat, if_pos hd]
      rw [hr]
      rw [hm] at HF p1 hf
      have h0 : s.size = 0 := by rw [hsz, hd]; rfl
      obtain ⟨S0, hS0⟩ : ∃ S0, t.files[m].sync = S0 := ⟨_, rfl⟩
      rw [hS0] at HIN
      obtain ⟨fl, hfl⟩ : ∃ fl, t.files.length = fl := ⟨_, rfl⟩
      rw [hfl] at HIN p1
      clear hr few h hp hpe p0 hm hat hs hsd hsz hd hS0 hfl hmf
      go_enter Try.func38, Try.ntmps38
      go_wp2_with fail
      refine HF.out.mono ?_
      rintro e w1 ⟨rfl, hB1⟩
      have HB1 := Lib.hid hB1
      have hr1 := RRep.below H.out hB1
      obtain ⟨fb, fc, hfv, -, z1, -, -⟩ := HIN.out w1 hr1
      have c1 : w1.cell? ⟨r, 1, none⟩ = some (.slice (some ⟨fb, 0, none⟩) fl fc) := by rw [← hfv]; exact RHalf.cells hr1 1
      clear hB1 hr1 hfv HIN
      go_wp2
      go_end0
      exact ⟨rfl, ⟨_, RRep.below H.out HB1.out⟩, (MovesR.refl B w).of_below HB1.out hB⟩
    · have hr : t.spoil k.data.toList bit = { t with files := t.files.set m ⟨flip t.files[m].data (rest bit (8 * t.files[m].data.length) / 8) (rest bit (8 * t.files[m].data.length) % 8), t.files[m].sync⟩ } := by
        unfold RS.spoil
        rw [if_neg hf, hm, hat, if_neg hd, RS.put_nat]
      rw [hr]
      rw [hm] at HF p1 hf
      rw [← hsz]
      have h0 : 0 < s.size := by rw [hsz]; exact List.length_pos_iff.2 hd
      have hR : rest bit (8 * s.size) < 8 * s.size := rest_lt _ (by omega)
      have HREM : Hid (∀ W, Calls Try.prog 58 #[.int .i64 bit, .int .i64 (8 * (s.size : Int))] W fun e w' => e = .returned (.int .i64 (rest bit (8 * s.size))) ∧ W = w') := Lib.hid fun W => by
        have := rrest_any bit (8 * s.size) W hbit (by omega) (by omega)
        rw [show ((8 * s.size : Nat) : Int) = 8 * (s.size : Int) from by omega] at this
        exact this
      obtain ⟨R, hRd⟩ : ∃ R, rest bit (8 * s.size) = R := ⟨_, rfl⟩
      rw [hRd] at hR HREM ⊢
      have q1 : (R : Int) / 8 = ((R / 8 : Nat) : Int) := by omega
      have q2 : (R : Int) % 8 = ((R % 8 : Nat) : Int) := by omega
      have hJ : R / 8 < s.size := by omega
      have i2 : R % 8 < 8 := by omega
      obtain ⟨J, hJd⟩ : ∃ J, R / 8 = J := ⟨_, rfl⟩
      obtain ⟨K, hKd⟩ : ∃ K, R % 8 = K := ⟨_, rfl⟩
      rw [hJd, hKd]
      rw [hJd] at q1 hJ
      rw [hKd] at q2 i2
      have hfb := flip_bit s[J] K i2
      have hget : t.files[m].data.getD J 0 = s[J] := by
        rw [← hsd]
        have hJ' : J < s.data.toList.length := by rw [size_list]; exact hJ
        rw [List.getD_eq_getElem?_getD, List.getElem?_eq_getElem hJ', Option.getD_some]
        rw [Array.getElem_toList]
        rfl
      have hfl' : flip t.files[m].data J K = s.data.toList.set J (s[J] ^^^ UInt8.ofNat (2 ^ K)) := by
        unfold DM.flip
        rw [hget, hsd]
      rw [hfl']
      obtain ⟨y, hy⟩ : ∃ y, s[J] ^^^ UInt8.ofNat (2 ^ K) = y := ⟨_, rfl⟩
      rw [hy] at hfb ⊢
      have hL : fC (t.files.set m ⟨s.data.toList.set J y, t.files[m].sync⟩) = (fC t.files).set (m * 2) (.string ⟨(s.data.toList.set J y).toArray⟩) := fC_data t.files m hmf _
      have hLn : (t.files.set m ⟨s.data.toList.set J y, t.files[m].sync⟩).length = t.files.length := by simp
      have HFC := Lib.hid (fun (W : World) (b n c : Nat) (hW : RRep B W r t g) (hv : g.fv = .slice (some ⟨b, 0, none⟩) n c) => And.intro (RRep.fileCell hW hv (m * 2) _ hL hLn) (RRep.fileKin hW hv))
      obtain ⟨fs', hfs'⟩ : ∃ fs', t.files.set m ⟨s.data.toList.set J y, t.files[m].sync⟩ = fs' := ⟨_, rfl⟩
      rw [hfs'] at HFC ⊢
      have HROW : Hid (∀ w : World, ∃ (G : Nat) (W1 : World) (x : UInt8), (convert 9 79 (.string s)).run Try.prog w = .ok (.slice (some ⟨w.heap.size, 0, none⟩) s.size G) W1 ∧ Below w.heap.size w W1 ∧ bits .xor .u8 (x.toNat : Int) ((2 : Int) ^ K % 256) = (y.toNat : Int) ∧
          W1.cell? ⟨w.heap.size, J, none⟩ = some (.int .u8 (x.toNat : Int)) ∧ W1.frozen? ⟨w.heap.size, J, none⟩ = false ∧
          (convert 79 9 (.slice (some ⟨w.heap.size, 0, none⟩) s.size G)).run Try.prog (W1.setCell ⟨w.heap.size, J, none⟩ (.int .u8 (y.toNat : Int))).drew = .ok (.string ⟨(s.data.toList.set J y).toArray⟩) (W1.setCell ⟨w.heap.size, J, none⟩ (.int .u8 (y.toNat : Int))).drew) := Lib.hid fun w => by
        obtain ⟨G, W1, h1, h2, h3⟩ := spoil_row w s
        obtain ⟨h4, h5, h6⟩ := h3 J hJ
        exact ⟨G, W1, s[J], h1, h2, hfb, h4, h5, h6 y⟩
      obtain ⟨S2, hS2⟩ : ∃ S2 : ByteArray, (⟨(s.data.toList.set J y).toArray⟩ : ByteArray) = S2 := ⟨_, rfl⟩
      rw [hS2] at HROW HFC
      obtain ⟨S0, hS0⟩ : ∃ S0, t.files[m].sync = S0 := ⟨_, rfl⟩
      rw [hS0] at HIN
      obtain ⟨fl, hfl⟩ : ∃ fl, t.files.length = fl := ⟨_, rfl⟩
      rw [hfl] at HIN p1
      have i0 : (0 : Int) ≤ (J : Int) := by omega
      have i1 : (J : Int) < (s.size : Int) := by omega
      have i3 : ¬ s.size = 0 := by omega
      clear hr few h hp hpe p0 hm hat hs hsd hsz hd hS0 hfl hRd hJd hKd hfb hget hfl' hy hL hLn hfs' hS2
      go_enter Try.func38, Try.ntmps38
      go_wp2_with fail
      refine HF.out.mono ?_
      rintro e w1 ⟨rfl, hB1⟩
      have hr1 := RRep.below H.out hB1
      have HR1 := Lib.hid hr1
      have HM1 := Lib.hid ((MovesR.refl B w).of_below hB1 hB)
      have hBW : B ≤ w1.heap.size := Nat.le_trans hB hB1.size
      obtain ⟨fb, fc, hfv, hfbw, z1, -, hfr⟩ := HIN.out w1 hr1
      have c1 : w1.cell? ⟨r, 1, none⟩ = some (.slice (some ⟨fb, 0, none⟩) fl fc) := by rw [← hfv]; exact RHalf.cells hr1 1
      have hrl := RHalf.lt hr1
      have HFV := Lib.hid hfv
      clear hB1 hr1 hfv HF
      go_wp2_with fail
      refine (HREM.out _).mono ?_
      rintro e w2 ⟨rfl, rfl⟩
      obtain ⟨G, W1, x, a1, a2, a3, a4, a5, a6⟩ := HROW.out w1
      have b2 := a2.setCell (p := ⟨w1.heap.size, J, none⟩) (Nat.le_refl _) (.int .u8 (y.toNat : Int))
      obtain ⟨W2, hW2⟩ : ∃ W2, W1.setCell ⟨w1.heap.size, J, none⟩ (.int .u8 (y.toNat : Int)) = W2 := ⟨_, rfl⟩
      rw [hW2] at a6 b2
      have HW2 := Lib.hid hW2
      have HM2 := Lib.hid (HM1.out.of_below b2 hBW)
      have hBW2 : B ≤ W2.heap.size := Nat.le_trans hBW b2.size
      have hr2 := RRep.below HR1.out b2
      have d1 : W2.cell? ⟨r, 1, none⟩ = some (.slice (some ⟨fb, 0, none⟩) fl fc) := (b2.cell (p := ⟨r, 1, none⟩) hrl).trans c1
      obtain ⟨fb', fc', hfv', -, z2, -, hfr2⟩ := HIN.out W2 hr2
      have hfe := HFV.out.symm.trans hfv'
      injection hfe with he1 he2 he3
      injection he1 with he1
      injection he1 with he1
      subst he1
      have f2 := hfr2 (m * 2)
      obtain ⟨hr3, hk3, hk3'⟩ := HFC.out W2.drew fb _ _ (RRep.drew hr2) HFV.out
      have HR3 := Lib.hid hr3
      have HM3 := Lib.hid (HM2.out.drew.grown (grownBy_setCell W2.drew ⟨fb, m * 2, none⟩ (.string S2)) hBW2 (fun k e => by cases e; exact ⟨hk3', Or.inl hk3⟩))
      clear a2 HREM hr2 hfr hfr2 hfv' hr3 hk3 hk3' hW2 b2 he2 he3 HIN HFC HROW
      go_wp2_with fail
      rw [HW2.out]
      clear HW2 a4 a5 a1
      go_region
      all_goals
        go_wp2
        go_end0
        exact ⟨rfl, ⟨_, HR3.out⟩, HM3.out⟩
end Go.Proofs.Ytadokmihabfbjaa
