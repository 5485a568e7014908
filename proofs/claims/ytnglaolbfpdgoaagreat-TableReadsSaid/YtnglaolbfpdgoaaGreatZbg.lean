/- Texts joined by bundle.py: Rb. -/
import Derived.Test.YtnglaolbfpdgoaaGreatZbf
import Derived.Test.YtnglaolbfpdgoaaGreatZbc
import Derived.Test.YtnglaolbfpdgoaaGreatZbd

/- The document's side: the blocks that an index tells. -/
namespace Go.Proofs.YtnglaolbfpdgoaaGreat
open Go.RowKit
open SK
open TB (Bs Sp)

theorem info_rspan : (Tryz.prog.info? 80).map (fun i => (i.zero, i.size, i.bytes)) = some (some (.agg #[.string ⟨#[]⟩, .int .i64 0, .int .i64 0]), 3, 32) := by kernel_rfl

theorem lt_nil (k : ByteArray) : TB.lt k ⟨#[]⟩ = false := by
  unfold TB.lt
  cases k.data.toList with
  | nil => rfl
  | cons a r => rfl

/-- the spans that a reading tells, or its error -/
def RSpsOut (w : World) (r : Except Int (List Sp)) (e : Ending) (w' : World) : Prop :=
  Below w.heap.size w w' ∧ match r with
    | .ok ss => ∃ A c, e = .returned (.tuple #[.slice A ss.length c, .int .i64 0]) ∧ SpsIn w' A ss ∧ ∀ x ∈ fb A, w.heap.size ≤ x ∧ x < w'.heap.size
    | .error c => e = .returned (.tuple #[.slice none 0 0, .int .i64 c])

set_option maxRecDepth 100000 in
set_option maxHeartbeats 8000000 in
theorem rspans_any (s : ByteArray) (place : Nat) (w : World) (hs : s.size ≤ 65535) (hpl : place ≤ 281474976710656) :
    Calls Tryz.prog 68 #[.string s, .int .i64 place] w fun e w' => RSpsOut w (TB.spansOf s.data.toList place) e w' := by
  obtain ⟨i0, hi, hz0, hz1, hz2⟩ := info_parts info_rspan
  obtain ⟨x, hx⟩ : ∃ x, w.heap.size = x := ⟨_, rfl⟩
  have HNUM : Hid (∀ (q q' : Nat) (n : Int), q ≤ s.size → BK.rNum s.data.toList q = .ok (n, q') → ∀ W, Calls Tryz.prog 81 #[.string s, .int .i64 q] W fun e w' => e = .returned (.tuple #[.int .i64 n, .int .i64 q', .int .i64 0]) ∧ W = w') := Lib.hid fun q q' n hq h W => rget_ok h (by omega) hq W
  have HNB : Hid (∀ (q : Nat) (c : Int), q ≤ s.size → BK.rNum s.data.toList q = .error c → ∃ a b, ∀ W, Calls Tryz.prog 81 #[.string s, .int .i64 q] W fun e w' => e = .returned (.tuple #[.int .i64 a, .int .i64 b, .int .i64 c]) ∧ W = w') := Lib.hid fun q c hq h => rget_bad h (by omega) hq
  have HTXT : Hid (∀ (q q' : Nat) (t : ByteArray), q ≤ s.size → BK.rText s.data.toList q = .ok (t, q') → ∀ W, Calls Tryz.prog 97 #[.string s, .int .i64 q] W fun e w' => e = .returned (.tuple #[.string t, .int .i64 q', .int .i64 0]) ∧ W = w') := Lib.hid fun q q' t hq h W => rtxt_ok h (by omega) hq W
  have HTB : Hid (∀ (q : Nat) (c : Int), q ≤ s.size → BK.rText s.data.toList q = .error c → ∃ a b, ∀ W, Calls Tryz.prog 97 #[.string s, .int .i64 q] W fun e w' => e = .returned (.tuple #[.string a, .int .i64 b, .int .i64 c]) ∧ W = w') := Lib.hid fun q c hq h => rtxt_bad h (by omega) hq
  have HSL := Lib.hid (size_list s)
  have HSZ := Lib.hid hs
  obtain ⟨X, hX⟩ : ∃ X, TB.spansOf s.data.toList place = X := ⟨_, rfl⟩
  rw [hX]
  have HXX : Hid (X = match BK.rNum s.data.toList 0 with | .error c => .error c | .ok (n, p) => if n < 0 then .error 4 else TB.rSpEnd s.data.toList place (TB.rSps s.data.toList place n.toNat p 0 [])) := Lib.hid (by rw [← hX]; rfl)
  clear hX hs
  unfold RSpsOut
  simp only [hx]
  cases hc : BK.rNum s.data.toList 0 with
  | error c =>
    have hF : X = .error c := by rw [HXX.out, hc]
    have hc0 : c ≠ 0 := (BK.num_err hc)
    have hcn : (c != 0) = true := by simpa using hc0
    have hcb : (c == 0) = false := by simpa using hc0
    obtain ⟨a, b, h⟩ := HNB.out 0 c (Nat.zero_le _) hc
    have HC := Lib.hid h
    clear HXX hc hc0 h
    subst hF
    go_enter Tryz.func68, Tryz.ntmps68
    go_wp2_with fail
    refine (HC.out _).mono ?_
    rintro e w1 ⟨rfl, rfl⟩
    go_wp2
    go_ret2
    exact ⟨Below.refl _ _, rfl⟩
  | ok z =>
    obtain ⟨n, p⟩ := z
    obtain ⟨hn0, hn1, hpl0, -⟩ := BK.num_ok hc
    have HC := Lib.hid (HNUM.out 0 p n (Nat.zero_le _) hc)
    have HXY : Hid (X = if n < 0 then .error 4 else TB.rSpEnd s.data.toList place (TB.rSps s.data.toList place n.toNat p 0 [])) := Lib.hid (by rw [HXX.out, hc])
    rw [HSL.out] at hpl0
    have HPL := Lib.hid hpl0
    clear hc HXX hpl0
    by_cases hneg : n < 0
    · have hF : X = .error 4 := by rw [HXY.out, if_pos hneg]
      have d1 : decide (n < 0) = true := by simpa using hneg
      clear HXY
      subst hF
      go_enter Tryz.func68, Tryz.ntmps68
      go_wp2_with fail
      refine (HC.out _).mono ?_
      rintro e w1 ⟨rfl, rfl⟩
      go_wp2
      go_ret2
      exact ⟨Below.refl _ _, rfl⟩
    · obtain ⟨m, rfl⟩ := Int.eq_ofNat_of_zero_le (show 0 ≤ n by omega)
      have HXM : Hid (X = TB.rSpEnd s.data.toList place (TB.rSps s.data.toList place m p 0 [])) := Lib.hid (by rw [HXY.out, if_neg hneg, Int.toNat_natCast])
      have d1 : decide ((m : Int) < 0) = false := by simp
      clear HXY hneg hn0
      go_enter Tryz.func68, Tryz.ntmps68
      go_wp2_with fail
      refine (HC.out _).mono ?_
      rintro e w1 ⟨rfl, rfl⟩
      go_wp2_with fail
      go_loopw [7, 9, 10, 11] (fun at_ v en i wr => ∃ j : Nat, j ≤ m ∧ i = .int .i64 j ∧ ∃ (acc : List Sp) (q e : Nat), wr.ownsRow x 80 3 v acc.length (scs acc) ∧ at_ = .int .i64 q ∧ en = .int .i64 e ∧ X = TB.rSpEnd s.data.toList place (TB.rSps s.data.toList place (m - j) q e acc) ∧ q ≤ s.size ∧ acc.length ≤ q ∧ e ≤ place ∧ Below x w wr ∧ x ≤ wr.heap.size ∧ ∀ y ∈ acc, y.wf) (fun _ _ _ i _ => m - (intOf i).toNat)
      case atStart => exact ⟨0, by omega, rfl, [], p, 0, World.ownsRow_nil _ _ _ _, rfl, rfl, HXM.out, HPL.out, by simp, by omega, Below.refl _ _, by omega, by simp⟩
      case round =>
        obtain ⟨j, hj, rfl, acc, q, e, hown, rfl, rfl, hit, hq, hal, hep, hb, hsz, hwf⟩ := hrel
        obtain ⟨A, cap, rfl⟩ := B9.own_slice hown
        have HIT := Lib.hid hit
        have HOWN := Lib.hid hown
        have HB := Lib.hid hb
        have HS := Lib.hid hsz
        have HWF := Lib.hid hwf
        have HQ := Lib.hid hq
        have HAL := Lib.hid hal
        have HEP := Lib.hid hep
        clear hit hown hb hsz hwf hq hal hep HC
        by_cases hlt : j < m
        · have HIT1 : Hid (X = TB.rSpEnd s.data.toList place (TB.rSps s.data.toList place (m - (j + 1) + 1) q e acc)) := Lib.hid (by rw [HIT.out, show m - j = (m - (j + 1)) + 1 by omega])
          have d0 : decide ((j : Int) < (m : Int)) = true := decide_eq_true (by omega)
          have d0' : decide (j < m) = true := decide_eq_true hlt
          clear HIT
          cases h1 : BK.rText s.data.toList q with
          | error c =>
            obtain ⟨a, b, h⟩ := HTB.out q c HQ.out h1
            have HC := Lib.hid h
            have hF : X = .error c := by rw [HIT1.out]; simp only [TB.rSps, TB.rTri, h1]; rfl
            have hc0 : c ≠ 0 := BK.text_err h1
            have hcn : (c != 0) = true := by simpa using hc0
            have hcb : (c == 0) = false := by simpa using hc0
            clear h HIT1 h1 hc0 HXM
            subst hF
            go_wp2_with fail
            refine (HC.out _).mono ?_
            rintro e3 w3 ⟨rfl, rfl⟩
            go_wp2
            go_ret2
            exact ⟨HB.out, rfl⟩
          | ok z1 =>
            obtain ⟨key, q1⟩ := z1
            obtain ⟨hks, hq1, -⟩ := BK.text_ok h1
            rw [HSL.out] at hq1
            have HC1 := Lib.hid (HTXT.out q q1 key HQ.out h1)
            have HKS := Lib.hid hks
            have HQ1 := Lib.hid hq1
            have HH1 := Lib.hid h1
            clear h1 hks hq1
            cases h2 : BK.rNum s.data.toList q1 with
            | error c =>
              obtain ⟨a', b', h⟩ := HNB.out q1 c HQ1.out h2
              have HC := Lib.hid h
              have hF : X = .error c := by rw [HIT1.out]; simp only [TB.rSps, TB.rTri, HH1.out, h2]; rfl
              have hc0 : c ≠ 0 := BK.num_err h2
              have hcn : (c != 0) = true := by simpa using hc0
              have hcb : (c == 0) = false := by simpa using hc0
              clear h HIT1 h2 hc0 HXM
              subst hF
              go_wp2_with fail
              refine (HC1.out _).mono ?_
              rintro e3 w3 ⟨rfl, rfl⟩
              go_wp2_with fail
              refine (HC.out _).mono ?_
              rintro e3 w3 ⟨rfl, rfl⟩
              go_wp2
              go_ret2
              exact ⟨HB.out, rfl⟩
            | ok z2 =>
              obtain ⟨a, q2⟩ := z2
              obtain ⟨ha0, ha1, hq2, -⟩ := BK.num_ok h2
              rw [HSL.out] at hq2
              have HC2 := Lib.hid (HNUM.out q1 q2 a HQ1.out h2)
              have HQ2 := Lib.hid hq2
              have HH2 := Lib.hid h2
              clear h2 hq2
              cases h3 : BK.rNum s.data.toList q2 with
              | error c =>
                obtain ⟨a', b', h⟩ := HNB.out q2 c HQ2.out h3
                have HC := Lib.hid h
                have hF : X = .error c := by rw [HIT1.out]; simp only [TB.rSps, TB.rTri, HH1.out, HH2.out, h3]; rfl
                have hc0 : c ≠ 0 := BK.num_err h3
                have hcn : (c != 0) = true := by simpa using hc0
                have hcb : (c == 0) = false := by simpa using hc0
                clear h HIT1 h3 hc0 HXM
                subst hF
                go_wp2_with fail
                refine (HC1.out _).mono ?_
                rintro e3 w3 ⟨rfl, rfl⟩
                go_wp2_with fail
                refine (HC2.out _).mono ?_
                rintro e3 w3 ⟨rfl, rfl⟩
                go_wp2_with fail
                refine (HC.out _).mono ?_
                rintro e3 w3 ⟨rfl, rfl⟩
                go_wp2
                go_ret2
                exact ⟨HB.out, rfl⟩
              | ok z3 =>
                obtain ⟨n, q3⟩ := z3
                obtain ⟨hn0, hn2, hq3, -⟩ := BK.num_ok h3
                rw [HSL.out] at hq3
                have HC3 := Lib.hid (HNUM.out q2 q3 n HQ2.out h3)
                have HTR : Hid (TB.rTri s.data.toList q = .ok ((key, a, n), q3)) := Lib.hid (by simp only [TB.rTri, HH1.out, HH2.out, h3])
                have HQL : Hid (q < q3) := Lib.hid (tri_ok HTR.out).2.1
                have HIT2 : Hid (X = TB.rSpEnd s.data.toList place (if TB.okSp place e (TB.lastSp acc) key a n then TB.rSps s.data.toList place (m - (j + 1)) q3 (e + n.toNat) (acc ++ [⟨key, e, n.toNat⟩]) else .error 4)) := Lib.hid (by rw [HIT1.out]; simp only [TB.rSps, HTR.out])
                have HQ3 := Lib.hid hq3
                clear h3 hq3 HIT1 HH1 HH2 HTR
                obtain ⟨La, hLa⟩ : ∃ La, TB.lastSp acc = La := ⟨_, rfl⟩
                rw [hLa] at HIT2
                have HLA := Lib.hid hLa
                clear hLa
                have hep := HEP.out
                have hwr : IntKind.i64.wrap ((place : Int) - (e : Int)) = (place : Int) - (e : Int) := IntWalk.i64_in _ ⟨by omega, by omega⟩
                go_wp2_with fail
                refine (HC1.out _).mono ?_
                rintro e3 w3 ⟨rfl, rfl⟩
                go_wp2_with fail
                refine (HC2.out _).mono ?_
                rintro e3 w3 ⟨rfl, rfl⟩
                go_wp2_with fail
                refine (HC3.out _).mono ?_
                rintro e3 w3 ⟨rfl, rfl⟩
                clear HC1 HC2 HC3
                by_cases h4 : a = (e : Int)
                · have d4 : (a == (e : Int)) = true := by simpa using h4
                  have d4' : (a != (e : Int)) = false := by simpa using h4
                  by_cases h5 : 8 ≤ n
                  · have d5 : decide (n < 8) = false := by simpa using h5
                    by_cases h6 : n ≤ (place : Int) - (e : Int)
                    · have d6 : decide ((place : Int) - (e : Int) < n) = false := by simpa using h6
                      obtain ⟨N, rfl⟩ := Int.eq_ofNat_of_zero_le (show 0 ≤ n by omega)
                      subst h4
                      have HSPS : Hid (0 < acc.length → ∃ b off, A = some ⟨b, off, none⟩ ∧ wr.cell? ⟨b, off + (acc.length - 1) * 3, none⟩ = some (.string La)) := Lib.hid fun h => by
                        obtain ⟨A', cap', hsl, hen, -, -⟩ := own_sps HWF.out rfl HOWN.out
                        simp only [Value.slice.injEq] at hsl
                        obtain ⟨b, off, hA, -, hc⟩ := hen.at_ h
                        refine ⟨b, off, by rw [hsl.1, hA], ?_⟩
                        have h1 := (hc (acc.length - 1) (by omega)).1
                        rw [h1, ← HLA.out]
                        unfold TB.lastSp
                        rw [List.getLast?_eq_getElem?, List.getElem?_eq_getElem (by omega)]
                      have HLE : Hid (acc.length = 0 → La = ⟨#[]⟩) := Lib.hid fun h => by
                        rw [← HLA.out, List.eq_nil_of_length_eq_zero h]; rfl
                      obtain ⟨ac, hac⟩ : ∃ ac, acc.length = ac := ⟨_, rfl⟩
                      rw [hac] at HOWN HAL HSPS HLE ⊢
                      have HAC := Lib.hid hac
                      clear hac
                      by_cases hz : ac = 0
                      · have h7 : TB.lt key La = false := by rw [HLE.out hz]; exact lt_nil _
                        have d9 : decide ((0 : Int) < (ac : Int)) = false := decide_eq_false (by omega)
                        have d9' : decide (0 < ac) = false := decide_eq_false (by omega)
                        clear hz HSPS HLE
                        have HIT3 : Hid (X = TB.rSpEnd s.data.toList place (TB.rSps s.data.toList place (m - (j + 1)) q3 (e + N) (acc ++ [⟨key, e, N⟩]))) := Lib.hid (by rw [HIT2.out, if_pos ⟨rfl, h5, h6, h7⟩]; rfl)
                        have HSN : Hid (scs (acc ++ [⟨key, e, N⟩]) = scs acc ++ TB.Sp.cells ⟨key, e, N⟩) := Lib.hid (scs_snoc _ _)
                        have HWF2 : Hid (∀ y ∈ acc ++ [(⟨key, e, N⟩ : Sp)], y.wf) := Lib.hid (fun y hy => by
                          rcases List.mem_append.1 hy with h | h
                          · exact HWF.out y h
                          · simp only [List.mem_singleton] at h; rw [h]; exact ⟨HKS.out, by show e ≤ _; omega, by show N ≤ _; omega⟩)
                        have hwe : IntKind.i64.wrap ((e : Int) + (N : Int)) = (e : Int) + (N : Int) := IntWalk.i64_in _ ⟨by omega, by omega⟩
                        have HEE : Hid (e + N ≤ place) := Lib.hid (by omega)
                        have hlen : ac ≤ 65535 := by have := HAL.out; have := HQ.out; have := HSZ.out; omega
                        obtain ⟨Y, hY⟩ : ∃ Y, scs acc = Y := ⟨_, rfl⟩
                        rw [hY] at HOWN HSN
                        clear hY HIT2
                        go_wp2_with (at_builtin; refine wpList_append_own _ rfl _ _ 43 rfl x 80 i0 _ 3 32 Tryz.underlying43 hi hz0 hz1 hz2 rfl (by decide) _ _ _ rfl (own_below HOWN.out ((Below.refl _ _).alloc (Nat.le_refl _) _)) ⟨wr.heap.size, 0, none⟩ 1 1 (TB.Sp.cells ⟨key, e, N⟩) rfl ?c1 ?c2 ?c3 ?c4 ?c5 ?c6 ?_)
                        case c1 => rfl
                        case c2 =>
                          refine World.news_of_block (cs := (TB.Sp.cells ⟨key, e, N⟩).toArray) (t := 80) (fr := (0, 0)) ?_
                          exact heap_alloc_new wr _
                        case c3 => simp [TB.Sp.cells, Value.oneCell']
                        case c4 => unfold maxLen; omega
                        case c5 => omega
                        case c6 => have := HS.out; simp; omega
                        intro v' w6 hown6 hgrow6 hnil6
                        have hob : ∀ g, (Value.slice A ac cap).ownBlock = some g → x ≤ g := fun g hg => (HOWN.out.lt g hg).1
                        have HR6 : Hid (w6.ownsRow x 80 3 v' (acc ++ [(⟨key, e, N⟩ : Sp)]).length (scs (acc ++ [⟨key, e, N⟩]))) := Lib.hid (by rw [HSN.out, List.length_append, HAC.out]; exact hown6)
                        have HFR : Hid (∀ z, z < x → w6.heap[z]? = wr.heap[z]?) := Lib.hid fun z hz => (hgrow6.block z (by have := HS.out; simp; omega) (by intro he; have := hob z he.symm; omega)).trans (Below.heap_alloc _ _ _ (by have := HS.out; omega))
                        have HB6 : Hid (Below x w w6) := Lib.hid ⟨hgrow6.os.trans HB.out.os, hgrow6.tape.trans HB.out.tape, hgrow6.output.trans HB.out.output, by have := hgrow6.size; have := HB.out.size; simp at *; omega, fun z hz => (HFR.out z (by omega)).trans (HB.out.block z hz)⟩
                        have HS6 : Hid (x ≤ w6.heap.size) := Lib.hid (by have := hgrow6.size; have := HS.out; simp at *; omega)
                        clear hown6 hgrow6 hnil6 hob
                        go_wp2
                        go_roundw
                        case rel => exact ⟨j + 1, by omega, by go_num, acc ++ [⟨key, e, N⟩], q3, e + N, HR6.out, rfl, by go_num, HIT3.out, HQ3.out, by rw [List.length_append, HAC.out]; have := HAL.out; have := HQL.out; simp; omega, HEE.out, HB6.out, HS6.out, HWF2.out⟩
                        case measure => simp [intOf]; omega
                      · obtain ⟨b, off, rfl, hcell⟩ := HSPS.out (by omega)
                        have d9 : decide ((0 : Int) < (ac : Int)) = true := decide_eq_true (by omega)
                        have d9' : decide (0 < ac) = true := decide_eq_true (by omega)
                        obtain ⟨mm, hmm⟩ : ∃ mm, ac - 1 = mm := ⟨_, rfl⟩
                        rw [hmm] at hcell
                        have hwm : IntKind.i64.wrap ((ac : Int) - 1) = (mm : Int) := by have := HAL.out; have := HQ.out; have := HSZ.out; rw [IntWalk.i64_in _ ⟨by omega, by omega⟩]; omega
                        have g0 : (0 : Int) ≤ (mm : Int) := by omega
                        have g1 : (mm : Int) < (ac : Int) := by omega
                        clear hmm
                        cases h7 : TB.lt key La with
                        | true =>
                          have d7 : Op.bytesLess key.toList La.toList = true := by rw [text_less]; exact h7
                          have hF : X = .error 4 := by rw [HIT2.out, if_neg (fun h => absurd (h7.symm.trans h.2.2.2) (by decide))]; rfl
                          clear HIT2 HXM
                          subst hF
                          go_wp2
                          go_ret2
                          exact ⟨HB.out, rfl⟩
                        | false =>
                          have d7 : Op.bytesLess key.toList La.toList = false := by rw [text_less]; exact h7
                          have HIT3 : Hid (X = TB.rSpEnd s.data.toList place (TB.rSps s.data.toList place (m - (j + 1)) q3 (e + N) (acc ++ [⟨key, e, N⟩]))) := Lib.hid (by rw [HIT2.out, if_pos ⟨rfl, h5, h6, h7⟩]; rfl)
                          have HSN : Hid (scs (acc ++ [⟨key, e, N⟩]) = scs acc ++ TB.Sp.cells ⟨key, e, N⟩) := Lib.hid (scs_snoc _ _)
                          have HWF2 : Hid (∀ y ∈ acc ++ [(⟨key, e, N⟩ : Sp)], y.wf) := Lib.hid (fun y hy => by
                            rcases List.mem_append.1 hy with h | h
                            · exact HWF.out y h
                            · simp only [List.mem_singleton] at h; rw [h]; exact ⟨HKS.out, by show e ≤ _; omega, by show N ≤ _; omega⟩)
                          have hwe : IntKind.i64.wrap ((e : Int) + (N : Int)) = (e : Int) + (N : Int) := IntWalk.i64_in _ ⟨by omega, by omega⟩
                          have HEE : Hid (e + N ≤ place) := Lib.hid (by omega)
                          have hlen : ac ≤ 65535 := by have := HAL.out; have := HQ.out; have := HSZ.out; omega
                          obtain ⟨Y, hY⟩ : ∃ Y, scs acc = Y := ⟨_, rfl⟩
                          rw [hY] at HOWN HSN
                          clear hY HIT2
                          go_wp2_with (at_builtin; refine wpList_append_own _ rfl _ _ 43 rfl x 80 i0 _ 3 32 Tryz.underlying43 hi hz0 hz1 hz2 rfl (by decide) _ _ _ rfl (own_below HOWN.out ((Below.refl _ _).alloc (Nat.le_refl _) _)) ⟨wr.heap.size, 0, none⟩ 1 1 (TB.Sp.cells ⟨key, e, N⟩) rfl ?c1 ?c2 ?c3 ?c4 ?c5 ?c6 ?_)
                          case c1 => rfl
                          case c2 =>
                            refine World.news_of_block (cs := (TB.Sp.cells ⟨key, e, N⟩).toArray) (t := 80) (fr := (0, 0)) ?_
                            exact heap_alloc_new wr _
                          case c3 => simp [TB.Sp.cells, Value.oneCell']
                          case c4 => unfold maxLen; omega
                          case c5 => omega
                          case c6 => have := HS.out; simp; omega
                          intro v' w6 hown6 hgrow6 hnil6
                          have hob : ∀ g, (Value.slice (some ⟨b, off, none⟩) ac cap).ownBlock = some g → x ≤ g := fun g hg => (HOWN.out.lt g hg).1
                          have HR6 : Hid (w6.ownsRow x 80 3 v' (acc ++ [(⟨key, e, N⟩ : Sp)]).length (scs (acc ++ [⟨key, e, N⟩]))) := Lib.hid (by rw [HSN.out, List.length_append, HAC.out]; exact hown6)
                          have HFR : Hid (∀ z, z < x → w6.heap[z]? = wr.heap[z]?) := Lib.hid fun z hz => (hgrow6.block z (by have := HS.out; simp; omega) (by intro he; have := hob z he.symm; omega)).trans (Below.heap_alloc _ _ _ (by have := HS.out; omega))
                          have HB6 : Hid (Below x w w6) := Lib.hid ⟨hgrow6.os.trans HB.out.os, hgrow6.tape.trans HB.out.tape, hgrow6.output.trans HB.out.output, by have := hgrow6.size; have := HB.out.size; simp at *; omega, fun z hz => (HFR.out z (by omega)).trans (HB.out.block z hz)⟩
                          have HS6 : Hid (x ≤ w6.heap.size) := Lib.hid (by have := hgrow6.size; have := HS.out; simp at *; omega)
                          clear hown6 hgrow6 hnil6 hob
                          go_wp2
                          go_roundw
                          case rel => exact ⟨j + 1, by omega, by go_num, acc ++ [⟨key, e, N⟩], q3, e + N, HR6.out, rfl, by go_num, HIT3.out, HQ3.out, by rw [List.length_append, HAC.out]; have := HAL.out; have := HQL.out; simp; omega, HEE.out, HB6.out, HS6.out, HWF2.out⟩
                          case measure => simp [intOf]; omega
                    · have d6 : decide ((place : Int) - (e : Int) < n) = true := by simpa using h6
                      have hF : X = .error 4 := by rw [HIT2.out, if_neg (fun h => h6 h.2.2.1)]; rfl
                      clear HIT2 HXM
                      subst hF
                      go_wp2
                      go_ret2
                      exact ⟨HB.out, rfl⟩
                  · have d5 : decide (n < 8) = true := by simpa using h5
                    have hF : X = .error 4 := by rw [HIT2.out, if_neg (fun h => h5 h.2.1)]; rfl
                    clear HIT2 HXM
                    subst hF
                    go_wp2
                    go_ret2
                    exact ⟨HB.out, rfl⟩
                · have d4 : (a == (e : Int)) = false := by simpa using h4
                  have d4' : (a != (e : Int)) = true := by simpa using h4
                  have hF : X = .error 4 := by rw [HIT2.out, if_neg (fun h => h4 h.1)]; rfl
                  clear HIT2 HXM
                  subst hF
                  go_wp2
                  go_ret2
                  exact ⟨HB.out, rfl⟩
        · have hz : m - j = 0 := by omega
          have d0 : decide ((j : Int) < (m : Int)) = false := decide_eq_false (by omega)
          have d0' : decide (j < m) = false := decide_eq_false hlt
          have HX2 : Hid (X = if q = s.size ∧ e = place then .ok acc else .error 4) := Lib.hid (by rw [HIT.out, hz]; simp only [TB.rSps, TB.rSpEnd, HSL.out])
          obtain ⟨A', cap', hsl, hen, hfb, -⟩ := own_sps HWF.out rfl HOWN.out
          obtain ⟨rfl, rfl⟩ : A' = A ∧ cap' = cap := by simp only [Value.slice.injEq] at hsl; exact ⟨hsl.1.symm, hsl.2.2.symm⟩
          have HEN := Lib.hid hen
          have HFB := Lib.hid hfb
          clear hsl hen hfb
          by_cases hqs : q = s.size
          · have d1 : ((q : Int) == (s.size : Int)) = true := beq_iff_eq.2 (by omega)
            have d1' : ((q : Int) != (s.size : Int)) = false := by simp [hqs]
            by_cases hepl : e = place
            · have d2 : ((e : Int) == (place : Int)) = true := beq_iff_eq.2 (by omega)
              have d2' : ((e : Int) != (place : Int)) = false := by simp [hepl]
              have hF : X = .ok acc := by rw [HX2.out, if_pos ⟨hqs, hepl⟩]
              clear HX2 HIT HXM
              subst hF
              go_wp2
              go_ret2
              first | exact ⟨HB.out, A', ⟨cap', rfl⟩, HEN.out, HFB.out⟩ | exact ⟨HB.out, A', cap', rfl, HEN.out, HFB.out⟩
            · have d2 : ((e : Int) == (place : Int)) = false := beq_eq_false_iff_ne.2 (by omega)
              have d2' : ((e : Int) != (place : Int)) = true := by simpa using (by omega : ¬ (e : Int) = (place : Int))
              have hF : X = .error 4 := by rw [HX2.out, if_neg (fun h => hepl h.2)]
              clear HX2 HIT HXM
              subst hF
              go_wp2
              go_ret2
              exact ⟨HB.out, rfl⟩
          · have d1 : ((q : Int) == (s.size : Int)) = false := beq_eq_false_iff_ne.2 (by omega)
            have d1' : ((q : Int) != (s.size : Int)) = true := by simpa using (by omega : ¬ (q : Int) = (s.size : Int))
            have hF : X = .error 4 := by rw [HX2.out, if_neg (fun h => hqs h.1)]
            clear HX2 HIT HXM
            subst hF
            go_wp2
            go_ret2
            exact ⟨HB.out, rfl⟩
end Go.Proofs.YtnglaolbfpdgoaaGreat

