/- Texts joined by bundle.py: Rc, Rd2, Re. -/
import Derived.Test.YtnglaolbfpdgoaaGreatZbg
import Derived.Test.YtnglaolbfpdgoaaGreatZbj
import Derived.Test.YtnglaolbfpdgoaaGreatZba

/- The document's side: a table; Which, Block. -/
namespace Go.Proofs.YtnglaolbfpdgoaaGreat
open Go.RowKit
open SK
open TB (Bs Sp)

/-- a table of the document's -/
structure RTab (w : World) (t : Nat) (s : ByteArray) (ss : List Sp) (fl : ByteArray) : Prop where
  row : ∃ A c, w.heap[t]? = some (.cells #[.string s, .slice A ss.length c, .string fl] 45 (0, 0)) ∧ SpsIn w A ss
  len : ss.length ≤ 65535

theorem RTab.below {w w' : World} {t : Nat} {s : ByteArray} {ss : List Sp} {fl : ByteArray} (h : RTab w t s ss fl) (hb : Below w.heap.size w w') : RTab w' t s ss fl := by
  obtain ⟨⟨A, c, h1, h2⟩, h3⟩ := h
  exact ⟨⟨A, c, (hb.block t (Array.getElem?_eq_some_iff.1 h1).1).trans h1, h2.below hb⟩, h3⟩

theorem which_step {ss : List Sp} {key : ByteArray} {j : Nat} (hj : j < ss.length) (h : ∀ i, (hi : i < j) → TB.lt (ss[i]'(by omega)).last key = true) (hl : TB.lt ss[j].last key = false) : TB.which ss key = j := by
  unfold TB.which
  rw [List.findIdx_eq hj]
  exact ⟨by simp [hl], fun i hi => by simp [h i hi]⟩
theorem which_end {ss : List Sp} {key : ByteArray} (h : ∀ i, (hi : i < ss.length) → TB.lt ss[i].last key = true) : TB.which ss key = ss.length := by
  unfold TB.which
  rw [List.findIdx_eq_length]
  intro x hx
  obtain ⟨i, hi, rfl⟩ := List.getElem_of_mem hx
  simp [h i hi]

set_option maxRecDepth 100000 in
set_option maxHeartbeats 1000000 in
theorem rwhich_any (t : Nat) (s : ByteArray) (ss : List Sp) (fl key : ByteArray) (w : World) (h : RTab w t s ss fl) :
    Calls Tryz.prog 12 #[.pointer (some ⟨t, 0, none⟩), .string key] w fun e w' => e = .returned (.int .i64 (TB.which ss key : Nat)) ∧ Below w.heap.size w w' := by
  obtain ⟨A, c, hrow, hin⟩ := h.row
  have c1 : w.cell? ⟨t, 1, none⟩ = some (.slice A ss.length c) := cell_of_row _ _ _ _ _ _ hrow
  have HIN := Lib.hid hin
  obtain ⟨n, hn⟩ : ∃ n, ss.length = n := ⟨_, rfl⟩
  have hlen := h.len
  rw [hn] at c1 hlen
  have HN := Lib.hid hn
  obtain ⟨X, hX⟩ : ∃ X, TB.which ss key = X := ⟨_, rfl⟩
  rw [hX]
  have HX := Lib.hid hX
  clear hrow hin h hn hX
  go_enter Tryz.func12, Tryz.ntmps12
  go_wp2_with fail
  go_loop [5] (fun i => ∃ j : Nat, j ≤ n ∧ i = .int .i64 j ∧ ∀ i, (hi : i < j) → ∀ hi2 : i < ss.length, TB.lt (ss[i]'hi2).last key = true) (fun i => n - (intOf i).toNat)
  case atStart => exact ⟨0, by omega, rfl, fun i hi => by omega⟩
  case round =>
    obtain ⟨j, hj, rfl, hall⟩ := hrel
    have HALL := Lib.hid hall
    clear hall
    by_cases hlt : j < n
    · have hjl : j < ss.length := by rw [HN.out]; exact hlt
      obtain ⟨b, off, rfl, hbl, hc⟩ := HIN.out.at_ (by omega)
      obtain ⟨z0, -, -⟩ := hc j hjl
      obtain ⟨La, hLa⟩ : ∃ La, (ss[j]'hjl).last = La := ⟨_, rfl⟩
      rw [hLa] at z0
      have HLA := Lib.hid hLa
      have d0 : decide ((j : Int) < (n : Int)) = true := decide_eq_true (by omega)
      have g0 : (0 : Int) ≤ (j : Int) := by omega
      have g1 : (j : Int) < (n : Int) := by omega
      clear hc hbl hLa
      cases hb : TB.lt La key with
      | true =>
        have d7 : Op.bytesLess La.toList key.toList = true := by rw [text_less]; exact hb
        have HNX : Hid (∀ i, (hi : i < j + 1) → ∀ hi2 : i < ss.length, TB.lt (ss[i]'hi2).last key = true) := Lib.hid fun i hi hi2 => by
          rcases Nat.lt_succ_iff_lt_or_eq.1 hi with h | h
          · exact HALL.out i h hi2
          · subst h; rw [HLA.out]; exact hb
        go_wp2
        go_round
        case rel => exact ⟨j + 1, by omega, by go_num, HNX.out⟩
        case measure => simp [intOf]; omega
      | false =>
        have d7 : Op.bytesLess La.toList key.toList = false := by rw [text_less]; exact hb
        have hF : X = j := by rw [← HX.out]; exact which_step hjl (fun i hi => HALL.out i hi (by omega)) (by rw [HLA.out]; exact hb)
        clear HX
        subst hF
        go_wp2
        go_ret
        exact ⟨rfl, Below.refl _ _⟩
    · obtain rfl : j = n := by omega
      have hF : X = j := by rw [← HX.out, which_end (fun i hi => HALL.out i (by rw [HN.out] at hi; exact hi) hi)]; exact HN.out
      clear HX
      subst hF
      go_wp2
      go_ret
      exact ⟨rfl, Below.refl _ _⟩
end Go.Proofs.YtnglaolbfpdgoaaGreat

/- The document's side: Block. -/
namespace Go.Proofs.YtnglaolbfpdgoaaGreat
open Go.RowKit
open SK
open TB (Bs Sp)

set_option maxRecDepth 100000 in
set_option maxHeartbeats 4000000 in
theorem rblock_any (t : Nat) (s : ByteArray) (ss : List Sp) (fl : ByteArray) (i : Int) (w : World) (h : RTab w t s ss fl) (hs : s.size ≤ 281474976710656) (_ : -9223372036854775808 ≤ i) (_ : i ≤ 9223372036854775807) :
    Calls Tryz.prog 17 #[.pointer (some ⟨t, 0, none⟩), .int .i64 i] w fun e w' => e = .returned (codeV (TB.blk s.data.toList ss i)) ∧ Below w.heap.size w w' := by
  obtain ⟨A, c, hrow, hin⟩ := h.row
  have c0 : w.cell? ⟨t, 0, none⟩ = some (.string s) := cell_of_row _ _ _ _ _ _ hrow
  have c1 : w.cell? ⟨t, 1, none⟩ = some (.slice A ss.length c) := cell_of_row _ _ _ _ _ _ hrow
  by_cases hi : i < 0 ∨ (ss.length : Int) ≤ i
  · have HF : Hid (TB.blk s.data.toList ss i = .error 2) := Lib.hid (by unfold TB.blk; rw [dif_pos hi])
    rw [HF.out]
    unfold codeV
    obtain ⟨n, hn⟩ : ∃ n, ss.length = n := ⟨_, rfl⟩
    rw [hn] at c1 hi
    clear hrow hin h hn HF
    by_cases h0 : i < 0
    · have d0 : decide (i < 0) = true := by simpa using h0
      go_enter Tryz.func17, Tryz.ntmps17
      go_wp2
      go_ret2
      exact ⟨rfl, Below.refl _ _⟩
    · have d0 : decide (i < 0) = false := by simpa using h0
      have d1 : decide ((n : Int) ≤ i) = true := decide_eq_true (by omega)
      go_enter Tryz.func17, Tryz.ntmps17
      go_wp2
      go_ret2
      exact ⟨rfl, Below.refl _ _⟩
  · obtain ⟨j, rfl⟩ := Int.eq_ofNat_of_zero_le (show 0 ≤ i by omega)
    have hj : j < ss.length := by omega
    obtain ⟨bb, off, rfl, hbl, hc⟩ := hin.at_ (by omega)
    obtain ⟨-, z1, z2⟩ := hc j hj
    have hwf := hin.wf ss[j] (List.getElem_mem hj)
    have HF : Hid (TB.blk s.data.toList ss j = TB.bodyOf s.data.toList ss[j].at_ ss[j].n) := Lib.hid (by unfold TB.blk; rw [dif_neg hi]; rfl)
    rw [HF.out]
    have HB := Lib.hid (fun W => rbody_any s ss[j].at_ ss[j].n W hs (by omega) (by have := hwf.2.1; omega) (by omega) (by have := hwf.2.2; omega))
    obtain ⟨a, ha⟩ : ∃ a, ss[j].at_ = a := ⟨_, rfl⟩
    obtain ⟨m, hm⟩ : ∃ m, ss[j].n = m := ⟨_, rfl⟩
    rw [ha] at z1 HB ⊢
    rw [hm] at z2 HB ⊢
    obtain ⟨n, hn⟩ : ∃ n, ss.length = n := ⟨_, rfl⟩
    rw [hn] at c1 hj
    obtain ⟨X, hX⟩ : ∃ X, TB.bodyOf s.data.toList a m = X := ⟨_, rfl⟩
    rw [hX] at HB ⊢
    have d0 : decide ((j : Int) < 0) = false := decide_eq_false (by omega)
    have d1 : decide ((n : Int) ≤ (j : Int)) = false := decide_eq_false (by omega)
    have d1' : decide (n ≤ j) = false := decide_eq_false (by omega)
    have g0 : (0 : Int) ≤ (j : Int) := by omega
    have g1 : (j : Int) < (n : Int) := by omega
    have HBD : Hid (Below w.heap.size w (w.drewN 1)) := Lib.hid (below_drewN (Below.refl _ _) 1)
    have hblt : t < w.heap.size := (Array.getElem?_eq_some_iff.1 hrow).1
    have HK : Hid (∀ W, Below w.heap.size w W → W.cell? ⟨t, 0, none⟩ = some (.string s) ∧ W.cell? ⟨t, 1, none⟩ = some (.slice (some ⟨bb, off, none⟩) n c) ∧ W.cell? ⟨bb, off + j * 3 + 1, none⟩ = some (.int .i64 a) ∧ W.cell? ⟨bb, off + j * 3 + 2, none⟩ = some (.int .i64 m)) := Lib.hid fun W hW => ⟨(hW.cell (p := ⟨t, 0, none⟩) hblt).trans c0, (hW.cell (p := ⟨t, 1, none⟩) hblt).trans c1, (hW.cell (p := ⟨bb, off + j * 3 + 1, none⟩) hbl).trans z1, (hW.cell (p := ⟨bb, off + j * 3 + 2, none⟩) hbl).trans z2⟩
    clear hrow hin hc hbl h ha hm hn hX hs hwf HF hi hblt
    obtain ⟨T, C, hTC⟩ : ∃ T C, codeV X = .tuple #[.string T, .int .i64 C] := by
      cases X with
      | error c => exact ⟨_, _, rfl⟩
      | ok p => exact ⟨_, _, rfl⟩
    rw [hTC] at HB ⊢
    clear hTC
    go_enter Tryz.func17, Tryz.ntmps17
    go_wp2_with fail
    go_region_held3 (fun W => W.cell? ⟨t, 0, none⟩ = some (.string s) ∧ W.cell? ⟨t, 1, none⟩ = some (.slice (some ⟨bb, off, none⟩) n c) ∧ W.cell? ⟨bb, off + j * 3 + 1, none⟩ = some (.int .i64 a) ∧ W.cell? ⟨bb, off + j * 3 + 2, none⟩ = some (.int .i64 m))
      (first | with_reducible exact HS2.out | go_keep | fail)
      (first
        | (go_at_call 41; refine (HB.out _).mono ?_; rintro e w2 ⟨rfl, hb2⟩
           have HB2 : Hid (Below w.heap.size w w2) := Lib.hid (HBD.out.trans (hb2.mono HBD.out.size))
           have HS2 := Lib.hid (HK.out _ HB2.out)
           clear hb2)
        | fail)
    all_goals
      go_wp2
      go_ret2
      exact ⟨rfl, HB2.out⟩
end Go.Proofs.YtnglaolbfpdgoaaGreat

/- The document's side: Open. -/
namespace Go.Proofs.YtnglaolbfpdgoaaGreat
open Go.RowKit
open SK
open TB (Bs Sp)

/-- what opening comes to -/
def ROpenOut (w : World) (s : ByteArray) (r : Except Int (List Sp × Bs)) (e : Ending) (w' : World) : Prop :=
  Below w.heap.size w w' ∧ match r with
    | .ok (ss, fl) => ∃ t, e = .returned (.tuple #[.pointer (some ⟨t, 0, none⟩), .int .i64 0]) ∧ w.heap.size ≤ t ∧ RTab w' t s ss ⟨fl.toArray⟩
    | .error c => e = .returned (.tuple #[.pointer none, .int .i64 c])

set_option maxRecDepth 100000 in
set_option maxHeartbeats 4000000 in
theorem ropen_any (s : ByteArray) (size : Int) (w : World) (hs : s.size ≤ 281474976710656) (_ : -9223372036854775808 ≤ size) (h1 : size ≤ 9223372036854775807) :
    Calls Tryz.prog 32 #[.string s, .int .i64 size] w fun e w' => ROpenOut w s (TB.openS s.data.toList size) e w' := by
  by_cases hz : size < 24
  · have d1 : decide (size < 24) = true := by simpa using hz
    have HF : Hid (TB.openS s.data.toList size = .error 3) := Lib.hid (by unfold TB.openS; rw [if_pos hz])
    rw [HF.out]
    clear HF hz
    go_enter Tryz.func32, Tryz.ntmps32
    go_wp2
    go_ret2
    exact ⟨Below.refl _ _, rfl⟩
  · have d1 : decide (size < 24) = false := by simpa using hz
    obtain ⟨z, hzz⟩ : ∃ z : Nat, size = (z : Int) + 24 := ⟨(size - 24).toNat, by omega⟩
    have hw : IntKind.i64.wrap (size - 24) = (z : Int) := by rw [IntWalk.i64_in _ ⟨by omega, by omega⟩]; omega
    have HO : Hid (TB.openS s.data.toList size = TB.readS s.data.toList z) := Lib.hid (by unfold TB.openS; rw [if_neg hz]; congr 1; omega)
    have hz9 : (z : Int) ≤ 9223372036854775807 := by omega
    rw [HO.out]
    clear hz HO hzz h1
    have HBODY : Hid (∀ (a n : Int) W, -9223372036854775808 ≤ a → a ≤ 9223372036854775807 → -9223372036854775808 ≤ n → n ≤ 9223372036854775807 →
        Calls Tryz.prog 41 #[.string s, .int .i64 a, .int .i64 n] W fun e w' => e = .returned (codeV (TB.bodyOf s.data.toList a n)) ∧ Below W.heap.size W w') := Lib.hid fun a n W a0 a1 n0 n1 => rbody_any s a n W hs a0 a1 n0 n1
    obtain ⟨X, hX⟩ : ∃ X, TB.readS s.data.toList z = X := ⟨_, rfl⟩
    have HX0 : Hid (X = TB.rest0 s.data.toList z (TB.bodyOf s.data.toList z 24)) := Lib.hid (by rw [← hX]; rfl)
    rw [hX]
    have HSL := Lib.hid (size_list s)
    have HSZ := Lib.hid hs
    clear hX hs
    have HC := HBODY.out z 24 w (by omega) hz9 (by omega) (by omega)
    unfold ROpenOut
    obtain ⟨H0, hH0⟩ : ∃ H0, w.heap.size = H0 := ⟨_, rfl⟩
    rw [hH0] at HC ⊢
    go_enter Tryz.func32, Tryz.ntmps32
    go_wp2_with fail
    cases h0 : TB.bodyOf s.data.toList z 24 with
    | error c =>
      rw [h0] at HC
      have hc0 : c ≠ 0 := TB.bodyOf_err h0
      have hcn : (c != 0) = true := by simpa using hc0
      have hcb : (c == 0) = false := by simpa using hc0
      have hF : X = .error c := by rw [HX0.out, h0]; rfl
      clear HX0 hc0
      subst hF
      simp only [codeV] at HC
      refine HC.mono ?_
      rintro e w1 ⟨rfl, hb⟩
      have HB1 := Lib.hid hb
      clear hb HC h0
      go_wp2
      go_ret2
      exact ⟨HB1.out, rfl⟩
    | ok ft =>
      rw [h0] at HC
      obtain ⟨-, hfl, -, hzl⟩ := TB.bodyOf_ok h0
      rw [HSL.out] at hzl
      have hz48 : z ≤ 281474976710656 := by have := HSZ.out; omega
      have HX1 : Hid (X = TB.rest0 s.data.toList z (.ok ft)) := Lib.hid (by rw [HX0.out, h0])
      simp only [codeV] at HC
      refine HC.mono ?_
      rintro e w1 ⟨rfl, hb⟩
      have HB1 := Lib.hid hb
      clear hb HC h0 HX0
      have hf16 : ft.length = 16 := by omega
      have hl : (⟨ft.toArray⟩ : ByteArray).data.toList = ft := mk_list ft
      have hsz16 : (⟨ft.toArray⟩ : ByteArray).size = 16 := by rw [mk_size]; exact hf16
      generalize (⟨ft.toArray⟩ : ByteArray) = S at hl hsz16 ⊢
      have hl1 : (S.extract 0 8).data.toList = ft.take 8 := by rw [Lib.extract_data, List.drop_zero, hl]
      have hl2 : (S.extract 8 S.size).data.toList = ft.drop 8 := by rw [Lib.extract_data, hl, List.take_of_length_le (by rw [List.length_drop]; omega)]
      have hp1 := fun W => rnumber_any (S.extract 0 8) W (by rw [ByteArray.size_extract]; omega)
      have hp2 := fun W => rnumber_any (S.extract 8 S.size) W (by rw [ByteArray.size_extract]; omega)
      rw [hl1] at hp1
      rw [hl2] at hp2
      have hs1 : ∀ W, (Instr.slice 9 (.string S) none (some (.int .i64 8)) none).run Tryz.prog W = .ok (.string (S.extract 0 8)) W := fun W => str_head W S 8 (by omega)
      have hs2 : ∀ W, (Instr.slice 9 (.string S) (some (.int .i64 8)) none none).run Tryz.prog W = .ok (.string (S.extract 8 S.size)) W := fun W => str_tail W S 8 (by omega)
      generalize S.extract 0 8 = S1 at hp1 hs1 hl1
      generalize S.extract 8 S.size = S2 at hp2 hs2 hl2
      clear hl1 hl2 hl hsz16 hf16 hfl
      simp only [TB.rest0] at HX1
      generalize TB.big (ft.take 8) = A at hp1 HX1
      generalize TB.big (ft.drop 8) = B at hp2 HX1
      clear ft
      have HP1 : Hid (∀ W, Calls Tryz.prog 67 #[.string S1] W fun e w' => e = .returned (.int .i64 (if 1152921504606846976 < A then -1 else (A : Nat))) ∧ W = w') := Lib.hid hp1
      have HP2 : Hid (∀ W, Calls Tryz.prog 67 #[.string S2] W fun e w' => e = .returned (.int .i64 (if 1152921504606846976 < B then -1 else (B : Nat))) ∧ W = w') := Lib.hid hp2
      clear hp1 hp2
      by_cases hok : A ≤ B ∧ B ≤ z
      · rw [if_pos hok] at HX1
        rw [if_neg (by omega)] at HP1 HP2
        have e1 : decide ((A : Int) < 0) = false := decide_eq_false (by omega)
        have e2 : decide ((B : Int) < 0) = false := decide_eq_false (by omega)
        have e3 : decide ((B : Int) < (A : Int)) = false := decide_eq_false (by omega)
        have e3' : decide (B < A) = false := decide_eq_false (by omega)
        have e4 : decide ((z : Int) < (B : Int)) = false := decide_eq_false (by omega)
        have e4' : decide (z < B) = false := decide_eq_false (by omega)
        have hw1 : IntKind.i64.wrap ((B : Int) - (A : Int)) = (B : Int) - (A : Int) := IntWalk.i64_in _ ⟨by omega, by omega⟩
        have hw2 : IntKind.i64.wrap ((z : Int) - (B : Int)) = (z : Int) - (B : Int) := IntWalk.i64_in _ ⟨by omega, by omega⟩
        have HC := HBODY.out A ((B : Int) - A) w1 (by omega) (by omega) (by omega) (by omega)
        have HOK := Lib.hid hok
        have HZ := Lib.hid hz48
        clear hok hz48 hzl hz9
        go_wp2_with fail
        refine (HP1.out _).mono ?_
        rintro e w2 ⟨rfl, rfl⟩
        go_wp2_with fail
        refine (HP2.out _).mono ?_
        rintro e w2 ⟨rfl, rfl⟩
        go_wp2_with fail
        cases h1 : TB.bodyOf s.data.toList A ((B : Int) - A) with
        | error c =>
          rw [h1] at HC
          have hc0 : c ≠ 0 := TB.bodyOf_err h1
          have hcn : (c != 0) = true := by simpa using hc0
          have hcb : (c == 0) = false := by simpa using hc0
          have hF : X = .error c := by rw [HX1.out, h1]; rfl
          clear HX1 hc0
          subst hF
          simp only [codeV] at HC
          refine HC.mono ?_
          rintro e w2 ⟨rfl, hb⟩
          have HB2 := Lib.hid (below_seq HB1.out hb (by have := HB1.out.size; omega))
          clear hb HC h1
          go_wp2
          go_ret2
          exact ⟨HB2.out, rfl⟩
        | ok ix =>
          rw [h1] at HC
          have HIX := Lib.hid (TB.bodyOf_ok h1).1
          have HX2 : Hid (X = TB.rest2 ix A (TB.bodyOf s.data.toList B ((z : Int) - B))) := Lib.hid (by rw [HX1.out, h1]; rfl)
          simp only [codeV] at HC
          refine HC.mono ?_
          rintro e w2 ⟨rfl, hb⟩
          have HB2 := Lib.hid (below_seq HB1.out hb (by have := HB1.out.size; omega))
          clear hb HC h1 HX1
          have HC := HBODY.out B ((z : Int) - B) w2 (by omega) (by have := HOK.out; have := HZ.out; omega) (by have := HOK.out; omega) (by have := HOK.out; have := HZ.out; omega)
          go_wp2_with fail
          cases h2 : TB.bodyOf s.data.toList B ((z : Int) - B) with
          | error c =>
            rw [h2] at HC
            have hc0 : c ≠ 0 := TB.bodyOf_err h2
            have hcn : (c != 0) = true := by simpa using hc0
            have hcb : (c == 0) = false := by simpa using hc0
            have hF : X = .error c := by rw [HX2.out, h2]; rfl
            clear HX2 hc0
            subst hF
            simp only [codeV] at HC
            refine HC.mono ?_
            rintro e w3 ⟨rfl, hb⟩
            have HB3 := Lib.hid (below_seq HB2.out hb (by have := HB2.out.size; omega))
            clear hb HC h2
            go_wp2
            go_ret2
            exact ⟨HB3.out, rfl⟩
          | ok fl =>
            rw [h2] at HC
            have HX3 : Hid (X = TB.rest3 fl (TB.spansOf ix A)) := Lib.hid (by rw [HX2.out, h2]; rfl)
            simp only [codeV] at HC
            refine HC.mono ?_
            rintro e w3 ⟨rfl, hb⟩
            have HB3 := Lib.hid (below_seq HB2.out hb (by have := HB2.out.size; omega))
            clear hb HC h2 HX2
            have HC := rspans_any ⟨ix.toArray⟩ A w3 (by rw [mk_size]; exact HIX.out) (by have := HOK.out; have := HZ.out; omega)
            rw [mk_list] at HC
            unfold RSpsOut at HC
            go_wp2_with fail
            cases h3 : TB.spansOf ix A with
            | error c =>
              rw [h3] at HC
              have hc0 : c ≠ 0 := TB.spansOf_err h3
              have hcn : (c != 0) = true := by simpa using hc0
              have hcb : (c == 0) = false := by simpa using hc0
              have hF : X = .error c := by rw [HX3.out, h3]; rfl
              clear HX3 hc0
              subst hF
              refine HC.mono ?_
              rintro e w4 ⟨hb, rfl⟩
              have HB4 := Lib.hid (below_seq HB3.out hb (by have := HB3.out.size; omega))
              clear hb HC h3
              go_wp2
              go_ret2
              exact ⟨HB4.out, rfl⟩
            | ok ss =>
              rw [h3] at HC
              have hF : X = .ok (ss, fl) := by rw [HX3.out, h3]; rfl
              have HLEN := Lib.hid (Nat.le_trans (TB.spansOf_ok h3).2 HIX.out)
              clear HX3
              subst hF
              refine HC.mono ?_
              rintro e w4 ⟨hb, A4, c4, rfl, hin, hfb⟩
              have HB4 := Lib.hid (below_seq HB3.out hb (by have := HB3.out.size; omega))
              have HIN := Lib.hid hin
              clear hb HC h3 hin hfb
              obtain ⟨n, hn⟩ : ∃ n, ss.length = n := ⟨_, rfl⟩
              rw [hn]
              have HN := Lib.hid hn
              have HSH : Hid (H0 ≤ w4.heap.size) := Lib.hid (by have := HB4.out.size; omega)
              clear hn
              go_wp2
              go_ret2
              refine ⟨HB4.out.alloc HSH.out _, _, rfl, HSH.out, ⟨⟨A4, c4, ?_, ?_⟩, HLEN.out⟩⟩
              · rw [HN.out]; exact heap_alloc_new _ _
              · exact HIN.out.below ((Below.refl _ _).alloc (Nat.le_refl _) _)
      · have hF : X = .error 4 := by rw [HX1.out, if_neg hok]
        clear HX1
        subst hF
        obtain ⟨a, ha⟩ : ∃ a : Int, (if 1152921504606846976 < A then (-1 : Int) else (A : Nat)) = a := ⟨_, rfl⟩
        obtain ⟨b, hb⟩ : ∃ b : Int, (if 1152921504606846976 < B then (-1 : Int) else (B : Nat)) = b := ⟨_, rfl⟩
        rw [ha] at HP1
        rw [hb] at HP2
        have hbad : a < 0 ∨ b < 0 ∨ b < a ∨ (z : Int) < b := by
          by_cases h1 : 1152921504606846976 < A
          · rw [if_pos h1] at ha; omega
          · rw [if_neg h1] at ha
            by_cases h2 : 1152921504606846976 < B
            · rw [if_pos h2] at hb; omega
            · rw [if_neg h2] at hb
              by_cases h3 : A ≤ B
              · have : ¬ B ≤ z := fun h => hok ⟨h3, h⟩
                omega
              · omega
        clear ha hb hok hzl hz48 hz9
        by_cases h1 : a < 0
        · have e1 : decide (a < 0) = true := decide_eq_true h1
          clear hbad h1
          go_wp2_with fail
          refine (HP1.out _).mono ?_
          rintro e w2 ⟨rfl, rfl⟩
          go_wp2_with fail
          refine (HP2.out _).mono ?_
          rintro e w2 ⟨rfl, rfl⟩
          go_wp2
          go_ret2
          exact ⟨HB1.out, rfl⟩
        · have e1 : decide (a < 0) = false := decide_eq_false h1
          by_cases h2 : b < 0
          · have e2 : decide (b < 0) = true := decide_eq_true h2
            clear hbad h1 h2
            go_wp2_with fail
            refine (HP1.out _).mono ?_
            rintro e w2 ⟨rfl, rfl⟩
            go_wp2_with fail
            refine (HP2.out _).mono ?_
            rintro e w2 ⟨rfl, rfl⟩
            go_wp2
            go_ret2
            exact ⟨HB1.out, rfl⟩
          · have e2 : decide (b < 0) = false := decide_eq_false h2
            by_cases h3 : b < a
            · have e3 : decide (b < a) = true := decide_eq_true h3
              clear hbad h1 h2 h3
              go_wp2_with fail
              refine (HP1.out _).mono ?_
              rintro e w2 ⟨rfl, rfl⟩
              go_wp2_with fail
              refine (HP2.out _).mono ?_
              rintro e w2 ⟨rfl, rfl⟩
              go_wp2
              go_ret2
              exact ⟨HB1.out, rfl⟩
            · have e3 : decide (b < a) = false := decide_eq_false h3
              have e4 : decide ((z : Int) < b) = true := decide_eq_true (by omega)
              clear hbad h1 h2 h3
              go_wp2_with fail
              refine (HP1.out _).mono ?_
              rintro e w2 ⟨rfl, rfl⟩
              go_wp2_with fail
              refine (HP2.out _).mono ?_
              rintro e w2 ⟨rfl, rfl⟩
              go_wp2
              go_ret2
              exact ⟨HB1.out, rfl⟩
end Go.Proofs.YtnglaolbfpdgoaaGreat

