/- Texts joined by bundle.py: Lr. -/
import Derived.Test.YtnglaolbfpdgoaaGreatZbx
import Derived.Test.YtnglaolbfpdgoaaGreatZby
import Derived.Test.YtnglaolbfpdgoaaGreatZbm

/- TableReads: of every bytes that are a table, the blocks, and the entries from every key on, are the document's, or its error. For every two texts and every number. -/
namespace Go.Proofs.YtnglaolbfpdgoaaGreat
open Go.ChangeShapes Go.WideShapes Go.ChangeAt Go.RowKit
open SK
open TB (Bs Sp)

/-! ### blocks of a table that was opened lie in its bytes -/

theorem rSps_in {l : Bs} {place : Nat} : ∀ {k p e : Nat} {acc ss : List Sp} {q e' : Nat}, TB.rSps l place k p e acc = .ok (ss, q, e') → e ≤ place → (∀ x ∈ acc, 8 ≤ x.n ∧ x.at_ + x.n ≤ e) → (∀ x ∈ ss, 8 ≤ x.n ∧ x.at_ + x.n ≤ place)
  | 0, p, e, acc, ss, q, e', h, he, ha => by
    simp only [TB.rSps, Except.ok.injEq, Prod.mk.injEq] at h
    obtain ⟨rfl, -, -⟩ := h
    exact fun x hx => ⟨(ha x hx).1, Nat.le_trans (ha x hx).2 he⟩
  | k + 1, p, e, acc, ss, q, e', h, he, ha => by
    simp only [TB.rSps] at h
    cases ht : TB.rTri l p with
    | error c => rw [ht] at h; cases h
    | ok z =>
      obtain ⟨⟨key, a, n⟩, q3⟩ := z
      rw [ht] at h
      simp only at h
      split at h
      · rename_i hok
        obtain ⟨-, h8, hn, -⟩ := hok
        refine rSps_in h (by omega) fun x hx => ?_
        rcases List.mem_append.1 hx with hx | hx
        · exact ⟨(ha x hx).1, by have := (ha x hx).2; omega⟩
        · simp only [List.mem_singleton] at hx
          subst hx
          exact ⟨by show 8 ≤ n.toNat; omega, Nat.le_refl _⟩
      · cases h

theorem spansOf_in {l : Bs} {place : Nat} {ss : List Sp} (h : TB.spansOf l place = .ok ss) : ∀ x ∈ ss, 8 ≤ x.n ∧ x.at_ + x.n ≤ place := by
  unfold TB.spansOf at h
  cases hn : BK.rNum l 0 with
  | error c => rw [hn] at h; cases h
  | ok z =>
    obtain ⟨n, p⟩ := z
    rw [hn] at h
    simp only at h
    split at h
    · cases h
    · cases hs : TB.rSps l place n.toNat p 0 [] with
      | error c => rw [hs] at h; cases h
      | ok y =>
        obtain ⟨ss', q, e⟩ := y
        rw [hs] at h
        simp only [TB.rSpEnd] at h
        split at h
        · simp only [Except.ok.injEq] at h
          subst h
          exact rSps_in hs (Nat.zero_le _) (by simp)
        · cases h

theorem meas_two (l : Bs) : (F3.FM.meas l).2 ≠ 2 := by
  unfold F3.FM.meas
  repeat' split
  all_goals simp
theorem get_two (l : Bs) : (F3.FM.get l).2.2 ≠ 2 := by
  unfold F3.FM.get
  repeat' split
  · exact meas_two l
  · simp
  · simp

/-- where a block stands, no error is ErrArg -/
theorem blk_two {s : Bs} {size : Int} {ss : List Sp} {fl : Bs} (h : TB.openS s size = .ok (ss, fl)) (i : Int) : (TB.codeOf (TB.blk s ss i) = 2) ↔ (i < 0 ∨ (ss.length : Int) ≤ i) := by
  obtain ⟨-, ix, x, hsp, hx⟩ := openS_ok h
  unfold TB.blk
  split
  · rename_i hb
    exact ⟨fun _ => hb, fun _ => rfl⟩
  · rename_i hb
    refine ⟨fun h2 => ?_, fun h2 => absurd h2 hb⟩
    exfalso
    obtain ⟨h8, hin⟩ := spansOf_in hsp _ (List.getElem_mem (show i.toNat < ss.length by omega))
    generalize ss[i.toNat]'(by omega) = sp at h2 h8 hin
    unfold TB.bodyOf TB.part at h2
    rw [if_neg (by omega)] at h2
    simp only [TB.one'] at h2
    unfold TB.one at h2
    split at h2
    · rename_i h3
      simp only [TB.codeOf] at h2
      rw [vget0] at h2
      split at h2
      · simp at h2
      · exact get_two _ h2
    · split at h2
      · simp [TB.codeOf] at h2
      · simp [TB.codeOf] at h2

theorem fromS_len {s : Bs} {key : ByteArray} : ∀ {L : List Sp} {a acc es : List E}, TB.fromS s key L a acc = .ok es → es.length ≤ acc.length + L.length * 4096
  | [], a, acc, es, h => by simp only [TB.fromS, Except.ok.injEq] at h; rw [h]; simp
  | sp :: r, a, acc, es, h => by
    simp only [TB.fromS] at h
    cases h1 : TB.rd s sp with
    | error c => rw [h1] at h; cases h
    | ok bs =>
      rw [h1] at h
      simp only at h
      split at h
      · have := fromS_len h
        have h2 := (rd_ok h1).2.1
        have h3 := from_len bs key
        rw [List.length_append] at this
        simp only [List.length_cons]
        omega
      · cases h
theorem allS_len {s : Bs} {ss : List Sp} {key : ByteArray} {es : List E} (h : TB.allS s ss key = .ok es) : es.length ≤ ss.length * 4096 := by
  have := fromS_len h
  rw [List.length_drop] at this
  simp only [List.length_nil, Nat.zero_add] at this
  exact Nat.le_trans this (Nat.mul_le_mul_right _ (Nat.sub_le _ _))

namespace lawReads

set_option maxRecDepth 100000 in
set_option maxHeartbeats 8000000 in
theorem walk (s key : ByteArray) (i : Int) (w : World) (hs : s.size ≤ 140737488351232) (h0 : -9223372036854775808 ≤ i) (h1 : i ≤ 9223372036854775807) :
    Calls Tryz.prog 5 #[.string s, .string key, .int .i64 i] w fun e w' => e = .returned (.bool true) ∧ Below w.heap.size w w' := by
  have HT := Lib.hid (tables_any s s.size w (by omega) (by omega) (by omega))
  have HW : Hid (∀ W, Calls Tryz.prog 9 #[] W fun r w' => r = .returned (.bool true) ∧ Below W.heap.size W w') := fun W => wakes_any W
  obtain ⟨X, hX⟩ : ∃ X, TB.openS s.data.toList s.size = X := ⟨_, rfl⟩
  rw [hX] at HT
  unfold TablesOut at HT
  have HSZ := Lib.hid hs
  clear hs
  obtain ⟨x, hx⟩ : ∃ x, w.heap.size = x := ⟨_, rfl⟩
  rw [hx] at HT ⊢
  have HX0 := Lib.hid hx
  clear hx
  go_enter Tryz.func5, Tryz.ntmps5
  go_wp2_with fail
  refine HT.out.mono ?_
  cases X with
  | error c =>
    rintro e w1 ⟨hb1, rfl⟩
    have HB1 := Lib.hid hb1
    clear hb1 HT
    go_wp2_with fail
    refine (HW.out _).mono ?_
    rintro e w2 ⟨rfl, hb2⟩
    have HB2 := Lib.hid (below_seq HB1.out hb2 (by have := HB1.out.size; have := HX0.out; omega))
    clear hb2
    go_wp2
    go_ret
    exact ⟨rfl, HB2.out⟩
  | ok y =>
    obtain ⟨ss, fl⟩ := y
    rintro e w1 ⟨hb1, t, x2, q, rfl, ht, hq⟩
    have HB1 := Lib.hid hb1
    have HT1 := Lib.hid ht
    have HQ1 := Lib.hid hq
    have HOP := Lib.hid hX
    clear hb1 HT ht hq hX
    generalize (⟨fl.toArray⟩ : ByteArray) = FL at HT1 HQ1
    go_wp2_with fail
    refine (HW.out _).mono ?_
    rintro e w2 ⟨rfl, hb2⟩
    have HB2 := Lib.hid (below_seq HB1.out hb2 (by have := HB1.out.size; have := HX0.out; omega))
    have HT2 := Lib.hid (HT1.out.below hb2)
    have HQ2 := Lib.hid (HQ1.out.below hb2)
    clear hb2 HB1 HT1 HQ1 HW
    obtain ⟨A, cc, hrow, -⟩ := HQ2.out.row
    have hql := (Array.getElem?_eq_some_iff.1 hrow).1
    have c1 : w2.cell? ⟨q, 1, none⟩ = some (.slice A ss.length cc) := cell_of_row _ _ _ _ _ _ hrow
    obtain ⟨n, hn⟩ : ∃ n, ss.length = n := ⟨_, rfl⟩
    rw [hn] at c1
    have HN := Lib.hid hn
    have hnb : n ≤ 65535 := by rw [← hn]; exact HQ2.out.len
    have HC1 : Hid (∀ W, Below w2.heap.size w2 W → W.cell? ⟨q, 1, none⟩ = some (.slice A n cc)) := Lib.hid fun W hW => (hW.cell (p := ⟨q, 1, none⟩) hql).trans c1
    have HBT : Hid (∀ (k : Int) W, -9223372036854775808 ≤ k → k ≤ 9223372036854775807 → Below w2.heap.size w2 W → Calls Tryz.prog 16 #[.pointer (some ⟨t, 0, none⟩), .int .i64 k] W fun e w' => e = .returned (codeV (TB.blk s.data.toList ss k)) ∧ Below w2.heap.size w2 w') := Lib.hid fun k W k0 k1 hW => (tblock_any t x2 s ss FL k W (HT2.out.below hW) (by have := HSZ.out; omega) k0 k1).mono fun e w' h => by
      unfold BlkOut at h
      refine ⟨?_, below_seq hW h.1 hW.size⟩
      cases hX : TB.blk s.data.toList ss k with
      | error c => have := h.2; rw [hX] at this; exact this
      | ok p => have := h.2; rw [hX] at this; exact this
    have HBR : Hid (∀ (k : Int) W, -9223372036854775808 ≤ k → k ≤ 9223372036854775807 → Below w2.heap.size w2 W → Calls Tryz.prog 17 #[.pointer (some ⟨q, 0, none⟩), .int .i64 k] W fun e w' => e = .returned (codeV (TB.blk s.data.toList ss k)) ∧ Below w2.heap.size w2 w') := Lib.hid fun k W k0 k1 hW => (rblock_any q s ss FL k W (HQ2.out.below hW) (by have := HSZ.out; omega) k0 k1).mono fun e w' h => ⟨h.1, below_seq hW h.2 hW.size⟩
    clear hrow hql hn c1
    go_wp2_with fail
    go_loopw [10] (fun k wr => ∃ j : Nat, j ≤ n + 2 ∧ k = .int .i64 ((j : Int) - 1) ∧ Below w2.heap.size w2 wr) (fun k _ => n + 2 - (intOf k + 1).toNat)
    case atStart => exact ⟨0, by omega, rfl, Below.refl _ _⟩
    case round =>
      obtain ⟨j, hj, rfl, hb⟩ := hrel
      have c1 := HC1.out _ hb
      have HB := Lib.hid hb
      clear hb
      by_cases hlt : j < n + 2
      · have d0 : decide ((j : Int) - 1 ≤ (n : Int)) = true := decide_eq_true (by omega)
        have hw1 : IntKind.i64.wrap ((j : Int) - 1 + 1) = ((j + 1 : Nat) : Int) - 1 := by rw [IntWalk.i64_in _ ⟨by omega, by omega⟩]; omega
        obtain ⟨T, C, hTC⟩ : ∃ T C, codeV (TB.blk s.data.toList ss ((j : Int) - 1)) = .tuple #[.string T, .int .i64 C] := by
          cases TB.blk s.data.toList ss ((j : Int) - 1) with
          | error c => exact ⟨_, _, rfl⟩
          | ok p => exact ⟨_, _, rfl⟩
        have hbt := HBT.out ((j : Int) - 1) wr (by omega) (by omega) HB.out
        rw [hTC] at hbt
        have HBR1 : Hid (∀ W, Below w2.heap.size w2 W → Calls Tryz.prog 17 #[.pointer (some ⟨q, 0, none⟩), .int .i64 ((j : Int) - 1)] W fun e w' => e = .returned (.tuple #[.string T, .int .i64 C]) ∧ Below w2.heap.size w2 w') := Lib.hid fun W hW => by
          have := HBR.out ((j : Int) - 1) W (by omega) (by omega) hW
          rw [hTC] at this
          exact this
        have t1 : (T.toList == T.toList) = true := beq_self_eq_true _
        have e1 : (C == C) = true := beq_self_eq_true _
        have e2 : (C != C) = false := by simp
        clear hTC
        go_wp2_with fail
        refine hbt.mono ?_
        rintro e w3 ⟨rfl, hb3⟩
        have HB3 := Lib.hid hb3
        clear hb3 hbt c1
        go_wp2_with fail
        refine (HBR1.out _ HB3.out).mono ?_
        rintro e w4 ⟨rfl, hb4⟩
        have HB4 := Lib.hid hb4
        clear hb4 HBR1
        go_wp2
        go_roundw
        case rel => exact ⟨j + 1, by omega, by first | rw [hw1] | (congr 1; omega) | go_num, HB4.out⟩
        case measure => simp [intOf]; omega
      · obtain rfl : j = n + 2 := by omega
        have d0 : decide (((n + 2 : Nat) : Int) - 1 ≤ (n : Int)) = false := decide_eq_false (by omega)
        have HAL := Lib.hid (fun W (hW : Below w2.heap.size w2 W) => tall_any t x2 s ss FL key W (HT2.out.below hW) (by have := HSZ.out; omega))
        have HAR := Lib.hid (fun W (hW : Below w2.heap.size w2 W) => rall_any q s ss FL key W (HQ2.out.below hW) (by have := HSZ.out; omega))
        have hbt := HBT.out i wr h0 h1 HB.out
        have hbl2 := blk_two HOP.out i
        rw [HN.out] at hbl2
        obtain ⟨T, C, hTC, hCC⟩ : ∃ T C, codeV (TB.blk s.data.toList ss i) = .tuple #[.string T, .int .i64 C] ∧ C = TB.codeOf (TB.blk s.data.toList ss i) := by
          cases TB.blk s.data.toList ss i with
          | error c => exact ⟨_, _, rfl, rfl⟩
          | ok p => exact ⟨_, _, rfl, rfl⟩
        rw [hTC] at hbt
        rw [← hCC] at hbl2
        obtain ⟨L, K, HAL2, HAR2, HLN⟩ : ∃ (L : List E) (K : Int), Hid (∀ W, Below w2.heap.size w2 W → Calls Tryz.prog 18 #[.pointer (some ⟨t, 0, none⟩), .string key] W fun e w' => ∃ A c, e = .returned (.tuple #[.slice A L.length c, .int .i64 K]) ∧ EntsIn w' A L ∧ Below w2.heap.size w2 w') ∧
            Hid (∀ W, Below w2.heap.size w2 W → Calls Tryz.prog 19 #[.pointer (some ⟨q, 0, none⟩), .string key] W fun e w' => ∃ A c, e = .returned (.tuple #[.slice A L.length c, .int .i64 K]) ∧ EntsIn w' A L ∧ Below w2.heap.size w2 w' ∧ Below W.heap.size W w') ∧ Hid (L.length ≤ 65535 * 4096) := by
          unfold AllOut at HAL
          unfold RAllOut at HAR
          cases hP : TB.allS s.data.toList ss key with
          | error c =>
            simp only [hP] at HAL HAR
            refine ⟨[], c, Lib.hid fun W hW => (HAL.out W hW).mono ?_, Lib.hid fun W hW => (HAR.out W hW).mono ?_, Lib.hid (by simp)⟩
            · rintro e w' ⟨hb, rfl⟩
              exact ⟨none, 0, rfl, ⟨by simp, by simp⟩, below_seq hW hb hW.size⟩
            · rintro e w' ⟨hb, rfl⟩
              exact ⟨none, 0, rfl, ⟨by simp, by simp⟩, below_seq hW hb hW.size, hb⟩
          | ok es =>
            simp only [hP] at HAL HAR
            refine ⟨es, 0, Lib.hid fun W hW => (HAL.out W hW).mono ?_, Lib.hid fun W hW => (HAR.out W hW).mono ?_, Lib.hid (by have := allS_len hP; rw [HN.out] at this; omega)⟩
            · rintro e w' ⟨hb, A, c, rfl, hin, -⟩
              exact ⟨A, c, rfl, hin, below_seq hW hb hW.size⟩
            · rintro e w' ⟨hb, A, c, rfl, hin⟩
              exact ⟨A, c, rfl, hin, below_seq hW hb hW.size, hb⟩
        obtain ⟨b1, b2, b3, hc2, hi0, hin, hbb⟩ : ∃ b1 b2 b3 : Bool, (C == 2) = b1 ∧ decide (i < 0) = b2 ∧ decide ((n : Int) ≤ i) = b3 ∧ b1 = (b2 || b3) := ⟨_, _, _, rfl, rfl, rfl, by
          rw [Bool.eq_iff_iff, beq_iff_eq, Bool.or_eq_true, decide_eq_true_iff, decide_eq_true_iff]
          exact hbl2⟩
        obtain ⟨N, hNN⟩ : ∃ N, L.length = N := ⟨_, rfl⟩
        rw [hNN] at HAL2 HAR2 HLN
        have HNN := Lib.hid hNN
        have hNb := HLN.out
        have k1 : (K == K) = true := beq_self_eq_true _
        have k2 : (K != K) = false := by simp
        have l1 : ((N : Int) == (N : Int)) = true := beq_self_eq_true _
        have l2 : ((N : Int) != (N : Int)) = false := by simp
        clear hTC hCC hbl2 HBT HBR h0 h1 HAL HAR hNN
        go_wp2_with fail
        refine hbt.mono ?_
        rintro e w3 ⟨rfl, hb3⟩
        have HB3 := Lib.hid hb3
        have c3 := HC1.out _ hb3
        clear hb3 hbt c1
        subst hbb
        cases b2 <;> cases b3
        all_goals
          simp only [Bool.or_self, Bool.or_true, Bool.or_false] at hc2
          go_wp2_with fail
          refine (HAL2.out _ HB3.out).mono ?_
          rintro e w4 ⟨A4, c4, rfl, hin4, hb4⟩
          have HB4 := Lib.hid hb4
          have HI4 := Lib.hid hin4
          clear hb4 hin4 c3
          go_wp2_with fail
          refine (HAR2.out _ HB4.out).mono ?_
          rintro e w5 ⟨A5, c5, rfl, hin5, hb5, hbl5⟩
          have HB5 := Lib.hid hb5
          have HI4' := Lib.hid (HI4.out.below hbl5)
          have HI5 := Lib.hid hin5
          clear hb5 hin5 hbl5 HI4
          go_wp2_with fail
          go_loopw [111] (fun i wr => ∃ j : Nat, j ≤ N ∧ i = .int .i64 j ∧ Below w5.heap.size w5 wr) (fun i _ => N - (intOf i).toNat)
          case atStart => exact ⟨0, by omega, rfl, Below.refl _ _⟩
          case round =>
            obtain ⟨j, hj, rfl, hb⟩ := hrel
            have HB := Lib.hid hb
            clear hb
            by_cases hlt : j < N
            · have hjl : j < L.length := by rw [HNN.out]; exact hlt
              obtain ⟨b7, o7, rfl, hl1, hcc1⟩ := (HI4'.out.below HB.out).at_ (by omega)
              obtain ⟨p0, p1, p2, p3, p4⟩ := hcc1 j hjl
              obtain ⟨b8, o8, rfl, hl2, hcc2⟩ := (HI5.out.below HB.out).at_ (by omega)
              obtain ⟨q0, q1, q2, q3, q4⟩ := hcc2 j hjl
              obtain ⟨y, hy⟩ : ∃ y, L[j]'hjl = y := ⟨_, rfl⟩
              rw [hy] at p0 p1 p2 p3 p4 q0 q1 q2 q3 q4
              obtain ⟨ky, sy, gy, vy, ty⟩ := y
              simp only at p0 p1 p2 p3 p4 q0 q1 q2 q3 q4
              have hne : ∀ W, (binOp .neq 56 (.agg #[.string ky, .int .i64 sy, .bool gy, .string vy, .int .i64 ty]) (.agg #[.string ky, .int .i64 sy, .bool gy, .string vy, .int .i64 ty])).run Tryz.prog W = .ok (.bool false) W := fun W => by
                rw [rent_any, (eqB_iff _ _).2 rfl]; rfl
              have g0 : (0 : Int) ≤ (j : Int) := by omega
              have g1 : (j : Int) < (N : Int) := by omega
              have d1 : decide ((j : Int) < (N : Int)) = true := decide_eq_true (by omega)
              clear hl1 hcc1 hl2 hcc2 hy
              go_wp2_with fail
              go_quiet (fail)
              have HBQ : Hid (∀ i, Below w5.heap.size w5 (World.drewN wr i)) := Lib.hid fun i => below_drewN HB.out i
              generalize hq : World.drewN wr _ = wq
              have HBQ3 : Hid (Below w5.heap.size w5 wq) := Lib.hid (by rw [← hq]; exact HBQ.out _)
              clear hq HBQ
              go_wp2
              go_roundw
              case rel => exact ⟨j + 1, by omega, by go_num, HBQ3.out⟩
              case measure => simp [intOf]; omega
            · obtain rfl : j = N := by omega
              have d1 : decide ((j : Int) < (j : Int)) = false := decide_eq_false (by omega)
              go_wp2
              go_ret
              exact ⟨rfl, below_seq HB2.out (below_seq HB5.out HB.out (by have := HB5.out.size; omega)) (by have := HB2.out.size; have := HX0.out; omega)⟩

set_option maxRecDepth 100000 in
theorem contract (H : Type) (enc : TypeId × Value → H) (W : World) (base : Nat) (args : Array Value) (ds gs : List (DataW H)) (before : List MemPlace)
    (hval : ∀ (j : Nat) t v, Tryz.f5.params[j]? = some t → args[j]? = some v → Value.okWide Tryz.prog W .any base t v)
    (hW : DataW.Whole enc Tryz.prog Tryz.f5.params.toList Rows.tableReadsSpec.vars false W args.toList ds gs before)
    (hz : (DataW.weightsEach Tryz.prog Tryz.f5.params.toList (ds ++ gs)).all (· ≤ reachBytes) = true) :
    Calls Tryz.prog 5 args W fun e W' => ∃ v, e = .returned v ∧ Rows.tableReadsSpec.post enc Tryz.prog Tryz.f5 false true false false W args v W' := by
  have hW' := hW
  obtain ⟨p, q, hA0, hV, rfl, hfz, hnd⟩ := hW
  have hA : DataW.TrodAll enc Tryz.prog W 0 (fun _ => true) true Tryz.f5.params.toList args.toList ds p := hA0
  rw [Tryz.params5] at hA hval hz
  obtain ⟨v0, vs0, d0, ds0, p0, q0, hargs, rfl, rfl, h0, r0⟩ := trodAll_cons hA
  obtain ⟨v1, vs1, d1, ds1, p1, q1, rfl, rfl, rfl, h1, r1⟩ := trodAll_cons r0
  obtain ⟨v2, vs2, d2, ds2, p2, q2, rfl, rfl, rfl, h2, r2⟩ := trodAll_cons r1
  obtain ⟨rfl, rfl, rfl⟩ := trodAll_nil r2
  obtain rfl : args = #[v0, v1, v2] := by cases args; simp_all
  obtain ⟨rfl, rfl⟩ := trodVars_none hV
  obtain ⟨s, rfl, rfl, rfl, hmax0⟩ := Go.ChangeMaps.open_string Tryz.underlying9 (hval 0 9 v0 rfl rfl) h0
  have hs : s.size ≤ 140737488351232 := by
    have h := sized_string hz (j := 0) rfl rfl
    have hl : s.data.toList.length = s.size := by simp
    unfold reachBytes at h
    omega
  obtain ⟨key, rfl, rfl, rfl, hmax1⟩ := Go.ChangeMaps.open_string Tryz.underlying9 (hval 1 9 v1 rfl rfl) h1
  have hkey : key.size ≤ 140737488351232 := by
    have h := sized_string hz (j := 1) rfl rfl
    have hl : key.data.toList.length = key.size := by simp
    unfold reachBytes at h
    omega
  obtain ⟨i, rfl, rfl, rfl, wi⟩ := open_int Tryz.underlying3 (hval 2 3 v2 rfl rfl) h2
  have hi : -9223372036854775808 ≤ i ∧ i ≤ 9223372036854775807 := by simpa [Lit.wf, IntKind.min, IntKind.max, IntKind.signed, IntKind.bits] using wi
  refine (walk s key i W hs hi.1 hi.2).mono fun e W' ⟨he, hB⟩ => ?_
  subst he
  exact ⟨_, rfl, law_post Tryz.laidOut (by kernel_rfl) rfl rfl Tryz.underlying4 hW' rfl hB⟩

set_option maxRecDepth 100000 in
theorem lifted (os : Os) (started : os.Started) (H : Type) (enc : TypeId × Value → H) :
    ReturnsInHanded {} Tryz.checked os 5 .any (Rows.tableReadsSpec.pre6 enc Tryz.prog Tryz.f5 Rows.tableReadsRow.domain false) (Rows.tableReadsSpec.post enc Tryz.prog Tryz.f5 false true false false) := by
  refine returnsInHanded_of_change_sized (C := Tryz.checked) Tryz.own started (by kernel_rfl) Tryz.func5
    (ChangeSpec.witness6 (enc := enc) (C := Tryz.checked) false ⟨#[], #[.string ⟨#[]⟩, .string ⟨#[]⟩, .int .i64 0], []⟩ 8 (by kernel_rfl) (by kernel_rfl) (by kernel_rfl) (by kernel_rfl)) ?_
  intro W base args ds gs before hval hW _ hz _
  exact contract H enc W base args ds gs before hval hW hz

theorem proved : Rows.TableReadsSaid :=
  OpenClaim.holds_of_wide 5 Tryz.f5 rfl rfl rfl rfl rfl rfl rfl ⟨rfl, rfl, rfl, rfl, rfl⟩ rfl rfl rfl rfl rfl (by kernel_rfl) Tryz.func5 (by kernel_rfl)
    (of_decide_eq_true (by kernel_rfl)) (by unfold Func.isWrapper; first | (rw [if_pos (by decide +kernel)]; kernel_rfl) | (rw [if_neg (by decide +kernel)]; exact ⟨rfl, rfl⟩))
    (fun os started H enc _ => lifted os started H enc)
end lawReads
end Go.Proofs.YtnglaolbfpdgoaaGreat

