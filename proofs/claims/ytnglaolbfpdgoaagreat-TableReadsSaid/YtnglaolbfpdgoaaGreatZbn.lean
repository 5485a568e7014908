/- Texts joined by bundle.py: Rq. -/
import Derived.Test.YtnglaolbfpdgoaaGreatZbk
import Derived.Test.YtnglaolbfpdgoaaGreatZbh
import Derived.Test.YtnglaolbfpdgoaaGreatZbm
import Derived.Test.YtnglaolbfpdgoaaGreatZbb

/- The law's tables: the program's and the document's table of bytes. -/
namespace Go.Proofs.YtnglaolbfpdgoaaGreat
open Go.RowKit
open SK
open TB (Bs Sp)

theorem rsp_neq (W : World) (k : ByteArray) (a n : Int) : (binOp .neq 80 (.agg #[.string k, .int .i64 a, .int .i64 n]) (.agg #[.string k, .int .i64 a, .int .i64 n])).run Tryz.prog W = .ok (.bool false) W := by
  have ui := Tryz.underlying3
  have us := Tryz.underlying9
  rw [run_neq_struct, run_equalIn_agg W 9999 80 _ _ (by kernel_rfl) (by kernel_rfl)]
  unfold Program.fieldsOf
  rw [Tryz.underlying80]
  have e0 : ∀ W, (Go.part 9 #[.string k, .int .i64 a, .int .i64 n] 0).run Tryz.prog W = .ok (.string k) W := fun W => by simp [Go.part, isAgg, run_underlying us]
  have e1 : ∀ W, (Go.part 3 #[.string k, .int .i64 a, .int .i64 n] 1).run Tryz.prog W = .ok (.int .i64 a) W := fun W => by simp [Go.part, isAgg, run_underlying ui]
  have e2 : ∀ W, (Go.part 3 #[.string k, .int .i64 a, .int .i64 n] 2).run Tryz.prog W = .ok (.int .i64 n) W := fun W => by simp [Go.part, isAgg, run_underlying ui]
  simp [Op.eqFields, e0, e1, e2, run_equalIn_int _ _ _ _ _ _ _ ui, run_equalIn_string _ _ _ _ _ us, Result.andThen]

/-- what both sides' tables come to -/
def TablesOut (w : World) (s : ByteArray) (r : Except Int (List Sp × Bs)) (e : Ending) (w' : World) : Prop :=
  Below w.heap.size w w' ∧ match r with
    | .ok (ss, fl) => ∃ t x q, e = .returned (.tuple #[.pointer (some ⟨t, 0, none⟩), .pointer (some ⟨q, 0, none⟩), .bool true]) ∧ Tab w' t x s ss ⟨fl.toArray⟩ ∧ RTab w' q s ss ⟨fl.toArray⟩
    | .error _ => e = .returned (.tuple #[.pointer none, .pointer none, .bool true])

set_option maxRecDepth 100000 in
set_option maxHeartbeats 2000000 in
theorem tables_any (s : ByteArray) (size : Int) (w : World) (hs : s.size ≤ 281474976710656) (h0 : -9223372036854775808 ≤ size) (h1 : size ≤ 9223372036854775807) :
    Calls Tryz.prog 10 #[.string s, .int .i64 size] w fun e w' => TablesOut w s (TB.openS s.data.toList size) e w' := by
  have HO : Hid (∀ W x, W.heap[x]? = some (.cells #[.string s] 9 (0, 0)) → Calls Tryz.prog 15 #[srcV x, .int .i64 size] W fun e w' => OpenOut W x s (TB.openS s.data.toList size) e w') := Lib.hid fun W x hx => topen_any x s size W hx hs h0 h1
  have HR : Hid (∀ W, Calls Tryz.prog 32 #[.string s, .int .i64 size] W fun e w' => ROpenOut W s (TB.openS s.data.toList size) e w') := Lib.hid fun W => ropen_any s size W hs h0 h1
  obtain ⟨X, hX⟩ : ∃ X, TB.openS s.data.toList size = X := ⟨_, rfl⟩
  rw [hX] at HO HR ⊢
  unfold OpenOut at HO
  unfold ROpenOut at HR
  clear hX hs h0 h1
  unfold TablesOut
  go_enter Tryz.func10, Tryz.ntmps10
  go_wp2_with fail
  refine (source_any s w).mono ?_
  rintro e w1 ⟨rfl, hx1, hb1⟩
  have HB1 := Lib.hid hb1
  have HX1 := Lib.hid hx1
  clear hb1 hx1
  go_wp2_with fail
  refine (HO.out _ _ HX1.out).mono ?_
  cases X with
  | error c =>
    have hcc : (c == c) = true := beq_self_eq_true c
    have hcn : (c != c) = false := by simp
    rintro e w2 ⟨hb2, rfl⟩
    have HB2 := Lib.hid (below_seq HB1.out hb2 (by have := HB1.out.size; omega))
    clear hb2 HO HX1
    go_wp2_with fail
    refine (HR.out _).mono ?_
    rintro e w3 ⟨hb3, rfl⟩
    have HB3 := Lib.hid (below_seq HB2.out hb3 (by have := HB2.out.size; omega))
    clear hb3 HR
    go_wp2
    go_ret3
    exact ⟨HB3.out, rfl⟩
  | ok y =>
    obtain ⟨ss, fl⟩ := y
    rintro e w2 ⟨hb2, t, rfl, -, ht⟩
    have HB2 := Lib.hid (below_seq HB1.out hb2 (by have := HB1.out.size; omega))
    have HT2 := Lib.hid ht
    clear hb2 HO HX1 ht
    go_wp2_with fail
    refine (HR.out _).mono ?_
    rintro e w3 ⟨hb3, q, rfl, -, hq⟩
    have HB3 := Lib.hid (below_seq HB2.out hb3 (by have := HB2.out.size; omega))
    have HT3 := Lib.hid (HT2.out.below hb3)
    have HQ3 := Lib.hid hq
    clear hb3 HR hq HT2
    go_wp2_with fail
    refine (tspansof_any t _ s ss ⟨fl.toArray⟩ w3 HT3.out).mono ?_
    rintro e w4 ⟨A, c, rfl, hin, hb4⟩
    have HB4 := Lib.hid (below_seq HB3.out hb4 (by have := HB3.out.size; omega))
    have HT4 := Lib.hid (HT3.out.below hb4)
    have HQ4 := Lib.hid (HQ3.out.below hb4)
    have HIN := Lib.hid hin
    obtain ⟨B, cc, hrow, -⟩ := HQ4.out.row
    have c1 : w4.cell? ⟨q, 1, none⟩ = some (.slice B ss.length cc) := cell_of_row _ _ _ _ _ _ hrow
    obtain ⟨n, hn⟩ : ∃ n, ss.length = n := ⟨_, rfl⟩
    rw [hn] at c1 ⊢
    have HN := Lib.hid hn
    have hnn : ((n : Int) != (n : Int)) = false := by simp
    have hnn' : ((n : Int) == (n : Int)) = true := beq_self_eq_true _
    have hnb : n ≤ 65535 := by rw [← hn]; exact HQ4.out.len
    clear hb4 hin hrow hn HT3 HQ3
    go_wp2_with fail
    go_loopw [56] (fun i wr => ∃ j : Nat, j ≤ n ∧ i = .int .i64 j ∧ Below w4.heap.size w4 wr) (fun i _ => n - (intOf i).toNat)
    case atStart => exact ⟨0, by omega, rfl, Below.refl _ _⟩
    case round =>
      obtain ⟨j, hj, rfl, hb⟩ := hrel
      have HB := Lib.hid hb
      clear hb c1
      by_cases hlt : j < n
      · have hjs : j < ss.length := by rw [HN.out]; exact hlt
        obtain ⟨b1, o1, rfl, hl1, hc1⟩ := (HIN.out.below HB.out).at_ (by omega)
        obtain ⟨p0, p1, p2⟩ := hc1 j hjs
        obtain ⟨B2, cc2, hrow2, hin2⟩ := (HQ4.out.below HB.out).row
        obtain ⟨b2, o2, rfl, hl2, hc2⟩ := hin2.at_ (by omega)
        obtain ⟨q0, q1, q2⟩ := hc2 j hjs
        have c1 : wr.cell? ⟨q, 1, none⟩ = some (.slice (some ⟨b2, o2, none⟩) ss.length cc2) := cell_of_row _ _ _ _ _ _ hrow2
        rw [HN.out] at c1
        obtain ⟨La, hLa⟩ : ∃ La, (ss[j]'hjs).last = La := ⟨_, rfl⟩
        obtain ⟨a, ha⟩ : ∃ a, (ss[j]'hjs).at_ = a := ⟨_, rfl⟩
        obtain ⟨m, hm⟩ : ∃ m, (ss[j]'hjs).n = m := ⟨_, rfl⟩
        rw [hLa] at p0 q0
        rw [ha] at p1 q1
        rw [hm] at p2 q2
        have hne := fun W => rsp_neq W La a m
        have g0 : (0 : Int) ≤ (j : Int) := by omega
        have g1 : (j : Int) < (n : Int) := by omega
        have d0 : decide ((j : Int) < (n : Int)) = true := decide_eq_true (by omega)
        clear hl1 hc1 hrow2 hin2 hl2 hc2 hLa ha hm
        go_wp2_with fail
        go_quiet (fail)
        have HBQ : Hid (∀ i, Below w4.heap.size w4 (World.drewN wr i)) := Lib.hid fun i => below_drewN HB.out i
        generalize hq : World.drewN wr _ = wq
        have HBQ3 : Hid (Below w4.heap.size w4 wq) := Lib.hid (by rw [← hq]; exact HBQ.out _)
        clear hq HBQ
        go_wp2
        go_roundw
        case rel => exact ⟨j + 1, by omega, by go_num, HBQ3.out⟩
        case measure => simp [intOf]; omega
      · obtain rfl : j = n := by omega
        have d0 : decide ((j : Int) < (j : Int)) = false := decide_eq_false (by omega)
        go_wp2
        go_ret3
        exact ⟨below_seq HB4.out HB.out (by have := HB4.out.size; omega), t, _, q, rfl, HT4.out.below HB.out, HQ4.out.below HB.out⟩
end Go.Proofs.YtnglaolbfpdgoaaGreat

