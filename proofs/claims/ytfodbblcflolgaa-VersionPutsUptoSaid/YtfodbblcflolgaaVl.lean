/- apart: has no table a key in common with another one of its level? -/
import Derived.Test.YtfodbblcflolgaaVk
namespace Go.Proofs.Ytfodbblcflolgaa
open Go.RowKit
open VS
attribute [local go_sem ↓] Go.wp_at_zero Go.wp_at_succ

namespace VS
/-- are levels i + 1 to 3 apart? -/
def ra (L : List M) : Nat → Bool
  | 0 => steps (lev 1 L) && (steps (lev 2 L) && steps (lev 3 L))
  | 1 => steps (lev 2 L) && steps (lev 3 L)
  | 2 => steps (lev 3 L)
  | _ => true
theorem ra_step (L : List M) {i : Nat} (h : i < 3) : ra L i = (steps (lev ((i + 1 : Nat) : Int) L) && ra L (i + 1)) := by
  rcases (by omega : i = 0 ∨ i = 1 ∨ i = 2) with rfl | rfl | rfl
  · rfl
  · rfl
  · show steps (lev 3 L) = (steps (lev 3 L) && true)
    rw [Bool.and_true]
theorem steps_drop {l : List M} {m : Nat} (h : m + 1 < l.length) : steps (l.drop m) = (lt l[m].hi l[m + 1].lo && steps (l.drop (m + 1))) := by
  rw [List.drop_eq_getElem_cons (show m < l.length by omega), List.drop_eq_getElem_cons h]
  rfl
theorem steps_end {l : List M} {m : Nat} (h : l.length ≤ m + 1) : steps (l.drop m) = true := by
  have hl : (l.drop m).length ≤ 1 := by rw [List.length_drop]; omega
  match h2 : l.drop m, hl with
  | [], _ => rfl
  | [a], _ => rfl
  | a :: b :: r, hl => simp at hl
end VS

theorem arr_tail (W : World) (x : Nat) (v : Nat → Value) (a b c : Value) (h : W.heap[x]? = some (.cells #[v 0, v 1, v 2, v 3, a, b, c] 26 (0, 0))) {i : Nat} (hi : i < 3) : W.cell? ⟨x, 1 + i, none⟩ = some (v (i + 1)) := by
  rcases (by omega : i = 0 ∨ i = 1 ∨ i = 2) with rfl | rfl | rfl <;> simp [World.cell?, h]

set_option maxRecDepth 100000 in
set_option maxHeartbeats 4000000 in
theorem apart_any (A : Nat → Option Addr) (N C : Nat → Nat) (L : List M) (lg nx sq : Int) (w : World) (h : VerIn w A N C L) (hL : L.length ≤ 10000000) :
    Calls Try.prog 31 #[.agg #[.slice (A 0) (N 0) (C 0), .slice (A 1) (N 1) (C 1), .slice (A 2) (N 2) (C 2), .slice (A 3) (N 3) (C 3), .int .i64 lg, .int .i64 nx, .int .i64 sq]] w fun r w' => r = .returned (.bool (ra L 0)) ∧ Below w.heap.size w w' := by
  have HV := Lib.hid h
  have HLL := Lib.hid hL
  have HRA := Lib.hid (fun (i : Nat) (hi : i < 3) => ra_step L hi)
  have HR0 : Hid (ra L 3 = true) := Lib.hid rfl
  obtain ⟨R, hR⟩ : ∃ R, ra L 0 = R := ⟨_, rfl⟩
  rw [hR]
  have HR := Lib.hid hR
  have hal := (Below.refl w.heap.size w).alloc (Nat.le_refl _) (.cells #[.slice (A 0) (N 0) (C 0), .slice (A 1) (N 1) (C 1), .slice (A 2) (N 2) (C 2), .slice (A 3) (N 3) (C 3), .int .i64 lg, .int .i64 nx, .int .i64 sq] 26)
  have hrow := heap_alloc_new w (.cells #[.slice (A 0) (N 0) (C 0), .slice (A 1) (N 1) (C 1), .slice (A 2) (N 2) (C 2), .slice (A 3) (N 3) (C 3), .int .i64 lg, .int .i64 nx, .int .i64 sq] 26)
  have HCE : Hid (∀ W, Below (w.heap.size + 1) (w.alloc (.cells #[.slice (A 0) (N 0) (C 0), .slice (A 1) (N 1) (C 1), .slice (A 2) (N 2) (C 2), .slice (A 3) (N 3) (C 3), .int .i64 lg, .int .i64 nx, .int .i64 sq] 26)) W → ∀ i, i < 3 → W.cell? ⟨w.heap.size, 1 + i, none⟩ = some (.slice (A (i + 1)) (N (i + 1)) (C (i + 1)))) := Lib.hid fun W hW i hi =>
    arr_tail W w.heap.size (fun k => Value.slice (A k) (N k) (C k)) _ _ _ ((hW.block _ (by omega)).trans hrow) hi
  clear h hL hR hrow
  go_enter Try.func31, Try.ntmps31
  go_wp2
  generalize w.alloc (.cells #[.slice (A 0) (N 0) (C 0), .slice (A 1) (N 1) (C 1), .slice (A 2) (N 2) (C 2), .slice (A 3) (N 3) (C 3), .int .i64 lg, .int .i64 nx, .int .i64 sq] 26) = w0 at hal HCE ⊢
  have HAL := Lib.hid hal
  obtain ⟨x, hx⟩ : ∃ x, w.heap.size = x := ⟨_, rfl⟩
  have HX := Lib.hid hx
  rw [hx] at HCE ⊢
  have HALX : Hid (Below x w w0) := Lib.hid (by rw [← hx]; exact hal)
  clear hal hx
  go_loopw [9] (fun i wr => ∃ k : Nat, k ≤ 3 ∧ i = .int .i64 k ∧ Below (x + 1) w0 wr ∧ Hid (ra L k = R)) (fun i _ => 3 - (intOf i).toNat)
  case atStart => exact ⟨0, by omega, rfl, Below.refl _ _, HR⟩
  case round =>
    obtain ⟨k, hk, rfl, hbw, HRK⟩ := hrel
    have hbx : Below w.heap.size w wr := by rw [HX.out]; exact HALX.out.trans (hbw.mono (by omega))
    have HBX := Lib.hid hbx
    have HBW := Lib.hid hbw
    by_cases hk3 : k < 3
    · have hce := HCE.out wr hbw k hk3
      have hra := HRA.out k hk3
      rw [HRK.out] at hra
      have hlen := HV.out.len (k + 1) (by omega)
      have HI4 := Lib.hid (HV.out.at_ (k + 1) (by omega))
      have hll : (lev ((k + 1 : Nat) : Int) L).length ≤ 10000000 := Nat.le_trans (lev_len _ _) HLL.out
      obtain ⟨l, hl⟩ : ∃ l, lev ((k + 1 : Nat) : Int) L = l := ⟨_, rfl⟩
      rw [hl] at hra hlen HI4 hll
      obtain ⟨ak, hak⟩ : ∃ z, A (k + 1) = z := ⟨_, rfl⟩
      obtain ⟨nk, hnk⟩ : ∃ z, N (k + 1) = z := ⟨_, rfl⟩
      obtain ⟨ck, hck⟩ : ∃ z, C (k + 1) = z := ⟨_, rfl⟩
      rw [hak, hnk, hck] at hce
      rw [hak] at HI4
      rw [hnk] at hlen
      have hnb : nk ≤ 10000000 := by omega
      have HLEN := Lib.hid hlen
      have HRS := Lib.hid hra
      have hdk : decide ((k : Int) < 3) = true := by simp; omega
      have g0 : (0 : Int) ≤ (k : Int) := by omega
      have g1 : (k : Int) < 3 := by omega
      clear hlen hra hl hak hnk hck hll hbw hbx
      go_wp2_with fail
      go_loopw [5] (fun i wr => ∃ m : Nat, (m = 0 ∨ m + 1 ≤ nk) ∧ i = .int .i64 ((m + 1 : Nat) : Int) ∧ Below (x + 1) w0 wr ∧ Hid (R = (steps (l.drop m) && ra L (k + 1)))) (fun i _ => nk + 1 - (intOf i).toNat)
      case atStart => exact ⟨0, by omega, rfl, HBW.out, Lib.hid HRS.out⟩
      case round =>
        obtain ⟨m, hm, rfl, hbw, HRM⟩ := hrel
        obtain ⟨j, hj⟩ : ∃ j, m + 1 = j := ⟨_, rfl⟩
        rw [hj]
        have HJ := Lib.hid hj
        have hbx : Below w.heap.size w wr := by rw [HX.out]; exact HALX.out.trans (hbw.mono (by omega))
        have HBW2 := Lib.hid hbw
        by_cases hlt : j < nk
        · have hjl : j < l.length := by rw [← HLEN.out]; exact hlt
          have hml : m < l.length := by omega
          obtain ⟨cb, off, hA, hbl, hc⟩ := (HI4.out.below hbx).at_ (by omega)
          obtain ⟨-, -, c2, -⟩ := hc j hjl
          obtain ⟨-, -, -, c3⟩ := hc m hml
          have hsd := steps_drop (l := l) (m := m) (by omega)
          have hrm := HRM.out
          rw [hsd] at hrm
          simp only [hj] at hrm
          obtain ⟨e1, he1⟩ : ∃ e, l[j].lo = e := ⟨_, rfl⟩
          obtain ⟨e2, he2⟩ : ∃ e, l[m].hi = e := ⟨_, rfl⟩
          rw [he1] at c2 hrm
          rw [he2] at c3 hrm
          have hlq := text_leq e1 e2
          have hw1 : IntKind.i64.wrap ((j : Int) - 1) = (m : Int) := by rw [IntKind.wrap_i64]; omega
          have i0 : (0 : Int) ≤ (m : Int) := by omega
          have i1 : (m : Int) < (nk : Int) := by omega
          have i2 : (0 : Int) ≤ (j : Int) := by omega
          have i3 : (j : Int) < (nk : Int) := by omega
          subst hA
          have hjb : j ≤ 10000000 := by omega
          clear hc hsd he1 he2 hbw hbx hml hj hm hjl hce
          cases hlt2 : lt e2 e1 with
          | true =>
            rw [hlt2] at hlq hrm
            have hlq2 : (Op.bytesLess e1.toList e2.toList || e1.toList == e2.toList) = false := hlq
            have HRM2 : Hid (R = (steps (l.drop j) && ra L (k + 1))) := Lib.hid (by rw [hrm, Bool.true_and])
            clear hlq hrm hlt2
            go_wp2_with fail
            go_quiet (fail)
            have HB9 : Hid (Below (x + 1) w0 (wr.drewN nq)) := Lib.hid (below_drewN HBW2.out nq)
            go_wp2
            go_roundw
            case rel => exact ⟨j, by omega, by go_num, HB9.out, HRM2⟩
            case measure => simp [intOf]; omega
          | false =>
            rw [hlt2] at hlq hrm
            have hlq2 : (Op.bytesLess e1.toList e2.toList || e1.toList == e2.toList) = true := hlq
            have HRM2 : Hid (false = R) := Lib.hid (by rw [hrm, Bool.false_and, Bool.false_and])
            clear hlq hrm hlt2
            go_wp2_with fail
            go_quiet (fail)
            have HB9 : Hid (Below w.heap.size w (wr.drewN nq)) := Lib.hid (by rw [HX.out]; exact HALX.out.trans ((below_drewN HBW2.out nq).mono (by omega)))
            go_wp2
            go_ret
            exact ⟨by rw [← HRM2.out]; rfl, HB9.out⟩
        · have HRM2 : Hid (ra L (k + 1) = R) := Lib.hid (by rw [HRM.out, steps_end (by have := HLEN.out; omega), Bool.true_and])
          clear hbw hbx hm hj hce
          go_wp2
          go_roundw
          case rel => exact ⟨k + 1, by omega, by go_num, HBW2.out, HRM2⟩
          case measure => simp [intOf]; omega
    · obtain rfl : k = 3 := by omega
      have HRE : Hid (true = R) := Lib.hid (by rw [← HRK.out]; exact HR0.out.symm)
      clear hbw hbx
      go_wp2
      go_ret
      exact ⟨by rw [← HRE.out]; rfl, HBX.out⟩
end Go.Proofs.Ytfodbblcflolgaa
