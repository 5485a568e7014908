/- May an entry stand behind others: fits, and the document's Next. -/
import Derived.Test.YtcmnbfcceeljpaaBm
import Derived.Test.YtcmnbfcceeljpaaOp
import Derived.Test.YtcmnbfcceeljpaaSa
namespace Go.Proofs.Ytcmnbfcceeljpaa
open Go.RowKit
open SK

namespace BK
theorem nb_bad {a : List E} {e : E} (h : good e ≠ 0) : nb a e = good e := by unfold nb; rw [if_pos h]
theorem nb_max {a : List E} {e : E} (h : good e = 0) (ht : e.til = 9223372036854775807) : nb a e = 2 := by unfold nb; rw [if_neg (by simp [h]), if_pos ht]
theorem nb_nil {e : E} (h : good e = 0) (ht : e.til ≠ 9223372036854775807) : nb [] e = 0 := by unfold nb; rw [if_neg (by simp [h]), if_neg ht]; rfl
theorem nb_snoc {a : List E} {e p : E} (h : good e = 0) (ht : e.til ≠ 9223372036854775807) : nb (a ++ [p]) e = if less p e = true then 0 else 16 := by unfold nb; rw [if_neg (by simp [h]), if_neg ht]; simp
end BK

set_option maxRecDepth 100000 in
set_option maxHeartbeats 1000000 in
theorem fits_any (A : Option Addr) (n cap : Nat) (a : List E) (e : E) (w : World) (hn : a.length = n) (hin : EntsIn w A a) (he : e.wf) (hb : n ≤ 140737488351232) :
    Calls Try.prog 20 #[.slice A n cap, e.val] w fun r w' => r = .returned (.int .i64 (BK.nb a e)) ∧ Below w.heap.size w w' := by
  have HG : Hid (∀ W, Calls Try.prog 37 #[e.val] W fun r w' => r = .returned (.int .i64 (good e)) ∧ Below W.heap.size W w') := fun W => good_any e W he
  have HL : Hid (∀ (p : E) W, Calls Try.prog 36 #[p.val, e.val] W fun r w' => r = .returned (.bool (less p e)) ∧ Below W.heap.size W w') := fun p W => less_any p e W
  have HB0 : Hid (good e ≠ 0 → BK.nb a e = good e) := Lib.hid BK.nb_bad
  have HB1 : Hid (good e = 0 → e.til = 9223372036854775807 → BK.nb a e = 2) := Lib.hid BK.nb_max
  have HB2 : Hid (good e = 0 → e.til ≠ 9223372036854775807 → a = [] → BK.nb a e = 0) := Lib.hid (fun h1 h2 h3 => by rw [h3]; exact BK.nb_nil h1 h2)
  have HB3 : Hid (∀ b p, good e = 0 → e.til ≠ 9223372036854775807 → a = b ++ [p] → BK.nb a e = if less p e = true then 0 else 16) := Lib.hid (fun b p h1 h2 h3 => by rw [h3]; exact BK.nb_snoc h1 h2)
  obtain ⟨G, hG⟩ : ∃ G, good e = G := ⟨_, rfl⟩
  obtain ⟨R, hR⟩ : ∃ R, BK.nb a e = R := ⟨_, rfl⟩
  obtain ⟨LL, hLL⟩ : ∃ LL : E → Bool, (fun p => less p e) = LL := ⟨_, rfl⟩
  have hLp : ∀ p, less p e = LL p := fun p => by rw [← hLL]
  simp only [hG, hR, hLp] at HG HL HB0 HB1 HB2 HB3 ⊢
  clear hG hR hLL hLp
  have HIN := Lib.hid hin
  have HN := Lib.hid hn
  obtain ⟨k, q, g, v, t⟩ := e
  simp only [E.val] at HG HL HB1 HB2 HB3 ⊢
  have hrow : (w.alloc (.cells #[.string k, .int .i64 q, .bool g, .string v, .int .i64 t] 45)).heap[w.heap.size]? = some (.cells #[.string k, .int .i64 q, .bool g, .string v, .int .i64 t] 45 (0, 0)) := heap_alloc_new w _
  have hk0 : Below w.heap.size w (w.alloc (.cells #[.string k, .int .i64 q, .bool g, .string v, .int .i64 t] 45)) := (Below.refl _ w).alloc (Nat.le_refl _) _
  have HROW := Lib.hid hrow
  have HK0 := Lib.hid hk0
  clear he hin hrow hk0
  by_cases h0 : G = 0
  · subst h0
    by_cases ht : t = 9223372036854775807
    · subst ht
      have HR : Hid (R = 2) := Lib.hid (HB1.out rfl rfl)
      go_enter Try.func20, Try.ntmps20
      go_wp2_with fail
      refine (HG.out _).mono ?_
      rintro r w1 ⟨rfl, hb1⟩
      have hr1 := (hb1.block w.heap.size (by simp)).trans HROW.out
      have c4 : w1.cell? ⟨w.heap.size, 4, none⟩ = some (.int .i64 9223372036854775807) := cell_of_row _ _ _ _ _ _ hr1
      have HBW : Hid (Below w.heap.size w w1) := Lib.hid (HK0.out.trans (hb1.mono (by simp)))
      clear hr1 hb1
      go_wp2
      go_ret
      exact ⟨by rw [HR.out]; rfl, HBW.out⟩
    · have hbe : (t == 9223372036854775807) = false := by simpa using ht
      rcases List.eq_nil_or_concat a with ha | ⟨b, p, ha⟩
      · have HR : Hid (R = 0) := Lib.hid (HB2.out rfl ht ha)
        subst ha
        subst hn
        have hd : decide ((0 : Int) < ((([] : List E).length : Nat) : Int)) = false := rfl
        go_enter Try.func20, Try.ntmps20
        go_wp2_with fail
        refine (HG.out _).mono ?_
        rintro r w1 ⟨rfl, hb1⟩
        have hr1 := (hb1.block w.heap.size (by simp)).trans HROW.out
        have c4 : w1.cell? ⟨w.heap.size, 4, none⟩ = some (.int .i64 t) := cell_of_row _ _ _ _ _ _ hr1
        have HBW : Hid (Below w.heap.size w w1) := Lib.hid (HK0.out.trans (hb1.mono (by simp)))
        clear hr1 hb1
        go_wp2_with fail
        go_quiet (fail)
        go_wp2
        go_ret
        exact ⟨by rw [HR.out]; rfl, below_drewN HBW.out _⟩
      · simp only [List.concat_eq_append] at ha
        have HR : Hid (R = if LL p = true then 0 else 16) := Lib.hid (HB3.out b p rfl ht ha)
        obtain ⟨m, hnm⟩ : ∃ m, n = m + 1 := ⟨b.length, by rw [← hn, ha]; simp⟩
        have hbm : b.length = m := by have := hn; rw [ha, List.length_append, List.length_singleton] at this; omega
        have hml : m < a.length := by omega
        have hp : a[m] = p := by subst hbm; simp [ha]
        clear HB0 HB1 HB2 HB3 ha hbm hn
        go_enter Try.func20, Try.ntmps20
        go_wp2_with fail
        refine (HG.out _).mono ?_
        rintro r w1 ⟨rfl, hb1⟩
        have hr1 := (hb1.block w.heap.size (by simp)).trans HROW.out
        have HBW : Hid (Below w.heap.size w w1) := Lib.hid (HK0.out.trans (hb1.mono (by simp)))
        obtain ⟨bb, off, hA, hbl, hc⟩ := (HIN.out.below HBW.out).at_ (by omega)
        obtain ⟨z0, z1, z2, z3, z4⟩ := hc m hml
        rw [hp] at z0 z1 z2 z3 z4
        subst hA
        have HLP := Lib.hid (fun W => HL.out p W)
        obtain ⟨LP, hLP⟩ : ∃ LP, LL p = LP := ⟨_, rfl⟩
        rw [hLP] at HLP HR
        obtain ⟨k2, q2, g2, v2, t2⟩ := p
        simp only at HLP z0 z1 z2 z3 z4
        have c0 : w1.cell? ⟨w.heap.size, 0, none⟩ = some (.string k) := cell_of_row _ _ _ _ _ _ hr1
        have c1 : w1.cell? ⟨w.heap.size, 1, none⟩ = some (.int .i64 q) := cell_of_row _ _ _ _ _ _ hr1
        have c2 : w1.cell? ⟨w.heap.size, 2, none⟩ = some (.bool g) := cell_of_row _ _ _ _ _ _ hr1
        have c3 : w1.cell? ⟨w.heap.size, 3, none⟩ = some (.string v) := cell_of_row _ _ _ _ _ _ hr1
        have c4 : w1.cell? ⟨w.heap.size, 4, none⟩ = some (.int .i64 t) := cell_of_row _ _ _ _ _ _ hr1
        have HKEEP : Hid (∀ w2, Below w1.heap.size w1 w2 → w2.cell? ⟨w.heap.size, 0, none⟩ = some (.string k) ∧ w2.cell? ⟨w.heap.size, 1, none⟩ = some (.int .i64 q) ∧ w2.cell? ⟨w.heap.size, 2, none⟩ = some (.bool g) ∧ w2.cell? ⟨w.heap.size, 3, none⟩ = some (.string v) ∧ w2.cell? ⟨w.heap.size, 4, none⟩ = some (.int .i64 t) ∧
          w2.cell? ⟨bb, off + m * 5, none⟩ = some (.string k2) ∧ w2.cell? ⟨bb, off + m * 5 + 1, none⟩ = some (.int .i64 q2) ∧ w2.cell? ⟨bb, off + m * 5 + 2, none⟩ = some (.bool g2) ∧ w2.cell? ⟨bb, off + m * 5 + 3, none⟩ = some (.string v2) ∧ w2.cell? ⟨bb, off + m * 5 + 4, none⟩ = some (.int .i64 t2)) := Lib.hid (fun w2 h => by
          have hx := (Array.getElem?_eq_some_iff.1 hr1).1
          have hm := fun (p : Addr) (hp : p.block < w1.heap.size) => h.cell (p := p) hp
          exact ⟨(hm ⟨_, 0, none⟩ hx).trans c0, (hm ⟨_, 1, none⟩ hx).trans c1, (hm ⟨_, 2, none⟩ hx).trans c2, (hm ⟨_, 3, none⟩ hx).trans c3, (hm ⟨_, 4, none⟩ hx).trans c4,
            (hm ⟨_, _, none⟩ hbl).trans z0, (hm ⟨_, _, none⟩ hbl).trans z1, (hm ⟨_, _, none⟩ hbl).trans z2, (hm ⟨_, _, none⟩ hbl).trans z3, (hm ⟨_, _, none⟩ hbl).trans z4⟩)
        have hdn : decide (0 < n) = true := decide_eq_true (by omega)
        have hd : decide ((0 : Int) < (n : Int)) = true := decide_eq_true (by omega)
        have hwr : IntKind.i64.wrap ((n : Int) - 1) = (m : Int) := by rw [IntWalk.i64_in _ ⟨by omega, by omega⟩]; omega
        have g0 : (0 : Int) ≤ (m : Int) := by omega
        have g1 : (m : Int) < (n : Int) := by omega
        clear hr1 hb1 hbl hc hp hLP HL HG HN HIN HROW HK0 hnm hml hb
        go_wp2_with fail
        go_region_held3 (fun s => s.cell? ⟨w.heap.size, 0, none⟩ = some (.string k) ∧ s.cell? ⟨w.heap.size, 1, none⟩ = some (.int .i64 q) ∧ s.cell? ⟨w.heap.size, 2, none⟩ = some (.bool g) ∧ s.cell? ⟨w.heap.size, 3, none⟩ = some (.string v) ∧ s.cell? ⟨w.heap.size, 4, none⟩ = some (.int .i64 t) ∧
            s.cell? ⟨bb, off + m * 5, none⟩ = some (.string k2) ∧ s.cell? ⟨bb, off + m * 5 + 1, none⟩ = some (.int .i64 q2) ∧ s.cell? ⟨bb, off + m * 5 + 2, none⟩ = some (.bool g2) ∧ s.cell? ⟨bb, off + m * 5 + 3, none⟩ = some (.string v2) ∧ s.cell? ⟨bb, off + m * 5 + 4, none⟩ = some (.int .i64 t2))
          (first | exact HS2.out | go_keep | fail)
          (first
            | (go_at_call 36; refine (HLP.out _).mono ?_; rintro r w2 ⟨rfl, hb2⟩
               have HS2 : Hid (w2.cell? ⟨w.heap.size, 0, none⟩ = some (.string k) ∧ w2.cell? ⟨w.heap.size, 1, none⟩ = some (.int .i64 q) ∧ w2.cell? ⟨w.heap.size, 2, none⟩ = some (.bool g) ∧ w2.cell? ⟨w.heap.size, 3, none⟩ = some (.string v) ∧ w2.cell? ⟨w.heap.size, 4, none⟩ = some (.int .i64 t) ∧
                 w2.cell? ⟨bb, off + m * 5, none⟩ = some (.string k2) ∧ w2.cell? ⟨bb, off + m * 5 + 1, none⟩ = some (.int .i64 q2) ∧ w2.cell? ⟨bb, off + m * 5 + 2, none⟩ = some (.bool g2) ∧ w2.cell? ⟨bb, off + m * 5 + 3, none⟩ = some (.string v2) ∧ w2.cell? ⟨bb, off + m * 5 + 4, none⟩ = some (.int .i64 t2)) := Lib.hid (HKEEP.out _ (Below.trans (Below.drew (Below.refl _ w1)) (hb2.mono (by first | exact Nat.le_refl _ | simp | fail))))
               have HBW2 : Hid (Below w.heap.size w w2) := Lib.hid (Below.trans (Below.drew HBW.out) (hb2.mono (by have := HBW.out.size; simp; omega)))
               clear hb2)
            | fail)
        all_goals
          clear HS2
          cases LP <;> (go_wp2; go_ret; exact ⟨by rw [HR.out]; rfl, HBW2.out⟩)
  · have HR : Hid (R = G) := Lib.hid (HB0.out h0)
    have hbe : (G == 0) = false := by simpa using h0
    have hbn : (G != 0) = true := by simpa using h0
    go_enter Try.func20, Try.ntmps20
    go_wp2_with fail
    refine (HG.out _).mono ?_
    rintro r w1 ⟨rfl, hb1⟩
    have HBW : Hid (Below w.heap.size w w1) := Lib.hid (HK0.out.trans (hb1.mono (by simp)))
    clear hb1
    go_wp2
    go_ret
    exact ⟨by rw [HR.out]; rfl, HBW.out⟩
set_option maxRecDepth 100000 in
set_option maxHeartbeats 1000000 in
theorem next_any (A : Option Addr) (n cap : Nat) (a : List E) (e : E) (w : World) (hn : a.length = n) (hin : EntsIn w A a) (he : e.wf) (hb : n ≤ 140737488351232) :
    Calls Try.prog 21 #[.slice A n cap, e.val] w fun r w' => r = .returned (.int .i64 (BK.nb a e)) ∧ Below w.heap.size w w' := by
  have HG : Hid (∀ W, Calls Try.prog 38 #[e.val] W fun r w' => r = .returned (.int .i64 (good e)) ∧ Below W.heap.size W w') := fun W => rgood_any e W he
  have HL : Hid (∀ (p : E) W, Calls Try.prog 39 #[p.val, e.val] W fun r w' => r = .returned (.bool (less p e)) ∧ Below W.heap.size W w') := fun p W => rless_any p e W
  have HB0 : Hid (good e ≠ 0 → BK.nb a e = good e) := Lib.hid BK.nb_bad
  have HB1 : Hid (good e = 0 → e.til = 9223372036854775807 → BK.nb a e = 2) := Lib.hid BK.nb_max
  have HB2 : Hid (good e = 0 → e.til ≠ 9223372036854775807 → a = [] → BK.nb a e = 0) := Lib.hid (fun h1 h2 h3 => by rw [h3]; exact BK.nb_nil h1 h2)
  have HB3 : Hid (∀ b p, good e = 0 → e.til ≠ 9223372036854775807 → a = b ++ [p] → BK.nb a e = if less p e = true then 0 else 16) := Lib.hid (fun b p h1 h2 h3 => by rw [h3]; exact BK.nb_snoc h1 h2)
  obtain ⟨G, hG⟩ : ∃ G, good e = G := ⟨_, rfl⟩
  obtain ⟨R, hR⟩ : ∃ R, BK.nb a e = R := ⟨_, rfl⟩
  obtain ⟨LL, hLL⟩ : ∃ LL : E → Bool, (fun p => less p e) = LL := ⟨_, rfl⟩
  have hLp : ∀ p, less p e = LL p := fun p => by rw [← hLL]
  simp only [hG, hR, hLp] at HG HL HB0 HB1 HB2 HB3 ⊢
  clear hG hR hLL hLp
  have HIN := Lib.hid hin
  have HN := Lib.hid hn
  obtain ⟨k, q, g, v, t⟩ := e
  simp only [E.val] at HG HL HB1 HB2 HB3 ⊢
  have hrow : (w.alloc (.cells #[.string k, .int .i64 q, .bool g, .string v, .int .i64 t] 44)).heap[w.heap.size]? = some (.cells #[.string k, .int .i64 q, .bool g, .string v, .int .i64 t] 44 (0, 0)) := heap_alloc_new w _
  have hk0 : Below w.heap.size w (w.alloc (.cells #[.string k, .int .i64 q, .bool g, .string v, .int .i64 t] 44)) := (Below.refl _ w).alloc (Nat.le_refl _) _
  have HROW := Lib.hid hrow
  have HK0 := Lib.hid hk0
  clear he hin hrow hk0
  by_cases h0 : G = 0
  · subst h0
    by_cases ht : t = 9223372036854775807
    · subst ht
      have HR : Hid (R = 2) := Lib.hid (HB1.out rfl rfl)
      go_enter Try.func21, Try.ntmps21
      go_wp2_with fail
      refine (HG.out _).mono ?_
      rintro r w1 ⟨rfl, hb1⟩
      have hr1 := (hb1.block w.heap.size (by simp)).trans HROW.out
      have c4 : w1.cell? ⟨w.heap.size, 4, none⟩ = some (.int .i64 9223372036854775807) := cell_of_row _ _ _ _ _ _ hr1
      have HBW : Hid (Below w.heap.size w w1) := Lib.hid (HK0.out.trans (hb1.mono (by simp)))
      clear hr1 hb1
      go_wp2
      go_ret
      exact ⟨by rw [HR.out]; rfl, HBW.out⟩
    · have hbe : (t == 9223372036854775807) = false := by simpa using ht
      rcases List.eq_nil_or_concat a with ha | ⟨b, p, ha⟩
      · have HR : Hid (R = 0) := Lib.hid (HB2.out rfl ht ha)
        subst ha
        subst hn
        have hd : decide ((0 : Int) < ((([] : List E).length : Nat) : Int)) = false := rfl
        go_enter Try.func21, Try.ntmps21
        go_wp2_with fail
        refine (HG.out _).mono ?_
        rintro r w1 ⟨rfl, hb1⟩
        have hr1 := (hb1.block w.heap.size (by simp)).trans HROW.out
        have c4 : w1.cell? ⟨w.heap.size, 4, none⟩ = some (.int .i64 t) := cell_of_row _ _ _ _ _ _ hr1
        have HBW : Hid (Below w.heap.size w w1) := Lib.hid (HK0.out.trans (hb1.mono (by simp)))
        clear hr1 hb1
        go_wp2
        go_ret
        exact ⟨by rw [HR.out]; rfl, HBW.out⟩
      · simp only [List.concat_eq_append] at ha
        have HR : Hid (R = if LL p = true then 0 else 16) := Lib.hid (HB3.out b p rfl ht ha)
        obtain ⟨m, hnm⟩ : ∃ m, n = m + 1 := ⟨b.length, by rw [← hn, ha]; simp⟩
        have hbm : b.length = m := by have := hn; rw [ha, List.length_append, List.length_singleton] at this; omega
        have hml : m < a.length := by omega
        have hp : a[m] = p := by subst hbm; simp [ha]
        clear HB0 HB1 HB2 HB3 ha hbm hn
        go_enter Try.func21, Try.ntmps21
        go_wp2_with fail
        refine (HG.out _).mono ?_
        rintro r w1 ⟨rfl, hb1⟩
        have hr1 := (hb1.block w.heap.size (by simp)).trans HROW.out
        have HBW : Hid (Below w.heap.size w w1) := Lib.hid (HK0.out.trans (hb1.mono (by simp)))
        obtain ⟨bb, off, hA, hbl, hc⟩ := (HIN.out.below HBW.out).at_ (by omega)
        obtain ⟨z0, z1, z2, z3, z4⟩ := hc m hml
        rw [hp] at z0 z1 z2 z3 z4
        subst hA
        have HLP := Lib.hid (fun W => HL.out p W)
        obtain ⟨LP, hLP⟩ : ∃ LP, LL p = LP := ⟨_, rfl⟩
        rw [hLP] at HLP HR
        obtain ⟨k2, q2, g2, v2, t2⟩ := p
        simp only at HLP z0 z1 z2 z3 z4
        have c0 : w1.cell? ⟨w.heap.size, 0, none⟩ = some (.string k) := cell_of_row _ _ _ _ _ _ hr1
        have c1 : w1.cell? ⟨w.heap.size, 1, none⟩ = some (.int .i64 q) := cell_of_row _ _ _ _ _ _ hr1
        have c2 : w1.cell? ⟨w.heap.size, 2, none⟩ = some (.bool g) := cell_of_row _ _ _ _ _ _ hr1
        have c3 : w1.cell? ⟨w.heap.size, 3, none⟩ = some (.string v) := cell_of_row _ _ _ _ _ _ hr1
        have c4 : w1.cell? ⟨w.heap.size, 4, none⟩ = some (.int .i64 t) := cell_of_row _ _ _ _ _ _ hr1
        have HKEEP : Hid (∀ w2, Below w1.heap.size w1 w2 → w2.cell? ⟨w.heap.size, 0, none⟩ = some (.string k) ∧ w2.cell? ⟨w.heap.size, 1, none⟩ = some (.int .i64 q) ∧ w2.cell? ⟨w.heap.size, 2, none⟩ = some (.bool g) ∧ w2.cell? ⟨w.heap.size, 3, none⟩ = some (.string v) ∧ w2.cell? ⟨w.heap.size, 4, none⟩ = some (.int .i64 t) ∧
          w2.cell? ⟨bb, off + m * 5, none⟩ = some (.string k2) ∧ w2.cell? ⟨bb, off + m * 5 + 1, none⟩ = some (.int .i64 q2) ∧ w2.cell? ⟨bb, off + m * 5 + 2, none⟩ = some (.bool g2) ∧ w2.cell? ⟨bb, off + m * 5 + 3, none⟩ = some (.string v2) ∧ w2.cell? ⟨bb, off + m * 5 + 4, none⟩ = some (.int .i64 t2)) := Lib.hid (fun w2 h => by
          have hx := (Array.getElem?_eq_some_iff.1 hr1).1
          have hm := fun (p : Addr) (hp : p.block < w1.heap.size) => h.cell (p := p) hp
          exact ⟨(hm ⟨_, 0, none⟩ hx).trans c0, (hm ⟨_, 1, none⟩ hx).trans c1, (hm ⟨_, 2, none⟩ hx).trans c2, (hm ⟨_, 3, none⟩ hx).trans c3, (hm ⟨_, 4, none⟩ hx).trans c4,
            (hm ⟨_, _, none⟩ hbl).trans z0, (hm ⟨_, _, none⟩ hbl).trans z1, (hm ⟨_, _, none⟩ hbl).trans z2, (hm ⟨_, _, none⟩ hbl).trans z3, (hm ⟨_, _, none⟩ hbl).trans z4⟩)
        have hdn : decide (0 < n) = true := decide_eq_true (by omega)
        have hd : decide ((0 : Int) < (n : Int)) = true := decide_eq_true (by omega)
        have hwr : IntKind.i64.wrap ((n : Int) - 1) = (m : Int) := by rw [IntWalk.i64_in _ ⟨by omega, by omega⟩]; omega
        have g0 : (0 : Int) ≤ (m : Int) := by omega
        have g1 : (m : Int) < (n : Int) := by omega
        clear hr1 hb1 hbl hc hp hLP HL HG HN HIN HROW HK0 hnm hml hb
        go_wp2_with fail
        go_region_held3 (fun s => s.cell? ⟨w.heap.size, 0, none⟩ = some (.string k) ∧ s.cell? ⟨w.heap.size, 1, none⟩ = some (.int .i64 q) ∧ s.cell? ⟨w.heap.size, 2, none⟩ = some (.bool g) ∧ s.cell? ⟨w.heap.size, 3, none⟩ = some (.string v) ∧ s.cell? ⟨w.heap.size, 4, none⟩ = some (.int .i64 t) ∧
            s.cell? ⟨bb, off + m * 5, none⟩ = some (.string k2) ∧ s.cell? ⟨bb, off + m * 5 + 1, none⟩ = some (.int .i64 q2) ∧ s.cell? ⟨bb, off + m * 5 + 2, none⟩ = some (.bool g2) ∧ s.cell? ⟨bb, off + m * 5 + 3, none⟩ = some (.string v2) ∧ s.cell? ⟨bb, off + m * 5 + 4, none⟩ = some (.int .i64 t2))
          (first | exact HS2.out | go_keep | fail)
          (first
            | (go_at_call 39; refine (HLP.out _).mono ?_; rintro r w2 ⟨rfl, hb2⟩
               have HS2 : Hid (w2.cell? ⟨w.heap.size, 0, none⟩ = some (.string k) ∧ w2.cell? ⟨w.heap.size, 1, none⟩ = some (.int .i64 q) ∧ w2.cell? ⟨w.heap.size, 2, none⟩ = some (.bool g) ∧ w2.cell? ⟨w.heap.size, 3, none⟩ = some (.string v) ∧ w2.cell? ⟨w.heap.size, 4, none⟩ = some (.int .i64 t) ∧
                 w2.cell? ⟨bb, off + m * 5, none⟩ = some (.string k2) ∧ w2.cell? ⟨bb, off + m * 5 + 1, none⟩ = some (.int .i64 q2) ∧ w2.cell? ⟨bb, off + m * 5 + 2, none⟩ = some (.bool g2) ∧ w2.cell? ⟨bb, off + m * 5 + 3, none⟩ = some (.string v2) ∧ w2.cell? ⟨bb, off + m * 5 + 4, none⟩ = some (.int .i64 t2)) := Lib.hid (HKEEP.out _ (Below.trans (Below.drew (Below.refl _ w1)) (hb2.mono (by first | exact Nat.le_refl _ | simp | fail))))
               have HBW2 : Hid (Below w.heap.size w w2) := Lib.hid (Below.trans (Below.drew HBW.out) (hb2.mono (by have := HBW.out.size; simp; omega)))
               clear hb2)
            | fail)
        all_goals
          clear HS2
          cases LP <;> (go_wp2; go_ret; exact ⟨by rw [HR.out]; rfl, HBW2.out⟩)
  · have HR : Hid (R = G) := Lib.hid (HB0.out h0)
    have hbe : (G == 0) = false := by simpa using h0
    have hbn : (G != 0) = true := by simpa using h0
    go_enter Try.func21, Try.ntmps21
    go_wp2_with fail
    refine (HG.out _).mono ?_
    rintro r w1 ⟨rfl, hb1⟩
    have HBW : Hid (Below w.heap.size w w1) := Lib.hid (HK0.out.trans (hb1.mono (by simp)))
    clear hb1
    go_wp2
    go_ret
    exact ⟨by rw [HR.out]; rfl, HBW.out⟩
end Go.Proofs.Ytcmnbfcceeljpaa
