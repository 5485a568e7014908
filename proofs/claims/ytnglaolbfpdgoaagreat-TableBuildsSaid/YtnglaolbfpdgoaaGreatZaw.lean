/- Texts joined by bundle.py: Ft, Od. -/
import Derived.Test.YtnglaolbfpdgoaaGreatZag
import Derived.Test.YtnglaolbfpdgoaaGreatZau
import Derived.Test.YtnglaolbfpdgoaaGreatZav

/- May an entry stand behind others: fits, and the document's Next. -/
namespace Go.Proofs.YtnglaolbfpdgoaaGreat
open Go.RowKit
open SK

namespace BK
theorem nb_bad {a : List E} {e : E} (h : good e ≠ 0) : nb a e = good e := by unfold nb; rw [if_pos h]
theorem nb_max {a : List E} {e : E} (h : good e = 0) (ht : e.til = 9223372036854775807) : nb a e = 2 := by unfold nb; rw [if_neg (by simp [h]), if_pos ht]
theorem nb_nil {e : E} (h : good e = 0) (ht : e.til ≠ 9223372036854775807) : nb [] e = 0 := by unfold nb; rw [if_neg (by simp [h]), if_neg ht]; rfl
theorem nb_snoc {a : List E} {e p : E} (h : good e = 0) (ht : e.til ≠ 9223372036854775807) : nb (a ++ [p]) e = if less p e = true then 0 else 16 := by unfold nb; rw [if_neg (by simp [h]), if_neg ht]; simp
end BK

set_option maxRecDepth 100000 in
set_option maxHeartbeats 1000000 in
theorem fits_any (A : Option Addr) (n cap : Nat) (a : List E) (e : E) (w : World) (hn : a.length = n) (hin : EntsIn w A a) (he : e.wf) (hb : n ≤ 140737488351232) :
    Calls Tryz.prog 46 #[.slice A n cap, e.val] w fun r w' => r = .returned (.int .i64 (BK.nb a e)) ∧ Below w.heap.size w w' := by
  have HG : Hid (∀ W, Calls Tryz.prog 83 #[e.val] W fun r w' => r = .returned (.int .i64 (good e)) ∧ Below W.heap.size W w') := fun W => good_any e W he
  have HL : Hid (∀ (p : E) W, Calls Tryz.prog 84 #[p.val, e.val] W fun r w' => r = .returned (.bool (less p e)) ∧ Below W.heap.size W w') := fun p W => less_any p e W
  have HB0 : Hid (good e ≠ 0 → BK.nb a e = good e) := Lib.hid BK.nb_bad
  have HB1 : Hid (good e = 0 → e.til = 9223372036854775807 → BK.nb a e = 2) := Lib.hid BK.nb_max
  have HB2 : Hid (good e = 0 → e.til ≠ 9223372036854775807 → a = [] → BK.nb a e = 0) := Lib.hid (fun h1 h2 h3 => by rw [h3]; exact BK.nb_nil h1 h2)
  have HB3 : Hid (∀ b p, good e = 0 → e.til ≠ 9223372036854775807 → a = b ++ [p] → BK.nb a e = if less p e = true then 0 else 16) := Lib.hid (fun b p h1 h2 h3 => by rw [h3]; exact BK.nb_snoc h1 h2)
  obtain ⟨G, hG⟩ : ∃ G, good e = G := ⟨_, rfl⟩
  obtain ⟨R, hR⟩ : ∃ R, BK.nb a e = R := ⟨_, rfl⟩
  obtain ⟨LL, hLL⟩ : ∃ LL : E → Bool, (fun p => less p e) = LL := ⟨_, rfl⟩
  have hLp : ∀ p, less p e = LL p := fun p => by rw [← hLL]
  simp only [hG, hR, hLp] at HG HL HB0 HB1 HB2 HB3 ⊢
  clear hG hR hLL hLp
  have HIN := Lib.hid hin
  have HN := Lib.hid hn
  obtain ⟨k, q, g, v, t⟩ := e
  simp only [E.val] at HG HL HB1 HB2 HB3 ⊢
  have hrow : (w.alloc (.cells #[.string k, .int .i64 q, .bool g, .string v, .int .i64 t] 57)).heap[w.heap.size]? = some (.cells #[.string k, .int .i64 q, .bool g, .string v, .int .i64 t] 57 (0, 0)) := heap_alloc_new w _
  have hk0 : Below w.heap.size w (w.alloc (.cells #[.string k, .int .i64 q, .bool g, .string v, .int .i64 t] 57)) := (Below.refl _ w).alloc (Nat.le_refl _) _
  have HROW := Lib.hid hrow
  have HK0 := Lib.hid hk0
  clear he hin hrow hk0
  by_cases h0 : G = 0
  · subst h0
    by_cases ht : t = 9223372036854775807
    · subst ht
      have HR : Hid (R = 2) := Lib.hid (HB1.out rfl rfl)
      go_enter Tryz.func46, Tryz.ntmps46
      go_wp2_with fail
      refine (HG.out _).mono ?_
      rintro r w1 ⟨rfl, hb1⟩
      have hr1 := (hb1.block w.heap.size (by simp)).trans HROW.out
      have c4 : w1.cell? ⟨w.heap.size, 4, none⟩ = some (.int .i64 9223372036854775807) := cell_of_row _ _ _ _ _ _ hr1
      have HBW : Hid (Below w.heap.size w w1) := Lib.hid (HK0.out.trans (hb1.mono (by simp)))
      clear hr1 hb1
      go_wp2
      go_ret
      exact ⟨by rw [HR.out]; rfl, HBW.out⟩
    · have hbe : (t == 9223372036854775807) = false := by simpa using ht
      rcases List.eq_nil_or_concat a with ha | ⟨b, p, ha⟩
      · have HR : Hid (R = 0) := Lib.hid (HB2.out rfl ht ha)
        subst ha
        subst hn
        have hd : decide ((0 : Int) < ((([] : List E).length : Nat) : Int)) = false := rfl
        go_enter Tryz.func46, Tryz.ntmps46
        go_wp2_with fail
        refine (HG.out _).mono ?_
        rintro r w1 ⟨rfl, hb1⟩
        have hr1 := (hb1.block w.heap.size (by simp)).trans HROW.out
        have c4 : w1.cell? ⟨w.heap.size, 4, none⟩ = some (.int .i64 t) := cell_of_row _ _ _ _ _ _ hr1
        have HBW : Hid (Below w.heap.size w w1) := Lib.hid (HK0.out.trans (hb1.mono (by simp)))
        clear hr1 hb1
        go_wp2_with fail
        go_quiet (fail)
        go_wp2
        go_ret
        exact ⟨by rw [HR.out]; rfl, below_drewN HBW.out _⟩
      · simp only [List.concat_eq_append] at ha
        have HR : Hid (R = if LL p = true then 0 else 16) := Lib.hid (HB3.out b p rfl ht ha)
        obtain ⟨m, hnm⟩ : ∃ m, n = m + 1 := ⟨b.length, by rw [← hn, ha]; simp⟩
        have hbm : b.length = m := by have := hn; rw [ha, List.length_append, List.length_singleton] at this; omega
        have hml : m < a.length := by omega
        have hp : a[m] = p := by subst hbm; simp [ha]
        clear HB0 HB1 HB2 HB3 ha hbm hn
        go_enter Tryz.func46, Tryz.ntmps46
        go_wp2_with fail
        refine (HG.out _).mono ?_
        rintro r w1 ⟨rfl, hb1⟩
        have hr1 := (hb1.block w.heap.size (by simp)).trans HROW.out
        have HBW : Hid (Below w.heap.size w w1) := Lib.hid (HK0.out.trans (hb1.mono (by simp)))
        obtain ⟨bb, off, hA, hbl, hc⟩ := (HIN.out.below HBW.out).at_ (by omega)
        obtain ⟨z0, z1, z2, z3, z4⟩ := hc m hml
        rw [hp] at z0 z1 z2 z3 z4
        subst hA
        have HLP := Lib.hid (fun W => HL.out p W)
        obtain ⟨LP, hLP⟩ : ∃ LP, LL p = LP := ⟨_, rfl⟩
        rw [hLP] at HLP HR
        obtain ⟨k2, q2, g2, v2, t2⟩ := p
        simp only at HLP z0 z1 z2 z3 z4
        have c0 : w1.cell? ⟨w.heap.size, 0, none⟩ = some (.string k) := cell_of_row _ _ _ _ _ _ hr1
        have c1 : w1.cell? ⟨w.heap.size, 1, none⟩ = some (.int .i64 q) := cell_of_row _ _ _ _ _ _ hr1
        have c2 : w1.cell? ⟨w.heap.size, 2, none⟩ = some (.bool g) := cell_of_row _ _ _ _ _ _ hr1
        have c3 : w1.cell? ⟨w.heap.size, 3, none⟩ = some (.string v) := cell_of_row _ _ _ _ _ _ hr1
        have c4 : w1.cell? ⟨w.heap.size, 4, none⟩ = some (.int .i64 t) := cell_of_row _ _ _ _ _ _ hr1
        have HKEEP : Hid (∀ w2, Below w1.heap.size w1 w2 → w2.cell? ⟨w.heap.size, 0, none⟩ = some (.string k) ∧ w2.cell? ⟨w.heap.size, 1, none⟩ = some (.int .i64 q) ∧ w2.cell? ⟨w.heap.size, 2, none⟩ = some (.bool g) ∧ w2.cell? ⟨w.heap.size, 3, none⟩ = some (.string v) ∧ w2.cell? ⟨w.heap.size, 4, none⟩ = some (.int .i64 t) ∧
          w2.cell? ⟨bb, off + m * 5, none⟩ = some (.string k2) ∧ w2.cell? ⟨bb, off + m * 5 + 1, none⟩ = some (.int .i64 q2) ∧ w2.cell? ⟨bb, off + m * 5 + 2, none⟩ = some (.bool g2) ∧ w2.cell? ⟨bb, off + m * 5 + 3, none⟩ = some (.string v2) ∧ w2.cell? ⟨bb, off + m * 5 + 4, none⟩ = some (.int .i64 t2)) := Lib.hid (fun w2 h => by
          have hx := (Array.getElem?_eq_some_iff.1 hr1).1
          have hm := fun (p : Addr) (hp : p.block < w1.heap.size) => h.cell (p := p) hp
          exact ⟨(hm ⟨_, 0, none⟩ hx).trans c0, (hm ⟨_, 1, none⟩ hx).trans c1, (hm ⟨_, 2, none⟩ hx).trans c2, (hm ⟨_, 3, none⟩ hx).trans c3, (hm ⟨_, 4, none⟩ hx).trans c4,
            (hm ⟨_, _, none⟩ hbl).trans z0, (hm ⟨_, _, none⟩ hbl).trans z1, (hm ⟨_, _, none⟩ hbl).trans z2, (hm ⟨_, _, none⟩ hbl).trans z3, (hm ⟨_, _, none⟩ hbl).trans z4⟩)
        have hdn : decide (0 < n) = true := decide_eq_true (by omega)
        have hd : decide ((0 : Int) < (n : Int)) = true := decide_eq_true (by omega)
        have hwr : IntKind.i64.wrap ((n : Int) - 1) = (m : Int) := by rw [IntWalk.i64_in _ ⟨by omega, by omega⟩]; omega
        have g0 : (0 : Int) ≤ (m : Int) := by omega
        have g1 : (m : Int) < (n : Int) := by omega
        clear hr1 hb1 hbl hc hp hLP HL HG HN HIN HROW HK0 hnm hml hb
        go_wp2_with fail
        go_region_held3 (fun s => s.cell? ⟨w.heap.size, 0, none⟩ = some (.string k) ∧ s.cell? ⟨w.heap.size, 1, none⟩ = some (.int .i64 q) ∧ s.cell? ⟨w.heap.size, 2, none⟩ = some (.bool g) ∧ s.cell? ⟨w.heap.size, 3, none⟩ = some (.string v) ∧ s.cell? ⟨w.heap.size, 4, none⟩ = some (.int .i64 t) ∧
            s.cell? ⟨bb, off + m * 5, none⟩ = some (.string k2) ∧ s.cell? ⟨bb, off + m * 5 + 1, none⟩ = some (.int .i64 q2) ∧ s.cell? ⟨bb, off + m * 5 + 2, none⟩ = some (.bool g2) ∧ s.cell? ⟨bb, off + m * 5 + 3, none⟩ = some (.string v2) ∧ s.cell? ⟨bb, off + m * 5 + 4, none⟩ = some (.int .i64 t2))
          (first | exact HS2.out | go_keep | fail)
          (first
            | (go_at_call 84; refine (HLP.out _).mono ?_; rintro r w2 ⟨rfl, hb2⟩
               have HS2 : Hid (w2.cell? ⟨w.heap.size, 0, none⟩ = some (.string k) ∧ w2.cell? ⟨w.heap.size, 1, none⟩ = some (.int .i64 q) ∧ w2.cell? ⟨w.heap.size, 2, none⟩ = some (.bool g) ∧ w2.cell? ⟨w.heap.size, 3, none⟩ = some (.string v) ∧ w2.cell? ⟨w.heap.size, 4, none⟩ = some (.int .i64 t) ∧
                 w2.cell? ⟨bb, off + m * 5, none⟩ = some (.string k2) ∧ w2.cell? ⟨bb, off + m * 5 + 1, none⟩ = some (.int .i64 q2) ∧ w2.cell? ⟨bb, off + m * 5 + 2, none⟩ = some (.bool g2) ∧ w2.cell? ⟨bb, off + m * 5 + 3, none⟩ = some (.string v2) ∧ w2.cell? ⟨bb, off + m * 5 + 4, none⟩ = some (.int .i64 t2)) := Lib.hid (HKEEP.out _ (Below.trans (Below.drew (Below.refl _ w1)) (hb2.mono (by first | exact Nat.le_refl _ | simp | fail))))
               have HBW2 : Hid (Below w.heap.size w w2) := Lib.hid (Below.trans (Below.drew HBW.out) (hb2.mono (by have := HBW.out.size; simp; omega)))
               clear hb2)
            | fail)
        all_goals
          clear HS2
          cases LP <;> (go_wp2; go_ret; exact ⟨by rw [HR.out]; rfl, HBW2.out⟩)
  · have HR : Hid (R = G) := Lib.hid (HB0.out h0)
    have hbe : (G == 0) = false := by simpa using h0
    have hbn : (G != 0) = true := by simpa using h0
    go_enter Tryz.func46, Tryz.ntmps46
    go_wp2_with fail
    refine (HG.out _).mono ?_
    rintro r w1 ⟨rfl, hb1⟩
    have HBW : Hid (Below w.heap.size w w1) := Lib.hid (HK0.out.trans (hb1.mono (by simp)))
    clear hb1
    go_wp2
    go_ret
    exact ⟨by rw [HR.out]; rfl, HBW.out⟩
set_option maxRecDepth 100000 in
set_option maxHeartbeats 1000000 in
theorem next_any (A : Option Addr) (n cap : Nat) (a : List E) (e : E) (w : World) (hn : a.length = n) (hin : EntsIn w A a) (he : e.wf) (hb : n ≤ 140737488351232) :
    Calls Tryz.prog 60 #[.slice A n cap, e.val] w fun r w' => r = .returned (.int .i64 (BK.nb a e)) ∧ Below w.heap.size w w' := by
  have HG : Hid (∀ W, Calls Tryz.prog 95 #[e.val] W fun r w' => r = .returned (.int .i64 (good e)) ∧ Below W.heap.size W w') := fun W => rgood_any e W he
  have HL : Hid (∀ (p : E) W, Calls Tryz.prog 45 #[p.val, e.val] W fun r w' => r = .returned (.bool (less p e)) ∧ Below W.heap.size W w') := fun p W => rless_any p e W
  have HB0 : Hid (good e ≠ 0 → BK.nb a e = good e) := Lib.hid BK.nb_bad
  have HB1 : Hid (good e = 0 → e.til = 9223372036854775807 → BK.nb a e = 2) := Lib.hid BK.nb_max
  have HB2 : Hid (good e = 0 → e.til ≠ 9223372036854775807 → a = [] → BK.nb a e = 0) := Lib.hid (fun h1 h2 h3 => by rw [h3]; exact BK.nb_nil h1 h2)
  have HB3 : Hid (∀ b p, good e = 0 → e.til ≠ 9223372036854775807 → a = b ++ [p] → BK.nb a e = if less p e = true then 0 else 16) := Lib.hid (fun b p h1 h2 h3 => by rw [h3]; exact BK.nb_snoc h1 h2)
  obtain ⟨G, hG⟩ : ∃ G, good e = G := ⟨_, rfl⟩
  obtain ⟨R, hR⟩ : ∃ R, BK.nb a e = R := ⟨_, rfl⟩
  obtain ⟨LL, hLL⟩ : ∃ LL : E → Bool, (fun p => less p e) = LL := ⟨_, rfl⟩
  have hLp : ∀ p, less p e = LL p := fun p => by rw [← hLL]
  simp only [hG, hR, hLp] at HG HL HB0 HB1 HB2 HB3 ⊢
  clear hG hR hLL hLp
  have HIN := Lib.hid hin
  have HN := Lib.hid hn
  obtain ⟨k, q, g, v, t⟩ := e
  simp only [E.val] at HG HL HB1 HB2 HB3 ⊢
  have hrow : (w.alloc (.cells #[.string k, .int .i64 q, .bool g, .string v, .int .i64 t] 56)).heap[w.heap.size]? = some (.cells #[.string k, .int .i64 q, .bool g, .string v, .int .i64 t] 56 (0, 0)) := heap_alloc_new w _
  have hk0 : Below w.heap.size w (w.alloc (.cells #[.string k, .int .i64 q, .bool g, .string v, .int .i64 t] 56)) := (Below.refl _ w).alloc (Nat.le_refl _) _
  have HROW := Lib.hid hrow
  have HK0 := Lib.hid hk0
  clear he hin hrow hk0
  by_cases h0 : G = 0
  · subst h0
    by_cases ht : t = 9223372036854775807
    · subst ht
      have HR : Hid (R = 2) := Lib.hid (HB1.out rfl rfl)
      go_enter Tryz.func60, Tryz.ntmps60
      go_wp2_with fail
      refine (HG.out _).mono ?_
      rintro r w1 ⟨rfl, hb1⟩
      have hr1 := (hb1.block w.heap.size (by simp)).trans HROW.out
      have c4 : w1.cell? ⟨w.heap.size, 4, none⟩ = some (.int .i64 9223372036854775807) := cell_of_row _ _ _ _ _ _ hr1
      have HBW : Hid (Below w.heap.size w w1) := Lib.hid (HK0.out.trans (hb1.mono (by simp)))
      clear hr1 hb1
      go_wp2
      go_ret
      exact ⟨by rw [HR.out]; rfl, HBW.out⟩
    · have hbe : (t == 9223372036854775807) = false := by simpa using ht
      rcases List.eq_nil_or_concat a with ha | ⟨b, p, ha⟩
      · have HR : Hid (R = 0) := Lib.hid (HB2.out rfl ht ha)
        subst ha
        subst hn
        have hd : decide ((0 : Int) < ((([] : List E).length : Nat) : Int)) = false := rfl
        go_enter Tryz.func60, Tryz.ntmps60
        go_wp2_with fail
        refine (HG.out _).mono ?_
        rintro r w1 ⟨rfl, hb1⟩
        have hr1 := (hb1.block w.heap.size (by simp)).trans HROW.out
        have c4 : w1.cell? ⟨w.heap.size, 4, none⟩ = some (.int .i64 t) := cell_of_row _ _ _ _ _ _ hr1
        have HBW : Hid (Below w.heap.size w w1) := Lib.hid (HK0.out.trans (hb1.mono (by simp)))
        clear hr1 hb1
        go_wp2
        go_ret
        exact ⟨by rw [HR.out]; rfl, HBW.out⟩
      · simp only [List.concat_eq_append] at ha
        have HR : Hid (R = if LL p = true then 0 else 16) := Lib.hid (HB3.out b p rfl ht ha)
        obtain ⟨m, hnm⟩ : ∃ m, n = m + 1 := ⟨b.length, by rw [← hn, ha]; simp⟩
        have hbm : b.length = m := by have := hn; rw [ha, List.length_append, List.length_singleton] at this; omega
        have hml : m < a.length := by omega
        have hp : a[m] = p := by subst hbm; simp [ha]
        clear HB0 HB1 HB2 HB3 ha hbm hn
        go_enter Tryz.func60, Tryz.ntmps60
        go_wp2_with fail
        refine (HG.out _).mono ?_
        rintro r w1 ⟨rfl, hb1⟩
        have hr1 := (hb1.block w.heap.size (by simp)).trans HROW.out
        have HBW : Hid (Below w.heap.size w w1) := Lib.hid (HK0.out.trans (hb1.mono (by simp)))
        obtain ⟨bb, off, hA, hbl, hc⟩ := (HIN.out.below HBW.out).at_ (by omega)
        obtain ⟨z0, z1, z2, z3, z4⟩ := hc m hml
        rw [hp] at z0 z1 z2 z3 z4
        subst hA
        have HLP := Lib.hid (fun W => HL.out p W)
        obtain ⟨LP, hLP⟩ : ∃ LP, LL p = LP := ⟨_, rfl⟩
        rw [hLP] at HLP HR
        obtain ⟨k2, q2, g2, v2, t2⟩ := p
        simp only at HLP z0 z1 z2 z3 z4
        have c0 : w1.cell? ⟨w.heap.size, 0, none⟩ = some (.string k) := cell_of_row _ _ _ _ _ _ hr1
        have c1 : w1.cell? ⟨w.heap.size, 1, none⟩ = some (.int .i64 q) := cell_of_row _ _ _ _ _ _ hr1
        have c2 : w1.cell? ⟨w.heap.size, 2, none⟩ = some (.bool g) := cell_of_row _ _ _ _ _ _ hr1
        have c3 : w1.cell? ⟨w.heap.size, 3, none⟩ = some (.string v) := cell_of_row _ _ _ _ _ _ hr1
        have c4 : w1.cell? ⟨w.heap.size, 4, none⟩ = some (.int .i64 t) := cell_of_row _ _ _ _ _ _ hr1
        have HKEEP : Hid (∀ w2, Below w1.heap.size w1 w2 → w2.cell? ⟨w.heap.size, 0, none⟩ = some (.string k) ∧ w2.cell? ⟨w.heap.size, 1, none⟩ = some (.int .i64 q) ∧ w2.cell? ⟨w.heap.size, 2, none⟩ = some (.bool g) ∧ w2.cell? ⟨w.heap.size, 3, none⟩ = some (.string v) ∧ w2.cell? ⟨w.heap.size, 4, none⟩ = some (.int .i64 t) ∧
          w2.cell? ⟨bb, off + m * 5, none⟩ = some (.string k2) ∧ w2.cell? ⟨bb, off + m * 5 + 1, none⟩ = some (.int .i64 q2) ∧ w2.cell? ⟨bb, off + m * 5 + 2, none⟩ = some (.bool g2) ∧ w2.cell? ⟨bb, off + m * 5 + 3, none⟩ = some (.string v2) ∧ w2.cell? ⟨bb, off + m * 5 + 4, none⟩ = some (.int .i64 t2)) := Lib.hid (fun w2 h => by
          have hx := (Array.getElem?_eq_some_iff.1 hr1).1
          have hm := fun (p : Addr) (hp : p.block < w1.heap.size) => h.cell (p := p) hp
          exact ⟨(hm ⟨_, 0, none⟩ hx).trans c0, (hm ⟨_, 1, none⟩ hx).trans c1, (hm ⟨_, 2, none⟩ hx).trans c2, (hm ⟨_, 3, none⟩ hx).trans c3, (hm ⟨_, 4, none⟩ hx).trans c4,
            (hm ⟨_, _, none⟩ hbl).trans z0, (hm ⟨_, _, none⟩ hbl).trans z1, (hm ⟨_, _, none⟩ hbl).trans z2, (hm ⟨_, _, none⟩ hbl).trans z3, (hm ⟨_, _, none⟩ hbl).trans z4⟩)
        have hdn : decide (0 < n) = true := decide_eq_true (by omega)
        have hd : decide ((0 : Int) < (n : Int)) = true := decide_eq_true (by omega)
        have hwr : IntKind.i64.wrap ((n : Int) - 1) = (m : Int) := by rw [IntWalk.i64_in _ ⟨by omega, by omega⟩]; omega
        have g0 : (0 : Int) ≤ (m : Int) := by omega
        have g1 : (m : Int) < (n : Int) := by omega
        clear hr1 hb1 hbl hc hp hLP HL HG HN HIN HROW HK0 hnm hml hb
        go_wp2_with fail
        go_region_held3 (fun s => s.cell? ⟨w.heap.size, 0, none⟩ = some (.string k) ∧ s.cell? ⟨w.heap.size, 1, none⟩ = some (.int .i64 q) ∧ s.cell? ⟨w.heap.size, 2, none⟩ = some (.bool g) ∧ s.cell? ⟨w.heap.size, 3, none⟩ = some (.string v) ∧ s.cell? ⟨w.heap.size, 4, none⟩ = some (.int .i64 t) ∧
            s.cell? ⟨bb, off + m * 5, none⟩ = some (.string k2) ∧ s.cell? ⟨bb, off + m * 5 + 1, none⟩ = some (.int .i64 q2) ∧ s.cell? ⟨bb, off + m * 5 + 2, none⟩ = some (.bool g2) ∧ s.cell? ⟨bb, off + m * 5 + 3, none⟩ = some (.string v2) ∧ s.cell? ⟨bb, off + m * 5 + 4, none⟩ = some (.int .i64 t2))
          (first | exact HS2.out | go_keep | fail)
          (first
            | (go_at_call 45; refine (HLP.out _).mono ?_; rintro r w2 ⟨rfl, hb2⟩
               have HS2 : Hid (w2.cell? ⟨w.heap.size, 0, none⟩ = some (.string k) ∧ w2.cell? ⟨w.heap.size, 1, none⟩ = some (.int .i64 q) ∧ w2.cell? ⟨w.heap.size, 2, none⟩ = some (.bool g) ∧ w2.cell? ⟨w.heap.size, 3, none⟩ = some (.string v) ∧ w2.cell? ⟨w.heap.size, 4, none⟩ = some (.int .i64 t) ∧
                 w2.cell? ⟨bb, off + m * 5, none⟩ = some (.string k2) ∧ w2.cell? ⟨bb, off + m * 5 + 1, none⟩ = some (.int .i64 q2) ∧ w2.cell? ⟨bb, off + m * 5 + 2, none⟩ = some (.bool g2) ∧ w2.cell? ⟨bb, off + m * 5 + 3, none⟩ = some (.string v2) ∧ w2.cell? ⟨bb, off + m * 5 + 4, none⟩ = some (.int .i64 t2)) := Lib.hid (HKEEP.out _ (Below.trans (Below.drew (Below.refl _ w1)) (hb2.mono (by first | exact Nat.le_refl _ | simp | fail))))
               have HBW2 : Hid (Below w.heap.size w w2) := Lib.hid (Below.trans (Below.drew HBW.out) (hb2.mono (by have := HBW.out.size; simp; omega)))
               clear hb2)
            | fail)
        all_goals
          clear HS2
          cases LP <;> (go_wp2; go_ret; exact ⟨by rw [HR.out]; rfl, HBW2.out⟩)
  · have HR : Hid (R = G) := Lib.hid (HB0.out h0)
    have hbe : (G == 0) = false := by simpa using h0
    have hbn : (G != 0) = true := by simpa using h0
    go_enter Tryz.func60, Tryz.ntmps60
    go_wp2_with fail
    refine (HG.out _).mono ?_
    rintro r w1 ⟨rfl, hb1⟩
    have HBW : Hid (Below w.heap.size w w1) := Lib.hid (HK0.out.trans (hb1.mono (by simp)))
    clear hb1
    go_wp2
    go_ret
    exact ⟨by rw [HR.out]; rfl, HBW.out⟩
end Go.Proofs.YtnglaolbfpdgoaaGreat

/- The first entry that isn't in order: Ordered, of both sides. -/
namespace Go.Proofs.YtnglaolbfpdgoaaGreat
open Go.RowKit
open SK

theorem add_zero' (a : Addr) : a.add 0 = a := by
  obtain ⟨b, o, x⟩ := a
  simp [Addr.add]

/-- 'l[:m]' of a slice of entries -/
theorem slice_ents (W : World) (A : Option Addr) (n cap m : Nat) (h : m ≤ cap) : (Instr.slice 23 (.slice A n cap) none (some (.int .i64 (m : Int))) none).run Tryz.prog W = .ok (.slice A m cap) W := by
  have hs : ∀ w, (sizeOf (Tryz.prog.elem 23)).run Tryz.prog w = .ok 5 w := fun w => by kernel_rfl
  rw [run_slice_h W 23 A n cap (by kernel_rfl) .i64 (m : Int) (by omega) (by omega), hs]
  simp only [Result.andThen, sliced, Int.toNat_natCast, Nat.sub_zero, Nat.zero_mul, add_zero', Option.map_id']
  split <;> rfl
theorem slice_rents (W : World) (A : Option Addr) (n cap m : Nat) (h : m ≤ cap) : (Instr.slice 24 (.slice A n cap) none (some (.int .i64 (m : Int))) none).run Tryz.prog W = .ok (.slice A m cap) W := by
  have hs : ∀ w, (sizeOf (Tryz.prog.elem 24)).run Tryz.prog w = .ok 5 w := fun w => by kernel_rfl
  rw [run_slice_h W 24 A n cap (by kernel_rfl) .i64 (m : Int) (by omega) (by omega), hs]
  simp only [Result.andThen, sliced, Int.toNat_natCast, Nat.sub_zero, Nat.zero_mul, add_zero', Option.map_id']
  split <;> rfl

set_option maxRecDepth 100000 in
set_option maxHeartbeats 1000000 in
theorem bord_any (A : Option Addr) (n cap : Nat) (l : List E) (w : World) (hn : l.length = n) (hcap : n ≤ cap) (hin : EntsIn w A l) (hb : n ≤ 140737488351232) :
    Calls Tryz.prog 20 #[.slice A n cap] w fun r w' => r = .returned (.tuple #[.int .i64 (BK.ord l).1, .int .i64 (BK.ord l).2]) ∧ Below w.heap.size w w' := by
  have HF : Hid (∀ j c W, (h : j < l.length) → EntsIn W A l → Calls Tryz.prog 46 #[.slice A j c, (l[j]).val] W fun r w' => r = .returned (.int .i64 (BK.nb (l.take j) l[j])) ∧ Below W.heap.size W w') := Lib.hid (fun j c W h hE => fits_any A j c (l.take j) l[j] W (by rw [List.length_take]; omega) (hE.take j) (hE.wf _ (List.getElem_mem h)) (by omega))
  have HSL : Hid (∀ W m, m ≤ n → (Instr.slice 23 (.slice A n cap) none (some (.int .i64 (m : Int))) none).run Tryz.prog W = .ok (.slice A m cap) W) := Lib.hid (fun W m h => slice_ents W A n cap m (by omega))
  have HS : Hid (∀ j (h : j < l.length), BK.ord l = BK.ordF (l.take j) (l.drop j) → BK.nb (l.take j) l[j] = 0 → BK.ord l = BK.ordF (l.take (j + 1)) (l.drop (j + 1))) := Lib.hid (fun j h => BK.ord_step h)
  have HBD : Hid (∀ j (h : j < l.length), BK.ord l = BK.ordF (l.take j) (l.drop j) → BK.nb (l.take j) l[j] ≠ 0 → BK.ord l = ((j : Int), BK.nb (l.take j) l[j])) := Lib.hid (fun j h => BK.ord_bad h)
  have HE : Hid (BK.ord l = BK.ordF (l.take l.length) (l.drop l.length) → BK.ord l = (0, 0)) := Lib.hid BK.ord_end
  have hst : BK.ord l = BK.ordF (l.take 0) (l.drop 0) := by simp [BK.ord]
  obtain ⟨R, hR⟩ : ∃ R, BK.ord l = R := ⟨_, rfl⟩
  rw [hR] at HS HBD HE hst ⊢
  have HIN := Lib.hid hin
  have HN := Lib.hid hn
  have HST := Lib.hid hst
  have HLE := Lib.hid hb
  clear hin hn hR hst hcap hb
  go_enter Tryz.func20, Tryz.ntmps20
  go_wp2
  go_loopw [9] (fun i wr => ∃ j : Nat, j ≤ n ∧ i = .int .i64 j ∧ R = BK.ordF (l.take j) (l.drop j) ∧ Below w.heap.size w wr) (fun i _ => n - (intOf i).toNat)
  case atStart => exact ⟨0, by omega, rfl, HST.out, Below.refl _ _⟩
  case round =>
    obtain ⟨j, hj, rfl, hup, hbel⟩ := hrel
    by_cases hlt : j < n
    · have hjl : j < l.length := by rw [HN.out]; omega
      have hsl := fun W => HSL.out W j (by omega)
      obtain ⟨b, off, hA, hbl, hc⟩ := (HIN.out.below hbel).at_ (by omega)
      obtain ⟨z0, z1, z2, z3, z4⟩ := hc j hjl
      have HFT := Lib.hid (fun c W hE => HF.out j c W hjl hE)
      have HS1 := Lib.hid (HS.out j hjl hup)
      have HB1 := Lib.hid (HBD.out j hjl hup)
      have HINR : Hid (∀ W, Below wr.heap.size wr W → EntsIn W A l) := Lib.hid (fun W h => (HIN.out.below hbel).below h)
      obtain ⟨e, he⟩ : ∃ e, l[j] = e := ⟨_, rfl⟩
      rw [he] at z0 z1 z2 z3 z4
      simp only [he] at HFT HS1 HB1
      obtain ⟨c1, hc1⟩ : ∃ c1, BK.nb (l.take j) e = c1 := ⟨_, rfl⟩
      simp only [hc1] at HFT HS1 HB1
      have HBEL := Lib.hid hbel
      subst hA
      obtain ⟨k, q, g, v, t⟩ := e
      simp only [E.val] at z0 z1 z2 z3 z4 HFT
      have g0 : (0 : Int) ≤ (j : Int) := by omega
      have g1 : (j : Int) < (n : Int) := by omega
      have hjw : n ≤ 140737488351232 := HLE.out

      have hrow : (wr.alloc (.cells #[.string k, .int .i64 q, .bool g, .string v, .int .i64 t] 57)).heap[wr.heap.size]? = some (.cells #[.string k, .int .i64 q, .bool g, .string v, .int .i64 t] 57 (0, 0)) := heap_alloc_new wr _
      have hal : Below wr.heap.size wr (wr.alloc (.cells #[.string k, .int .i64 q, .bool g, .string v, .int .i64 t] 57)) := (Below.refl _ _).alloc (Nat.le_refl _) _
      clear hbel hbl hc he hc1 hup
      go_wp2_with fail
      generalize wr.alloc (.cells #[.string k, .int .i64 q, .bool g, .string v, .int .i64 t] 57) = w3 at hrow hal ⊢
      obtain ⟨x, hx⟩ : ∃ x, wr.heap.size = x := ⟨_, rfl⟩
      have HX := Lib.hid hx
      rw [hx] at hrow hal ⊢
      have HAL := Lib.hid hal
      have HROW := Lib.hid hrow
      clear hx hal z0 z1 z2 z3 z4
      obtain ⟨d0, d1, d2, d3, d4⟩ : w3.cell? ⟨x, 0, none⟩ = some (.string k) ∧ w3.cell? ⟨x, 1, none⟩ = some (.int .i64 q) ∧ w3.cell? ⟨x, 2, none⟩ = some (.bool g) ∧ w3.cell? ⟨x, 3, none⟩ = some (.string v) ∧ w3.cell? ⟨x, 4, none⟩ = some (.int .i64 t) := ⟨cell_of_row _ _ _ _ _ _ hrow, cell_of_row _ _ _ _ _ _ hrow, cell_of_row _ _ _ _ _ _ hrow, cell_of_row _ _ _ _ _ _ hrow, cell_of_row _ _ _ _ _ _ hrow⟩
      clear hrow
      go_region_held3 (fun s => s.cell? ⟨x, 0, none⟩ = some (.string k) ∧ s.cell? ⟨x, 1, none⟩ = some (.int .i64 q) ∧ s.cell? ⟨x, 2, none⟩ = some (.bool g) ∧ s.cell? ⟨x, 3, none⟩ = some (.string v) ∧ s.cell? ⟨x, 4, none⟩ = some (.int .i64 t))
        (first | exact HS2.out | go_keep | fail)
        (first
          | (go_at_call 46; refine (HFT.out _ _ (HINR.out _ (by rw [HX.out]; exact Below.drew HAL.out))).mono ?_; rintro r w4 ⟨rfl, hb4⟩
             have hr4 := (hb4.block x (Array.getElem?_eq_some_iff.1 HROW.out).1).trans HROW.out
             have HS2 : Hid (w4.cell? ⟨x, 0, none⟩ = some (.string k) ∧ w4.cell? ⟨x, 1, none⟩ = some (.int .i64 q) ∧ w4.cell? ⟨x, 2, none⟩ = some (.bool g) ∧ w4.cell? ⟨x, 3, none⟩ = some (.string v) ∧ w4.cell? ⟨x, 4, none⟩ = some (.int .i64 t)) := Lib.hid ⟨cell_of_row _ _ _ _ _ _ hr4, cell_of_row _ _ _ _ _ _ hr4, cell_of_row _ _ _ _ _ _ hr4, cell_of_row _ _ _ _ _ _ hr4, cell_of_row _ _ _ _ _ _ hr4⟩
             have HB4 : Hid (Below w.heap.size w w4) := Lib.hid (HBEL.out.trans ((Below.trans (Below.drew HAL.out) (hb4.mono (by have := HAL.out.size; have := (Array.getElem?_eq_some_iff.1 HROW.out).1; simp; omega))).mono (by rw [← HX.out]; exact HBEL.out.size)))
             clear hb4 hr4)
          | fail)

      all_goals
        clear HS2
        by_cases h0 : c1 = 0
        · subst h0
          have HS2 := Lib.hid (HS1.out rfl)
          go_wp2
          go_roundw
          case rel => exact ⟨j + 1, by omega, by go_num, HS2.out, HB4.out⟩
          case measure => simp [intOf]; omega
        · have hbe : (c1 == 0) = false := by simpa using h0
          have hbn : (c1 != 0) = true := by simpa using h0
          have HRR := Lib.hid (HB1.out h0)
          clear HS1 HB1
          go_wp2
          rw [HRR.out]
          go_ret2
          exact ⟨rfl, HB4.out⟩
    · have hjn : j = n := by omega
      have HRR : Hid (R = (0, 0)) := Lib.hid (HE.out (by rw [HN.out, ← hjn]; exact hup))
      have HBEL := Lib.hid hbel
      subst hjn
      clear hup hbel
      go_wp2
      rw [HRR.out]
      go_ret2
      exact ⟨rfl, HBEL.out⟩

set_option maxRecDepth 100000 in
set_option maxHeartbeats 1000000 in
theorem rord_any (A : Option Addr) (n cap : Nat) (l : List E) (w : World) (hn : l.length = n) (hcap : n ≤ cap) (hin : EntsIn w A l) (hb : n ≤ 140737488351232) :
    Calls Tryz.prog 24 #[.slice A n cap] w fun r w' => r = .returned (.tuple #[.int .i64 (BK.ord l).1, .int .i64 (BK.ord l).2]) ∧ Below w.heap.size w w' := by
  have HF : Hid (∀ j c W, (h : j < l.length) → EntsIn W A l → Calls Tryz.prog 60 #[.slice A j c, (l[j]).val] W fun r w' => r = .returned (.int .i64 (BK.nb (l.take j) l[j])) ∧ Below W.heap.size W w') := Lib.hid (fun j c W h hE => next_any A j c (l.take j) l[j] W (by rw [List.length_take]; omega) (hE.take j) (hE.wf _ (List.getElem_mem h)) (by omega))
  have HSL : Hid (∀ W m, m ≤ n → (Instr.slice 24 (.slice A n cap) none (some (.int .i64 (m : Int))) none).run Tryz.prog W = .ok (.slice A m cap) W) := Lib.hid (fun W m h => slice_rents W A n cap m (by omega))
  have HS : Hid (∀ j (h : j < l.length), BK.ord l = BK.ordF (l.take j) (l.drop j) → BK.nb (l.take j) l[j] = 0 → BK.ord l = BK.ordF (l.take (j + 1)) (l.drop (j + 1))) := Lib.hid (fun j h => BK.ord_step h)
  have HBD : Hid (∀ j (h : j < l.length), BK.ord l = BK.ordF (l.take j) (l.drop j) → BK.nb (l.take j) l[j] ≠ 0 → BK.ord l = ((j : Int), BK.nb (l.take j) l[j])) := Lib.hid (fun j h => BK.ord_bad h)
  have HE : Hid (BK.ord l = BK.ordF (l.take l.length) (l.drop l.length) → BK.ord l = (0, 0)) := Lib.hid BK.ord_end
  have hst : BK.ord l = BK.ordF (l.take 0) (l.drop 0) := by simp [BK.ord]
  obtain ⟨R, hR⟩ : ∃ R, BK.ord l = R := ⟨_, rfl⟩
  rw [hR] at HS HBD HE hst ⊢
  have HIN := Lib.hid hin
  have HN := Lib.hid hn
  have HST := Lib.hid hst
  have HLE := Lib.hid hb
  clear hin hn hR hst hcap hb
  go_enter Tryz.func24, Tryz.ntmps24
  go_wp2
  go_loopw [4] (fun i wr => ∃ j : Nat, j ≤ n ∧ i = .int .i64 j ∧ R = BK.ordF (l.take j) (l.drop j) ∧ Below w.heap.size w wr) (fun i _ => n - (intOf i).toNat)
  case atStart => exact ⟨0, by omega, rfl, HST.out, Below.refl _ _⟩
  case round =>
    obtain ⟨j, hj, rfl, hup, hbel⟩ := hrel
    by_cases hlt : j < n
    · have hjl : j < l.length := by rw [HN.out]; omega
      have hsl := fun W => HSL.out W j (by omega)
      obtain ⟨b, off, hA, hbl, hc⟩ := (HIN.out.below hbel).at_ (by omega)
      obtain ⟨z0, z1, z2, z3, z4⟩ := hc j hjl
      have HFT := Lib.hid (fun c W hE => HF.out j c W hjl hE)
      have HS1 := Lib.hid (HS.out j hjl hup)
      have HB1 := Lib.hid (HBD.out j hjl hup)
      have HINR : Hid (∀ W, Below wr.heap.size wr W → EntsIn W A l) := Lib.hid (fun W h => (HIN.out.below hbel).below h)
      obtain ⟨e, he⟩ : ∃ e, l[j] = e := ⟨_, rfl⟩
      rw [he] at z0 z1 z2 z3 z4
      simp only [he] at HFT HS1 HB1
      obtain ⟨c1, hc1⟩ : ∃ c1, BK.nb (l.take j) e = c1 := ⟨_, rfl⟩
      simp only [hc1] at HFT HS1 HB1
      have HBEL := Lib.hid hbel
      subst hA
      obtain ⟨k, q, g, v, t⟩ := e
      simp only [E.val] at z0 z1 z2 z3 z4 HFT
      have g0 : (0 : Int) ≤ (j : Int) := by omega
      have g1 : (j : Int) < (n : Int) := by omega
      have hjw : n ≤ 140737488351232 := HLE.out

      have HKEEP : Hid (∀ w2, Below wr.heap.size wr w2 → w2.cell? ⟨b, off + j * 5, none⟩ = some (.string k) ∧ w2.cell? ⟨b, off + j * 5 + 1, none⟩ = some (.int .i64 q) ∧ w2.cell? ⟨b, off + j * 5 + 2, none⟩ = some (.bool g) ∧ w2.cell? ⟨b, off + j * 5 + 3, none⟩ = some (.string v) ∧ w2.cell? ⟨b, off + j * 5 + 4, none⟩ = some (.int .i64 t)) := Lib.hid (fun w2 h => by
        have hm := fun (p : Addr) (hp : p.block < wr.heap.size) => h.cell (p := p) hp
        exact ⟨(hm ⟨_, _, none⟩ hbl).trans z0, (hm ⟨_, _, none⟩ hbl).trans z1, (hm ⟨_, _, none⟩ hbl).trans z2, (hm ⟨_, _, none⟩ hbl).trans z3, (hm ⟨_, _, none⟩ hbl).trans z4⟩)
      clear hbel hbl hc he hc1 hup
      go_wp2_with fail
      go_region_held3 (fun s => s.cell? ⟨b, off + j * 5, none⟩ = some (.string k) ∧ s.cell? ⟨b, off + j * 5 + 1, none⟩ = some (.int .i64 q) ∧ s.cell? ⟨b, off + j * 5 + 2, none⟩ = some (.bool g) ∧ s.cell? ⟨b, off + j * 5 + 3, none⟩ = some (.string v) ∧ s.cell? ⟨b, off + j * 5 + 4, none⟩ = some (.int .i64 t))
        (first | exact HS2.out | go_keep | fail)
        (first
          | (go_at_call 60; refine (HFT.out _ _ (HINR.out _ (Below.drew (Below.refl _ wr)))).mono ?_; rintro r w4 ⟨rfl, hb4⟩
             have HS2 := Lib.hid (HKEEP.out _ (Below.trans (Below.drew (Below.refl _ wr)) (hb4.mono (by first | exact Nat.le_refl _ | simp | fail))))
             have HB4 : Hid (Below w.heap.size w w4) := Lib.hid (HBEL.out.trans ((Below.trans (Below.drew (Below.refl _ wr)) (hb4.mono (by first | exact Nat.le_refl _ | simp | fail))).mono HBEL.out.size))
             clear hb4)
          | fail)

      all_goals
        clear HS2
        by_cases h0 : c1 = 0
        · subst h0
          have HS2 := Lib.hid (HS1.out rfl)
          go_wp2
          go_roundw
          case rel => exact ⟨j + 1, by omega, by go_num, HS2.out, HB4.out⟩
          case measure => simp [intOf]; omega
        · have hbe : (c1 == 0) = false := by simpa using h0
          have hbn : (c1 != 0) = true := by simpa using h0
          have HRR := Lib.hid (HB1.out h0)
          clear HS1 HB1
          go_wp2
          rw [HRR.out]
          go_ret2
          exact ⟨rfl, HB4.out⟩
    · have hjn : j = n := by omega
      have HRR : Hid (R = (0, 0)) := Lib.hid (HE.out (by rw [HN.out, ← hjn]; exact hup))
      have HBEL := Lib.hid hbel
      subst hjn
      clear hup hbel
      go_wp2
      rw [HRR.out]
      go_ret2
      exact ⟨rfl, HBEL.out⟩
end Go.Proofs.YtnglaolbfpdgoaaGreat

