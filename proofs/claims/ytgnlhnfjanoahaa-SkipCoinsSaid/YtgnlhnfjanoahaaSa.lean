/- Less, Good, newest, height, clone: of single entries. -/
import Derived.Test.YtgnlhnfjanoahaaSm
import Derived.Test.YtgnlhnfjanoahaaClone
import Derived.Outline
namespace Go.Proofs.Ytgnlhnfjanoahaa
open Go.RowKit
open SK

theorem less_before : ∀ (a b : List UInt8), Op.bytesLess a b = bytesBefore a b
  | [], [] => by simp [Op.bytesLess, bytesBefore]
  | [], _ :: _ => by simp [Op.bytesLess, bytesBefore]
  | _ :: _, [] => by simp [Op.bytesLess, bytesBefore]
  | x :: r, y :: t => by simp [Op.bytesLess, bytesBefore, less_before r t]

theorem text_less (a b : ByteArray) : Op.bytesLess a.toList b.toList = bytesBefore a.data.toList b.data.toList := by
  rw [ByteArray.toList_eq, ByteArray.toList_eq, less_before]
theorem text_eq (a b : ByteArray) : (a.toList == b.toList) = decide (a = b) := by
  rw [Bool.eq_iff_iff, beq_iff_eq, decide_eq_true_eq, ByteArray.toList_eq, ByteArray.toList_eq]
  exact ⟨str_ext, fun h => by rw [h]⟩
theorem text_none (a : ByteArray) : (a.toList == ([] : List UInt8)) = decide (a.size = 0) := by
  rw [Bool.eq_iff_iff, beq_iff_eq, decide_eq_true_eq, ByteArray.toList_eq, ← size_list, List.length_eq_zero_iff]

set_option maxRecDepth 100000 in
theorem less_any (a b : E) (w : World) :
    Calls Try.prog 11 #[a.val, b.val] w fun e w' => e = .returned (.bool (less a b)) ∧ Below w.heap.size w w' := by
  obtain ⟨k1, q1, g1, v1, t1⟩ := a
  obtain ⟨k2, q2, g2, v2, t2⟩ := b
  have HTE := Lib.hid (text_eq k1 k2)
  by_cases hk : k1 = k2
  · subst hk
    have hte : (k1.toList == k1.toList) = true := by simp
    have HL : Hid (less ⟨k1, q1, g1, v1, t1⟩ ⟨k1, q2, g2, v2, t2⟩ = decide (q2 < q1)) := by simp [less, Hid]
    simp only [E.val]
    go_enter Try.func11, Try.ntmps11
    go_wp2
    go_ret
    exact ⟨by rw [HL.out]; rfl, ((Below.refl _ w).alloc (Nat.le_refl _) _).alloc (by simp) _⟩
  · have hte : (k1.toList == k2.toList) = false := by rw [HTE.out]; simp [hk]
    have HL : Hid (less ⟨k1, q1, g1, v1, t1⟩ ⟨k2, q2, g2, v2, t2⟩ = Op.bytesLess k1.toList k2.toList) := by
      unfold Hid
      rw [text_less]; simp [less, hk]
    simp only [E.val]
    go_enter Try.func11, Try.ntmps11
    go_wp2
    go_ret
    exact ⟨by rw [HL.out]; rfl, ((Below.refl _ w).alloc (Nat.le_refl _) _).alloc (by simp) _⟩

set_option maxRecDepth 100000 in
theorem rless_any (a b : E) (w : World) :
    Calls Try.prog 30 #[a.val, b.val] w fun e w' => e = .returned (.bool (less a b)) ∧ Below w.heap.size w w' := by
  obtain ⟨k1, q1, g1, v1, t1⟩ := a
  obtain ⟨k2, q2, g2, v2, t2⟩ := b
  have HTE := Lib.hid (text_eq k1 k2)
  by_cases hk : k1 = k2
  · subst hk
    have hte : (k1.toList == k1.toList) = true := by simp
    have HL : Hid (less ⟨k1, q1, g1, v1, t1⟩ ⟨k1, q2, g2, v2, t2⟩ = decide (q2 < q1)) := by simp [less, Hid]
    simp only [E.val]
    go_enter Try.func30, Try.ntmps30
    go_wp2
    go_ret
    exact ⟨by rw [HL.out]; rfl, ((Below.refl _ w).alloc (Nat.le_refl _) _).alloc (by simp) _⟩
  · have hte : (k1.toList == k2.toList) = false := by rw [HTE.out]; simp [hk]
    have HL : Hid (less ⟨k1, q1, g1, v1, t1⟩ ⟨k2, q2, g2, v2, t2⟩ = Op.bytesLess k1.toList k2.toList) := by
      unfold Hid
      rw [text_less]; simp [less, hk]
    simp only [E.val]
    go_enter Try.func30, Try.ntmps30
    go_wp2
    go_ret
    exact ⟨by rw [HL.out]; rfl, ((Below.refl _ w).alloc (Nat.le_refl _) _).alloc (by simp) _⟩

set_option maxRecDepth 100000 in
set_option maxHeartbeats 1000000 in
theorem good_any (a : E) (w : World) (ha : a.wf) :
    Calls Try.prog 24 #[a.val] w fun e w' => e = .returned (.int .i64 (good a)) ∧ Below w.heap.size w w' := by
  obtain ⟨k, q, g, v, t⟩ := a
  have hk0 := text_none k
  have hv0 := text_none v
  have hks := ha.key
  have hvs := ha.value
  simp only at hks hvs
  clear ha
  obtain ⟨G, hG⟩ : ∃ G, good ⟨k, q, g, v, t⟩ = G := ⟨_, rfl⟩
  rw [hG]
  unfold good at hG
  simp only at hG
  simp only [E.val]
  have hik : ((64 : Int) < (k.size : Int)) ↔ 64 < k.size := by omega
  have hiv : ((512 : Int) < (v.size : Int)) ↔ 512 < v.size := by omega
  by_cases h1 : 64 < k.size ∨ 512 < v.size
  · rw [if_pos h1] at hG
    subst hG
    go_enter Try.func24, Try.ntmps24
    rcases Decidable.em (64 < k.size) with hx | hx
    · have hxi : (64 : Int) < (k.size : Int) := by omega
      go_wp2
      go_ret
      exact ⟨rfl, (Below.refl _ _).alloc (Nat.le_refl _) _⟩
    · have hy : 512 < v.size := by omega
      have hxi : ¬ (64 : Int) < (k.size : Int) := by omega
      have hyi : (512 : Int) < (v.size : Int) := by omega
      go_wp2
      go_ret
      exact ⟨rfl, (Below.refl _ _).alloc (Nat.le_refl _) _⟩
  · rw [if_neg h1] at hG
    have hxi : ¬ (64 : Int) < (k.size : Int) := by omega
    have hyi : ¬ (512 : Int) < (v.size : Int) := by omega
    by_cases h2 : k.size = 0 ∨ q < 1 ∨ t < 0
    · rw [if_pos h2] at hG
      subst hG
      rcases Decidable.em (k.size = 0) with hx | hx
      · have hk00 : (k.toList == ([] : List UInt8)) = true := by rw [hk0]; simp [hx]
        have hxi0 : (k.size : Int) = 0 := by omega
        have hxb : ((k.size : Int) == 0) = true := by rw [beq_iff_eq]; omega
        clear hk0 hik hiv h1 h2 hx
        go_enter Try.func24, Try.ntmps24
        go_wp2
        go_ret
        exact ⟨rfl, (Below.refl _ _).alloc (Nat.le_refl _) _⟩
      · have hk00 : (k.toList == ([] : List UInt8)) = false := by rw [hk0]; simp [hx]
        have hxi0 : ¬ (k.size : Int) = 0 := by omega
        have hxb : ((k.size : Int) == 0) = false := beq_eq_false_iff_ne.2 (by omega)
        rcases Decidable.em (q < 1) with hq | hq
        · have hq0 : q ≤ 0 := by omega
          clear hk0 hik hiv h1 h2 hx
          go_enter Try.func24, Try.ntmps24
          go_wp2
          go_ret
          exact ⟨rfl, (Below.refl _ _).alloc (Nat.le_refl _) _⟩
        · have ht : t < 0 := by omega
          have hq0 : ¬ q ≤ 0 := by omega
          clear hk0 hik hiv h1 h2 hx
          go_enter Try.func24, Try.ntmps24
          go_wp2
          go_ret
          exact ⟨rfl, (Below.refl _ _).alloc (Nat.le_refl _) _⟩
    · rw [if_neg h2] at hG
      have hk00 : (k.toList == ([] : List UInt8)) = false := by rw [hk0]; exact decide_eq_false (by omega)
      have hxi0 : ¬ (k.size : Int) = 0 := by omega
      have hxb : ((k.size : Int) == 0) = false := beq_eq_false_iff_ne.2 (by omega)
      have hq : ¬ q < 1 := by omega
      have hq0 : ¬ q ≤ 0 := by omega
      have ht : ¬ t < 0 := by omega
      cases g with
      | false =>
        simp only [Bool.false_eq_true, false_and, if_false] at hG
        subst hG
        clear hk0 hik hiv h1 h2 hv0
        go_enter Try.func24, Try.ntmps24
        go_wp2
        go_ret
        exact ⟨rfl, (Below.refl _ _).alloc (Nat.le_refl _) _⟩
      | true =>
        by_cases h3 : 0 < v.size ∨ 0 < t
        · rw [if_pos ⟨rfl, h3⟩] at hG
          subst hG
          rcases Decidable.em (v.size = 0) with hx | hx
          · have hv00 : (v.toList == ([] : List UInt8)) = true := by rw [hv0]; simp [hx]
            have hvi : decide (0 < v.size) = false := decide_eq_false (by omega)
            have ht1 : 0 < t := by omega
            have ht2 : ¬ t = 0 := by omega
            have ht3 : (t == 0) = false := by simp; omega
            clear hk0 hik hiv h1 h2 hv0 h3 hx
            go_enter Try.func24, Try.ntmps24
            go_wp2
            go_ret
            exact ⟨rfl, (Below.refl _ _).alloc (Nat.le_refl _) _⟩
          · have hv00 : (v.toList == ([] : List UInt8)) = false := by rw [hv0]; simp [hx]
            have hvi : decide (0 < v.size) = true := decide_eq_true (by omega)
            clear hk0 hik hiv h1 h2 hv0 h3 hx
            go_enter Try.func24, Try.ntmps24
            go_wp2
            go_ret
            exact ⟨rfl, (Below.refl _ _).alloc (Nat.le_refl _) _⟩
        · rw [if_neg (fun h => h3 h.2)] at hG
          subst hG
          have hv00 : (v.toList == ([] : List UInt8)) = true := by rw [hv0]; exact decide_eq_true (by omega)
          have hvi : decide (0 < v.size) = false := decide_eq_false (by omega)
          have ht1 : ¬ 0 < t := by omega
          obtain rfl : t = 0 := by omega
          clear hk0 hik hiv h1 h2 hv0 h3
          go_enter Try.func24, Try.ntmps24
          go_wp2
          go_ret
          exact ⟨rfl, (Below.refl _ _).alloc (Nat.le_refl _) _⟩

set_option maxRecDepth 100000 in
set_option maxHeartbeats 1000000 in
theorem rgood_any (a : E) (w : World) (ha : a.wf) :
    Calls Try.prog 29 #[a.val] w fun e w' => e = .returned (.int .i64 (good a)) ∧ Below w.heap.size w w' := by
  obtain ⟨k, q, g, v, t⟩ := a
  have hk0 := text_none k
  have hv0 := text_none v
  have hks := ha.key
  have hvs := ha.value
  simp only at hks hvs
  clear ha
  obtain ⟨G, hG⟩ : ∃ G, good ⟨k, q, g, v, t⟩ = G := ⟨_, rfl⟩
  rw [hG]
  unfold good at hG
  simp only at hG
  simp only [E.val]
  have hik : ((64 : Int) < (k.size : Int)) ↔ 64 < k.size := by omega
  have hiv : ((512 : Int) < (v.size : Int)) ↔ 512 < v.size := by omega
  by_cases h1 : 64 < k.size ∨ 512 < v.size
  · rw [if_pos h1] at hG
    subst hG
    go_enter Try.func29, Try.ntmps29
    rcases Decidable.em (64 < k.size) with hx | hx
    · have hxi : (64 : Int) < (k.size : Int) := by omega
      go_wp2
      go_ret
      exact ⟨rfl, (Below.refl _ _).alloc (Nat.le_refl _) _⟩
    · have hy : 512 < v.size := by omega
      have hxi : ¬ (64 : Int) < (k.size : Int) := by omega
      have hyi : (512 : Int) < (v.size : Int) := by omega
      go_wp2
      go_ret
      exact ⟨rfl, (Below.refl _ _).alloc (Nat.le_refl _) _⟩
  · rw [if_neg h1] at hG
    have hxi : ¬ (64 : Int) < (k.size : Int) := by omega
    have hyi : ¬ (512 : Int) < (v.size : Int) := by omega
    by_cases h2 : k.size = 0 ∨ q < 1 ∨ t < 0
    · rw [if_pos h2] at hG
      subst hG
      rcases Decidable.em (k.size = 0) with hx | hx
      · have hk00 : (k.toList == ([] : List UInt8)) = true := by rw [hk0]; simp [hx]
        have hxi0 : (k.size : Int) = 0 := by omega
        have hxb : ((k.size : Int) == 0) = true := by rw [beq_iff_eq]; omega
        clear hk0 hik hiv h1 h2 hx
        go_enter Try.func29, Try.ntmps29
        go_wp2
        go_ret
        exact ⟨rfl, (Below.refl _ _).alloc (Nat.le_refl _) _⟩
      · have hk00 : (k.toList == ([] : List UInt8)) = false := by rw [hk0]; simp [hx]
        have hxi0 : ¬ (k.size : Int) = 0 := by omega
        have hxb : ((k.size : Int) == 0) = false := beq_eq_false_iff_ne.2 (by omega)
        rcases Decidable.em (q < 1) with hq | hq
        · have hq0 : q ≤ 0 := by omega
          clear hk0 hik hiv h1 h2 hx
          go_enter Try.func29, Try.ntmps29
          go_wp2
          go_ret
          exact ⟨rfl, (Below.refl _ _).alloc (Nat.le_refl _) _⟩
        · have ht : t < 0 := by omega
          have hq0 : ¬ q ≤ 0 := by omega
          clear hk0 hik hiv h1 h2 hx
          go_enter Try.func29, Try.ntmps29
          go_wp2
          go_ret
          exact ⟨rfl, (Below.refl _ _).alloc (Nat.le_refl _) _⟩
    · rw [if_neg h2] at hG
      have hk00 : (k.toList == ([] : List UInt8)) = false := by rw [hk0]; exact decide_eq_false (by omega)
      have hxi0 : ¬ (k.size : Int) = 0 := by omega
      have hxb : ((k.size : Int) == 0) = false := beq_eq_false_iff_ne.2 (by omega)
      have hq : ¬ q < 1 := by omega
      have hq0 : ¬ q ≤ 0 := by omega
      have ht : ¬ t < 0 := by omega
      cases g with
      | false =>
        simp only [Bool.false_eq_true, false_and, if_false] at hG
        subst hG
        clear hk0 hik hiv h1 h2 hv0
        go_enter Try.func29, Try.ntmps29
        go_wp2
        go_ret
        exact ⟨rfl, (Below.refl _ _).alloc (Nat.le_refl _) _⟩
      | true =>
        by_cases h3 : 0 < v.size ∨ 0 < t
        · rw [if_pos ⟨rfl, h3⟩] at hG
          subst hG
          rcases Decidable.em (v.size = 0) with hx | hx
          · have hv00 : (v.toList == ([] : List UInt8)) = true := by rw [hv0]; simp [hx]
            have hvi : decide (0 < v.size) = false := decide_eq_false (by omega)
            have ht1 : 0 < t := by omega
            have ht2 : ¬ t = 0 := by omega
            have ht3 : (t == 0) = false := by simp; omega
            clear hk0 hik hiv h1 h2 hv0 h3 hx
            go_enter Try.func29, Try.ntmps29
            go_wp2
            go_ret
            exact ⟨rfl, (Below.refl _ _).alloc (Nat.le_refl _) _⟩
          · have hv00 : (v.toList == ([] : List UInt8)) = false := by rw [hv0]; simp [hx]
            have hvi : decide (0 < v.size) = true := decide_eq_true (by omega)
            clear hk0 hik hiv h1 h2 hv0 h3 hx
            go_enter Try.func29, Try.ntmps29
            go_wp2
            go_ret
            exact ⟨rfl, (Below.refl _ _).alloc (Nat.le_refl _) _⟩
        · rw [if_neg (fun h => h3 h.2)] at hG
          subst hG
          have hv00 : (v.toList == ([] : List UInt8)) = true := by rw [hv0]; exact decide_eq_true (by omega)
          have hvi : decide (0 < v.size) = false := decide_eq_false (by omega)
          have ht1 : ¬ 0 < t := by omega
          obtain rfl : t = 0 := by omega
          clear hk0 hik hiv h1 h2 hv0 h3
          go_enter Try.func29, Try.ntmps29
          go_wp2
          go_ret
          exact ⟨rfl, (Below.refl _ _).alloc (Nat.le_refl _) _⟩

theorem newest_any (k : ByteArray) (w : World) :
    Calls Try.prog 21 #[.string k] w fun e w' => e = .returned (askE k 9223372036854775807).val ∧ Below w.heap.size w w' := by
  go_enter Try.func21, Try.ntmps21
  go_wp2
  exact bodyPost_ret (v := (askE k 9223372036854775807).val) (by simp [results, Try.results21, go_sem, askE, E.val]) rfl ⟨rfl, ((Below.refl _ _).alloc (Nat.le_refl _) _)⟩

theorem height_any (c : Int) (w : World) (hc : -9223372036854775808 ≤ c ∧ c ≤ 9223372036854775807) :
    Calls Try.prog 23 #[.int .i64 c] w fun e w' => e = .returned (.int .i64 (coin c)) ∧ w = w' := by
  have hr := coin_range c
  unfold coin at hr ⊢
  by_cases h : c < 0
  · simp only [h, if_true] at hr ⊢
    have hm : -(c + 1).tmod 8 = (-(c + 1)) % 8 := by rw [← Int.neg_tmod, Int.tmod_eq_emod_of_nonneg (by omega)]
    go_enter Try.func23, Try.ntmps23
    go_wp2
    go_ret
    exact ⟨rfl, rfl⟩
  · simp only [h, if_false] at hr ⊢
    go_enter Try.func23, Try.ntmps23
    go_wp2
    go_ret
    exact ⟨rfl, rfl⟩
end Go.Proofs.Ytgnlhnfjanoahaa
