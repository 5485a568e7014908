/- Less and Good: of single entries. -/
import Derived.Test.YtfbhdggmefacjaaSm
import Derived.Test.YtfbhdggmefacjaaClone
import Derived.Outline
namespace Go.Proofs.Ytfbhdggmefacjaa
open Go.RowKit
open SK

theorem less_before : ∀ (a b : List UInt8), Op.bytesLess a b = bytesBefore a b
  | [], [] => by simp [Op.bytesLess, bytesBefore]
  | [], _ :: _ => by simp [Op.bytesLess, bytesBefore]
  | _ :: _, [] => by simp [Op.bytesLess, bytesBefore]
  | x :: r, y :: t => by simp [Op.bytesLess, bytesBefore, less_before r t]

theorem text_less (a b : ByteArray) : Op.bytesLess a.toList b.toList = bytesBefore a.data.toList b.data.toList := by
  rw [ByteArray.toList_eq, ByteArray.toList_eq, less_before]
theorem text_eq (a b : ByteArray) : (a.toList == b.toList) = decide (a = b) := by
  rw [Bool.eq_iff_iff, beq_iff_eq, decide_eq_true_eq, ByteArray.toList_eq, ByteArray.toList_eq]
  exact ⟨str_ext, fun h => by rw [h]⟩
theorem text_none (a : ByteArray) : (a.toList == ([] : List UInt8)) = decide (a.size = 0) := by
  rw [Bool.eq_iff_iff, beq_iff_eq, decide_eq_true_eq, ByteArray.toList_eq, ← size_list, List.length_eq_zero_iff]

set_option maxRecDepth 100000 in
theorem less_any (a b : E) (w : World) :
    Calls Try.prog 24 #[a.val, b.val] w fun e w' => e = .returned (.bool (less a b)) ∧ Below w.heap.size w w' := by
  obtain ⟨k1, q1, g1, v1, t1⟩ := a
  obtain ⟨k2, q2, g2, v2, t2⟩ := b
  have HTE := Lib.hid (text_eq k1 k2)
  by_cases hk : k1 = k2
  · subst hk
    have hte : (k1.toList == k1.toList) = true := by simp
    have HL : Hid (less ⟨k1, q1, g1, v1, t1⟩ ⟨k1, q2, g2, v2, t2⟩ = decide (q2 < q1)) := by simp [less, Hid]
    simp only [E.val]
    go_enter Try.func24, Try.ntmps24
    go_wp2
    go_ret
    exact ⟨by rw [HL.out]; rfl, ((Below.refl _ w).alloc (Nat.le_refl _) _).alloc (by simp) _⟩
  · have hte : (k1.toList == k2.toList) = false := by rw [HTE.out]; simp [hk]
    have HL : Hid (less ⟨k1, q1, g1, v1, t1⟩ ⟨k2, q2, g2, v2, t2⟩ = Op.bytesLess k1.toList k2.toList) := by
      unfold Hid
      rw [text_less]; simp [less, hk]
    simp only [E.val]
    go_enter Try.func24, Try.ntmps24
    go_wp2
    go_ret
    exact ⟨by rw [HL.out]; rfl, ((Below.refl _ w).alloc (Nat.le_refl _) _).alloc (by simp) _⟩

set_option maxRecDepth 100000 in
theorem rless_any (a b : E) (w : World) :
    Calls Try.prog 26 #[a.val, b.val] w fun e w' => e = .returned (.bool (less a b)) ∧ Below w.heap.size w w' := by
  obtain ⟨k1, q1, g1, v1, t1⟩ := a
  obtain ⟨k2, q2, g2, v2, t2⟩ := b
  have HTE := Lib.hid (text_eq k1 k2)
  by_cases hk : k1 = k2
  · subst hk
    have hte : (k1.toList == k1.toList) = true := by simp
    have HL : Hid (less ⟨k1, q1, g1, v1, t1⟩ ⟨k1, q2, g2, v2, t2⟩ = decide (q2 < q1)) := by simp [less, Hid]
    simp only [E.val]
    go_enter Try.func26, Try.ntmps26
    go_wp2
    go_ret
    exact ⟨by rw [HL.out]; rfl, ((Below.refl _ w).alloc (Nat.le_refl _) _).alloc (by simp) _⟩
  · have hte : (k1.toList == k2.toList) = false := by rw [HTE.out]; simp [hk]
    have HL : Hid (less ⟨k1, q1, g1, v1, t1⟩ ⟨k2, q2, g2, v2, t2⟩ = Op.bytesLess k1.toList k2.toList) := by
      unfold Hid
      rw [text_less]; simp [less, hk]
    simp only [E.val]
    go_enter Try.func26, Try.ntmps26
    go_wp2
    go_ret
    exact ⟨by rw [HL.out]; rfl, ((Below.refl _ w).alloc (Nat.le_refl _) _).alloc (by simp) _⟩

end Go.Proofs.Ytfbhdggmefacjaa
