/- How texts stand, as the walks spell it. -/
import Derived.Test.YtfodbblcflolgaaVd
import Derived.Laws.Cover1
import Derived.Laws.Strings
namespace Go.Proofs.Ytfodbblcflolgaa
open Go.RowKit
open VS

theorem less_before : ∀ (a b : List UInt8), Op.bytesLess a b = bytesBefore a b
  | [], [] => by simp [Op.bytesLess, bytesBefore]
  | [], _ :: _ => by simp [Op.bytesLess, bytesBefore]
  | _ :: _, [] => by simp [Op.bytesLess, bytesBefore]
  | x :: r, y :: t => by simp [Op.bytesLess, bytesBefore, less_before r t]

theorem toList_data (a : ByteArray) : a.toList = a.data.toList := by
  rw [ByteArray.toList_eq]

theorem text_less (a b : ByteArray) : Op.bytesLess a.toList b.toList = lt a b := by
  rw [less_before, toList_data, toList_data]
  rfl

theorem text_same (a b : ByteArray) : (a.toList == b.toList) = decide (a = b) := by
  rw [toList_data, toList_data]
  by_cases h : a = b
  · subst h; simp
  · rw [decide_eq_false h]
    exact beq_eq_false_iff_ne.2 fun e => h (str_ext e)

theorem lt_or_eq (a b : ByteArray) : (lt a b || decide (a = b)) = !(lt b a) := by
  by_cases h : a = b
  · subst h; simp [lt_irrefl]
  · rw [decide_eq_false h, Bool.or_false]
    rcases lt_total h with h1 | h1
    · rw [h1, lt_asymm h1]; rfl
    · rw [h1, lt_asymm h1]; rfl

theorem text_leq (a b : ByteArray) : (Op.bytesLess a.toList b.toList || a.toList == b.toList) = !(lt b a) := by
  rw [text_less, text_same, lt_or_eq]
theorem text_gtr (a b : ByteArray) : (!Op.bytesLess a.toList b.toList && !(a.toList == b.toList)) = lt b a := by
  have := text_leq a b
  rw [← Bool.not_or, this, Bool.not_not]
end Go.Proofs.Ytfodbblcflolgaa
