/- Texts joined by bundle.py: Cm. -/
import Derived.Test.YtffdiiolgflbkaaZaa
import Derived.Lib.Bytealg

/- strings.Compare, cmp.Compare. -/
namespace Go.Proofs.Ytffdiiolgflbkaa
open Go.RowKit
open Go.Lib (compareBytes)

set_option maxRecDepth 100000 in
theorem cmpString_any (a b : ByteArray) (w : World) :
    Calls Try.prog 104 #[.string a, .string b] w fun e w' => e = .returned (.int .i64 (compareBytes a.data.toList b.data.toList)) ∧ w = w' := by
  go_enter Try.func104, Try.ntmps104
  go_wp2
  rw [run_callFunc_extern Try.func116 (by kernel_rfl) (by kernel_rfl) (by kernel_rfl) (e := Extern.BytealgCompare.compare) (by kernel_rfl), Lib.run_compareString]
  simp only [Result.andThen]
  rw [Oper.upon_value]
  go_wp2
  go_ret
  exact ⟨rfl, rfl⟩

set_option maxRecDepth 100000 in
theorem cmpStrings_any (a b : ByteArray) (w : World) :
    Calls Try.prog 76 #[.string a, .string b] w fun e w' => e = .returned (.int .i64 (compareBytes a.data.toList b.data.toList)) ∧ w = w' := by
  go_enter Try.func76, Try.ntmps76
  go_wp2_with (go_at_call 104; refine (cmpString_any _ _ _).mono ?_; rintro e w' ⟨rfl, rfl⟩)
  go_ret
  exact ⟨rfl, rfl⟩

def cmpInt (n m : Int) : Int := if n < m then -1 else if m < n then 1 else 0

set_option maxRecDepth 100000 in
theorem cmpInt_any (n m : Int) (w : World) :
    Calls Try.prog 74 #[.int .i64 n, .int .i64 m] w fun e w' => e = .returned (.int .i64 (cmpInt n m)) ∧ w = w' := by
  have hn : (n != n) = false := by simp
  have hm : (m != m) = false := by simp
  by_cases h1 : n < m
  · have HO : Hid (cmpInt n m = -1) := by unfold cmpInt; rw [if_pos h1]; rfl
    go_enter Try.func74, Try.ntmps74
    go_wp2
    go_ret
    exact ⟨by rw [HO.out]; rfl, rfl⟩
  · by_cases h2 : m < n
    · have HO : Hid (cmpInt n m = 1) := by unfold cmpInt; rw [if_neg h1, if_pos h2]; rfl
      go_enter Try.func74, Try.ntmps74
      go_wp2
      go_ret
      exact ⟨by rw [HO.out]; rfl, rfl⟩
    · have HO : Hid (cmpInt n m = 0) := by unfold cmpInt; rw [if_neg h1, if_neg h2]; rfl
      go_enter Try.func74, Try.ntmps74
      go_wp2
      go_ret
      exact ⟨by rw [HO.out]; rfl, rfl⟩
end Go.Proofs.Ytffdiiolgflbkaa

