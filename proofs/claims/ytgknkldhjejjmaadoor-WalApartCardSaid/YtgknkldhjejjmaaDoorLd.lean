/- From what a row lists of package-level variables to what the walks ask. -/
import Derived.Test.YtgknkldhjejjmaaDoorRows
import Derived.Test.YtgknkldhjejjmaaDoorTie
import Derived.Test.YtgknkldhjejjmaaDoorCards
import Derived.Test.YtgknkldhjejjmaaDoorWo
import Derived.Stop.LaidErr
import Derived.MakeChecks
import Derived.Lay
import Derived.LaidMore
import Derived.SevenTiedAt
import Derived.Outline
namespace Go.Proofs.YtgknkldhjejjmaaDoor

theorem gPow : Tryd.prog.globalNamed "internal/strconv.uint64pow10" = some 2 := by kernel_rfl
theorem gPowType : (Tryd.prog.globals[2]?).map (·.type) = some 132 := by kernel_rfl
theorem tab_of_laid {W : World} {r : List (String × DataW Unit)} (h : laidMet Tryd.prog (("math/bits.deBruijn32tab", Rows.laid_math_bits_deBruijn32tab) :: ("math/bits.deBruijn64tab", Rows.laid_math_bits_deBruijn64tab) :: ("internal/strconv.uint64pow10", Rows.laid_internal_strconv_uint64pow10) :: r) W) : Tab W := by
  have h2 : laidMet Tryd.prog (("internal/strconv.uint64pow10", Lib.tabData .u64 Lib.pow10Tab) :: r) W := h.tail.tail
  exact Lib.tabIs_of_head gPow gPowType Tryd.underlying132 Tryd.underlying100 (by kernel_rfl) (by kernel_rfl) h2

theorem gSyn : Tryd.prog.globalNamed "strconv.ErrSyntax" = some 0 := by kernel_rfl
theorem gRan : Tryd.prog.globalNamed "strconv.ErrRange" = some 1 := by kernel_rfl
theorem gSynType : (Tryd.prog.globals[0]?).map (·.type) = some 45 := by kernel_rfl
theorem gRanType : (Tryd.prog.globals[1]?).map (·.type) = some 45 := by kernel_rfl
theorem star : "*" ++ "errors.errorString" = "*errors.errorString" := by decide
theorem rowErr (u : TypeId) (h : Tryd.prog.typeName? 3 u = some "*errors.errorString") : u = 139 :=
  typeName_ptr_named (nm := "errors.errorString") (by rw [star]; kernel_rfl) (by kernel_rfl) (by decide) u (by rw [star]; exact h)
theorem errs_of_laid {W : World} {x1 x2 x3 : String × DataW Unit} (h : laidMet Tryd.prog (x1 :: x2 :: x3 :: ("strconv.ErrRange", Rows.laid_strconv_ErrRange) :: ("strconv.ErrSyntax", Rows.laid_strconv_ErrSyntax) :: []) W) : Errs W := by
  have h3 := h.tail.tail.tail
  obtain ⟨a, _, hv, _⟩ := laid_sentinel h3 gRan gRanType Tryd.underlying45 rowErr Tryd.underlying139 Tryd.underlying141 rfl rfl Tryd.underlying9 (by kernel_rfl) (by kernel_rfl)
  obtain ⟨b, _, hw, _⟩ := laid_sentinel h3.tail gSyn gSynType Tryd.underlying45 rowErr Tryd.underlying139 Tryd.underlying141 rfl rfl Tryd.underlying9 (by kernel_rfl) (by kernel_rfl)
  exact ⟨_, _, _, _, hw, hv⟩
end Go.Proofs.YtgknkldhjejjmaaDoor
