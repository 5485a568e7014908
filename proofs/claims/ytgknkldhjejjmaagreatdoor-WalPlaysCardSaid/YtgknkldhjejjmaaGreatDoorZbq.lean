/- Texts joined by bundle.py: Ld. -/
import Derived.Test.YtgknkldhjejjmaaGreatDoorRows
import Derived.Test.YtgknkldhjejjmaaGreatDoorTie
import Derived.Test.YtgknkldhjejjmaaGreatDoorCards
import Derived.Test.YtgknkldhjejjmaaGreatDoorZbc
import Derived.Stop.LaidErr
import Derived.MakeChecks
import Derived.Lay
import Derived.LaidMore
import Derived.SevenTiedAt
import Derived.Outline

/- From what a row lists of package-level variables to what the walks ask. -/
namespace Go.Proofs.YtgknkldhjejjmaaGreatDoor

theorem gPow : Tryz.prog.globalNamed "internal/strconv.uint64pow10" = some 0 := by kernel_rfl
theorem gPowType : (Tryz.prog.globals[0]?).map (·.type) = some 176 := by kernel_rfl
theorem tab_of_laid {W : World} {r : List (String × DataW Unit)} (h : laidMet Tryz.prog (("math/bits.deBruijn32tab", Rows.laid_math_bits_deBruijn32tab) :: ("math/bits.deBruijn64tab", Rows.laid_math_bits_deBruijn64tab) :: ("internal/strconv.uint64pow10", Rows.laid_internal_strconv_uint64pow10) :: r) W) : Tab W := by
  have h2 : laidMet Tryz.prog (("internal/strconv.uint64pow10", Lib.tabData .u64 Lib.pow10Tab) :: r) W := h.tail.tail
  exact Lib.tabIs_of_head gPow gPowType Tryz.underlying176 Tryz.underlying159 (by kernel_rfl) (by kernel_rfl) h2

end Go.Proofs.YtgknkldhjejjmaaGreatDoor

