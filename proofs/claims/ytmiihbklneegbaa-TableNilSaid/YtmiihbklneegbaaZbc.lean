/- Texts joined by bundle.py: Ls. -/
import Derived.Test.YtmiihbklneegbaaZai
import Derived.Test.YtmiihbklneegbaaZbb

/- What entries' rows are made of. -/
namespace Go.Proofs.Ytmiihbklneegbaa
open Go.RowKit
open SK
attribute [local go_sem ↓] Go.wp_at_zero Go.wp_at_succ

theorem info_ent : (Try.prog.info? 41).map (fun i => (i.zero, i.size, i.bytes)) = some (some (.agg #[.string ⟨#[]⟩, .int .i64 0, .bool false, .string ⟨#[]⟩, .int .i64 0]), 5, 56) := by kernel_rfl
theorem info_rent : (Try.prog.info? 52).map (fun i => (i.zero, i.size, i.bytes)) = some (some (.agg #[.string ⟨#[]⟩, .int .i64 0, .bool false, .string ⟨#[]⟩, .int .i64 0]), 5, 56) := by kernel_rfl

theorem ecs_take (l : List E) (k : Nat) (h : k < l.length) : ecs (l.take (k + 1)) = ecs (l.take k) ++ E.cells l[k] := by
  rw [List.take_succ_eq_append_getElem h, ecs_snoc]
end Go.Proofs.Ytmiihbklneegbaa

