/- Texts joined by bundle.py: Ls. -/
import Derived.Test.YtnglaolbfpdgoaaGreatZau
import Derived.Test.YtnglaolbfpdgoaaGreatZbc

/- What entries' rows are made of. -/
namespace Go.Proofs.YtnglaolbfpdgoaaGreat
open Go.RowKit
open SK
attribute [local go_sem ↓] Go.wp_at_zero Go.wp_at_succ

theorem info_ent : (Tryz.prog.info? 57).map (fun i => (i.zero, i.size, i.bytes)) = some (some (.agg #[.string ⟨#[]⟩, .int .i64 0, .bool false, .string ⟨#[]⟩, .int .i64 0]), 5, 56) := by kernel_rfl
theorem info_rent : (Tryz.prog.info? 56).map (fun i => (i.zero, i.size, i.bytes)) = some (some (.agg #[.string ⟨#[]⟩, .int .i64 0, .bool false, .string ⟨#[]⟩, .int .i64 0]), 5, 56) := by kernel_rfl

theorem ecs_take (l : List E) (k : Nat) (h : k < l.length) : ecs (l.take (k + 1)) = ecs (l.take k) ++ E.cells l[k] := by
  rw [List.take_succ_eq_append_getElem h, ecs_snoc]
end Go.Proofs.YtnglaolbfpdgoaaGreat

