/- lists: the entries of both sides. -/
import Derived.Test.YtfbhdggmefacjaaOp
import Derived.Test.YtfbhdggmefacjaaTwo
namespace Go.Proofs.Ytfbhdggmefacjaa
open Go.RowKit
open SK
attribute [local go_sem ↓] Go.wp_at_zero Go.wp_at_succ

theorem info_ent : (Try.prog.info? 37).map (fun i => (i.zero, i.size, i.bytes)) = some (some (.agg #[.string ⟨#[]⟩, .int .i64 0, .bool false, .string ⟨#[]⟩, .int .i64 0]), 5, 56) := by kernel_rfl
theorem info_rent : (Try.prog.info? 39).map (fun i => (i.zero, i.size, i.bytes)) = some (some (.agg #[.string ⟨#[]⟩, .int .i64 0, .bool false, .string ⟨#[]⟩, .int .i64 0]), 5, 56) := by kernel_rfl

theorem ecs_take (l : List E) (k : Nat) (h : k < l.length) : ecs (l.take (k + 1)) = ecs (l.take k) ++ E.cells l[k] := by
  rw [List.take_succ_eq_append_getElem h, ecs_snoc]

def ListsRel (n base : Nat) (l : List E) (w : World) (a b i : Value) (wr : World) : Prop :=
  ∃ k : Nat, k ≤ n ∧ i = .int .i64 k ∧ Two base 37 5 a k (ecs (l.take k)) 39 5 b k (ecs (l.take k)) w wr

end Go.Proofs.Ytfbhdggmefacjaa
