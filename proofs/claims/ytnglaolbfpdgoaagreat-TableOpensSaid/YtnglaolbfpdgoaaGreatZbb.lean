/- Texts joined by bundle.py: Ls, Eq. -/
import Derived.Test.YtnglaolbfpdgoaaGreatZas
import Derived.Test.YtnglaolbfpdgoaaGreatZba

/- What entries' rows are made of. -/
namespace Go.Proofs.YtnglaolbfpdgoaaGreat
open Go.RowKit
open SK
attribute [local go_sem ↓] Go.wp_at_zero Go.wp_at_succ

theorem info_ent : (Tryz.prog.info? 57).map (fun i => (i.zero, i.size, i.bytes)) = some (some (.agg #[.string ⟨#[]⟩, .int .i64 0, .bool false, .string ⟨#[]⟩, .int .i64 0]), 5, 56) := by kernel_rfl
theorem info_rent : (Tryz.prog.info? 56).map (fun i => (i.zero, i.size, i.bytes)) = some (some (.agg #[.string ⟨#[]⟩, .int .i64 0, .bool false, .string ⟨#[]⟩, .int .i64 0]), 5, 56) := by kernel_rfl

theorem ecs_take (l : List E) (k : Nat) (h : k < l.length) : ecs (l.take (k + 1)) = ecs (l.take k) ++ E.cells l[k] := by
  rw [List.take_succ_eq_append_getElem h, ecs_snoc]
end Go.Proofs.YtnglaolbfpdgoaaGreat

/- Entries compared, like and unlike ones. -/
namespace Go.Proofs.YtnglaolbfpdgoaaGreat
open Go.RowKit
open SK

def eqB (a b : E) : Bool := (a.key.toList == b.key.toList) && (a.seq == b.seq) && (a.gone == b.gone) && (a.value.toList == b.value.toList) && (a.til == b.til)
theorem eqB_iff (a b : E) : eqB a b = true ↔ a = b := by
  obtain ⟨k, q, g, v, t⟩ := a
  obtain ⟨k', q', g', v', t'⟩ := b
  simp only [eqB, Bool.and_eq_true, beq_iff_eq, E.mk.injEq, ByteArray.toList_eq]
  constructor
  · rintro ⟨⟨⟨⟨h1, h2⟩, h3⟩, h4⟩, h5⟩
    exact ⟨str_ext h1, h2, h3, str_ext h4, h5⟩
  · rintro ⟨rfl, rfl, rfl, rfl, rfl⟩
    exact ⟨⟨⟨⟨rfl, rfl⟩, rfl⟩, rfl⟩, rfl⟩

theorem ent_any (W : World) (k k' : ByteArray) (q q' : Int) (g g' : Bool) (v v' : ByteArray) (t t' : Int) : (binOp .neq 57 (.agg #[.string k, .int .i64 q, .bool g, .string v, .int .i64 t]) (.agg #[.string k', .int .i64 q', .bool g', .string v', .int .i64 t'])).run Tryz.prog W = .ok (.bool (!eqB ⟨k, q, g, v, t⟩ ⟨k', q', g', v', t'⟩)) W := by
  have ub := Tryz.underlying4
  have ui := Tryz.underlying2
  have us := Tryz.underlying9
  rw [run_neq_struct, run_equalIn_agg W 9999 57 _ _ (by kernel_rfl) (by kernel_rfl)]
  unfold Program.fieldsOf
  rw [Tryz.underlying57]
  have e0 : ∀ W, (Go.part 9 #[.string k, .int .i64 q, .bool g, .string v, .int .i64 t] 0).run Tryz.prog W = .ok (.string k) W := fun W => by simp [Go.part, isAgg, run_underlying us]
  have e1 : ∀ W, (Go.part 2 #[.string k, .int .i64 q, .bool g, .string v, .int .i64 t] 1).run Tryz.prog W = .ok (.int .i64 q) W := fun W => by simp [Go.part, isAgg, run_underlying ui]
  have e2 : ∀ W, (Go.part 4 #[.string k, .int .i64 q, .bool g, .string v, .int .i64 t] 2).run Tryz.prog W = .ok (.bool g) W := fun W => by simp [Go.part, isAgg, run_underlying ub]
  have e3 : ∀ W, (Go.part 9 #[.string k, .int .i64 q, .bool g, .string v, .int .i64 t] 3).run Tryz.prog W = .ok (.string v) W := fun W => by simp [Go.part, isAgg, run_underlying us]
  have e4 : ∀ W, (Go.part 2 #[.string k, .int .i64 q, .bool g, .string v, .int .i64 t] 4).run Tryz.prog W = .ok (.int .i64 t) W := fun W => by simp [Go.part, isAgg, run_underlying ui]
  have f0 : ∀ W, (Go.part 9 #[.string k', .int .i64 q', .bool g', .string v', .int .i64 t'] 0).run Tryz.prog W = .ok (.string k') W := fun W => by simp [Go.part, isAgg, run_underlying us]
  have f1 : ∀ W, (Go.part 2 #[.string k', .int .i64 q', .bool g', .string v', .int .i64 t'] 1).run Tryz.prog W = .ok (.int .i64 q') W := fun W => by simp [Go.part, isAgg, run_underlying ui]
  have f2 : ∀ W, (Go.part 4 #[.string k', .int .i64 q', .bool g', .string v', .int .i64 t'] 2).run Tryz.prog W = .ok (.bool g') W := fun W => by simp [Go.part, isAgg, run_underlying ub]
  have f3 : ∀ W, (Go.part 9 #[.string k', .int .i64 q', .bool g', .string v', .int .i64 t'] 3).run Tryz.prog W = .ok (.string v') W := fun W => by simp [Go.part, isAgg, run_underlying us]
  have f4 : ∀ W, (Go.part 2 #[.string k', .int .i64 q', .bool g', .string v', .int .i64 t'] 4).run Tryz.prog W = .ok (.int .i64 t') W := fun W => by simp [Go.part, isAgg, run_underlying ui]
  unfold eqB
  cases h0 : (k.toList == k'.toList) <;> cases h1 : (q == q') <;> cases h2 : (g == g') <;> cases h3 : (v.toList == v'.toList) <;> cases h4 : (t == t') <;>
    simp [Op.eqFields, e0, e1, e2, e3, e4, f0, f1, f2, f3, f4, h0, h1, h2, h3, h4, run_equalIn_bool' _ _ _ _ _ ub, run_equalIn_int _ _ _ _ _ _ _ ui, run_equalIn_string _ _ _ _ _ us, Result.andThen]
theorem rent_any (W : World) (k k' : ByteArray) (q q' : Int) (g g' : Bool) (v v' : ByteArray) (t t' : Int) : (binOp .neq 56 (.agg #[.string k, .int .i64 q, .bool g, .string v, .int .i64 t]) (.agg #[.string k', .int .i64 q', .bool g', .string v', .int .i64 t'])).run Tryz.prog W = .ok (.bool (!eqB ⟨k, q, g, v, t⟩ ⟨k', q', g', v', t'⟩)) W := by
  have ub := Tryz.underlying4
  have ui := Tryz.underlying2
  have us := Tryz.underlying9
  rw [run_neq_struct, run_equalIn_agg W 9999 56 _ _ (by kernel_rfl) (by kernel_rfl)]
  unfold Program.fieldsOf
  rw [Tryz.underlying56]
  have e0 : ∀ W, (Go.part 9 #[.string k, .int .i64 q, .bool g, .string v, .int .i64 t] 0).run Tryz.prog W = .ok (.string k) W := fun W => by simp [Go.part, isAgg, run_underlying us]
  have e1 : ∀ W, (Go.part 2 #[.string k, .int .i64 q, .bool g, .string v, .int .i64 t] 1).run Tryz.prog W = .ok (.int .i64 q) W := fun W => by simp [Go.part, isAgg, run_underlying ui]
  have e2 : ∀ W, (Go.part 4 #[.string k, .int .i64 q, .bool g, .string v, .int .i64 t] 2).run Tryz.prog W = .ok (.bool g) W := fun W => by simp [Go.part, isAgg, run_underlying ub]
  have e3 : ∀ W, (Go.part 9 #[.string k, .int .i64 q, .bool g, .string v, .int .i64 t] 3).run Tryz.prog W = .ok (.string v) W := fun W => by simp [Go.part, isAgg, run_underlying us]
  have e4 : ∀ W, (Go.part 2 #[.string k, .int .i64 q, .bool g, .string v, .int .i64 t] 4).run Tryz.prog W = .ok (.int .i64 t) W := fun W => by simp [Go.part, isAgg, run_underlying ui]
  have f0 : ∀ W, (Go.part 9 #[.string k', .int .i64 q', .bool g', .string v', .int .i64 t'] 0).run Tryz.prog W = .ok (.string k') W := fun W => by simp [Go.part, isAgg, run_underlying us]
  have f1 : ∀ W, (Go.part 2 #[.string k', .int .i64 q', .bool g', .string v', .int .i64 t'] 1).run Tryz.prog W = .ok (.int .i64 q') W := fun W => by simp [Go.part, isAgg, run_underlying ui]
  have f2 : ∀ W, (Go.part 4 #[.string k', .int .i64 q', .bool g', .string v', .int .i64 t'] 2).run Tryz.prog W = .ok (.bool g') W := fun W => by simp [Go.part, isAgg, run_underlying ub]
  have f3 : ∀ W, (Go.part 9 #[.string k', .int .i64 q', .bool g', .string v', .int .i64 t'] 3).run Tryz.prog W = .ok (.string v') W := fun W => by simp [Go.part, isAgg, run_underlying us]
  have f4 : ∀ W, (Go.part 2 #[.string k', .int .i64 q', .bool g', .string v', .int .i64 t'] 4).run Tryz.prog W = .ok (.int .i64 t') W := fun W => by simp [Go.part, isAgg, run_underlying ui]
  unfold eqB
  cases h0 : (k.toList == k'.toList) <;> cases h1 : (q == q') <;> cases h2 : (g == g') <;> cases h3 : (v.toList == v'.toList) <;> cases h4 : (t == t') <;>
    simp [Op.eqFields, e0, e1, e2, e3, e4, f0, f1, f2, f3, f4, h0, h1, h2, h3, h4, run_equalIn_bool' _ _ _ _ _ ub, run_equalIn_int _ _ _ _ _ _ _ ui, run_equalIn_string _ _ _ _ _ us, Result.andThen]
theorem rent_eql (W : World) (k k' : ByteArray) (q q' : Int) (g g' : Bool) (v v' : ByteArray) (t t' : Int) : (binOp .eql 56 (.agg #[.string k, .int .i64 q, .bool g, .string v, .int .i64 t]) (.agg #[.string k', .int .i64 q', .bool g', .string v', .int .i64 t'])).run Tryz.prog W = .ok (.bool (eqB ⟨k, q, g, v, t⟩ ⟨k', q', g', v', t'⟩)) W := by
  have ub := Tryz.underlying4
  have ui := Tryz.underlying2
  have us := Tryz.underlying9
  rw [run_eql_struct, run_equalIn_agg W 9999 56 _ _ (by kernel_rfl) (by kernel_rfl)]
  unfold Program.fieldsOf
  rw [Tryz.underlying56]
  have e0 : ∀ W, (Go.part 9 #[.string k, .int .i64 q, .bool g, .string v, .int .i64 t] 0).run Tryz.prog W = .ok (.string k) W := fun W => by simp [Go.part, isAgg, run_underlying us]
  have e1 : ∀ W, (Go.part 2 #[.string k, .int .i64 q, .bool g, .string v, .int .i64 t] 1).run Tryz.prog W = .ok (.int .i64 q) W := fun W => by simp [Go.part, isAgg, run_underlying ui]
  have e2 : ∀ W, (Go.part 4 #[.string k, .int .i64 q, .bool g, .string v, .int .i64 t] 2).run Tryz.prog W = .ok (.bool g) W := fun W => by simp [Go.part, isAgg, run_underlying ub]
  have e3 : ∀ W, (Go.part 9 #[.string k, .int .i64 q, .bool g, .string v, .int .i64 t] 3).run Tryz.prog W = .ok (.string v) W := fun W => by simp [Go.part, isAgg, run_underlying us]
  have e4 : ∀ W, (Go.part 2 #[.string k, .int .i64 q, .bool g, .string v, .int .i64 t] 4).run Tryz.prog W = .ok (.int .i64 t) W := fun W => by simp [Go.part, isAgg, run_underlying ui]
  have f0 : ∀ W, (Go.part 9 #[.string k', .int .i64 q', .bool g', .string v', .int .i64 t'] 0).run Tryz.prog W = .ok (.string k') W := fun W => by simp [Go.part, isAgg, run_underlying us]
  have f1 : ∀ W, (Go.part 2 #[.string k', .int .i64 q', .bool g', .string v', .int .i64 t'] 1).run Tryz.prog W = .ok (.int .i64 q') W := fun W => by simp [Go.part, isAgg, run_underlying ui]
  have f2 : ∀ W, (Go.part 4 #[.string k', .int .i64 q', .bool g', .string v', .int .i64 t'] 2).run Tryz.prog W = .ok (.bool g') W := fun W => by simp [Go.part, isAgg, run_underlying ub]
  have f3 : ∀ W, (Go.part 9 #[.string k', .int .i64 q', .bool g', .string v', .int .i64 t'] 3).run Tryz.prog W = .ok (.string v') W := fun W => by simp [Go.part, isAgg, run_underlying us]
  have f4 : ∀ W, (Go.part 2 #[.string k', .int .i64 q', .bool g', .string v', .int .i64 t'] 4).run Tryz.prog W = .ok (.int .i64 t') W := fun W => by simp [Go.part, isAgg, run_underlying ui]
  unfold eqB
  cases h0 : (k.toList == k'.toList) <;> cases h1 : (q == q') <;> cases h2 : (g == g') <;> cases h3 : (v.toList == v'.toList) <;> cases h4 : (t == t') <;>
    simp [Op.eqFields, e0, e1, e2, e3, e4, f0, f1, f2, f3, f4, h0, h1, h2, h3, h4, run_equalIn_bool' _ _ _ _ _ ub, run_equalIn_int _ _ _ _ _ _ _ ui, run_equalIn_string _ _ _ _ _ us, Result.andThen]
end Go.Proofs.YtnglaolbfpdgoaaGreat

