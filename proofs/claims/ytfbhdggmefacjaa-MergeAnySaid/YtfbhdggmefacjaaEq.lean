/- Entries compared, like and unlike ones. -/
import Derived.Test.YtfbhdggmefacjaaLs
namespace Go.Proofs.Ytfbhdggmefacjaa
open Go.RowKit
open SK

def eqB (a b : E) : Bool := (a.key.toList == b.key.toList) && (a.seq == b.seq) && (a.gone == b.gone) && (a.value.toList == b.value.toList) && (a.til == b.til)
theorem eqB_iff (a b : E) : eqB a b = true ↔ a = b := by
  obtain ⟨k, q, g, v, t⟩ := a
  obtain ⟨k', q', g', v', t'⟩ := b
  simp only [eqB, Bool.and_eq_true, beq_iff_eq, E.mk.injEq, ByteArray.toList_eq]
  constructor
  · rintro ⟨⟨⟨⟨h1, h2⟩, h3⟩, h4⟩, h5⟩
    exact ⟨str_ext h1, h2, h3, str_ext h4, h5⟩
  · rintro ⟨rfl, rfl, rfl, rfl, rfl⟩
    exact ⟨⟨⟨⟨rfl, rfl⟩, rfl⟩, rfl⟩, rfl⟩

theorem ent_any (W : World) (k k' : ByteArray) (q q' : Int) (g g' : Bool) (v v' : ByteArray) (t t' : Int) : (binOp .neq 37 (.agg #[.string k, .int .i64 q, .bool g, .string v, .int .i64 t]) (.agg #[.string k', .int .i64 q', .bool g', .string v', .int .i64 t'])).run Try.prog W = .ok (.bool (!eqB ⟨k, q, g, v, t⟩ ⟨k', q', g', v', t'⟩)) W := by
  have ub := Try.underlying4
  have ui := Try.underlying2
  have us := Try.underlying9
  rw [run_neq_struct, run_equalIn_agg W 9999 37 _ _ (by kernel_rfl) (by kernel_rfl)]
  unfold Program.fieldsOf
  rw [Try.underlying37]
  have e0 : ∀ W, (Go.part 9 #[.string k, .int .i64 q, .bool g, .string v, .int .i64 t] 0).run Try.prog W = .ok (.string k) W := fun W => by simp [Go.part, isAgg, run_underlying us]
  have e1 : ∀ W, (Go.part 2 #[.string k, .int .i64 q, .bool g, .string v, .int .i64 t] 1).run Try.prog W = .ok (.int .i64 q) W := fun W => by simp [Go.part, isAgg, run_underlying ui]
  have e2 : ∀ W, (Go.part 4 #[.string k, .int .i64 q, .bool g, .string v, .int .i64 t] 2).run Try.prog W = .ok (.bool g) W := fun W => by simp [Go.part, isAgg, run_underlying ub]
  have e3 : ∀ W, (Go.part 9 #[.string k, .int .i64 q, .bool g, .string v, .int .i64 t] 3).run Try.prog W = .ok (.string v) W := fun W => by simp [Go.part, isAgg, run_underlying us]
  have e4 : ∀ W, (Go.part 2 #[.string k, .int .i64 q, .bool g, .string v, .int .i64 t] 4).run Try.prog W = .ok (.int .i64 t) W := fun W => by simp [Go.part, isAgg, run_underlying ui]
  have f0 : ∀ W, (Go.part 9 #[.string k', .int .i64 q', .bool g', .string v', .int .i64 t'] 0).run Try.prog W = .ok (.string k') W := fun W => by simp [Go.part, isAgg, run_underlying us]
  have f1 : ∀ W, (Go.part 2 #[.string k', .int .i64 q', .bool g', .string v', .int .i64 t'] 1).run Try.prog W = .ok (.int .i64 q') W := fun W => by simp [Go.part, isAgg, run_underlying ui]
  have f2 : ∀ W, (Go.part 4 #[.string k', .int .i64 q', .bool g', .string v', .int .i64 t'] 2).run Try.prog W = .ok (.bool g') W := fun W => by simp [Go.part, isAgg, run_underlying ub]
  have f3 : ∀ W, (Go.part 9 #[.string k', .int .i64 q', .bool g', .string v', .int .i64 t'] 3).run Try.prog W = .ok (.string v') W := fun W => by simp [Go.part, isAgg, run_underlying us]
  have f4 : ∀ W, (Go.part 2 #[.string k', .int .i64 q', .bool g', .string v', .int .i64 t'] 4).run Try.prog W = .ok (.int .i64 t') W := fun W => by simp [Go.part, isAgg, run_underlying ui]
  unfold eqB
  cases h0 : (k.toList == k'.toList) <;> cases h1 : (q == q') <;> cases h2 : (g == g') <;> cases h3 : (v.toList == v'.toList) <;> cases h4 : (t == t') <;>
    simp [Op.eqFields, e0, e1, e2, e3, e4, f0, f1, f2, f3, f4, h0, h1, h2, h3, h4, run_equalIn_bool' _ _ _ _ _ ub, run_equalIn_int _ _ _ _ _ _ _ ui, run_equalIn_string _ _ _ _ _ us, Result.andThen]
theorem rent_any (W : World) (k k' : ByteArray) (q q' : Int) (g g' : Bool) (v v' : ByteArray) (t t' : Int) : (binOp .neq 39 (.agg #[.string k, .int .i64 q, .bool g, .string v, .int .i64 t]) (.agg #[.string k', .int .i64 q', .bool g', .string v', .int .i64 t'])).run Try.prog W = .ok (.bool (!eqB ⟨k, q, g, v, t⟩ ⟨k', q', g', v', t'⟩)) W := by
  have ub := Try.underlying4
  have ui := Try.underlying2
  have us := Try.underlying9
  rw [run_neq_struct, run_equalIn_agg W 9999 39 _ _ (by kernel_rfl) (by kernel_rfl)]
  unfold Program.fieldsOf
  rw [Try.underlying39]
  have e0 : ∀ W, (Go.part 9 #[.string k, .int .i64 q, .bool g, .string v, .int .i64 t] 0).run Try.prog W = .ok (.string k) W := fun W => by simp [Go.part, isAgg, run_underlying us]
  have e1 : ∀ W, (Go.part 2 #[.string k, .int .i64 q, .bool g, .string v, .int .i64 t] 1).run Try.prog W = .ok (.int .i64 q) W := fun W => by simp [Go.part, isAgg, run_underlying ui]
  have e2 : ∀ W, (Go.part 4 #[.string k, .int .i64 q, .bool g, .string v, .int .i64 t] 2).run Try.prog W = .ok (.bool g) W := fun W => by simp [Go.part, isAgg, run_underlying ub]
  have e3 : ∀ W, (Go.part 9 #[.string k, .int .i64 q, .bool g, .string v, .int .i64 t] 3).run Try.prog W = .ok (.string v) W := fun W => by simp [Go.part, isAgg, run_underlying us]
  have e4 : ∀ W, (Go.part 2 #[.string k, .int .i64 q, .bool g, .string v, .int .i64 t] 4).run Try.prog W = .ok (.int .i64 t) W := fun W => by simp [Go.part, isAgg, run_underlying ui]
  have f0 : ∀ W, (Go.part 9 #[.string k', .int .i64 q', .bool g', .string v', .int .i64 t'] 0).run Try.prog W = .ok (.string k') W := fun W => by simp [Go.part, isAgg, run_underlying us]
  have f1 : ∀ W, (Go.part 2 #[.string k', .int .i64 q', .bool g', .string v', .int .i64 t'] 1).run Try.prog W = .ok (.int .i64 q') W := fun W => by simp [Go.part, isAgg, run_underlying ui]
  have f2 : ∀ W, (Go.part 4 #[.string k', .int .i64 q', .bool g', .string v', .int .i64 t'] 2).run Try.prog W = .ok (.bool g') W := fun W => by simp [Go.part, isAgg, run_underlying ub]
  have f3 : ∀ W, (Go.part 9 #[.string k', .int .i64 q', .bool g', .string v', .int .i64 t'] 3).run Try.prog W = .ok (.string v') W := fun W => by simp [Go.part, isAgg, run_underlying us]
  have f4 : ∀ W, (Go.part 2 #[.string k', .int .i64 q', .bool g', .string v', .int .i64 t'] 4).run Try.prog W = .ok (.int .i64 t') W := fun W => by simp [Go.part, isAgg, run_underlying ui]
  unfold eqB
  cases h0 : (k.toList == k'.toList) <;> cases h1 : (q == q') <;> cases h2 : (g == g') <;> cases h3 : (v.toList == v'.toList) <;> cases h4 : (t == t') <;>
    simp [Op.eqFields, e0, e1, e2, e3, e4, f0, f1, f2, f3, f4, h0, h1, h2, h3, h4, run_equalIn_bool' _ _ _ _ _ ub, run_equalIn_int _ _ _ _ _ _ _ ui, run_equalIn_string _ _ _ _ _ us, Result.andThen]
theorem rent_eql (W : World) (k k' : ByteArray) (q q' : Int) (g g' : Bool) (v v' : ByteArray) (t t' : Int) : (binOp .eql 39 (.agg #[.string k, .int .i64 q, .bool g, .string v, .int .i64 t]) (.agg #[.string k', .int .i64 q', .bool g', .string v', .int .i64 t'])).run Try.prog W = .ok (.bool (eqB ⟨k, q, g, v, t⟩ ⟨k', q', g', v', t'⟩)) W := by
  have ub := Try.underlying4
  have ui := Try.underlying2
  have us := Try.underlying9
  rw [run_eql_struct, run_equalIn_agg W 9999 39 _ _ (by kernel_rfl) (by kernel_rfl)]
  unfold Program.fieldsOf
  rw [Try.underlying39]
  have e0 : ∀ W, (Go.part 9 #[.string k, .int .i64 q, .bool g, .string v, .int .i64 t] 0).run Try.prog W = .ok (.string k) W := fun W => by simp [Go.part, isAgg, run_underlying us]
  have e1 : ∀ W, (Go.part 2 #[.string k, .int .i64 q, .bool g, .string v, .int .i64 t] 1).run Try.prog W = .ok (.int .i64 q) W := fun W => by simp [Go.part, isAgg, run_underlying ui]
  have e2 : ∀ W, (Go.part 4 #[.string k, .int .i64 q, .bool g, .string v, .int .i64 t] 2).run Try.prog W = .ok (.bool g) W := fun W => by simp [Go.part, isAgg, run_underlying ub]
  have e3 : ∀ W, (Go.part 9 #[.string k, .int .i64 q, .bool g, .string v, .int .i64 t] 3).run Try.prog W = .ok (.string v) W := fun W => by simp [Go.part, isAgg, run_underlying us]
  have e4 : ∀ W, (Go.part 2 #[.string k, .int .i64 q, .bool g, .string v, .int .i64 t] 4).run Try.prog W = .ok (.int .i64 t) W := fun W => by simp [Go.part, isAgg, run_underlying ui]
  have f0 : ∀ W, (Go.part 9 #[.string k', .int .i64 q', .bool g', .string v', .int .i64 t'] 0).run Try.prog W = .ok (.string k') W := fun W => by simp [Go.part, isAgg, run_underlying us]
  have f1 : ∀ W, (Go.part 2 #[.string k', .int .i64 q', .bool g', .string v', .int .i64 t'] 1).run Try.prog W = .ok (.int .i64 q') W := fun W => by simp [Go.part, isAgg, run_underlying ui]
  have f2 : ∀ W, (Go.part 4 #[.string k', .int .i64 q', .bool g', .string v', .int .i64 t'] 2).run Try.prog W = .ok (.bool g') W := fun W => by simp [Go.part, isAgg, run_underlying ub]
  have f3 : ∀ W, (Go.part 9 #[.string k', .int .i64 q', .bool g', .string v', .int .i64 t'] 3).run Try.prog W = .ok (.string v') W := fun W => by simp [Go.part, isAgg, run_underlying us]
  have f4 : ∀ W, (Go.part 2 #[.string k', .int .i64 q', .bool g', .string v', .int .i64 t'] 4).run Try.prog W = .ok (.int .i64 t') W := fun W => by simp [Go.part, isAgg, run_underlying ui]
  unfold eqB
  cases h0 : (k.toList == k'.toList) <;> cases h1 : (q == q') <;> cases h2 : (g == g') <;> cases h3 : (v.toList == v'.toList) <;> cases h4 : (t == t') <;>
    simp [Op.eqFields, e0, e1, e2, e3, e4, f0, f1, f2, f3, f4, h0, h1, h2, h3, h4, run_equalIn_bool' _ _ _ _ _ ub, run_equalIn_int _ _ _ _ _ _ _ ui, run_equalIn_string _ _ _ _ _ us, Result.andThen]
end Go.Proofs.Ytfbhdggmefacjaa
