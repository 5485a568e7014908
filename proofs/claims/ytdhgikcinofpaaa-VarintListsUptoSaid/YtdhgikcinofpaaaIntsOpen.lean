/- A slice of numbers that comes in, opened, nil and empty ones too; what the bound gives. -/
import Derived.Test.YtdhgikcinofpaaaVarP
import Derived.Test.YtdhgikcinofpaaaOpens
namespace Go.Proofs.Ytdhgikcinofpaaa
open Go.ChangeShapes Go.WideShapes Go.ChangeAt Go.RowKit

theorem bulk_pos {H : Type} (d : DataW H) : 1 ≤ Rows.uptoBulk d := by
  cases d with
  | lit l => cases l <;> simp [Rows.uptoBulk]
  | _ => simp [Rows.uptoBulk]

theorem bulk_count {H : Type} (l : List (DataW H)) : l.length ≤ Rows.uptoBulkAll l := by
  induction l with
  | nil => simp
  | cons x r ih => have := bulk_pos x; simp only [Rows.uptoBulkAll, List.length_cons]; omega

theorem bulk_le {H : Type} {l : List (DataW H)} (hk : Rows.uptoSmall H l = true) : Rows.uptoBulkAll l ≤ 1048576 := of_decide_eq_true hk

section
variable {H : Type} {enc : TypeId × Value → H} {P : Program} {w : World}

theorem open_i64s {r : Reach} {b0 : Nat} {t e : TypeId} {v : Value} {d : DataW H} {p : List MemPlace} (ht : P.underlying t = some (.slice e)) (he : P.underlying e = some (.int .i64)) (hc : P.cellsOf e = 1)
    (hval : Value.okWide P w r b0 t v) (h : DataW.Trod enc P w 0 (fun _ => true) true t v d p) :
    ∃ A n cap zs, v = .slice A n cap ∧ zs.length = n ∧ IntsIn w w.heap.size A zs ∧ n + 1 ≤ Rows.uptoBulk d := by
  obtain ⟨a0, len, cap, rfl⟩ := okWide_slice ht hval
  obtain ⟨fuel, hf⟩ := h
  rcases _root_.Go.ChangeShapes.open_ints ht he hc hf with ⟨hcs, hx⟩ | ⟨a, len', cap', zs, hcs, -, hl, hm, hz, hx, hcell, hwz⟩
  · simp [Value.cells] at hcs
    obtain ⟨rfl, rfl, rfl⟩ := hcs
    exact ⟨none, 0, 0, [], rfl, rfl, ⟨by simp, by simp⟩, bulk_pos _⟩
  · simp [Value.cells] at hcs
    obtain ⟨rfl, rfl, rfl⟩ := hcs
    simp only [if_true] at hz
    simp only [Prod.mk.injEq] at hx
    have htl : (zs.take len).length = len := by rw [List.length_take]; omega
    refine ⟨some a, len, cap, zs.take len, rfl, htl, ⟨fun z hzm => ?_, fun hn => ?_⟩, ?_⟩
    · have := hwz z (List.mem_of_mem_take hzm)
      simpa [Lit.wf, IntKind.min, IntKind.max, IntKind.signed, IntKind.bits] using this
    · rw [htl] at hn
      obtain ⟨b, off, rfl, hc2⟩ := ints_at hcell (by omega)
      have hlt := block_lt_of_cell (hc2 0 (by omega))
      refine ⟨b, off, rfl, hlt, fun j hj => ?_⟩
      have hj' : j < zs.length := by rw [htl] at hj; omega
      rw [hc2 j hj']
      simp [List.getD, hj']
    · rw [hx.1]
      have := bulk_count (_root_.Go.ChangeShapes.lits (H := H) .i64 (zs.take len))
      simp only [Rows.uptoBulk]
      have hl2 : (_root_.Go.ChangeShapes.lits (H := H) .i64 (zs.take len)).length = len := by simp [lits]; omega
      omega
end
end Go.Proofs.Ytdhgikcinofpaaa
