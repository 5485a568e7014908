/- Cost, idle, find, Pin, Unpin. -/
import Derived.Test.YtlfhjbilnfkabaaCd
import Derived.Test.YtlfhjbilnfkabaaClone
namespace Go.Proofs.Ytlfhjbilnfkabaa
open Go.RowKit Go.Maps
open BM CM

theorem cost_any (d : ByteArray) (w : World) (hd : d.size ≤ 140737488351232) :
    Calls Try.prog 14 #[.string d] w fun e w' => e = .returned (.int .i64 (cost d : Nat)) ∧ w = w' := by
  have hw : IntKind.i64.wrap (64 + (d.size : Int)) = 64 + (d.size : Int) := IntWalk.i64_in _ ⟨by omega, by omega⟩
  go_enter Try.func14, Try.ntmps14
  go_wp2
  go_ret
  exact ⟨by unfold cost; simp, rfl⟩

theorem idle_nil (w : World) : Calls Try.prog 35 #[.pointer none] w fun e w' => e = .returned (.bool true) ∧ w = w' := by
  go_enter Try.func35, Try.ntmps35
  go_wp2
  go_ret
  exact ⟨rfl, rfl⟩
theorem idle_no (c : Nat) (w : World) (h : w.cell? ⟨c, 0, none⟩ = some (.pointer none)) : Calls Try.prog 35 #[.pointer (some ⟨c, 0, none⟩)] w fun e w' => e = .returned (.bool true) ∧ w = w' := by
  go_enter Try.func35, Try.ntmps35
  go_wp2
  go_ret
  exact ⟨rfl, rfl⟩
theorem idle_any (c b : Nat) (w : World) (h : w.cell? ⟨c, 0, none⟩ = some (.pointer (some ⟨b, 0, none⟩))) : Calls Try.prog 35 #[.pointer (some ⟨c, 0, none⟩)] w fun e w' => e = .returned (.bool false) ∧ w = w' := by
  go_enter Try.func35, Try.ntmps35
  go_wp2
  go_ret
  exact ⟨rfl, rfl⟩

section
variable {w : World} {c z b N : Nat} {Z : Zs}
theorem Cor.c0 (h : Cor w c z b N Z) : w.cell? ⟨c, 0, none⟩ = some (.pointer (some ⟨b, 0, none⟩)) := by obtain ⟨o, n, hh⟩ := h.head; exact cell_of_row _ _ _ _ _ _ hh
theorem Cor.c1 (h : Cor w c z b N Z) : w.cell? ⟨c, 1, none⟩ = some (.map (some z)) := by obtain ⟨o, n, hh⟩ := h.head; exact cell_of_row _ _ _ _ _ _ hh
theorem Cor.rows0 (h : Cor w c z b N Z) : Rows0 w c (ads Z) := ⟨h.rows, by obtain ⟨o, n, hh⟩ := h.head; exact ⟨_, _, hh⟩⟩
theorem Cor.p2 (h : Cor w c z b N Z) {x : Nat × Blk} (hx : x ∈ Z) : w.cell? ⟨x.1, 2, none⟩ = some (.string x.2.data) := by obtain ⟨o, n, hh⟩ := h.blks x hx; exact cell_of_row _ _ _ _ _ _ hh
theorem Cor.p3 (h : Cor w c z b N Z) {x : Nat × Blk} (hx : x ∈ Z) : w.cell? ⟨x.1, 3, none⟩ = some (.int .i64 x.2.pins) := by obtain ⟨o, n, hh⟩ := h.blks x hx; exact cell_of_row _ _ _ _ _ _ hh
theorem Cor.p0 (h : Cor w c z b N Z) {x : Nat × Blk} (hx : x ∈ Z) : w.cell? ⟨x.1, 0, none⟩ = some (.int .i64 x.2.file) := by obtain ⟨o, n, hh⟩ := h.blks x hx; exact cell_of_row _ _ _ _ _ _ hh
theorem Cor.p1 (h : Cor w c z b N Z) {x : Nat × Blk} (hx : x ∈ Z) : w.cell? ⟨x.1, 1, none⟩ = some (.int .i64 x.2.block) := by obtain ⟨o, n, hh⟩ := h.blks x hx; exact cell_of_row _ _ _ _ _ _ hh

set_option maxRecDepth 100000 in
set_option maxHeartbeats 1000000 in
theorem find_any (h : Cor w c z b N Z) {f k : Int} (hf : i64 f) (hk : i64 k) :
    Calls Try.prog 38 #[.pointer (some ⟨c, 0, none⟩), keyV f k] w fun e w' => e = .returned (pV (at_ Z f k)) ∧ Below w.heap.size w w' := by
  obtain ⟨r, hr⟩ : ∃ r, at_ Z f k = r := ⟨_, rfl⟩
  rw [hr]
  have hal : Below w.heap.size w (w.alloc (.cells #[.int .i64 f, .int .i64 k] 42)) := (Below.refl _ w).alloc (Nat.le_refl _) _
  have h2 := h.below hal
  have c0 := h2.c0
  have c1 := h2.c1
  have hl : ∀ n, (Instr.lookup 73 (.map (some z)) (.agg #[.int .i64 f, .int .i64 k]) false).run Try.prog (World.drewN (w.alloc (.cells #[.int .i64 f, .int .i64 k] 42)) n) = .ok (pV r) (World.drewN (w.alloc (.cells #[.int .i64 f, .int .i64 k] 42)) n) := fun n => by
    obtain ⟨D, hm, hat⟩ := (h2.below (w' := World.drewN (w.alloc (.cells #[.int .i64 f, .int .i64 k] 42)) n) (below_drewN (Below.refl _ _) n)).at_key hf hk
    rw [hr] at hat
    exact look hm hf hk hat
  have HB := Lib.hid (fun n => below_drewN hal n)
  have HI := Lib.hid (idle_any c b _ c0)
  have hrow := heap_alloc_new w (.cells #[.int .i64 f, .int .i64 k] 42)
  have k0 : (w.alloc (.cells #[.int .i64 f, .int .i64 k] 42)).cell? ⟨w.heap.size, 0, none⟩ = some (.int .i64 f) := cell_of_row _ _ _ _ _ _ hrow
  have k1 : (w.alloc (.cells #[.int .i64 f, .int .i64 k] 42)).cell? ⟨w.heap.size, 1, none⟩ = some (.int .i64 k) := cell_of_row _ _ _ _ _ _ hrow
  clear h h2 hr hal hrow c0
  unfold keyV
  go_enter Try.func38, Try.ntmps38
  go_wp2_with fail
  generalize w.alloc (.cells #[.int .i64 f, .int .i64 k] 42) = w1 at c1 hl HB HI k0 k1 ⊢
  refine HI.out.mono ?_
  rintro e w2 ⟨rfl, rfl⟩
  go_wp2_with fail
  go_quiet (fail)
  go_wp2
  go_ret
  exact ⟨rfl, HB.out _⟩
end
end Go.Proofs.Ytlfhjbilnfkabaa
