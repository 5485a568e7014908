/- wakes: what the document fixes; entries compared. -/
import Derived.Test.YtgnlhnfjanoahaaPw
import Derived.Deep.QuietTactic
namespace Go.Proofs.Ytgnlhnfjanoahaa
open Go.RowKit
open SK

theorem ent_eql (W : World) (k : ByteArray) (q : Int) (g : Bool) (v : ByteArray) (t : Int) : (binOp .eql 36 (.agg #[.string k, .int .i64 q, .bool g, .string v, .int .i64 t]) (.agg #[.string k, .int .i64 q, .bool g, .string v, .int .i64 t])).run Try.prog W = .ok (.bool true) W := by
  have ub := Try.underlying4
  have ui := Try.underlying2
  have us := Try.underlying9
  rw [run_eql_struct, run_equalIn_agg W 9999 36 _ _ (by kernel_rfl) (by kernel_rfl)]
  unfold Program.fieldsOf
  rw [Try.underlying36]
  have e0 : ∀ W, (Go.part 9 #[.string k, .int .i64 q, .bool g, .string v, .int .i64 t] 0).run Try.prog W = .ok (.string k) W := fun W => by simp [Go.part, isAgg, run_underlying us]
  have e1 : ∀ W, (Go.part 2 #[.string k, .int .i64 q, .bool g, .string v, .int .i64 t] 1).run Try.prog W = .ok (.int .i64 q) W := fun W => by simp [Go.part, isAgg, run_underlying ui]
  have e2 : ∀ W, (Go.part 4 #[.string k, .int .i64 q, .bool g, .string v, .int .i64 t] 2).run Try.prog W = .ok (.bool g) W := fun W => by simp [Go.part, isAgg, run_underlying ub]
  have e3 : ∀ W, (Go.part 9 #[.string k, .int .i64 q, .bool g, .string v, .int .i64 t] 3).run Try.prog W = .ok (.string v) W := fun W => by simp [Go.part, isAgg, run_underlying us]
  have e4 : ∀ W, (Go.part 2 #[.string k, .int .i64 q, .bool g, .string v, .int .i64 t] 4).run Try.prog W = .ok (.int .i64 t) W := fun W => by simp [Go.part, isAgg, run_underlying ui]
  simp [Op.eqFields, e0, e1, e2, e3, e4, run_equalIn_bool' _ _ _ _ _ ub, run_equalIn_int _ _ _ _ _ _ _ ui, run_equalIn_string _ _ _ _ _ us, Result.andThen]
theorem ent_neq (W : World) (k : ByteArray) (q : Int) (g : Bool) (v : ByteArray) (t : Int) : (binOp .neq 36 (.agg #[.string k, .int .i64 q, .bool g, .string v, .int .i64 t]) (.agg #[.string k, .int .i64 q, .bool g, .string v, .int .i64 t])).run Try.prog W = .ok (.bool false) W := by
  have ub := Try.underlying4
  have ui := Try.underlying2
  have us := Try.underlying9
  rw [run_neq_struct, run_equalIn_agg W 9999 36 _ _ (by kernel_rfl) (by kernel_rfl)]
  unfold Program.fieldsOf
  rw [Try.underlying36]
  have e0 : ∀ W, (Go.part 9 #[.string k, .int .i64 q, .bool g, .string v, .int .i64 t] 0).run Try.prog W = .ok (.string k) W := fun W => by simp [Go.part, isAgg, run_underlying us]
  have e1 : ∀ W, (Go.part 2 #[.string k, .int .i64 q, .bool g, .string v, .int .i64 t] 1).run Try.prog W = .ok (.int .i64 q) W := fun W => by simp [Go.part, isAgg, run_underlying ui]
  have e2 : ∀ W, (Go.part 4 #[.string k, .int .i64 q, .bool g, .string v, .int .i64 t] 2).run Try.prog W = .ok (.bool g) W := fun W => by simp [Go.part, isAgg, run_underlying ub]
  have e3 : ∀ W, (Go.part 9 #[.string k, .int .i64 q, .bool g, .string v, .int .i64 t] 3).run Try.prog W = .ok (.string v) W := fun W => by simp [Go.part, isAgg, run_underlying us]
  have e4 : ∀ W, (Go.part 2 #[.string k, .int .i64 q, .bool g, .string v, .int .i64 t] 4).run Try.prog W = .ok (.int .i64 t) W := fun W => by simp [Go.part, isAgg, run_underlying ui]
  simp [Op.eqFields, e0, e1, e2, e3, e4, run_equalIn_bool' _ _ _ _ _ ub, run_equalIn_int _ _ _ _ _ _ _ ui, run_equalIn_string _ _ _ _ _ us, Result.andThen]
theorem rent_neq (W : World) (k : ByteArray) (q : Int) (g : Bool) (v : ByteArray) (t : Int) : (binOp .neq 37 (.agg #[.string k, .int .i64 q, .bool g, .string v, .int .i64 t]) (.agg #[.string k, .int .i64 q, .bool g, .string v, .int .i64 t])).run Try.prog W = .ok (.bool false) W := by
  have ub := Try.underlying4
  have ui := Try.underlying2
  have us := Try.underlying9
  rw [run_neq_struct, run_equalIn_agg W 9999 37 _ _ (by kernel_rfl) (by kernel_rfl)]
  unfold Program.fieldsOf
  rw [Try.underlying37]
  have e0 : ∀ W, (Go.part 9 #[.string k, .int .i64 q, .bool g, .string v, .int .i64 t] 0).run Try.prog W = .ok (.string k) W := fun W => by simp [Go.part, isAgg, run_underlying us]
  have e1 : ∀ W, (Go.part 2 #[.string k, .int .i64 q, .bool g, .string v, .int .i64 t] 1).run Try.prog W = .ok (.int .i64 q) W := fun W => by simp [Go.part, isAgg, run_underlying ui]
  have e2 : ∀ W, (Go.part 4 #[.string k, .int .i64 q, .bool g, .string v, .int .i64 t] 2).run Try.prog W = .ok (.bool g) W := fun W => by simp [Go.part, isAgg, run_underlying ub]
  have e3 : ∀ W, (Go.part 9 #[.string k, .int .i64 q, .bool g, .string v, .int .i64 t] 3).run Try.prog W = .ok (.string v) W := fun W => by simp [Go.part, isAgg, run_underlying us]
  have e4 : ∀ W, (Go.part 2 #[.string k, .int .i64 q, .bool g, .string v, .int .i64 t] 4).run Try.prog W = .ok (.int .i64 t) W := fun W => by simp [Go.part, isAgg, run_underlying ui]
  simp [Op.eqFields, e0, e1, e2, e3, e4, run_equalIn_bool' _ _ _ _ _ ub, run_equalIn_int _ _ _ _ _ _ _ ui, run_equalIn_string _ _ _ _ _ us, Result.andThen]

theorem func_equalIn (W : World) (d : Nat) (f : Fn) (a b : Array Value) : (Op.equalIn (d + 1) 33 (.func f a b) .nilFunc).run Try.prog W = .ok false W := by
  have uf := Try.underlying33
  simp [Op.equalIn, run_underlying uf]
theorem func_neq (W : World) (f : Fn) (a b : Array Value) : (binOp .neq 33 (.func f a b) .nilFunc).run Try.prog W = .ok (.bool true) W := by
  have h := func_equalIn W 9999 f a b
  simp only [binOp]
  simp [Op.equal, Op.maxDepth, h, Result.andThen]

/-- the entry that wakes puts -/
def eW : E := ⟨⟨#[97]⟩, 3, false, ⟨#[120, 121, 122]⟩, 0⟩
theorem eW_wf : eW.wf := ⟨by decide, by decide, by decide, by decide⟩
theorem eW_step : St.new.step [2] eW = (0, ⟨[eW], 68⟩) := by decide +kernel
theorem eW_again : (⟨[eW], 68⟩ : St).step [2] eW = (11, ⟨[eW], 68⟩) := by decide +kernel
theorem eW_get : get [eW] ⟨#[97]⟩ 5 = (eW, true) := by decide +kernel

set_option maxRecDepth 100000 in
set_option maxHeartbeats 4000000 in
theorem wakes_any (w : World) : Calls Try.prog 7 #[] w fun e w' => e = .returned (.bool true) ∧ Below w.heap.size w w' := by
  obtain ⟨x, hx⟩ : ∃ x, w.heap.size = x := ⟨_, rfl⟩
  have hci : CoinsIn (w.alloc (.cells #[.int .i64 2] 3)) (some ⟨x, 0, none⟩) [2] := ⟨by simp, fun _ => ⟨x, 0, rfl, by rw [← hx]; simp, fun j hj => by
    have h0 : j = 0 := by simpa using hj
    subst h0
    rw [← hx]
    exact cell_of_row _ _ _ _ _ _ (heap_alloc_new w _)⟩⟩
  have hnew := new_any (some ⟨x, 0, none⟩) 1 1 [2] _ rfl hci (by decide)
  have hbel := (Below.refl w.heap.size w).alloc (Nat.le_refl _) (.cells #[.int .i64 2] 3)
  have hsz : (w.alloc (.cells #[.int .i64 2] 3)).heap.size = x + 1 := by simp [hx]
  rw [hx] at hbel
  rw [hsz] at hnew
  have HNEW := Lib.hid hnew
  have HBEL := Lib.hid hbel
  have HSZ := Lib.hid hsz
  have HX := Lib.hid hx
  clear hci hnew hbel hsz
  go_enter Try.func7, Try.ntmps7
  go_wp2_with fail
  refine HNEW.out.mono ?_
  rintro r w1 ⟨rfl, hrep, hb, hs⟩
  have hE0 : ((w1.alloc (.cells #[.string ⟨#[97]⟩, .int .i64 3, .bool false, .string ⟨#[120, 121, 122]⟩, .int .i64 0] 36)).alloc (.cells #[.string ⟨#[]⟩, .int .i64 0, .bool false, .string ⟨#[]⟩, .int .i64 0] 36)).heap[w1.heap.size]? = some (.cells #[.string ⟨#[97]⟩, .int .i64 3, .bool false, .string ⟨#[120, 121, 122]⟩, .int .i64 0] 36 (0, 0)) := (Below.heap_alloc _ _ _ (by simp)).trans (heap_alloc_new w1 _)
  have hG0 : ((w1.alloc (.cells #[.string ⟨#[97]⟩, .int .i64 3, .bool false, .string ⟨#[120, 121, 122]⟩, .int .i64 0] 36)).alloc (.cells #[.string ⟨#[]⟩, .int .i64 0, .bool false, .string ⟨#[]⟩, .int .i64 0] 36)).heap[w1.heap.size + 1]? = some (.cells #[.string ⟨#[]⟩, .int .i64 0, .bool false, .string ⟨#[]⟩, .int .i64 0] 36 (0, 0)) := by
    have := heap_alloc_new (w1.alloc (.cells #[.string ⟨#[97]⟩, .int .i64 3, .bool false, .string ⟨#[120, 121, 122]⟩, .int .i64 0] 36)) (.cells #[.string ⟨#[]⟩, .int .i64 0, .bool false, .string ⟨#[]⟩, .int .i64 0] 36)
    simpa using this
  have hb12 : Below w1.heap.size w1 ((w1.alloc (.cells #[.string ⟨#[97]⟩, .int .i64 3, .bool false, .string ⟨#[120, 121, 122]⟩, .int .i64 0] 36)).alloc (.cells #[.string ⟨#[]⟩, .int .i64 0, .bool false, .string ⟨#[]⟩, .int .i64 0] 36)) := ((Below.refl _ w1).alloc (Nat.le_refl _) _).alloc (by simp) _
  have hz12 : ((w1.alloc (.cells #[.string ⟨#[97]⟩, .int .i64 3, .bool false, .string ⟨#[120, 121, 122]⟩, .int .i64 0] 36)).alloc (.cells #[.string ⟨#[]⟩, .int .i64 0, .bool false, .string ⟨#[]⟩, .int .i64 0] 36)).heap.size = w1.heap.size + 2 := by simp
  have hbw1 : Below x w w1 := HBEL.out.trans (hb.mono (by omega))
  have hlow : ∀ v ∈ [x + 1 + 1, x + 1], v < w1.heap.size := fun v hv => by simp at hv; omega
  go_wp2_with fail
  generalize (w1.alloc (.cells #[.string ⟨#[97]⟩, .int .i64 3, .bool false, .string ⟨#[120, 121, 122]⟩, .int .i64 0] 36)).alloc (.cells #[.string ⟨#[]⟩, .int .i64 0, .bool false, .string ⟨#[]⟩, .int .i64 0] 36) = w2 at hE0 hG0 hb12 hz12 ⊢
  obtain ⟨y, hy⟩ : ∃ y, w1.heap.size = y := ⟨_, rfl⟩
  have hrep2 := hrep.below hb12
  have hput := put_any hrep2 ok_new (by omega) eW eW_wf (by decide)
  rw [eW_step] at hput
  rw [hy] at hE0 hG0 hb12 hz12 hlow hs ⊢
  have HPUT := Lib.hid hput
  have HE2 := Lib.hid hE0
  have HG2 := Lib.hid hG0
  have HB2 : Hid (Below x w w2) := Lib.hid (hbw1.trans (hb12.mono (by omega)))
  clear hput hrep hrep2 hE0 hG0 hb12 hbw1 hb hy
  refine HPUT.out.mono ?_
  rintro r w3 ⟨rfl, l3, hr3, hk3, hl3, -⟩
  have hyn : ∀ v, y ≤ v → v ∉ (x + 1 + 1) :: (x + 1) :: blks [] := fun v hv hm => by simp [blks] at hm; omega
  have hap : ∀ v ∈ (x + 1 + 1) :: (x + 1) :: blks l3, v ≠ y + 1 := fun v hv => by
    have hl := hl3
    simp only [List.mem_cons] at hv
    rcases hv with h | h | h
    · omega
    · omega
    · have := hl v h
      simp [blks] at this
      omega
  have hE3 := (hk3.block y (by omega) (hyn y (Nat.le_refl _))).trans HE2.out
  have hG3 := (hk3.block (y + 1) (by omega) (hyn _ (by omega))).trans HG2.out
  have HB3 : Hid (Below x w w3) := Lib.hid (HB2.out.trans (hk3.below (by omega) (fun v hv => by simp [blks] at hv; omega)))
  have hz3 : y + 2 ≤ w3.heap.size := by have := hk3.size; omega
  have hget := get_any hr3 ⟨by simp [Sorted], by decide +kernel, by simp; exact eW_wf, by decide⟩ ⟨#[97]⟩ 5
  dsimp only at hget
  rw [eW_get] at hget
  have HGET := Lib.hid hget
  clear hget
  have HR3 := Lib.hid hr3
  have HE3 := Lib.hid hE3
  have HG3 := Lib.hid hG3
  simp only [eW, E.val] at HGET
  clear hr3 hk3 hl3 hyn hE3 hG3 HPUT HE2 HG2
  go_wp2_with fail
  refine HGET.out.mono ?_
  rintro r w4 ⟨rfl, hb4⟩
  have HE4 := Lib.hid ((hb4.block y (by omega)).trans HE3.out)
  have HG4 := Lib.hid ((hb4.block (y + 1) (by omega)).trans HG3.out)
  have HR4 := Lib.hid (HR3.out.below hb4)
  have HAP := Lib.hid hap
  have HB4 : Hid (Below x w w4) := Lib.hid (HB3.out.trans (hb4.mono (by omega)))
  have hz4 : y + 2 ≤ w4.heap.size := by have := hb4.size; omega
  clear hb4 HE3 HG3 HR3 HGET HB3
  have n0 : w4.cell? ⟨y + 1, 0, none⟩ = some (.string ⟨#[]⟩) := cell_of_row _ _ _ _ _ _ HG4.out
  have f0 : w4.frozen? ⟨y + 1, 0, none⟩ = false := frozen_of_row _ _ _ _ _ HG4.out
  have n1 : w4.cell? ⟨y + 1, 1, none⟩ = some (.int .i64 0) := cell_of_row _ _ _ _ _ _ HG4.out
  have f1 : w4.frozen? ⟨y + 1, 1, none⟩ = false := frozen_of_row _ _ _ _ _ HG4.out
  have n2 : w4.cell? ⟨y + 1, 2, none⟩ = some (.bool false) := cell_of_row _ _ _ _ _ _ HG4.out
  have f2 : w4.frozen? ⟨y + 1, 2, none⟩ = false := frozen_of_row _ _ _ _ _ HG4.out
  have n3 : w4.cell? ⟨y + 1, 3, none⟩ = some (.string ⟨#[]⟩) := cell_of_row _ _ _ _ _ _ HG4.out
  have f3 : w4.frozen? ⟨y + 1, 3, none⟩ = false := frozen_of_row _ _ _ _ _ HG4.out
  have n4 : w4.cell? ⟨y + 1, 4, none⟩ = some (.int .i64 0) := cell_of_row _ _ _ _ _ _ HG4.out
  have f4 : w4.frozen? ⟨y + 1, 4, none⟩ = false := frozen_of_row _ _ _ _ _ HG4.out
  have hE5 : (((((w4.setCell ⟨y + 1, 0, none⟩ (.string ⟨#[97]⟩)).setCell ⟨y + 1, 1, none⟩ (.int .i64 3)).setCell ⟨y + 1, 2, none⟩ (.bool false)).setCell ⟨y + 1, 3, none⟩ (.string ⟨#[120, 121, 122]⟩)).setCell ⟨y + 1, 4, none⟩ (.int .i64 0)).heap[y]? = some (.cells #[.string ⟨#[97]⟩, .int .i64 3, .bool false, .string ⟨#[120, 121, 122]⟩, .int .i64 0] 36 (0, 0)) := ((Below.heap_setCell _ _ _ _ (show y ≠ y + 1 by omega)).trans ((Below.heap_setCell _ _ _ _ (show y ≠ y + 1 by omega)).trans ((Below.heap_setCell _ _ _ _ (show y ≠ y + 1 by omega)).trans ((Below.heap_setCell _ _ _ _ (show y ≠ y + 1 by omega)).trans ((Below.heap_setCell _ _ _ _ (show y ≠ y + 1 by omega)).trans HE4.out)))))
  have hG5 : (((((w4.setCell ⟨y + 1, 0, none⟩ (.string ⟨#[97]⟩)).setCell ⟨y + 1, 1, none⟩ (.int .i64 3)).setCell ⟨y + 1, 2, none⟩ (.bool false)).setCell ⟨y + 1, 3, none⟩ (.string ⟨#[120, 121, 122]⟩)).setCell ⟨y + 1, 4, none⟩ (.int .i64 0)).heap[y + 1]? = some (.cells #[.string ⟨#[97]⟩, .int .i64 3, .bool false, .string ⟨#[120, 121, 122]⟩, .int .i64 0] 36 (0, 0)) := (heap_set_fr (heap_set_fr (heap_set_fr (heap_set_fr (heap_set_fr HG4.out 0 (.string ⟨#[97]⟩)) 1 (.int .i64 3)) 2 (.bool false)) 3 (.string ⟨#[120, 121, 122]⟩)) 4 (.int .i64 0))
  have hB5 : Below x w (((((w4.setCell ⟨y + 1, 0, none⟩ (.string ⟨#[97]⟩)).setCell ⟨y + 1, 1, none⟩ (.int .i64 3)).setCell ⟨y + 1, 2, none⟩ (.bool false)).setCell ⟨y + 1, 3, none⟩ (.string ⟨#[120, 121, 122]⟩)).setCell ⟨y + 1, 4, none⟩ (.int .i64 0)) := (((((HB4.out.setCell (p := ⟨y + 1, 0, none⟩) (show x ≤ y + 1 by omega) (.string ⟨#[97]⟩)).setCell (p := ⟨y + 1, 1, none⟩) (show x ≤ y + 1 by omega) (.int .i64 3)).setCell (p := ⟨y + 1, 2, none⟩) (show x ≤ y + 1 by omega) (.bool false)).setCell (p := ⟨y + 1, 3, none⟩) (show x ≤ y + 1 by omega) (.string ⟨#[120, 121, 122]⟩)).setCell (p := ⟨y + 1, 4, none⟩) (show x ≤ y + 1 by omega) (.int .i64 0))
  have hz5 : (((((w4.setCell ⟨y + 1, 0, none⟩ (.string ⟨#[97]⟩)).setCell ⟨y + 1, 1, none⟩ (.int .i64 3)).setCell ⟨y + 1, 2, none⟩ (.bool false)).setCell ⟨y + 1, 3, none⟩ (.string ⟨#[120, 121, 122]⟩)).setCell ⟨y + 1, 4, none⟩ (.int .i64 0)).heap.size = w4.heap.size := by simp only [setCell_size]
  have hR5 : Rep (x + 1) (((((w4.setCell ⟨y + 1, 0, none⟩ (.string ⟨#[97]⟩)).setCell ⟨y + 1, 1, none⟩ (.int .i64 3)).setCell ⟨y + 1, 2, none⟩ (.bool false)).setCell ⟨y + 1, 3, none⟩ (.string ⟨#[120, 121, 122]⟩)).setCell ⟨y + 1, 4, none⟩ (.int .i64 0)) (x + 1 + 1) (x + 1) [2] l3 ⟨[eW], 68⟩ := HR4.out.same (fun v hv => by
    have hv' : v ≠ y + 1 := HAP.out v hv
    rw [Below.heap_setCell _ _ _ _ hv']; rw [Below.heap_setCell _ _ _ _ hv']; rw [Below.heap_setCell _ _ _ _ hv']; rw [Below.heap_setCell _ _ _ _ hv']; exact Below.heap_setCell _ _ _ _ hv') (by rw [hz5]; exact Nat.le_refl _)
  go_wp2_with fail
  generalize ((((w4.setCell ⟨y + 1, 0, none⟩ (.string ⟨#[97]⟩)).setCell ⟨y + 1, 1, none⟩ (.int .i64 3)).setCell ⟨y + 1, 2, none⟩ (.bool false)).setCell ⟨y + 1, 3, none⟩ (.string ⟨#[120, 121, 122]⟩)).setCell ⟨y + 1, 4, none⟩ (.int .i64 0) = w5 at hE5 hG5 hB5 hz5 hR5 ⊢
  refine (from_any (some ⟨x + 1 + 1, 0, none⟩) ⟨#[]⟩ w5 (by decide)).mono ?_
  rintro r w6 ⟨rfl, hb6, -, -, -⟩
  have HE6 := Lib.hid ((hb6.block y (by omega)).trans hE5)
  have HG6 := Lib.hid ((hb6.block (y + 1) (by omega)).trans hG5)
  have hr6 := hR5.below hb6
  have HB6 : Hid (Below x w w6) := Lib.hid (hB5.trans (hb6.mono (by omega)))
  have hz6 : y + 2 ≤ w6.heap.size := by have := hb6.size; omega
  have HR6 := Lib.hid hr6
  have HSZ6 : Hid (∀ W, Below w6.heap.size w6 W → Calls Try.prog 17 #[.pointer (some ⟨x + 1 + 1, 0, none⟩)] W fun e w' => e = .returned (.int .i64 68) ∧ W = w') := Lib.hid fun W hB => size_any (hr6.below hB)
  have HLN6 : Hid (∀ W, Below w6.heap.size w6 W → Calls Try.prog 12 #[.pointer (some ⟨x + 1 + 1, 0, none⟩)] W fun e w' => e = .returned (.int .i64 1) ∧ W = w') := Lib.hid fun W hB => len_any (hr6.below hB)
  have HPU6 : Hid (∀ W, Below w6.heap.size w6 W → Calls Try.prog 10 #[.pointer (some ⟨x + 1 + 1, 0, none⟩), .agg #[.string ⟨#[97]⟩, .int .i64 3, .bool false, .string ⟨#[120, 121, 122]⟩, .int .i64 0]] W fun e w' => e = .returned (.int .i64 11) ∧ Below W.heap.size W w') := Lib.hid fun W hB => by
    have hp := put_any (hr6.below hB) ⟨by simp [Sorted], by decide +kernel, by simp; exact eW_wf, by decide⟩ (by have := hB.size; omega) eW eW_wf (by decide)
    rw [eW_again] at hp
    exact hp.mono fun r w' ⟨h1, _, _, _, _, h5⟩ => ⟨h1, h5 (by decide)⟩
  have hfn := fun W f a b => func_neq W f a b
  have hee := fun W => ent_eql W ⟨#[97]⟩ 3 false ⟨#[120, 121, 122]⟩ 0
  obtain ⟨e0, e1, e2, e3, e4, e5, e6, e7, e8, e9⟩ : w6.cell? ⟨y, 0, none⟩ = some (.string ⟨#[97]⟩) ∧ w6.cell? ⟨y, 1, none⟩ = some (.int .i64 3) ∧ w6.cell? ⟨y, 2, none⟩ = some (.bool false) ∧ w6.cell? ⟨y, 3, none⟩ = some (.string ⟨#[120, 121, 122]⟩) ∧ w6.cell? ⟨y, 4, none⟩ = some (.int .i64 0) ∧ w6.cell? ⟨y + 1, 0, none⟩ = some (.string ⟨#[97]⟩) ∧ w6.cell? ⟨y + 1, 1, none⟩ = some (.int .i64 3) ∧ w6.cell? ⟨y + 1, 2, none⟩ = some (.bool false) ∧ w6.cell? ⟨y + 1, 3, none⟩ = some (.string ⟨#[120, 121, 122]⟩) ∧ w6.cell? ⟨y + 1, 4, none⟩ = some (.int .i64 0) := ⟨cell_of_row _ _ _ _ _ _ HE6.out, cell_of_row _ _ _ _ _ _ HE6.out, cell_of_row _ _ _ _ _ _ HE6.out, cell_of_row _ _ _ _ _ _ HE6.out, cell_of_row _ _ _ _ _ _ HE6.out, cell_of_row _ _ _ _ _ _ HG6.out, cell_of_row _ _ _ _ _ _ HG6.out, cell_of_row _ _ _ _ _ _ HG6.out, cell_of_row _ _ _ _ _ _ HG6.out, cell_of_row _ _ _ _ _ _ HG6.out⟩
  clear hE5 hG5 hB5 hz5 hR5 hb6 hr6 HE4 HG4 HR4 HB4 hz4 n0 f0 n1 f1 n2 f2 n3 f3 n4 f4
  go_wp2_with (first
    | (go_at_call 17; refine (HSZ6.out _ (Below.refl _ _)).mono ?_; rintro r wx ⟨rfl, rfl⟩)
    | (go_at_call 12; refine (HLN6.out _ (Below.refl _ _)).mono ?_; rintro r wx ⟨rfl, rfl⟩)
    | (go_at_call 10; refine (HPU6.out _ (Below.refl _ _)).mono ?_; rintro r w7 ⟨rfl, hb7⟩
       have HB7 : Hid (Below x w w7) := Lib.hid (HB6.out.trans (hb7.mono (by omega)))
       clear hb7))
  go_ret
  exact ⟨rfl, by rw [HX.out]; exact HB7.out⟩
end Go.Proofs.Ytgnlhnfjanoahaa
