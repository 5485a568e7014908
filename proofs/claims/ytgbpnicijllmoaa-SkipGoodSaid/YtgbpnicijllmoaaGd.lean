/- SkipGood: which entries may be put, and which stands ahead of which, is the document's answer. For every two entries. -/
import Derived.Test.YtgbpnicijllmoaaOp
import Derived.Test.YtgbpnicijllmoaaWk
namespace Go.Proofs.Ytgbpnicijllmoaa
open Go.ChangeShapes Go.WideShapes Go.ChangeAt Go.RowKit
open SK
namespace lawGood

set_option maxRecDepth 100000 in
set_option maxHeartbeats 4000000 in
theorem walk (a b : E) (w : World) (ha : a.wf) :
    Calls Try.prog 6 #[a.val, b.val] w fun e w' => e = .returned (.bool true) ∧ Below w.heap.size w w' := by
  have HG : Hid (∀ W, Calls Try.prog 17 #[a.val] W fun r w' => r = .returned (.int .i64 (good a)) ∧ Below W.heap.size W w') := fun W => good_any a W ha
  have HRG : Hid (∀ W, Calls Try.prog 18 #[a.val] W fun r w' => r = .returned (.int .i64 (good a)) ∧ Below W.heap.size W w') := fun W => rgood_any a W ha
  have HL : Hid (∀ W, Calls Try.prog 19 #[a.val, b.val] W fun r w' => r = .returned (.bool (less a b)) ∧ Below W.heap.size W w') := fun W => less_any a b W
  have HRL : Hid (∀ W, Calls Try.prog 20 #[a.val, b.val] W fun r w' => r = .returned (.bool (less a b)) ∧ Below W.heap.size W w') := fun W => rless_any a b W
  have HW : Hid (∀ W, Calls Try.prog 10 #[] W fun r w' => r = .returned (.bool true) ∧ Below W.heap.size W w') := fun W => wakes_any W
  obtain ⟨G, hG⟩ : ∃ G, good a = G := ⟨_, rfl⟩
  obtain ⟨L, hL⟩ : ∃ L, less a b = L := ⟨_, rfl⟩
  rw [hG] at HG HRG
  rw [hL] at HL HRL
  clear hG hL ha
  obtain ⟨k1, q1, g1, v1, t1⟩ := a
  obtain ⟨k2, q2, g2, v2, t2⟩ := b
  simp only [E.val] at HG HRG HL HRL ⊢
  have hA0 : ((w.alloc (.cells #[.string k1, .int .i64 q1, .bool g1, .string v1, .int .i64 t1] 36)).alloc (.cells #[.string k2, .int .i64 q2, .bool g2, .string v2, .int .i64 t2] 36)).heap[w.heap.size]? = some (.cells #[.string k1, .int .i64 q1, .bool g1, .string v1, .int .i64 t1] 36 (0, 0)) := (Below.heap_alloc _ _ _ (by simp)).trans (heap_alloc_new w _)
  have hB0 : ((w.alloc (.cells #[.string k1, .int .i64 q1, .bool g1, .string v1, .int .i64 t1] 36)).alloc (.cells #[.string k2, .int .i64 q2, .bool g2, .string v2, .int .i64 t2] 36)).heap[w.heap.size + 1]? = some (.cells #[.string k2, .int .i64 q2, .bool g2, .string v2, .int .i64 t2] 36 (0, 0)) := by
    have := heap_alloc_new (w.alloc (.cells #[.string k1, .int .i64 q1, .bool g1, .string v1, .int .i64 t1] 36)) (.cells #[.string k2, .int .i64 q2, .bool g2, .string v2, .int .i64 t2] 36)
    simpa using this
  have hK0 : Below w.heap.size w ((w.alloc (.cells #[.string k1, .int .i64 q1, .bool g1, .string v1, .int .i64 t1] 36)).alloc (.cells #[.string k2, .int .i64 q2, .bool g2, .string v2, .int .i64 t2] 36)) := ((Below.refl _ w).alloc (Nat.le_refl _) _).alloc (by simp) _
  have hz0 : ((w.alloc (.cells #[.string k1, .int .i64 q1, .bool g1, .string v1, .int .i64 t1] 36)).alloc (.cells #[.string k2, .int .i64 q2, .bool g2, .string v2, .int .i64 t2] 36)).heap.size = w.heap.size + 2 := by simp
  go_enter Try.func6, Try.ntmps6
  go_wp2_with fail
  generalize (w.alloc (.cells #[.string k1, .int .i64 q1, .bool g1, .string v1, .int .i64 t1] 36)).alloc (.cells #[.string k2, .int .i64 q2, .bool g2, .string v2, .int .i64 t2] 36) = w0 at hA0 hB0 hK0 hz0 ⊢
  obtain ⟨x, hx⟩ : ∃ x, w.heap.size = x := ⟨_, rfl⟩
  rw [hx] at hA0 hB0 hK0 hz0 ⊢
  have HX := Lib.hid hx
  have HA0 := Lib.hid hA0
  have HB0 := Lib.hid hB0
  have HK0 := Lib.hid hK0
  have HZ0 : Hid (x + 2 ≤ w0.heap.size) := Lib.hid (by omega)
  obtain ⟨e0, e1, e2, e3, e4, e5, e6, e7, e8, e9⟩ : w0.cell? ⟨x, 0, none⟩ = some (.string k1) ∧ w0.cell? ⟨x, 1, none⟩ = some (.int .i64 q1) ∧ w0.cell? ⟨x, 2, none⟩ = some (.bool g1) ∧ w0.cell? ⟨x, 3, none⟩ = some (.string v1) ∧ w0.cell? ⟨x, 4, none⟩ = some (.int .i64 t1) ∧ w0.cell? ⟨x + 1, 0, none⟩ = some (.string k2) ∧ w0.cell? ⟨x + 1, 1, none⟩ = some (.int .i64 q2) ∧ w0.cell? ⟨x + 1, 2, none⟩ = some (.bool g2) ∧ w0.cell? ⟨x + 1, 3, none⟩ = some (.string v2) ∧ w0.cell? ⟨x + 1, 4, none⟩ = some (.int .i64 t2) := ⟨cell_of_row _ _ _ _ _ _ HA0.out, cell_of_row _ _ _ _ _ _ HA0.out, cell_of_row _ _ _ _ _ _ HA0.out, cell_of_row _ _ _ _ _ _ HA0.out, cell_of_row _ _ _ _ _ _ HA0.out, cell_of_row _ _ _ _ _ _ HB0.out, cell_of_row _ _ _ _ _ _ HB0.out, cell_of_row _ _ _ _ _ _ HB0.out, cell_of_row _ _ _ _ _ _ HB0.out, cell_of_row _ _ _ _ _ _ HB0.out⟩
  clear hA0 hB0 hK0 hz0 hx
  go_region_held3 (fun w' => w'.cell? ⟨x, 0, none⟩ = some (.string k1) ∧ w'.cell? ⟨x, 1, none⟩ = some (.int .i64 q1) ∧ w'.cell? ⟨x, 2, none⟩ = some (.bool g1) ∧ w'.cell? ⟨x, 3, none⟩ = some (.string v1) ∧ w'.cell? ⟨x, 4, none⟩ = some (.int .i64 t1) ∧ w'.cell? ⟨x + 1, 0, none⟩ = some (.string k2) ∧ w'.cell? ⟨x + 1, 1, none⟩ = some (.int .i64 q2) ∧ w'.cell? ⟨x + 1, 2, none⟩ = some (.bool g2) ∧ w'.cell? ⟨x + 1, 3, none⟩ = some (.string v2) ∧ w'.cell? ⟨x + 1, 4, none⟩ = some (.int .i64 t2))
    (first | go_keep | exact HS1.out | exact HS2.out | exact HS3.out | exact HS4.out | exact HS5.out | fail)
    (first
      | (go_at_call 10; refine (HW.out _).mono ?_; rintro r w1 ⟨rfl, hb⟩
         have HA1 := Lib.hid ((hb.block x (by have := HZ0.out; simp; omega)).trans HA0.out)
         have HB1 := Lib.hid ((hb.block (x + 1) (by have := HZ0.out; simp; omega)).trans HB0.out)
         have HZ1 : Hid (x + 2 ≤ w1.heap.size) := Lib.hid (Nat.le_trans HZ0.out (by simpa using hb.size))
         have HS1 : Hid (w1.cell? ⟨x, 0, none⟩ = some (.string k1) ∧ w1.cell? ⟨x, 1, none⟩ = some (.int .i64 q1) ∧ w1.cell? ⟨x, 2, none⟩ = some (.bool g1) ∧ w1.cell? ⟨x, 3, none⟩ = some (.string v1) ∧ w1.cell? ⟨x, 4, none⟩ = some (.int .i64 t1) ∧ w1.cell? ⟨x + 1, 0, none⟩ = some (.string k2) ∧ w1.cell? ⟨x + 1, 1, none⟩ = some (.int .i64 q2) ∧ w1.cell? ⟨x + 1, 2, none⟩ = some (.bool g2) ∧ w1.cell? ⟨x + 1, 3, none⟩ = some (.string v2) ∧ w1.cell? ⟨x + 1, 4, none⟩ = some (.int .i64 t2)) := Lib.hid ⟨cell_of_row _ _ _ _ _ _ HA1.out, cell_of_row _ _ _ _ _ _ HA1.out, cell_of_row _ _ _ _ _ _ HA1.out, cell_of_row _ _ _ _ _ _ HA1.out, cell_of_row _ _ _ _ _ _ HA1.out, cell_of_row _ _ _ _ _ _ HB1.out, cell_of_row _ _ _ _ _ _ HB1.out, cell_of_row _ _ _ _ _ _ HB1.out, cell_of_row _ _ _ _ _ _ HB1.out, cell_of_row _ _ _ _ _ _ HB1.out⟩
         have HK1 : Hid (Below x w w1) := Lib.hid (Below.trans (Below.drew HK0.out) (hb.mono (by have := HZ0.out; simp; omega)))
         clear hb)
      | (go_at_call 17; refine (HG.out _).mono ?_; rintro r w2 ⟨rfl, hb⟩
         have HA2 := Lib.hid ((hb.block x (by have := HZ1.out; simp; omega)).trans HA1.out)
         have HB2 := Lib.hid ((hb.block (x + 1) (by have := HZ1.out; simp; omega)).trans HB1.out)
         have HZ2 : Hid (x + 2 ≤ w2.heap.size) := Lib.hid (Nat.le_trans HZ1.out (by simpa using hb.size))
         have HS2 : Hid (w2.cell? ⟨x, 0, none⟩ = some (.string k1) ∧ w2.cell? ⟨x, 1, none⟩ = some (.int .i64 q1) ∧ w2.cell? ⟨x, 2, none⟩ = some (.bool g1) ∧ w2.cell? ⟨x, 3, none⟩ = some (.string v1) ∧ w2.cell? ⟨x, 4, none⟩ = some (.int .i64 t1) ∧ w2.cell? ⟨x + 1, 0, none⟩ = some (.string k2) ∧ w2.cell? ⟨x + 1, 1, none⟩ = some (.int .i64 q2) ∧ w2.cell? ⟨x + 1, 2, none⟩ = some (.bool g2) ∧ w2.cell? ⟨x + 1, 3, none⟩ = some (.string v2) ∧ w2.cell? ⟨x + 1, 4, none⟩ = some (.int .i64 t2)) := Lib.hid ⟨cell_of_row _ _ _ _ _ _ HA2.out, cell_of_row _ _ _ _ _ _ HA2.out, cell_of_row _ _ _ _ _ _ HA2.out, cell_of_row _ _ _ _ _ _ HA2.out, cell_of_row _ _ _ _ _ _ HA2.out, cell_of_row _ _ _ _ _ _ HB2.out, cell_of_row _ _ _ _ _ _ HB2.out, cell_of_row _ _ _ _ _ _ HB2.out, cell_of_row _ _ _ _ _ _ HB2.out, cell_of_row _ _ _ _ _ _ HB2.out⟩
         have HK2 : Hid (Below x w w2) := Lib.hid (Below.trans HK1.out (hb.mono (by have := HZ1.out; simp; omega)))
         clear hb)
      | (go_at_call 18; refine (HRG.out _).mono ?_; rintro r w3 ⟨rfl, hb⟩
         have HA3 := Lib.hid ((hb.block x (by have := HZ2.out; simp; omega)).trans HA2.out)
         have HB3 := Lib.hid ((hb.block (x + 1) (by have := HZ2.out; simp; omega)).trans HB2.out)
         have HZ3 : Hid (x + 2 ≤ w3.heap.size) := Lib.hid (Nat.le_trans HZ2.out (by simpa using hb.size))
         have HS3 : Hid (w3.cell? ⟨x, 0, none⟩ = some (.string k1) ∧ w3.cell? ⟨x, 1, none⟩ = some (.int .i64 q1) ∧ w3.cell? ⟨x, 2, none⟩ = some (.bool g1) ∧ w3.cell? ⟨x, 3, none⟩ = some (.string v1) ∧ w3.cell? ⟨x, 4, none⟩ = some (.int .i64 t1) ∧ w3.cell? ⟨x + 1, 0, none⟩ = some (.string k2) ∧ w3.cell? ⟨x + 1, 1, none⟩ = some (.int .i64 q2) ∧ w3.cell? ⟨x + 1, 2, none⟩ = some (.bool g2) ∧ w3.cell? ⟨x + 1, 3, none⟩ = some (.string v2) ∧ w3.cell? ⟨x + 1, 4, none⟩ = some (.int .i64 t2)) := Lib.hid ⟨cell_of_row _ _ _ _ _ _ HA3.out, cell_of_row _ _ _ _ _ _ HA3.out, cell_of_row _ _ _ _ _ _ HA3.out, cell_of_row _ _ _ _ _ _ HA3.out, cell_of_row _ _ _ _ _ _ HA3.out, cell_of_row _ _ _ _ _ _ HB3.out, cell_of_row _ _ _ _ _ _ HB3.out, cell_of_row _ _ _ _ _ _ HB3.out, cell_of_row _ _ _ _ _ _ HB3.out, cell_of_row _ _ _ _ _ _ HB3.out⟩
         have HK3 : Hid (Below x w w3) := Lib.hid (Below.trans HK2.out (hb.mono (by have := HZ2.out; simp; omega)))
         clear hb)
      | (go_at_call 19; refine (HL.out _).mono ?_; rintro r w4 ⟨rfl, hb⟩
         have HA4 := Lib.hid ((hb.block x (by have := HZ3.out; simp; omega)).trans HA3.out)
         have HB4 := Lib.hid ((hb.block (x + 1) (by have := HZ3.out; simp; omega)).trans HB3.out)
         have HZ4 : Hid (x + 2 ≤ w4.heap.size) := Lib.hid (Nat.le_trans HZ3.out (by simpa using hb.size))
         have HS4 : Hid (w4.cell? ⟨x, 0, none⟩ = some (.string k1) ∧ w4.cell? ⟨x, 1, none⟩ = some (.int .i64 q1) ∧ w4.cell? ⟨x, 2, none⟩ = some (.bool g1) ∧ w4.cell? ⟨x, 3, none⟩ = some (.string v1) ∧ w4.cell? ⟨x, 4, none⟩ = some (.int .i64 t1) ∧ w4.cell? ⟨x + 1, 0, none⟩ = some (.string k2) ∧ w4.cell? ⟨x + 1, 1, none⟩ = some (.int .i64 q2) ∧ w4.cell? ⟨x + 1, 2, none⟩ = some (.bool g2) ∧ w4.cell? ⟨x + 1, 3, none⟩ = some (.string v2) ∧ w4.cell? ⟨x + 1, 4, none⟩ = some (.int .i64 t2)) := Lib.hid ⟨cell_of_row _ _ _ _ _ _ HA4.out, cell_of_row _ _ _ _ _ _ HA4.out, cell_of_row _ _ _ _ _ _ HA4.out, cell_of_row _ _ _ _ _ _ HA4.out, cell_of_row _ _ _ _ _ _ HA4.out, cell_of_row _ _ _ _ _ _ HB4.out, cell_of_row _ _ _ _ _ _ HB4.out, cell_of_row _ _ _ _ _ _ HB4.out, cell_of_row _ _ _ _ _ _ HB4.out, cell_of_row _ _ _ _ _ _ HB4.out⟩
         have HK4 : Hid (Below x w w4) := Lib.hid (Below.trans HK3.out (hb.mono (by have := HZ3.out; simp; omega)))
         clear hb)
      | (go_at_call 20; refine (HRL.out _).mono ?_; rintro r w5 ⟨rfl, hb⟩
         have HA5 := Lib.hid ((hb.block x (by have := HZ4.out; simp; omega)).trans HA4.out)
         have HB5 := Lib.hid ((hb.block (x + 1) (by have := HZ4.out; simp; omega)).trans HB4.out)
         have HZ5 : Hid (x + 2 ≤ w5.heap.size) := Lib.hid (Nat.le_trans HZ4.out (by simpa using hb.size))
         have HS5 : Hid (w5.cell? ⟨x, 0, none⟩ = some (.string k1) ∧ w5.cell? ⟨x, 1, none⟩ = some (.int .i64 q1) ∧ w5.cell? ⟨x, 2, none⟩ = some (.bool g1) ∧ w5.cell? ⟨x, 3, none⟩ = some (.string v1) ∧ w5.cell? ⟨x, 4, none⟩ = some (.int .i64 t1) ∧ w5.cell? ⟨x + 1, 0, none⟩ = some (.string k2) ∧ w5.cell? ⟨x + 1, 1, none⟩ = some (.int .i64 q2) ∧ w5.cell? ⟨x + 1, 2, none⟩ = some (.bool g2) ∧ w5.cell? ⟨x + 1, 3, none⟩ = some (.string v2) ∧ w5.cell? ⟨x + 1, 4, none⟩ = some (.int .i64 t2)) := Lib.hid ⟨cell_of_row _ _ _ _ _ _ HA5.out, cell_of_row _ _ _ _ _ _ HA5.out, cell_of_row _ _ _ _ _ _ HA5.out, cell_of_row _ _ _ _ _ _ HA5.out, cell_of_row _ _ _ _ _ _ HA5.out, cell_of_row _ _ _ _ _ _ HB5.out, cell_of_row _ _ _ _ _ _ HB5.out, cell_of_row _ _ _ _ _ _ HB5.out, cell_of_row _ _ _ _ _ _ HB5.out, cell_of_row _ _ _ _ _ _ HB5.out⟩
         have HK5 : Hid (Below x w w5) := Lib.hid (Below.trans HK4.out (hb.mono (by have := HZ4.out; simp; omega)))
         clear hb)
      | fail)
  all_goals
    clear HS1 HS2 HS3 HS4 HS5
    go_wp2
    go_ret
    exact ⟨by simp, by rw [HX.out]; exact HK5.out⟩

set_option maxRecDepth 100000 in
theorem contract (H : Type) (enc : TypeId × Value → H) (W : World) (base : Nat) (args : Array Value) (ds gs : List (DataW H)) (before : List MemPlace)
    (hval : ∀ (j : Nat) t v, Try.f6.params[j]? = some t → args[j]? = some v → Value.okWide Try.prog W .any base t v)
    (hW : DataW.Whole enc Try.prog Try.f6.params.toList Rows.skipGoodSpec.vars false W args.toList ds gs before)
    (hz : (DataW.weightsEach Try.prog Try.f6.params.toList (ds ++ gs)).all (· ≤ reachBytes) = true) :
    Calls Try.prog 6 args W fun e W' => ∃ v, e = .returned v ∧ Rows.skipGoodSpec.post enc Try.prog Try.f6 false true false false W args v W' := by
  have hW' := hW
  obtain ⟨p, q, hA0, hV, rfl, hfz, hnd⟩ := hW
  have hA : DataW.TrodAll enc Try.prog W 0 (fun _ => true) true Try.f6.params.toList args.toList ds p := hA0
  rw [Try.params6] at hA hval hz
  obtain ⟨v0, vs0, d0, ds0, p0, q0, hargs, rfl, rfl, h0, r0⟩ := trodAll_cons hA
  obtain ⟨v1, vs1, d1, ds1, p1, q1, rfl, rfl, rfl, h1, r1⟩ := trodAll_cons r0
  obtain ⟨rfl, rfl, rfl⟩ := trodAll_nil r1
  obtain rfl : args = #[v0, v1] := by cases args; simp_all
  obtain ⟨rfl, rfl⟩ := trodVars_none hV
  obtain ⟨a, rfl, rfl, hwa⟩ := open_ent (hval 0 36 v0 rfl rfl) h0 (parts_sized hz (j := 0) rfl rfl)
  obtain ⟨b, rfl, rfl, hwb⟩ := open_ent (hval 1 36 v1 rfl rfl) h1 (parts_sized hz (j := 1) rfl rfl)
  refine (walk a b W hwa).mono fun e W' ⟨he, hB⟩ => ?_
  subst he
  exact ⟨_, rfl, law_post Try.laidOut (by kernel_rfl) rfl rfl Try.underlying4 hW' rfl hB⟩

set_option maxRecDepth 100000 in
theorem lifted (os : Os) (started : os.Started) (H : Type) (enc : TypeId × Value → H) :
    ReturnsInHanded {} Try.checked os 6 .any (Rows.skipGoodSpec.pre6 enc Try.prog Try.f6 Rows.skipGoodRow.domain false) (Rows.skipGoodSpec.post enc Try.prog Try.f6 false true false false) := by
  refine returnsInHanded_of_change_sized (C := Try.checked) Try.own started (by kernel_rfl) Try.func6
    (ChangeSpec.witness6 (enc := enc) (C := Try.checked) false ⟨#[], #[.agg #[.string ⟨#[]⟩, .int .i64 0, .bool false, .string ⟨#[]⟩, .int .i64 0], .agg #[.string ⟨#[]⟩, .int .i64 0, .bool false, .string ⟨#[]⟩, .int .i64 0]], []⟩ 8 (by kernel_rfl) (by kernel_rfl) (by kernel_rfl) (by kernel_rfl)) ?_
  intro W base args ds gs before hval hW _ hz _
  exact contract H enc W base args ds gs before hval hW hz

theorem proved : Rows.SkipGoodSaid :=
  OpenClaim.holds_of_wide 6 Try.f6 rfl rfl rfl rfl rfl rfl rfl ⟨rfl, rfl, rfl, rfl, rfl⟩ rfl rfl rfl rfl rfl (by kernel_rfl) Try.func6 (by kernel_rfl)
    (of_decide_eq_true (by kernel_rfl)) (by unfold Func.isWrapper; first | (rw [if_pos (by decide +kernel)]; kernel_rfl) | (rw [if_neg (by decide +kernel)]; exact ⟨rfl, rfl⟩))
    (fun os started H enc _ => lifted os started H enc)
end lawGood
end Go.Proofs.Ytgbpnicijllmoaa
