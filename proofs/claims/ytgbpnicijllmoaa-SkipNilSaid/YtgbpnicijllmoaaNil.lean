/- SkipNil: of a nil list nothing is there, and nothing is put. For every entry. -/
import Derived.Test.YtgbpnicijllmoaaOp
import Derived.Test.YtgbpnicijllmoaaWk
import Derived.Test.YtgbpnicijllmoaaIt
import Derived.RangeFuncFrom
namespace Go.Proofs.Ytgbpnicijllmoaa
open Go.ChangeShapes Go.WideShapes Go.ChangeAt Go.RowKit Go.Shelf
open SK
namespace lawNil
attribute [local go_sem] Oper.semAt_some

set_option maxRecDepth 100000 in
set_option maxHeartbeats 4000000 in
theorem walk (a : E) (w : World) :
    Calls Try.prog 8 #[a.val] w fun e w' => e = .returned (.bool true) ∧ Below w.heap.size w w' := by
  have HG : Hid (∀ W, Calls Try.prog 13 #[.pointer none, .string a.key, .int .i64 a.seq] W fun r w' => r = .returned (.tuple #[E.zero.val, .bool false]) ∧ Below W.heap.size W w') := fun W => get_nil _ _ W
  have HP : Hid (∀ W, Calls Try.prog 22 #[.pointer none, a.val] W fun r w' => r = .returned (.int .i64 1) ∧ Below W.heap.size W w') := fun W => put_nil a W
  have HC : Hid (∀ W, Calls Try.prog 23 #[.pointer none, a.val] W fun r w' => r = .returned (.int .i64 0) ∧ Below W.heap.size W w') := fun W => cost_nil a W
  have HW : Hid (∀ W, Calls Try.prog 10 #[] W fun r w' => r = .returned (.bool true) ∧ Below W.heap.size W w') := fun W => wakes_any W
  obtain ⟨k1, q1, g1, v1, t1⟩ := a
  simp only [E.val, E.zero] at HG HP HC ⊢
  have hA0 : (w.alloc (.cells #[.string k1, .int .i64 q1, .bool g1, .string v1, .int .i64 t1] 36)).heap[w.heap.size]? = some (.cells #[.string k1, .int .i64 q1, .bool g1, .string v1, .int .i64 t1] 36 (0, 0)) := heap_alloc_new w _
  have hK0 : Below w.heap.size w (w.alloc (.cells #[.string k1, .int .i64 q1, .bool g1, .string v1, .int .i64 t1] 36)) := (Below.refl _ w).alloc (Nat.le_refl _) _
  have hz0 : (w.alloc (.cells #[.string k1, .int .i64 q1, .bool g1, .string v1, .int .i64 t1] 36)).heap.size = w.heap.size + 1 := by simp
  refine (callsIn_wide (n := 4)).1 ?_
  refine callsIn_of_wp_marks Try.func8 rfl trivial ?_ rfl
  simp only [Try.ntmps8, List.size_toArray, List.length_cons, List.length_nil, Nat.reduceAdd, Nat.reduceSub, Array.replicate_succ, Array.replicate_zero, List.push_toArray, List.append_toArray, List.nil_append, List.cons_append]
  refine wpIn_wide.2 ?_
  go_wp2_with fail
  generalize w.alloc (.cells #[.string k1, .int .i64 q1, .bool g1, .string v1, .int .i64 t1] 36) = w0 at hA0 hK0 hz0 ⊢
  obtain ⟨x, hx⟩ : ∃ x, w.heap.size = x := ⟨_, rfl⟩
  rw [hx] at hA0 hK0 hz0 ⊢
  have HX := Lib.hid hx
  clear hx
  refine (HW.out _).mono ?_
  rintro r w1 ⟨rfl, hb⟩
  have HK1 : Hid (Below x w w1) := Lib.hid (hK0.trans (hb.mono (by omega)))
  have HA1 := Lib.hid ((hb.block x (by omega)).trans hA0)
  have hz1 : x + 1 ≤ w1.heap.size := by have := hb.size; omega
  clear hb hA0 hK0 hz0
  go_wp2_with fail
  refine (from_any none ⟨#[]⟩ _ (by decide)).mono ?_
  rintro r w2 ⟨rfl, hb2, hs2, c0, c1⟩
  have hz : (w1.alloc (.cells #[.int .i64 0] 3)).heap.size = w1.heap.size + 1 := by simp
  have hN1 := heap_alloc_new w1 (.cells #[.int .i64 0] 3)
  rw [hz] at hb2 hs2 c0 c1
  go_wp2_with fail
  have HA2 := Lib.hid ((hb2.block x (by omega)).trans ((Below.heap_alloc _ _ _ (by omega)).trans HA1.out))
  have HN2 := Lib.hid ((hb2.block w1.heap.size (by omega)).trans hN1)
  have HK2 : Hid (Below x w w2) := Lib.hid ((HK1.out.alloc (by omega) _).trans (hb2.mono (by omega)))
  obtain ⟨y, hy⟩ : ∃ y, w1.heap.size = y := ⟨_, rfl⟩
  rw [hy] at HN2 hs2 c0 c1 hz1 ⊢
  clear hb2 hN1 hz HA1 HK1 hy
  refine (wpIn_wide (n := 4)).1 ?_
  refine wpIn_rangeFunc_ownF rfl (by decide) (gf := 29) (lb := #[.pointer (some ⟨y + 1, 0, none⟩), .pointer (some ⟨y + 1 + 1, 0, none⟩)]) rfl trivial (enters_of Try.func29 (by kernel_rfl) rfl)
    (nil_stops (w0 := w2) (y + 1) (y + 1 + 1) (by omega) (by omega) ⟨#[]⟩ (4 - 1) (fun _ _ => True) c0 c1) (fun _ _ => trivial) (fun _ _ _ _ _ _ _ _ => trivial) (Below.refl _ _) (fun _ => rfl)
    (fun _ W => W.heap[x]? = some (.cells #[.string k1, .int .i64 q1, .bool g1, .string v1, .int .i64 t1] 36 (0, 0)) ∧ W.heap[y]? = some (.cells #[.int .i64 0] 3 (0, 0)) ∧ Below x w W)
    (fun _ _ _ => False)
    (fun s A B row hs hg hr => ⟨(hg.block x (Array.getElem?_eq_some_iff.1 hs.1).1 (fun e => by have := (hr x e.symm).1; omega)).trans hs.1, (hg.block y (Array.getElem?_eq_some_iff.1 hs.2.1).1 (fun e => by have := (hr y e.symm).1; omega)).trans hs.2.1,
      hs.2.2.grown hg (by have := (Array.getElem?_eq_some_iff.1 hs.1).1; omega) (fun r e => by have := (hr r e).1; omega)⟩)
    (fun _ _ _ _ _ hs _ _ => hs)
    ⟨HA2.out, HN2.out, HK2.out⟩
    (fun e : E => { tmps := #[.agg #[.string k1, .int .i64 q1, .bool g1, .string v1, .int .i64 t1], .pointer (some ⟨x, 0, none⟩), .bool false, .pointer none, .pointer (some ⟨y, 0, none⟩), undef, undef, .bool true, .bool false, .pointer none, .func (.func 29) #[] #[.pointer (some ⟨y + 1, 0, none⟩), .pointer (some ⟨y + 1 + 1, 0, none⟩)], e.val, undef, undef, undef, undef, undef, undef, undef, undef, undef, undef, undef, undef, undef, undef, undef, undef, undef, undef, undef, undef, undef, undef, undef, undef, undef, undef, undef, undef, undef, undef, undef, undef, undef, undef, undef, undef, undef, undef, undef], defers := [] }) ?assign ?body ?done ?stop
  case assign =>
    intro l e W K hK
    gi_wp2
    exact hK
  case body =>
    intro l pre e W _ hlt
    exact absurd hlt (Nat.not_lt_zero _)
  case stop =>
    rintro D c pre W _ h _
    exact h.elim
  case done =>
    rintro D ys W hD rfl ⟨hA, hN, hK⟩ hdef
    have HAW := Lib.hid hA
    have HNW := Lib.hid hN
    have HKW := Lib.hid hK
    have HDW := Lib.hid hdef
    have hx1 : x < W.heap.size := (Array.getElem?_eq_some_iff.1 hA).1
    have hy1 : y < W.heap.size := (Array.getElem?_eq_some_iff.1 hN).1
    have hd1 : D < W.heap.size := (Array.getElem?_eq_some_iff.1 hdef).1
    clear hA hN hK hdef
    have a0 : W.cell? ⟨x, 0, none⟩ = some (.string k1) := cell_of_row _ _ _ _ _ _ HAW.out
    have a1 : W.cell? ⟨x, 1, none⟩ = some (.int .i64 q1) := cell_of_row _ _ _ _ _ _ HAW.out
    have a2 : W.cell? ⟨x, 2, none⟩ = some (.bool g1) := cell_of_row _ _ _ _ _ _ HAW.out
    have a3 : W.cell? ⟨x, 3, none⟩ = some (.string v1) := cell_of_row _ _ _ _ _ _ HAW.out
    have a4 : W.cell? ⟨x, 4, none⟩ = some (.int .i64 t1) := cell_of_row _ _ _ _ _ _ HAW.out
    have n0 : W.cell? ⟨y, 0, none⟩ = some (.int .i64 0) := cell_of_row _ _ _ _ _ _ HNW.out
    go_wp2_with fail
    refine (HG.out _).mono ?_
    rintro r w3 ⟨rfl, hb3⟩
    have HA3 := Lib.hid ((hb3.block x hx1).trans HAW.out)
    have HN3 := Lib.hid ((hb3.block y hy1).trans HNW.out)
    have HD3 := Lib.hid ((hb3.block D hd1).trans HDW.out)
    have HK3 : Hid (Below x w w3) := Lib.hid (HKW.out.trans (hb3.mono (by omega)))
    have hw3 := hb3.size
    have HA4 := Lib.hid ((Below.heap_alloc w3 (.cells #[.string ⟨#[]⟩, .int .i64 0, .bool false, .string ⟨#[]⟩, .int .i64 0] 38) x (by omega)).trans HA3.out)
    have HN4 := Lib.hid ((Below.heap_alloc w3 (.cells #[.string ⟨#[]⟩, .int .i64 0, .bool false, .string ⟨#[]⟩, .int .i64 0] 38) y (by omega)).trans HN3.out)
    have HD4 := Lib.hid ((Below.heap_alloc w3 (.cells #[.string ⟨#[]⟩, .int .i64 0, .bool false, .string ⟨#[]⟩, .int .i64 0] 38) D (by omega)).trans HD3.out)
    have HK4 : Hid (Below x w (w3.alloc (.cells #[.string ⟨#[]⟩, .int .i64 0, .bool false, .string ⟨#[]⟩, .int .i64 0] 38))) := Lib.hid (HK3.out.alloc (by omega) _)
    have hw4 : (w3.alloc (.cells #[.string ⟨#[]⟩, .int .i64 0, .bool false, .string ⟨#[]⟩, .int .i64 0] 38)).heap.size = w3.heap.size + 1 := by simp
    have n1 : (w3.alloc (.cells #[.string ⟨#[]⟩, .int .i64 0, .bool false, .string ⟨#[]⟩, .int .i64 0] 38)).cell? ⟨y, 0, none⟩ = some (.int .i64 0) := cell_of_row _ _ _ _ _ _ HN4.out
    have b0 : (w3.alloc (.cells #[.string ⟨#[]⟩, .int .i64 0, .bool false, .string ⟨#[]⟩, .int .i64 0] 38)).cell? ⟨x, 0, none⟩ = some (.string k1) := cell_of_row _ _ _ _ _ _ HA4.out
    have b1 : (w3.alloc (.cells #[.string ⟨#[]⟩, .int .i64 0, .bool false, .string ⟨#[]⟩, .int .i64 0] 38)).cell? ⟨x, 1, none⟩ = some (.int .i64 q1) := cell_of_row _ _ _ _ _ _ HA4.out
    have b2 : (w3.alloc (.cells #[.string ⟨#[]⟩, .int .i64 0, .bool false, .string ⟨#[]⟩, .int .i64 0] 38)).cell? ⟨x, 2, none⟩ = some (.bool g1) := cell_of_row _ _ _ _ _ _ HA4.out
    have b3 : (w3.alloc (.cells #[.string ⟨#[]⟩, .int .i64 0, .bool false, .string ⟨#[]⟩, .int .i64 0] 38)).cell? ⟨x, 3, none⟩ = some (.string v1) := cell_of_row _ _ _ _ _ _ HA4.out
    have b4 : (w3.alloc (.cells #[.string ⟨#[]⟩, .int .i64 0, .bool false, .string ⟨#[]⟩, .int .i64 0] 38)).cell? ⟨x, 4, none⟩ = some (.int .i64 t1) := cell_of_row _ _ _ _ _ _ HA4.out
    clear hb3 a0 a1 a2 a3 a4 n0 HG HA3 HN3 HD3 HK3 HKW HNW HDW HAW
    go_wp2_with fail
    generalize w3.alloc (.cells #[.string ⟨#[]⟩, .int .i64 0, .bool false, .string ⟨#[]⟩, .int .i64 0] 38) = w4 at HA4 HN4 HD4 HK4 hw4 b0 b1 b2 b3 b4 n1 ⊢
    refine (HP.out _).mono ?_
    rintro r w5 ⟨rfl, hb5⟩
    have HA5 := Lib.hid ((hb5.block x (by omega)).trans HA4.out)
    have HD5 := Lib.hid ((hb5.block D (by omega)).trans HD4.out)
    have HK5 : Hid (Below x w w5) := Lib.hid (HK4.out.trans (hb5.mono (by omega)))
    have hw5 := hb5.size
    clear hb5 b0 b1 b2 b3 b4 n1 HA4 HN4 HD4 HK4 HP
    have b0 : w5.cell? ⟨x, 0, none⟩ = some (.string k1) := cell_of_row _ _ _ _ _ _ HA5.out
    have b1 : w5.cell? ⟨x, 1, none⟩ = some (.int .i64 q1) := cell_of_row _ _ _ _ _ _ HA5.out
    have b2 : w5.cell? ⟨x, 2, none⟩ = some (.bool g1) := cell_of_row _ _ _ _ _ _ HA5.out
    have b3 : w5.cell? ⟨x, 3, none⟩ = some (.string v1) := cell_of_row _ _ _ _ _ _ HA5.out
    have b4 : w5.cell? ⟨x, 4, none⟩ = some (.int .i64 t1) := cell_of_row _ _ _ _ _ _ HA5.out
    go_wp2_with (first
      | (go_at_call 11; refine (len_nil _).mono ?_; rintro r wx ⟨rfl, rfl⟩)
      | (go_at_call 12; refine (size_nil _).mono ?_; rintro r wx ⟨rfl, rfl⟩)
      | (go_at_call 23; refine (HC.out _).mono ?_; rintro r w6 ⟨rfl, hb6⟩
         have HD6 := Lib.hid ((hb6.block D (by omega)).trans HD5.out)
         have HK6 : Hid (Below x w w6) := Lib.hid (HK5.out.trans (hb6.mono (by omega)))
         clear hb6))
    refine ⟨by simp, .inl ⟨_, _, rfl, run_takeDeferred HD6.out, ?_⟩⟩
    exact ⟨_, results_tmp rfl _ _ _, rfl, by rw [HX.out]; exact HK6.out.trans (belowK_b (w := w2) (by omega) w6 D _ _ (by omega) HD6.out rfl rfl)⟩

set_option maxRecDepth 100000 in
theorem contract (H : Type) (enc : TypeId × Value → H) (W : World) (base : Nat) (args : Array Value) (ds gs : List (DataW H)) (before : List MemPlace)
    (hval : ∀ (j : Nat) t v, Try.f8.params[j]? = some t → args[j]? = some v → Value.okWide Try.prog W .any base t v)
    (hW : DataW.Whole enc Try.prog Try.f8.params.toList Rows.skipNilSpec.vars false W args.toList ds gs before)
    (hz : (DataW.weightsEach Try.prog Try.f8.params.toList (ds ++ gs)).all (· ≤ reachBytes) = true) :
    Calls Try.prog 8 args W fun e W' => ∃ v, e = .returned v ∧ Rows.skipNilSpec.post enc Try.prog Try.f8 false true false false W args v W' := by
  have hW' := hW
  obtain ⟨p, q, hA0, hV, rfl, hfz, hnd⟩ := hW
  have hA : DataW.TrodAll enc Try.prog W 0 (fun _ => true) true Try.f8.params.toList args.toList ds p := hA0
  rw [Try.params8] at hA hval hz
  obtain ⟨v0, vs0, d0, ds0, p0, q0, hargs, rfl, rfl, h0, r0⟩ := trodAll_cons hA
  obtain ⟨rfl, rfl, rfl⟩ := trodAll_nil r0
  obtain rfl : args = #[v0] := by cases args; simp_all
  obtain ⟨rfl, rfl⟩ := trodVars_none hV
  obtain ⟨e, rfl, rfl, hwe⟩ := open_ent (hval 0 36 v0 rfl rfl) h0 (parts_sized hz (j := 0) rfl rfl)
  refine (walk e W).mono fun e W' ⟨he, hB⟩ => ?_
  subst he
  exact ⟨_, rfl, law_post Try.laidOut (by kernel_rfl) rfl rfl Try.underlying4 hW' rfl hB⟩

set_option maxRecDepth 100000 in
theorem lifted (os : Os) (started : os.Started) (H : Type) (enc : TypeId × Value → H) :
    ReturnsInHanded {} Try.checked os 8 .any (Rows.skipNilSpec.pre6 enc Try.prog Try.f8 Rows.skipNilRow.domain false) (Rows.skipNilSpec.post enc Try.prog Try.f8 false true false false) := by
  refine returnsInHanded_of_change_sized (C := Try.checked) Try.own started (by kernel_rfl) Try.func8
    (ChangeSpec.witness6 (enc := enc) (C := Try.checked) false ⟨#[], #[.agg #[.string ⟨#[]⟩, .int .i64 0, .bool false, .string ⟨#[]⟩, .int .i64 0]], []⟩ 8 (by kernel_rfl) (by kernel_rfl) (by kernel_rfl) (by kernel_rfl)) ?_
  intro W base args ds gs before hval hW _ hz _
  exact contract H enc W base args ds gs before hval hW hz

theorem proved : Rows.SkipNilSaid :=
  OpenClaim.holds_of_wide 8 Try.f8 rfl rfl rfl rfl rfl rfl rfl ⟨rfl, rfl, rfl, rfl, rfl⟩ rfl rfl rfl rfl rfl (by kernel_rfl) Try.func8 (by kernel_rfl)
    (of_decide_eq_true (by kernel_rfl)) (by unfold Func.isWrapper; first | (rw [if_pos (by decide +kernel)]; kernel_rfl) | (rw [if_neg (by decide +kernel)]; exact ⟨rfl, rfl⟩))
    (fun os started H enc _ => lifted os started H enc)
end lawNil
end Go.Proofs.Ytgbpnicijllmoaa
