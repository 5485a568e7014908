/- Texts joined by bundle.py: Tg. -/
import Derived.Test.YtnglaolbfpdgoaaGreatZbf

/- Open. -/
namespace Go.Proofs.YtnglaolbfpdgoaaGreat
open Go.RowKit
open SK
open TB (Bs Sp)

theorem srcV_nil (x : Nat) (w : World) : (binOp .eql 73 (srcV x) .nilFunc).run Tryz.prog w = .ok (.bool false) w := by
  have h : ∀ d : Nat, (Op.equalIn (d + 1) 73 (srcV x) .nilFunc).run Tryz.prog w = .ok false w := fun d => by
    unfold srcV
    simp [Op.equalIn, run_underlying Tryz.underlying73]
  simp only [binOp]
  simp [Op.equal, Op.maxDepth, h 9999]
theorem nil_nil (w : World) : (binOp .eql 73 .nilFunc .nilFunc).run Tryz.prog w = .ok (.bool true) w := by kernel_rfl

theorem cf_any {f : FuncId} {fn : Func} (hf : Tryz.prog.funcs[f]? = some fn) (hname : (fn.name == "runtime.NumGoroutine") = false) (hb : fn.body.isSome = true) (args : Array Value) (w : World) : (callFunc f args).run Tryz.prog w = .ok (.enter f args) w := by
  have h1 : fn.name ≠ "runtime.NumGoroutine" := by simpa using hname
  obtain ⟨c, hc⟩ := Option.isSome_iff_exists.1 hb
  simp [callFunc, hf, h1, hc]

theorem heap_new3 (w : World) (o p q : Obj) : (((w.alloc o).alloc p).alloc q).heap[w.heap.size]? = some o ∧ (((w.alloc o).alloc p).alloc q).heap[w.heap.size + 1]? = some p ∧ (((w.alloc o).alloc p).alloc q).heap[w.heap.size + 2]? = some q := by
  refine ⟨?_, ?_, ?_⟩
  · exact (Below.heap_alloc _ _ _ (by simp; omega)).trans ((Below.heap_alloc _ _ _ (by simp)).trans (heap_alloc_new w _))
  · exact (Below.heap_alloc _ _ _ (by simp)).trans (heap_new2 w _ _)
  · have := heap_alloc_new ((w.alloc o).alloc p) q
    simpa using this

theorem noErr_grown {w w' : World} {r : Nat} (hg : (w.alloc (.cells #[.int .i64 0] 27)).grownBy w' (some r)) (hr : r ≠ w.heap.size) : NoErr w' w.heap.size :=
  (hg.block w.heap.size (by simp) (by simp; omega)).trans (heap_alloc_new w _)

set_option maxRecDepth 100000 in
theorem topen1_any (w : World) (p b t x : Nat) (s : ByteArray) (size : Int) (hp : w.cell? ⟨p, 0, none⟩ = some (.pointer (some ⟨t, 0, none⟩))) (hb : w.cell? ⟨b, 0, none⟩ = some (.int .i64 size)) (h : Tab0 w t x s ⟨#[]⟩) (hs : s.size ≤ 281474976710656) (h24 : 24 ≤ size) (h1 : size ≤ 9223372036854775807) :
    Calls Tryz.prog 37 #[.pointer (some ⟨p, 0, none⟩), .pointer (some ⟨b, 0, none⟩)] w fun e w' => ReadT w t x s (TB.openS s.data.toList size) e w' := by
  obtain ⟨z, hz⟩ : ∃ z : Nat, size = (z : Int) + 24 := ⟨(size - 24).toNat, by omega⟩
  have HR := Lib.hid (tread_any w t x s z h hs (by omega))
  have HO : Hid (TB.openS s.data.toList size = TB.readS s.data.toList z) := Lib.hid (by unfold TB.openS; rw [if_neg (by omega)]; congr 1; omega)
  have hw : IntKind.i64.wrap (size - 24) = (z : Int) := by rw [IntWalk.i64_in _ ⟨by omega, by omega⟩]; omega
  rw [HO.out]
  clear hz h HO
  go_enter Tryz.func37, Tryz.ntmps37
  go_wp2_with fail
  refine HR.out.mono ?_
  rintro e w1 ⟨hg, h⟩
  cases hx : TB.readS s.data.toList z with
  | error c =>
    rw [hx] at h
    simp only at h
    subst h
    exact ⟨rfl, hg, by rw [hx]⟩
  | ok y =>
    rw [hx] at h
    obtain ⟨ss, fl⟩ := y
    simp only at h
    obtain ⟨rfl, h⟩ := h
    have HH := Lib.hid h
    have HG := Lib.hid hg
    have HX := Lib.hid hx
    clear h hg hx HR
    go_wp2
    go_end0
    exact ⟨HG.out, by rw [HX.out]; exact ⟨rfl, HH.out⟩⟩

/-- what opening comes to -/
def OpenOut (w : World) (x : Nat) (s : ByteArray) (r : Except Int (List Sp × Bs)) (e : Ending) (w' : World) : Prop :=
  Below w.heap.size w w' ∧ match r with
    | .ok (ss, fl) => ∃ t, e = .returned (.tuple #[.pointer (some ⟨t, 0, none⟩), .int .i64 0]) ∧ w.heap.size ≤ t ∧ Tab w' t x s ss ⟨fl.toArray⟩
    | .error c => e = .returned (.tuple #[.pointer none, .int .i64 c])

theorem topen_nil (size : Int) (w : World) : Calls Tryz.prog 15 #[.nilFunc, .int .i64 size] w fun e w' => e = .returned (.tuple #[.pointer none, .int .i64 2]) ∧ Below w.heap.size w w' := by
  have hn := nil_nil
  have HB := Lib.hid ((Below.refl _ w).alloc (Nat.le_refl _) (.cells #[.int .i64 size] 3))
  go_enter Tryz.func15, Tryz.ntmps15
  go_wp2
  go_ret2
  exact ⟨rfl, HB.out⟩

theorem openS_err {s : Bs} {size c : Int} (h : TB.openS s size = .error c) : c ≠ 0 := by
  unfold TB.openS at h
  split at h
  · simp only [Except.error.injEq] at h; rw [← h]; decide
  · unfold TB.readS at h
    generalize (size - 24).toNat = z at h
    cases h0 : TB.bodyOf s z 24 with
    | error d => rw [h0] at h; simp only [TB.rest0, Except.error.injEq] at h; rw [← h]; exact TB.bodyOf_err h0
    | ok ft =>
      rw [h0] at h
      simp only [TB.rest0] at h
      split at h
      · cases h1 : TB.bodyOf s (TB.big (ft.take 8)) ((TB.big (ft.drop 8) : Int) - TB.big (ft.take 8)) with
        | error d => rw [h1] at h; simp only [TB.rest1, Except.error.injEq] at h; rw [← h]; exact TB.bodyOf_err h1
        | ok ix =>
          rw [h1] at h
          simp only [TB.rest1] at h
          cases h2 : TB.bodyOf s (TB.big (ft.drop 8)) ((z : Int) - TB.big (ft.drop 8)) with
          | error d => rw [h2] at h; simp only [TB.rest2, Except.error.injEq] at h; rw [← h]; exact TB.bodyOf_err h2
          | ok fl =>
            rw [h2] at h
            simp only [TB.rest2] at h
            cases h3 : TB.spansOf ix (TB.big (ft.take 8)) with
            | error d => rw [h3] at h; simp only [TB.rest3, Except.error.injEq] at h; rw [← h]; exact TB.spansOf_err h3
            | ok ss => rw [h3] at h; cases h
      · simp only [Except.error.injEq] at h; rw [← h]; decide

set_option maxRecDepth 100000 in
set_option maxHeartbeats 2000000 in
theorem topen_any (x : Nat) (s : ByteArray) (size : Int) (w : World) (hx : w.heap[x]? = some (.cells #[.string s] 9 (0, 0))) (hs : s.size ≤ 281474976710656) (_ : -9223372036854775808 ≤ size) (h1 : size ≤ 9223372036854775807) :
    Calls Tryz.prog 15 #[srcV x, .int .i64 size] w fun e w' => OpenOut w x s (TB.openS s.data.toList size) e w' := by
  have hn := srcV_nil x
  have hmf : ∀ (fn : Fn) (first cap : Array Value) (w : World), (Instr.makeFunc fn first cap).run Tryz.prog w = .ok (.func fn first cap) w := fun _ _ _ _ => rfl
  have hxl := (Array.getElem?_eq_some_iff.1 hx).1
  by_cases hz : size < 24
  · have d1 : decide (size < 24) = true := by simpa using hz
    have HF : Hid (TB.openS s.data.toList size = .error 3) := Lib.hid (by unfold TB.openS; rw [if_pos hz])
    have HB := Lib.hid ((Below.refl _ w).alloc (Nat.le_refl _) (.cells #[.int .i64 size] 3))
    rw [HF.out]
    unfold srcV at hn ⊢
    go_enter Tryz.func15, Tryz.ntmps15
    go_wp2
    go_ret2
    exact ⟨HB.out, rfl⟩
  · have d1 : decide (size < 24) = false := by simpa using hz
    obtain ⟨b, hbb⟩ : ∃ b, w.heap.size = b := ⟨_, rfl⟩
    obtain ⟨X, hX⟩ : ∃ X, TB.openS s.data.toList size = X := ⟨_, rfl⟩
    rw [hX]
    unfold OpenOut
    simp only [hbb]
    unfold srcV at hn ⊢
    go_enter Tryz.func15, Tryz.ntmps15
    go_wp2_with fail
    obtain ⟨r0, r1, r2⟩ := heap_new3 w (.cells #[.int .i64 size] 3) (.cells #[srcV x, .slice none 0 0, .string ⟨#[]⟩] 84) (.cells #[.pointer (some ⟨b + 1, 0, none⟩)] 35)
    have HB3 : Hid (Below b w (((w.alloc (.cells #[.int .i64 size] 3)).alloc (.cells #[srcV x, .slice none 0 0, .string ⟨#[]⟩] 84)).alloc (.cells #[.pointer (some ⟨b + 1, 0, none⟩)] 35))) := Lib.hid ((((Below.refl _ w).alloc (by omega) _).alloc (by simp; omega) _).alloc (by simp; omega) _)
    have HS3 : Hid ((((w.alloc (.cells #[.int .i64 size] 3)).alloc (.cells #[srcV x, .slice none 0 0, .string ⟨#[]⟩] 84)).alloc (.cells #[.pointer (some ⟨b + 1, 0, none⟩)] 35)).heap.size = b + 3) := Lib.hid (by simp; omega)
    rw [hbb] at r0 r1 r2
    unfold srcV at r0 r1 r2 HB3 HS3
    generalize ((w.alloc (.cells #[.int .i64 size] 3)).alloc (.cells #[.func (.func 63) #[] #[.pointer (some ⟨x, 0, none⟩)], .slice none 0 0, .string ⟨#[]⟩] 84)).alloc (.cells #[.pointer (some ⟨b + 1, 0, none⟩)] 35) = w3 at r0 r1 r2 HB3 HS3 ⊢
    have hal : ∀ k, k < b + 3 → (w3.alloc (.cells #[.int .i64 0] 27)).heap[k]? = w3.heap[k]? := fun k hk => Below.heap_alloc _ _ _ (by have := HS3.out; omega)
    have hx3 : w3.heap[x]? = some (.cells #[.string s] 9 (0, 0)) := (HB3.out.block x (by omega)).trans hx
    have hT0 : Tab0 (w3.alloc (.cells #[.int .i64 0] 27)) (b + 1) x s ⟨#[]⟩ := ⟨(hal _ (by omega)).trans r1, (hal _ (by omega)).trans hx3, by omega⟩
    have HC := topen1_any (w3.alloc (.cells #[.int .i64 0] 27)) (b + 2) b (b + 1) x s size (cell_of_row _ _ _ _ _ _ ((hal _ (by omega)).trans r2)) (cell_of_row _ _ _ _ _ _ ((hal _ (by omega)).trans r0)) hT0 hs (by omega) h1
    rw [hX] at HC
    have hcf : ∀ W, (callFunc 37 #[.pointer (some ⟨b + 2, 0, none⟩), .pointer (some ⟨b, 0, none⟩)]).run Tryz.prog W = .ok (.enter 37 #[.pointer (some ⟨b + 2, 0, none⟩), .pointer (some ⟨b, 0, none⟩)]) W := fun W => cf_any (fn := Tryz.f37) (by kernel_rfl) (by kernel_rfl) (by kernel_rfl) _ W
    have HR2 := Lib.hid r2
    have HHC := Lib.hid HC
    have HCF := Lib.hid hcf
    clear r0 r1 r2 hT0 hx3 hx hal HC hcf hxl
    cases X with
    | error c =>
      have hc := openS_err hX
      have hc1 : (c == 0) = false := by simpa using hc
      have hc2 : (c != 0) = true := by simpa using hc
      refine (tcaught_bad w3 37 _ c (fun w' => Below b w w') HCF.out (HHC.out.mono ?_)).mono ?_
      · rintro e w' ⟨hg, rfl⟩
        refine ⟨rfl, noErr_grown hg (by have := HS3.out; omega), ?_⟩
        refine below_via (y := w3.heap.size) (w1 := w') ?_ (grownBy_setCell _ _ _) (by have := hg.size; simp at this; have := HS3.out; omega) (by have := HS3.out; omega)
        exact below_via (y := b + 1) (HB3.out.alloc (by have := HS3.out; omega) _) hg (by have := HS3.out; simp; omega) (by omega)
      · rintro e w4 ⟨rfl, hB⟩
        have HB := Lib.hid hB
        clear hB HHC
        go_wp2
        go_ret2
        exact ⟨HB.out, rfl⟩
    | ok y =>
      obtain ⟨ss, fl⟩ := y
      refine (tcaught_ok w3 37 _ (fun w' => Below b w w' ∧ w'.heap[b + 2]? = some (.cells #[.pointer (some ⟨b + 1, 0, none⟩)] 35 (0, 0)) ∧ Tab w' (b + 1) x s ss ⟨fl.toArray⟩) HCF.out (HHC.out.mono ?_)).mono ?_
      · rintro e w' ⟨hg, rfl, hT⟩
        refine ⟨rfl, noErr_grown hg (by have := HS3.out; omega), ?_, ?_, hT⟩
        · exact below_via (y := b + 1) (HB3.out.alloc (by have := HS3.out; omega) _) hg (by have := HS3.out; simp; omega) (by omega)
        · exact (hg.block (b + 2) (by have := HS3.out; simp; omega) (by simp)).trans ((Below.heap_alloc _ _ _ (by have := HS3.out; omega)).trans HR2.out)
      · rintro e w4 ⟨rfl, hB, hr, hT⟩
        have c2 : w4.cell? ⟨b + 2, 0, none⟩ = some (.pointer (some ⟨b + 1, 0, none⟩)) := cell_of_row _ _ _ _ _ _ hr
        have c2' : w4.cell? ⟨b + 1 + 1, 0, none⟩ = some (.pointer (some ⟨b + 1, 0, none⟩)) := c2
        have HB := Lib.hid hB
        have HT := Lib.hid hT
        clear hB HHC hr hT
        go_wp2
        go_ret2
        exact ⟨HB.out, b + 1, rfl, by omega, HT.out⟩
end Go.Proofs.YtnglaolbfpdgoaaGreat

