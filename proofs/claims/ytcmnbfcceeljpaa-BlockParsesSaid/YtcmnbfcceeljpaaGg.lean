/- block.Parse, whole. -/
import Derived.Test.YtcmnbfcceeljpaaGe
namespace Go.Proofs.Ytcmnbfcceeljpaa
open Go.RowKit
open SK


set_option maxRecDepth 100000 in
set_option maxHeartbeats 1000000 in
theorem parse_any (s : ByteArray) (w : World) (hs : s.size ≤ 281474976710656) :
    Calls Try.prog 16 #[.string s] w fun e w' => ∃ A c, e = .returned (.tuple #[.slice A (BK.getL s.data.toList).length c, .int .i64 (BK.getC s.data.toList)]) ∧ EntsIn w' A (BK.getL s.data.toList) ∧ (∀ x ∈ fb A, w.heap.size ≤ x ∧ x < w'.heap.size) ∧ Below w.heap.size w w' := by
  have hmf : ∀ (fn : Fn) (first cap : Array Value) (w : World), (Instr.makeFunc fn first cap).run Try.prog w = .ok (.func fn first cap) w := fun _ _ _ _ => rfl
  have ha : ((w.alloc (.cells #[.string s] 9)).alloc (.cells #[.slice none 0 0] 23)).heap[w.heap.size]? = some (.cells #[.string s] 9 (0, 0)) := (Below.heap_alloc _ _ _ (by simp)).trans (heap_alloc_new w _)
  have hb : ((w.alloc (.cells #[.string s] 9)).alloc (.cells #[.slice none 0 0] 23)).heap[w.heap.size + 1]? = some (.cells #[.slice none 0 0] 23 (0, 0)) := by
    have := heap_alloc_new (w.alloc (.cells #[.string s] 9)) (.cells #[.slice none 0 0] 23)
    simpa using this
  have HG0 : Hid (Below w.heap.size w ((w.alloc (.cells #[.string s] 9)).alloc (.cells #[.slice none 0 0] 23))) := Lib.hid (((Below.refl _ w).alloc (Nat.le_refl _) _).alloc (by simp) _)
  have HS0 : Hid (((w.alloc (.cells #[.string s] 9)).alloc (.cells #[.slice none 0 0] 23)).heap.size = w.heap.size + 2) := Lib.hid (by simp)
  have HC := Lib.hid (caught_any _ w.heap.size (w.heap.size + 1) s ha hb hs)
  have HB := Lib.hid hb
  obtain ⟨L, hL⟩ : ∃ L, BK.getL s.data.toList = L := ⟨_, rfl⟩
  obtain ⟨C, hC⟩ : ∃ C, BK.getC s.data.toList = C := ⟨_, rfl⟩
  rw [hL, hC]
  have HLL := Lib.hid hL
  have HCC := Lib.hid hC
  clear ha hb hL hC
  cases hx : BK.getOut s.data.toList with
  | error c =>
    obtain ⟨h1, h2⟩ := BK.getC_err hx
    have HC2 : Hid (C = c) := Lib.hid (by rw [← HCC.out, h1])
    have HL2 : Hid (L = []) := Lib.hid (by rw [← HLL.out, h2])
    rw [hx] at HC
    clear hx h1 h2
    go_enter Try.func16, Try.ntmps16
    go_wp2_with fail
    generalize (w.alloc (.cells #[.string s] 9)).alloc (.cells #[.slice none 0 0] 23) = w0 at HG0 HS0 HC HB ⊢
    refine HC.out.mono ?_
    rintro e w1 ⟨hg, rfl, hbk⟩
    have hrow := hbk.trans HB.out
    have c1 : w1.cell? ⟨w.heap.size + 1, 0, none⟩ = some (.slice none 0 0) := cell_of_row _ _ _ _ _ _ hrow
    have HBEL : Hid (Below w.heap.size w w1) := Lib.hid (HG0.out.trans ⟨hg.os, hg.tape, hg.output, hg.size, fun k hk => hg.block k (by have := HS0.out; omega) (by simp; omega)⟩)
    clear hg hbk hrow
    go_wp2
    go_ret2
    refine ⟨none, 0, ?_, ?_, by simp [fb], HBEL.out⟩
    · rw [HC2.out, HL2.out]; rfl
    · rw [HL2.out]; exact ⟨by simp, by simp⟩
  | ok es =>
    obtain ⟨h1, h2⟩ := BK.getC_ok hx
    have HC2 : Hid (C = 0) := Lib.hid (by rw [← HCC.out, h1])
    have HL2 : Hid (L = es) := Lib.hid (by rw [← HLL.out, h2])
    rw [hx] at HC
    clear hx h1 h2
    go_enter Try.func16, Try.ntmps16
    go_wp2_with fail
    generalize (w.alloc (.cells #[.string s] 9)).alloc (.cells #[.slice none 0 0] 23) = w0 at HG0 HS0 HC HB ⊢
    refine HC.out.mono ?_
    rintro e w1 ⟨hg, rfl, A, cp, hrow, hen, hfb⟩
    have c1 : w1.cell? ⟨w.heap.size + 1, 0, none⟩ = some (.slice A es.length cp) := cell_of_row _ _ _ _ _ _ hrow
    have HBEL : Hid (Below w.heap.size w w1) := Lib.hid (HG0.out.trans ⟨hg.os, hg.tape, hg.output, hg.size, fun k hk => hg.block k (by have := HS0.out; omega) (by simp; omega)⟩)
    have HEN := Lib.hid hen
    have HGL : Hid (∀ x ∈ fb A, w.heap.size ≤ x ∧ x < w1.heap.size) := Lib.hid (fun x hx => by have := hfb x hx; have := HS0.out; omega)
    clear hg hrow hen hfb
    go_wp2
    go_ret2
    refine ⟨A, cp, ?_, ?_, HGL.out, HBEL.out⟩
    · rw [HC2.out, HL2.out]; rfl
    · rw [HL2.out]; exact HEN.out
end Go.Proofs.Ytcmnbfcceeljpaa
