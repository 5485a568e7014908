/- batch.Get, whole. -/
import Derived.Test.YtonoapgajgcjlaaGe
namespace Go.Proofs.Ytonoapgajgcjlaa
open Go.RowKit
open SK

namespace BK
/-- the items that Get tells, and its error -/
def getL (l : List UInt8) : List E := match getOut l with | .ok es => es | .error _ => []
def getC (l : List UInt8) : Int := match getOut l with | .ok _ => 0 | .error c => c

theorem num_err {l : List UInt8} {p : Nat} {c : Int} (h : rNum l p = .error c) : c ≠ 0 := by
  unfold rNum at h
  split at h
  · cases h
  · rename_i h0; simp only [Except.error.injEq] at h; rw [← h]; exact h0
theorem text_err {l : List UInt8} {p : Nat} {c : Int} (h : rText l p = .error c) : c ≠ 0 := by
  unfold rText at h
  split at h
  · cases h
  · rename_i h0; simp only [Except.error.injEq] at h; rw [← h]; exact h0
theorem fin_err {e : E} {p : Nat} {c : Int} (h : rFin e p = .error c) : c ≠ 0 := by
  unfold rFin at h
  split at h
  · cases h
  · rename_i h0; simp only [Except.error.injEq] at h; rw [← h]; exact h0
theorem item_err {l : List UInt8} {p : Nat} {c : Int} (h : rItem l p = .error c) : c ≠ 0 := by
  unfold rItem at h
  cases hk : rText l p with
  | error d => rw [hk] at h; simp only [Except.error.injEq] at h; rw [← h]; exact text_err hk
  | ok x =>
    obtain ⟨k, p1⟩ := x
    rw [hk] at h
    simp only at h
    cases hn : rNum l p1 with
    | error d => rw [hn] at h; simp only [Except.error.injEq] at h; rw [← h]; exact num_err hn
    | ok x =>
      obtain ⟨n, p2⟩ := x
      rw [hn] at h
      simp only [rTail] at h
      split at h
      · simp only [Except.error.injEq] at h; rw [← h]; decide
      · split at h
        · exact fin_err h
        · cases hv : rText l p2 with
          | error d => rw [hv] at h; simp only [Except.error.injEq] at h; rw [← h]; exact text_err hv
          | ok x => rw [hv] at h; exact fin_err h
theorem items_err {l : List UInt8} : ∀ {k p : Nat} {acc : List E} {c : Int}, rItems l k p acc = .error c → c ≠ 0
  | 0, _, _, _, h => by cases h
  | k + 1, p, acc, c, h => by
    simp only [rItems] at h
    cases hi : rItem l p with
    | error d => rw [hi] at h; simp only [Except.error.injEq] at h; rw [← h]; exact item_err hi
    | ok x => rw [hi] at h; exact items_err h
theorem get_err {l : List UInt8} {c : Int} (h : getOut l = .error c) : c ≠ 0 := by
  unfold getOut at h
  cases hn : rNum l 0 with
  | error d => rw [hn] at h; simp only [Except.error.injEq] at h; rw [← h]; exact num_err hn
  | ok x =>
    obtain ⟨n, p⟩ := x
    rw [hn] at h
    simp only at h
    split at h
    · simp only [Except.error.injEq] at h; rw [← h]; decide
    · split at h
      · simp only [Except.error.injEq] at h; rw [← h]; decide
      · cases hi : rItems l n.toNat p [] with
        | error d => rw [hi] at h; simp only [rEnd, Except.error.injEq] at h; rw [← h]; exact items_err hi
        | ok x =>
          obtain ⟨es, q⟩ := x
          rw [hi] at h
          simp only [rEnd] at h
          split at h
          · simp only [Except.error.injEq] at h; rw [← h]; decide
          · cases h

theorem getC_zero {l : List UInt8} (h : getC l = 0) : getOut l = .ok (getL l) := by
  unfold getC at h
  unfold getL
  cases hx : getOut l with
  | error c => rw [hx] at h; exact absurd h (get_err hx)
  | ok es => rfl
theorem getL_none {l : List UInt8} (h : getC l ≠ 0) : getL l = [] := by
  unfold getC at h
  unfold getL
  cases hx : getOut l with
  | error c => rfl
  | ok es => rw [hx] at h; exact absurd rfl h
theorem getC_ok {l : List UInt8} {es : List E} (h : getOut l = .ok es) : getC l = 0 ∧ getL l = es := by unfold getC getL; rw [h]; exact ⟨rfl, rfl⟩
theorem getC_err {l : List UInt8} {c : Int} (h : getOut l = .error c) : getC l = c ∧ getL l = [] := by unfold getC getL; rw [h]; exact ⟨rfl, rfl⟩
end BK

set_option maxRecDepth 100000 in
set_option maxHeartbeats 1000000 in
theorem bget_any (s : ByteArray) (w : World) (hs : s.size ≤ 281474976710656) :
    Calls Try.prog 12 #[.string s] w fun e w' => ∃ A c, e = .returned (.tuple #[.slice A (BK.getL s.data.toList).length c, .int .i64 (BK.getC s.data.toList)]) ∧ EntsIn w' A (BK.getL s.data.toList) ∧ (∀ x ∈ fb A, w.heap.size ≤ x ∧ x < w'.heap.size) ∧ Below w.heap.size w w' := by
  have hmf : ∀ (fn : Fn) (first cap : Array Value) (w : World), (Instr.makeFunc fn first cap).run Try.prog w = .ok (.func fn first cap) w := fun _ _ _ _ => rfl
  have ha : ((w.alloc (.cells #[.string s] 9)).alloc (.cells #[.slice none 0 0] 23)).heap[w.heap.size]? = some (.cells #[.string s] 9 (0, 0)) := (Below.heap_alloc _ _ _ (by simp)).trans (heap_alloc_new w _)
  have hb : ((w.alloc (.cells #[.string s] 9)).alloc (.cells #[.slice none 0 0] 23)).heap[w.heap.size + 1]? = some (.cells #[.slice none 0 0] 23 (0, 0)) := by
    have := heap_alloc_new (w.alloc (.cells #[.string s] 9)) (.cells #[.slice none 0 0] 23)
    simpa using this
  have HG0 : Hid (Below w.heap.size w ((w.alloc (.cells #[.string s] 9)).alloc (.cells #[.slice none 0 0] 23))) := Lib.hid (((Below.refl _ w).alloc (Nat.le_refl _) _).alloc (by simp) _)
  have HS0 : Hid (((w.alloc (.cells #[.string s] 9)).alloc (.cells #[.slice none 0 0] 23)).heap.size = w.heap.size + 2) := Lib.hid (by simp)
  have HC := Lib.hid (caught_any _ w.heap.size (w.heap.size + 1) s ha hb hs)
  have HB := Lib.hid hb
  obtain ⟨L, hL⟩ : ∃ L, BK.getL s.data.toList = L := ⟨_, rfl⟩
  obtain ⟨C, hC⟩ : ∃ C, BK.getC s.data.toList = C := ⟨_, rfl⟩
  rw [hL, hC]
  have HLL := Lib.hid hL
  have HCC := Lib.hid hC
  clear ha hb hL hC
  cases hx : BK.getOut s.data.toList with
  | error c =>
    obtain ⟨h1, h2⟩ := BK.getC_err hx
    have HC2 : Hid (C = c) := Lib.hid (by rw [← HCC.out, h1])
    have HL2 : Hid (L = []) := Lib.hid (by rw [← HLL.out, h2])
    rw [hx] at HC
    clear hx h1 h2
    go_enter Try.func12, Try.ntmps12
    go_wp2_with fail
    generalize (w.alloc (.cells #[.string s] 9)).alloc (.cells #[.slice none 0 0] 23) = w0 at HG0 HS0 HC HB ⊢
    refine HC.out.mono ?_
    rintro e w1 ⟨hg, rfl, hbk⟩
    have hrow := hbk.trans HB.out
    have c1 : w1.cell? ⟨w.heap.size + 1, 0, none⟩ = some (.slice none 0 0) := cell_of_row _ _ _ _ _ _ hrow
    have HBEL : Hid (Below w.heap.size w w1) := Lib.hid (HG0.out.trans ⟨hg.os, hg.tape, hg.output, hg.size, fun k hk => hg.block k (by have := HS0.out; omega) (by simp; omega)⟩)
    clear hg hbk hrow
    go_wp2
    go_ret2
    refine ⟨none, 0, ?_, ?_, by simp [fb], HBEL.out⟩
    · rw [HC2.out, HL2.out]; rfl
    · rw [HL2.out]; exact ⟨by simp, by simp⟩
  | ok es =>
    obtain ⟨h1, h2⟩ := BK.getC_ok hx
    have HC2 : Hid (C = 0) := Lib.hid (by rw [← HCC.out, h1])
    have HL2 : Hid (L = es) := Lib.hid (by rw [← HLL.out, h2])
    rw [hx] at HC
    clear hx h1 h2
    go_enter Try.func12, Try.ntmps12
    go_wp2_with fail
    generalize (w.alloc (.cells #[.string s] 9)).alloc (.cells #[.slice none 0 0] 23) = w0 at HG0 HS0 HC HB ⊢
    refine HC.out.mono ?_
    rintro e w1 ⟨hg, rfl, g, hrow, hrw, hgs, hwf⟩
    have c1 : w1.cell? ⟨w.heap.size + 1, 0, none⟩ = some (.slice (some ⟨g, 0, none⟩) es.length es.length) := cell_of_row _ _ _ _ _ _ hrow
    have HBEL : Hid (Below w.heap.size w w1) := Lib.hid (HG0.out.trans ⟨hg.os, hg.tape, hg.output, hg.size, fun k hk => hg.block k (by have := HS0.out; omega) (by simp; omega)⟩)
    have HEN := Lib.hid (hrw.ents hwf)
    have HGL : Hid (w.heap.size ≤ g ∧ g < w1.heap.size) := Lib.hid ⟨by have := HS0.out; omega, hrw.lt⟩
    clear hg hrow hrw hgs hwf
    go_wp2
    go_ret2
    refine ⟨some ⟨g, 0, none⟩, es.length, ?_, ?_, by simp only [fb, List.mem_singleton, forall_eq]; exact HGL.out, HBEL.out⟩
    · rw [HC2.out, HL2.out]; rfl
    · rw [HL2.out]; exact HEN.out
end Go.Proofs.Ytonoapgajgcjlaa
