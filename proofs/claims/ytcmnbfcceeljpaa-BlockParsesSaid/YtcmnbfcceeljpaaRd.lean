/- Reading: leave, number, text: what is read, or the fault by which reading is left. -/
import Derived.Test.YtcmnbfcceeljpaaAl
import Derived.Test.YtcmnbfcceeljpaaVarG
namespace Go.Proofs.Ytcmnbfcceeljpaa
open Go.RowKit
open SK

/-- the panic by which reading is left -/
def fault (c : Int) : List PanicEntry := [{ v := .iface 92 (.int .i64 c), recovered := false }]

theorem leave_ok (w : World) : Calls Try.prog 46 #[.int .i64 0] w fun e w' => e = .returned (.tuple #[]) ∧ w = w' := by
  go_enter Try.func46, Try.ntmps46
  go_wp2
  go_end0
  exact ⟨rfl, rfl⟩

theorem leave_bad (c : Int) (w : World) (hc : c ≠ 0) : Calls Try.prog 46 #[.int .i64 c] w fun e w' => e = .panicked (fault c) ∧ w = w' := by
  have h1 : (c == 0) = false := by simpa using hc
  have h2 : (c != 0) = true := by simpa using hc
  go_enter Try.func46, Try.ntmps46
  go_wp2
  exact ⟨rfl, rfl, rfl⟩

/-- the reader in block r: its bytes, and its place -/
def RdAt (w : World) (r : Nat) (s : ByteArray) (p : Nat) : Prop := w.heap[r]? = some (.cells #[.string s, .int .i64 p] 75 (0, 0))

theorem RdAt.below {w w' : World} {r p : Nat} {s : ByteArray} (h : RdAt w r s p) (hb : Below w.heap.size w w') : RdAt w' r s p := (hb.block r (Array.getElem?_eq_some_iff.1 h).1).trans h
theorem RdAt.lt {w : World} {r p : Nat} {s : ByteArray} (h : RdAt w r s p) : r < w.heap.size := (Array.getElem?_eq_some_iff.1 h).1
theorem RdAt.c0 {w : World} {r p : Nat} {s : ByteArray} (h : RdAt w r s p) : w.cell? ⟨r, 0, none⟩ = some (.string s) := cell_of_row _ _ _ _ _ _ h
theorem RdAt.c1 {w : World} {r p : Nat} {s : ByteArray} (h : RdAt w r s p) : w.cell? ⟨r, 1, none⟩ = some (.int .i64 p) := cell_of_row _ _ _ _ _ _ h
theorem RdAt.f1 {w : World} {r p : Nat} {s : ByteArray} (h : RdAt w r s p) : w.frozen? ⟨r, 1, none⟩ = false := frozen_of_row _ _ _ _ _ h
theorem RdAt.set {w : World} {r p : Nat} {s : ByteArray} (h : RdAt w r s p) (q : Nat) : RdAt (w.setCell ⟨r, 1, none⟩ (.int .i64 q)) r s q := heap_set_fr h 1 (.int .i64 q)

/-- what a reader's call comes to: a value and the place behind it, or a fault -/
def Out {α : Type} (enc : α → Value) (r : Nat) (s : ByteArray) (w : World) (x : Except Int (α × Nat)) (e : Ending) (w' : World) : Prop :=
  w.grownBy w' (some r) ∧ match x with
    | .ok (a, q) => e = .returned (enc a) ∧ RdAt w' r s q
    | .error c => e = .panicked (fault c)

def numV (n : Int) : Value := .int .i64 n
def textV (t : ByteArray) : Value := .string t

theorem num_bad {l : List UInt8} {p : Nat} {c : Int} (h : BK.rNum l p = .error c) : (VM.vget l p).2.2 = c ∧ c ≠ 0 := by
  unfold BK.rNum at h
  split at h
  · cases h
  · rename_i h0
    simp only [Except.error.injEq] at h
    exact ⟨h, by rw [← h]; exact h0⟩
theorem num_good {l : List UInt8} {p q : Nat} {n : Int} (h : BK.rNum l p = .ok (n, q)) : VM.vget l p = (n, (q : Int), 0) := by
  have hle := BK.num_ok h
  unfold BK.rNum at h
  split at h
  · rename_i h0
    obtain ⟨-, hp, k, -, -, -, hb, -⟩ := VM.vget_ok h0
    simp only [Except.ok.injEq, Prod.mk.injEq] at h
    obtain ⟨h1, h2⟩ := h
    refine Prod.ext h1 (Prod.ext ?_ h0)
    show (VM.vget l p).2.1 = (q : Int)
    omega
  · cases h
theorem text_bad {l : List UInt8} {p : Nat} {c : Int} (h : BK.rText l p = .error c) : (vtext l p).2.2 = c ∧ c ≠ 0 := by
  unfold BK.rText at h
  split at h
  · cases h
  · rename_i h0
    simp only [Except.error.injEq] at h
    exact ⟨h, by rw [← h]; exact h0⟩
theorem text_good {l : List UInt8} {p q : Nat} {t : ByteArray} (h : BK.rText l p = .ok (t, q)) : vtext l p = (t.data.toList, (q : Int), 0) := by
  have hle := BK.text_ok h
  have hnn : 0 ≤ (vtext l p).2.1 ∨ (vtext l p).2.2 ≠ 0 := by
    unfold vtext
    by_cases h0 : (VM.vget l p).2.2 = 0
    · obtain ⟨-, hp, k, -, -, -, hb, -⟩ := VM.vget_ok h0
      simp only [h0, ne_eq, not_true_eq_false, if_false]
      split
      · right; decide
      · split
        · right; decide
        · split
          · right; decide
          · left; show 0 ≤ (VM.vget l p).2.1 + (VM.vget l p).1; omega
    · right; simp [h0]
  unfold BK.rText at h
  split at h
  · rename_i h0
    simp only [Except.ok.injEq, Prod.mk.injEq] at h
    obtain ⟨h1, h2⟩ := h
    refine Prod.ext ?_ (Prod.ext ?_ h0)
    · rw [← h1]
    · show (vtext l p).2.1 = (q : Int)
      rcases hnn with hnn | hnn
      · omega
      · exact absurd h0 hnn
  · cases h

theorem grown_r {w w' : World} {r : Nat} (h : w.grownBy w' none) : w.grownBy w' (some r) := ⟨h.os, h.tape, h.output, h.size, fun k hk _ => h.block k hk (by simp)⟩
theorem grown_same (w : World) (r : Option Nat) : w.grownBy w r := grown_refl w r

set_option maxRecDepth 100000 in
theorem number_any (w : World) (r p : Nat) (s : ByteArray) (h : RdAt w r s p) (hs : s.size ≤ 281474976710656) (hp : p ≤ s.size) :
    Calls Try.prog 50 #[.pointer (some ⟨r, 0, none⟩)] w fun e w' => Out numV r s w (BK.rNum s.data.toList p) e w' := by
  have HG0 := Lib.hid (fun W => get_any s (p : Int) W (by omega) (by omega) (by omega))
  cases hx : BK.rNum s.data.toList p with
  | ok x =>
    obtain ⟨n, q⟩ := x
    have hv := num_good hx
    have HG : Hid (∀ W, Calls Try.prog 53 #[.string s, .int .i64 p] W fun e w' => e = .returned (.tuple #[.int .i64 n, .int .i64 q, .int .i64 0]) ∧ w' = W) := Lib.hid (fun W => (HG0.out W).mono fun e w' h => ⟨by have := h.1; unfold GetOut at this; rw [hv] at this; exact this, h.2.symm⟩)
    have c0 := h.c0
    have c1 := h.c1
    have f1 := h.f1
    have HR : Hid (∀ m, RdAt ((w.drewN m).setCell ⟨r, 1, none⟩ (.int .i64 q)) r s q) := Lib.hid (fun m => RdAt.set (w := w.drewN m) (p := p) h q)
    clear hx h hv HG0
    go_enter Try.func50, Try.ntmps50
    go_wp2_with fail
    go_quiet ((go_at_call 53; exact Calls.quiet_of_same (HG.out _)))
    go_wp2_with fail
    refine (leave_ok _).mono ?_
    rintro e w1 ⟨rfl, rfl⟩
    go_wp2
    go_ret
    exact ⟨grown_set (grown_drewN (grown_refl w _) _) _ _, rfl, HR.out _⟩
  | error c =>
    obtain ⟨hv, hc⟩ := num_bad hx
    obtain ⟨n, q, hv'⟩ : ∃ n q, VM.vget s.data.toList p = (n, q, c) := ⟨_, _, by rw [← hv]⟩
    have HG : Hid (∀ W, Calls Try.prog 53 #[.string s, .int .i64 p] W fun e w' => e = .returned (.tuple #[.int .i64 n, .int .i64 q, .int .i64 c]) ∧ w' = W) := Lib.hid (fun W => (HG0.out W).mono fun e w' h => ⟨by have := h.1; unfold GetOut at this; rw [hv'] at this; exact this, h.2.symm⟩)
    have c0 := h.c0
    have c1 := h.c1
    clear hx h hv hv' HG0
    go_enter Try.func50, Try.ntmps50
    go_wp2_with fail
    go_quiet ((go_at_call 53; exact Calls.quiet_of_same (HG.out _)))
    go_wp2_with fail
    refine (leave_bad c _ hc).mono ?_
    rintro e w1 ⟨rfl, rfl⟩
    exact ⟨rfl, grown_drewN (grown_refl w _) _, rfl⟩

set_option maxRecDepth 100000 in
set_option maxHeartbeats 1000000 in
theorem text_any (w : World) (r p : Nat) (s : ByteArray) (h : RdAt w r s p) (hs : s.size ≤ 281474976710656) (hp : p ≤ s.size) :
    Calls Try.prog 52 #[.pointer (some ⟨r, 0, none⟩)] w fun e w' => Out textV r s w (BK.rText s.data.toList p) e w' := by
  have HG0 := Lib.hid (fun W => getText_any s (p : Int) W (by omega) (by omega) (by omega))
  have HLT : Hid (r < w.heap.size) := Lib.hid h.lt
  cases hx : BK.rText s.data.toList p with
  | ok x =>
    obtain ⟨t, q⟩ := x
    have hv := text_good hx
    have HG : Hid (∀ W, Calls Try.prog 55 #[.string s, .int .i64 p] W fun e w' => e = .returned (.tuple #[.string t, .int .i64 q, .int .i64 0]) ∧ Below W.heap.size W w') := Lib.hid (fun W => (HG0.out W).mono fun e w' h => ⟨by have h1 := h.1; unfold TextOut at h1; rw [hv, str_mk] at h1; exact h1, h.2⟩)
    have c0 := h.c0
    have c1 := h.c1
    have HR := Lib.hid h
    clear hx h hv HG0
    go_enter Try.func52, Try.ntmps52
    go_wp2_with fail
    go_region_held3 (fun w' => w'.cell? ⟨r, 0, none⟩ = some (.string s) ∧ w'.cell? ⟨r, 1, none⟩ = some (.int .i64 p))
      (first | go_keep | exact HS1.out | fail)
      (first
        | (go_at_call 55; refine (HG.out _).mono ?_; rintro e w1 ⟨rfl, hb⟩
           have HG1 : Hid (w.grownBy w1 none) := Lib.hid (grown_trans (grown_drewN (grown_refl w _) 1) (grown_below hb))
           have HR1 : Hid (RdAt w1 r s p) := Lib.hid ((HG1.out.block r HLT.out (by simp)).trans HR.out)
           have HS1 : Hid (w1.cell? ⟨r, 0, none⟩ = some (.string s) ∧ w1.cell? ⟨r, 1, none⟩ = some (.int .i64 p)) := Lib.hid ⟨HR1.out.c0, HR1.out.c1⟩
           clear hb)
        | fail)
    all_goals
      clear HS1
      have f1 := HR1.out.f1
      have HR2 := Lib.hid (HR1.out.set q)
      go_wp2_with fail
      refine (leave_ok _).mono ?_
      rintro e w2 ⟨rfl, rfl⟩
      go_wp2
      go_ret
      exact ⟨grown_set (grown_r HG1.out) _ _, rfl, HR2.out⟩
  | error c =>
    obtain ⟨hv, hc⟩ := text_bad hx
    obtain ⟨n, q, hv'⟩ : ∃ n q, vtext s.data.toList p = (n, q, c) := ⟨_, _, by rw [← hv]⟩
    have HG : Hid (∀ W, Calls Try.prog 55 #[.string s, .int .i64 p] W fun e w' => e = .returned (.tuple #[.string ⟨n.toArray⟩, .int .i64 q, .int .i64 c]) ∧ Below W.heap.size W w') := Lib.hid (fun W => (HG0.out W).mono fun e w' h => ⟨by have h1 := h.1; unfold TextOut at h1; rw [hv'] at h1; exact h1, h.2⟩)
    have c0 := h.c0
    have c1 := h.c1
    have HR := Lib.hid h
    clear hx h hv hv' HG0
    go_enter Try.func52, Try.ntmps52
    go_wp2_with fail
    go_region_held3 (fun w' => w'.cell? ⟨r, 0, none⟩ = some (.string s) ∧ w'.cell? ⟨r, 1, none⟩ = some (.int .i64 p))
      (first | go_keep | exact HS1.out | fail)
      (first
        | (go_at_call 55; refine (HG.out _).mono ?_; rintro e w1 ⟨rfl, hb⟩
           have HG1 : Hid (w.grownBy w1 none) := Lib.hid (grown_trans (grown_drewN (grown_refl w _) 1) (grown_below hb))
           have HR1 : Hid (RdAt w1 r s p) := Lib.hid ((HG1.out.block r HLT.out (by simp)).trans HR.out)
           have HS1 : Hid (w1.cell? ⟨r, 0, none⟩ = some (.string s) ∧ w1.cell? ⟨r, 1, none⟩ = some (.int .i64 p)) := Lib.hid ⟨HR1.out.c0, HR1.out.c1⟩
           clear hb)
        | fail)
    all_goals
      clear HS1
      go_wp2_with fail
      refine (leave_bad c _ hc).mono ?_
      rintro e w2 ⟨rfl, rfl⟩
      exact ⟨rfl, grown_r HG1.out, rfl⟩
end Go.Proofs.Ytcmnbfcceeljpaa
