/- An edit's reader: numbers and texts, both sides. -/
import Derived.Test.YtfodbblcflolgaaPm
import Derived.Deep.RegionHeld3
import Derived.Deep.QuietTactic
import Derived.BigQuiet
namespace Go.Proofs.Ytfodbblcflolgaa
open Go.RowKit
open VS
attribute [local go_sem ↓] Go.wp_at_zero Go.wp_at_succ

/-- how a state stands in a reader's cells -/
def Stt (st : RS) (a f : Int) : Prop := match st with
  | .ok x => a = x ∧ f = 0
  | .error c => f = c
/-- the reader in block b -/
def Rd (T : TypeId) (w : World) (b : Nat) (s : ByteArray) (st : RS) : Prop := ∃ a f, w.heap[b]? = some (.cells #[.string s, .int .i64 a, .int .i64 f] T (0, 0)) ∧ Stt st a f

theorem Rd.lt {T : TypeId} {w : World} {b : Nat} {s : ByteArray} {st : RS} (h : Rd T w b s st) : b < w.heap.size := by
  obtain ⟨a, f, hr, -⟩ := h
  exact (Array.getElem?_eq_some_iff.1 hr).1
theorem Rd.below {T : TypeId} {w w' : World} {b : Nat} {s : ByteArray} {st : RS} (h : Rd T w b s st) (hb : Below w.heap.size w w') : Rd T w' b s st := by
  have hl := h.lt
  obtain ⟨a, f, hr, hs⟩ := h
  exact ⟨a, f, (hb.block b hl).trans hr, hs⟩
theorem Rd.grown {T : TypeId} {w w' : World} {b : Nat} {s : ByteArray} {st : RS} (h : Rd T w b s st) {r : Option Nat} (hg : w.grownBy w' r) (hr : r ≠ some b) : Rd T w' b s st := by
  have hl := h.lt
  obtain ⟨a, f, hr2, hs⟩ := h
  exact ⟨a, f, (hg.block b hl hr.symm).trans hr2, hs⟩

theorem grown_below' {w w' : World} {r : Option Nat} (h : w.grownBy w' none) : w.grownBy w' r := ⟨h.os, h.tape, h.output, h.size, fun k hk _ => h.block k hk (by simp)⟩

theorem get_st {s : ByteArray} {a n nx e : Int} (hv : VM.vget s.data.toList a = (n, nx, e)) : rn s.data.toList (.ok a) = if e = 0 then (n, .ok nx) else (0, .error e) := by
  unfold rn; simp only [hv]

set_option maxRecDepth 100000 in
set_option maxHeartbeats 1000000 in
theorem number_any (w : World) (b : Nat) (s : ByteArray) (st : RS) (h : Rd 94 w b s st) (hf : VS.Fair s.data.toList st) (hs : s.size ≤ 140737488351232) :
    Calls Try.prog 58 #[.pointer (some ⟨b, 0, none⟩)] w fun r w' => r = .returned (.int .i64 (rn s.data.toList st).1) ∧ Rd 94 w' b s (rn s.data.toList st).2 ∧ w.grownBy w' (some b) := by
  obtain ⟨a, f, hr, hst⟩ := h
  have c0 : w.cell? ⟨b, 0, none⟩ = some (.string s) := cell_of_row _ _ _ _ _ _ hr
  have c1 : w.cell? ⟨b, 1, none⟩ = some (.int .i64 a) := cell_of_row _ _ _ _ _ _ hr
  have c2 : w.cell? ⟨b, 2, none⟩ = some (.int .i64 f) := cell_of_row _ _ _ _ _ _ hr
  cases st with
  | error c =>
    obtain rfl : f = c := hst
    have hc : (f != 0) = true := by have := hf.1; simp; omega
    have HR := Lib.hid hr
    clear hr hf
    go_enter Try.func58, Try.ntmps58
    go_wp2
    go_ret
    exact ⟨rfl, ⟨a, f, HR.out, rfl⟩, grown_refl _ _⟩
  | ok x =>
    obtain ⟨rfl, rfl⟩ := hst
    have hl : s.data.toList.length = s.size := by simp
    have hfa : 0 ≤ a ∧ a ≤ (s.size : Int) := by rw [← hl]; exact hf
    obtain ⟨n, nx, e, hv⟩ : ∃ n nx e, VM.vget s.data.toList a = (n, nx, e) := ⟨_, _, _, rfl⟩
    have HRN := Lib.hid (get_st hv)
    have HVE := Lib.hid (show e = 0 → n = n from fun _ => rfl)
    have HER : Hid (e ≠ 0 → n = 0) := Lib.hid fun he => by
      have hv2 := hv
      unfold VM.vget at hv2
      split at hv2
      · simp only [Prod.mk.injEq] at hv2; omega
      · split at hv2
        · simp only [Prod.mk.injEq] at hv2; omega
        · simp only [Prod.mk.injEq] at hv2; omega
    have HG : Hid (∀ W, Calls Try.prog 77 #[.string s, .int .i64 a] W fun r w' => r = .returned (.tuple #[.int .i64 n, .int .i64 nx, .int .i64 e]) ∧ w' = W) := Lib.hid fun W => (get_any s a W (by omega) (by omega) (by omega)).mono fun r w' h => ⟨by have := h.1; unfold GetOut at this; rw [hv] at this; exact this, h.2.symm⟩
    have f1 : w.frozen? ⟨b, 1, none⟩ = false := frozen_of_row _ _ _ _ _ hr
    have f2 : w.frozen? ⟨b, 2, none⟩ = false := frozen_of_row _ _ _ _ _ hr
    have HR : Hid (∀ m, (((w.drewN m).setCell ⟨b, 1, none⟩ (.int .i64 nx)).setCell ⟨b, 2, none⟩ (.int .i64 e)).heap[b]? = some (.cells #[.string s, .int .i64 nx, .int .i64 e] 94 (0, 0))) := Lib.hid fun m => by
      have h1 : (w.drewN m).heap[b]? = _ := hr
      have h2 := heap_set_fr h1 1 (.int .i64 nx)
      have h3 := heap_set_fr h2 2 (.int .i64 e)
      exact h3
    clear hr hf hv hl
    go_enter Try.func58, Try.ntmps58
    go_wp2_with fail
    go_quiet ((go_at_call 77; exact Calls.quiet_of_same (HG.out _)))
    go_wp2
    go_ret
    refine ⟨?_, ?_, grown_set (grown_set (grown_drewN (grown_refl w _) _) _ _) _ _⟩
    · rw [HRN.out]
      by_cases he : e = 0
      · rw [if_pos he]; rfl
      · rw [if_neg he, HER.out he]; rfl
    · refine ⟨nx, e, HR.out _, ?_⟩
      rw [HRN.out]
      by_cases he : e = 0
      · rw [if_pos he]; exact ⟨rfl, he⟩
      · rw [if_neg he]; rfl
theorem rn_err {l : List UInt8} {st : RS} {c : Int} (h : (rn l st).2 = .error c) : (rn l st).1 = 0 := by
  cases st with
  | error c => rfl
  | ok a =>
    unfold rn at h ⊢
    simp only at h ⊢
    split at h
    · cases h
    · rename_i h0
      rw [if_neg h0]

set_option maxRecDepth 100000 in
set_option maxHeartbeats 1000000 in
theorem numberTo_any (w : World) (b : Nat) (s : ByteArray) (st : RS) (most : Int) (h : Rd 94 w b s st) (hf : VS.Fair s.data.toList st) (hs : s.size ≤ 140737488351232) (hm : 0 ≤ most) :
    Calls Try.prog 59 #[.pointer (some ⟨b, 0, none⟩), .int .i64 most] w fun r w' => r = .returned (.int .i64 (rb s.data.toList most st).1) ∧ Rd 94 w' b s (rb s.data.toList most st).2 ∧ w.grownBy w' (some b) := by
  have HN := Lib.hid (number_any w b s st h hf hs)
  have HFF := Lib.hid (rn_fair hf).1
  have HRB : Hid (rb s.data.toList most st = rbk most (rn s.data.toList st).1 (rn s.data.toList st).2) := Lib.hid rfl
  have HE0 := Lib.hid (fun c => rn_err (l := s.data.toList) (st := st) (c := c))
  obtain ⟨n, hn⟩ : ∃ n, (rn s.data.toList st).1 = n := ⟨_, rfl⟩
  obtain ⟨st1, hst⟩ : ∃ x, (rn s.data.toList st).2 = x := ⟨_, rfl⟩
  obtain ⟨R, hR⟩ : ∃ R, rb s.data.toList most st = R := ⟨_, rfl⟩
  rw [hn, hst] at HN HRB HE0
  rw [hst] at HFF
  rw [hR] at HRB ⊢
  clear hn hst hR h hf
  cases st1 with
  | error c =>
    obtain rfl := HE0.out c rfl
    have hR : R = (0, .error c) := HRB.out
    subst hR
    have d1 : decide (most < 0) = false := decide_eq_false (by omega)
    clear HE0 HRB
    go_enter Try.func59, Try.ntmps59
    go_wp2_with fail
    refine HN.out.mono ?_
    rintro r w1 ⟨rfl, hrd, hg⟩
    have HRD := Lib.hid hrd
    have HG := Lib.hid hg
    clear hrd hg
    go_wp2
    go_ret
    exact ⟨rfl, HRD.out, HG.out⟩
  | ok a =>
    by_cases hbad : n < 0 ∨ most < n
    · have hR : R = (0, .error 4) := by rw [HRB.out]; unfold rbk; simp only; rw [if_pos hbad]
      subst hR
      clear HE0 HRB
      rcases (by omega : n < 0 ∨ 0 ≤ n) with h1 | h1
      all_goals
        have HB := Lib.hid hbad
        first
          | (have d1 : decide (n < 0) = true := decide_eq_true h1)
          | (have d1 : decide (n < 0) = false := decide_eq_false (by omega)
             have d2 : decide (most < n) = true := decide_eq_true (by omega))
        clear hbad
        go_enter Try.func59, Try.ntmps59
        go_wp2_with fail
        refine HN.out.mono ?_
        rintro r w1 ⟨rfl, ⟨a1, f1, hrow, hst⟩, hg⟩
        have f2 : w1.frozen? ⟨b, 2, none⟩ = false := frozen_of_row _ _ _ _ _ hrow
        have c2 : w1.cell? ⟨b, 2, none⟩ = some (.int .i64 f1) := cell_of_row _ _ _ _ _ _ hrow
        have HR2 := Lib.hid (heap_set_fr hrow 2 (.int .i64 4))
        have HG := Lib.hid hg
        clear hrow hg hst
        go_wp2
        go_ret
        exact ⟨rfl, ⟨a1, 4, HR2.out, rfl⟩, grown_set HG.out _ _⟩
    · have hR : R = (n, .ok a) := by rw [HRB.out]; unfold rbk; simp only; rw [if_neg hbad]
      subst hR
      have d1 : decide (n < 0) = false := decide_eq_false (by omega)
      have d2 : decide (most < n) = false := decide_eq_false (by omega)
      clear HE0 HRB hbad
      go_enter Try.func59, Try.ntmps59
      go_wp2_with fail
      refine HN.out.mono ?_
      rintro r w1 ⟨rfl, hrd, hg⟩
      have HRD := Lib.hid hrd
      have HG := Lib.hid hg
      clear hrd hg
      go_wp2
      go_ret
      exact ⟨rfl, HRD.out, HG.out⟩

theorem text_st {s : ByteArray} {a nx e : Int} {tx : List UInt8} (hv : vtext s.data.toList a = (tx, nx, e)) : rt s.data.toList (.ok a) = if e = 0 then (⟨tx.toArray⟩, .ok nx) else (⟨#[]⟩, .error e) := by
  unfold rt; simp only [hv]
theorem text_none {l : List UInt8} {a nx e : Int} {tx : List UInt8} (hv : vtext l a = (tx, nx, e)) (he : e ≠ 0) : tx = [] := by
  unfold vtext at hv
  split at hv
  · exact (congrArg Prod.fst hv).symm
  · split at hv
    · exact (congrArg Prod.fst hv).symm
    · split at hv
      · exact (congrArg Prod.fst hv).symm
      · split at hv
        · exact (congrArg Prod.fst hv).symm
        · simp only [Prod.mk.injEq] at hv
          omega

set_option maxRecDepth 100000 in
set_option maxHeartbeats 1000000 in
theorem text_any (w : World) (b : Nat) (s : ByteArray) (st : RS) (h : Rd 94 w b s st) (hf : VS.Fair s.data.toList st) (hs : s.size ≤ 140737488351232) :
    Calls Try.prog 78 #[.pointer (some ⟨b, 0, none⟩)] w fun r w' => r = .returned (.string (rt s.data.toList st).1) ∧ Rd 94 w' b s (rt s.data.toList st).2 ∧ w.grownBy w' (some b) := by
  have HLT : Hid (b < w.heap.size) := Lib.hid h.lt
  obtain ⟨a, f, hr, hst⟩ := h
  have c0 : w.cell? ⟨b, 0, none⟩ = some (.string s) := cell_of_row _ _ _ _ _ _ hr
  have c1 : w.cell? ⟨b, 1, none⟩ = some (.int .i64 a) := cell_of_row _ _ _ _ _ _ hr
  have c2 : w.cell? ⟨b, 2, none⟩ = some (.int .i64 f) := cell_of_row _ _ _ _ _ _ hr
  cases st with
  | error c =>
    obtain rfl : f = c := hst
    have hc : (f != 0) = true := by have := hf.1; simp; omega
    have HR := Lib.hid hr
    clear hr hf
    go_enter Try.func78, Try.ntmps78
    go_wp2
    go_ret
    exact ⟨rfl, ⟨a, f, HR.out, rfl⟩, grown_refl _ _⟩
  | ok x =>
    obtain ⟨rfl, rfl⟩ := hst
    have hl : s.data.toList.length = s.size := by simp
    have hfa : 0 ≤ a ∧ a ≤ (s.size : Int) := by rw [← hl]; exact hf
    obtain ⟨tx, nx, e, hv⟩ : ∃ n nx e, vtext s.data.toList a = (n, nx, e) := ⟨_, _, _, rfl⟩
    have HRN := Lib.hid (text_st hv)
    have HER := Lib.hid (text_none hv)
    obtain ⟨t, ht⟩ : ∃ t : ByteArray, ⟨tx.toArray⟩ = t := ⟨_, rfl⟩
    have HT : Hid ((⟨tx.toArray⟩ : ByteArray) = t) := Lib.hid ht
    have HG : Hid (∀ W, Calls Try.prog 107 #[.string s, .int .i64 a] W fun r w' => r = .returned (.tuple #[.string t, .int .i64 nx, .int .i64 e]) ∧ Below W.heap.size W w') := Lib.hid fun W => (getText_any s a W (by omega) (by omega) (by omega)).mono fun r w' h => ⟨by have := h.1; unfold TextOut at this; rw [hv, ht] at this; exact this, h.2⟩
    have HR := Lib.hid hr
    clear hr hf hv hl ht
    go_enter Try.func78, Try.ntmps78
    go_wp2_with fail
    go_region_held3 (fun w' => w'.cell? ⟨b, 0, none⟩ = some (.string s) ∧ w'.cell? ⟨b, 1, none⟩ = some (.int .i64 a))
      (first | go_keep | exact HS1.out | fail)
      (first
        | (go_at_call 107; refine (HG.out _).mono ?_; rintro r w1 ⟨rfl, hb⟩
           have HG1 : Hid (w.grownBy w1 none) := Lib.hid (grown_trans (grown_drewN (grown_refl w _) 1) (grown_below hb))
           have HR1 : Hid (w1.heap[b]? = some (.cells #[.string s, .int .i64 a, .int .i64 0] 94 (0, 0))) := Lib.hid ((HG1.out.block b HLT.out (by simp)).trans HR.out)
           have HS1 : Hid (w1.cell? ⟨b, 0, none⟩ = some (.string s) ∧ w1.cell? ⟨b, 1, none⟩ = some (.int .i64 a)) := Lib.hid ⟨cell_of_row _ _ _ _ _ _ HR1.out, cell_of_row _ _ _ _ _ _ HR1.out⟩
           clear hb)
        | fail)
    all_goals
      clear HS1
      have f1 : w1.frozen? ⟨b, 1, none⟩ = false := frozen_of_row _ _ _ _ _ HR1.out
      have f2 : w1.frozen? ⟨b, 2, none⟩ = false := frozen_of_row _ _ _ _ _ HR1.out
      have k1 : w1.cell? ⟨b, 1, none⟩ = some (.int .i64 a) := cell_of_row _ _ _ _ _ _ HR1.out
      have k2 : w1.cell? ⟨b, 2, none⟩ = some (.int .i64 0) := cell_of_row _ _ _ _ _ _ HR1.out
      have HR2 := Lib.hid (heap_set_fr (heap_set_fr HR1.out 1 (.int .i64 nx)) 2 (.int .i64 e))
      go_wp2
      go_ret
      refine ⟨?_, ?_, grown_set (grown_set (grown_below' HG1.out) _ _) _ _⟩
      · rw [HRN.out]
        by_cases he : e = 0
        · rw [if_pos he, HT.out]; rfl
        · rw [if_neg he, ← HT.out, HER.out he]; rfl
      · refine ⟨nx, e, HR2.out, ?_⟩
        rw [HRN.out]
        by_cases he : e = 0
        · rw [if_pos he]; exact ⟨rfl, he⟩
        · rw [if_neg he]; rfl

/-! ### the document's -/
set_option maxRecDepth 100000 in
set_option maxHeartbeats 1000000 in
theorem rnumber_any (w : World) (b : Nat) (s : ByteArray) (st : RS) (h : Rd 97 w b s st) (hf : VS.Fair s.data.toList st) (hs : s.size ≤ 140737488351232) :
    Calls Try.prog 36 #[.pointer (some ⟨b, 0, none⟩)] w fun r w' => r = .returned (.int .i64 (rn s.data.toList st).1) ∧ Rd 97 w' b s (rn s.data.toList st).2 ∧ w.grownBy w' (some b) := by
  obtain ⟨a, f, hr, hst⟩ := h
  have c0 : w.cell? ⟨b, 0, none⟩ = some (.string s) := cell_of_row _ _ _ _ _ _ hr
  have c1 : w.cell? ⟨b, 1, none⟩ = some (.int .i64 a) := cell_of_row _ _ _ _ _ _ hr
  have c2 : w.cell? ⟨b, 2, none⟩ = some (.int .i64 f) := cell_of_row _ _ _ _ _ _ hr
  cases st with
  | error c =>
    obtain rfl : f = c := hst
    have hc : (f != 0) = true := by have := hf.1; simp; omega
    have HR := Lib.hid hr
    clear hr hf
    go_enter Try.func36, Try.ntmps36
    go_wp2
    go_ret
    exact ⟨rfl, ⟨a, f, HR.out, rfl⟩, grown_refl _ _⟩
  | ok x =>
    obtain ⟨rfl, rfl⟩ := hst
    have hl : s.data.toList.length = s.size := by simp
    have hfa : 0 ≤ a ∧ a ≤ (s.size : Int) := by rw [← hl]; exact hf
    obtain ⟨n, nx, e, hv⟩ : ∃ n nx e, VM.vget s.data.toList a = (n, nx, e) := ⟨_, _, _, rfl⟩
    have HRN := Lib.hid (get_st hv)
    have HER : Hid (e ≠ 0 → n = 0) := Lib.hid fun he => by
      have hv2 := hv
      unfold VM.vget at hv2
      split at hv2
      · simp only [Prod.mk.injEq] at hv2; omega
      · split at hv2
        · simp only [Prod.mk.injEq] at hv2; omega
        · simp only [Prod.mk.injEq] at hv2; omega
    have HG : Hid (∀ W, Calls Try.prog 61 #[.string s, .int .i64 a] W fun r w' => r = .returned (.tuple #[.int .i64 n, .int .i64 nx, .int .i64 e]) ∧ w' = W) := Lib.hid fun W => (refGet_any s a W (by omega) (by omega) (by omega)).mono fun r w' h => ⟨by have := h.1; unfold GetOut at this; rw [hv] at this; exact this, h.2.symm⟩
    have f1 : w.frozen? ⟨b, 1, none⟩ = false := frozen_of_row _ _ _ _ _ hr
    have f2 : w.frozen? ⟨b, 2, none⟩ = false := frozen_of_row _ _ _ _ _ hr
    have HR : Hid (∀ m, ((w.drewN m).setCell ⟨b, 2, none⟩ (.int .i64 e)).heap[b]? = some (.cells #[.string s, .int .i64 a, .int .i64 e] 97 (0, 0)) ∧ (((w.drewN m).setCell ⟨b, 2, none⟩ (.int .i64 e)).setCell ⟨b, 1, none⟩ (.int .i64 nx)).heap[b]? = some (.cells #[.string s, .int .i64 nx, .int .i64 e] 97 (0, 0))) := Lib.hid fun m => by
      have h1 : (w.drewN m).heap[b]? = _ := hr
      have h2 := heap_set_fr h1 2 (.int .i64 e)
      have h3 := heap_set_fr h2 1 (.int .i64 nx)
      exact ⟨h2, h3⟩
    clear hr hf hv hl
    by_cases he : e = 0
    · have he2 : (e == 0) = true := by simpa using he
      have HE := Lib.hid he
      clear he
      go_enter Try.func36, Try.ntmps36
      go_wp2_with fail
      go_quiet ((go_at_call 61; exact Calls.quiet_of_same (HG.out _)))
      go_wp2
      go_ret
      refine ⟨?_, ?_, grown_set (grown_set (grown_drewN (grown_refl w _) _) _ _) _ _⟩
      · rw [HRN.out, if_pos HE.out]; rfl
      · exact ⟨nx, e, (HR.out _).2, by rw [HRN.out, if_pos HE.out]; exact ⟨rfl, HE.out⟩⟩
    · have he2 : (e == 0) = false := by simpa using he
      have HE := Lib.hid he
      clear he
      go_enter Try.func36, Try.ntmps36
      go_wp2_with fail
      go_quiet ((go_at_call 61; exact Calls.quiet_of_same (HG.out _)))
      go_wp2
      go_ret
      refine ⟨?_, ?_, grown_set (grown_drewN (grown_refl w _) _) _ _⟩
      · rw [HRN.out, if_neg HE.out, HER.out HE.out]; rfl
      · exact ⟨a, e, (HR.out _).1, by rw [HRN.out, if_neg HE.out]; rfl⟩

set_option maxRecDepth 100000 in
set_option maxHeartbeats 1000000 in
theorem words_any (w : World) (b : Nat) (s : ByteArray) (st : RS) (h : Rd 97 w b s st) (hf : VS.Fair s.data.toList st) (hs : s.size ≤ 140737488351232) :
    Calls Try.prog 38 #[.pointer (some ⟨b, 0, none⟩)] w fun r w' => r = .returned (.string (rt s.data.toList st).1) ∧ Rd 97 w' b s (rt s.data.toList st).2 ∧ w.grownBy w' (some b) := by
  obtain ⟨a, f, hr, hst⟩ := h
  have c0 : w.cell? ⟨b, 0, none⟩ = some (.string s) := cell_of_row _ _ _ _ _ _ hr
  have c1 : w.cell? ⟨b, 1, none⟩ = some (.int .i64 a) := cell_of_row _ _ _ _ _ _ hr
  have c2 : w.cell? ⟨b, 2, none⟩ = some (.int .i64 f) := cell_of_row _ _ _ _ _ _ hr
  cases st with
  | error c =>
    obtain rfl : f = c := hst
    have hc : (f != 0) = true := by have := hf.1; simp; omega
    have HR := Lib.hid hr
    clear hr hf
    go_enter Try.func38, Try.ntmps38
    go_wp2
    go_ret
    exact ⟨rfl, ⟨a, f, HR.out, rfl⟩, grown_refl _ _⟩
  | ok x =>
    obtain ⟨rfl, rfl⟩ := hst
    have hl : s.data.toList.length = s.size := by simp
    have hfa : 0 ≤ a ∧ a ≤ (s.size : Int) := by rw [← hl]; exact hf
    obtain ⟨tx, nx, e, hv⟩ : ∃ n nx e, vtext s.data.toList a = (n, nx, e) := ⟨_, _, _, rfl⟩
    have HRN := Lib.hid (text_st hv)
    have HER := Lib.hid (text_none hv)
    obtain ⟨t, ht⟩ : ∃ t : ByteArray, ⟨tx.toArray⟩ = t := ⟨_, rfl⟩
    have HT : Hid ((⟨tx.toArray⟩ : ByteArray) = t) := Lib.hid ht
    have HG : Hid (∀ W, Calls Try.prog 62 #[.string s, .int .i64 a] W fun r w' => r = .returned (.tuple #[.string t, .int .i64 nx, .int .i64 e]) ∧ w' = W) := Lib.hid fun W => (refGetText_any s a W (by omega) (by omega) (by omega)).mono fun r w' h => ⟨by have := h.1; unfold TextOut at this; rw [hv, ht] at this; exact this, h.2.symm⟩
    have f1 : w.frozen? ⟨b, 1, none⟩ = false := frozen_of_row _ _ _ _ _ hr
    have f2 : w.frozen? ⟨b, 2, none⟩ = false := frozen_of_row _ _ _ _ _ hr
    have HR : Hid (∀ m, ((w.drewN m).setCell ⟨b, 2, none⟩ (.int .i64 e)).heap[b]? = some (.cells #[.string s, .int .i64 a, .int .i64 e] 97 (0, 0)) ∧ (((w.drewN m).setCell ⟨b, 2, none⟩ (.int .i64 e)).setCell ⟨b, 1, none⟩ (.int .i64 nx)).heap[b]? = some (.cells #[.string s, .int .i64 nx, .int .i64 e] 97 (0, 0))) := Lib.hid fun m => by
      have h1 : (w.drewN m).heap[b]? = _ := hr
      have h2 := heap_set_fr h1 2 (.int .i64 e)
      have h3 := heap_set_fr h2 1 (.int .i64 nx)
      exact ⟨h2, h3⟩
    clear hr hf hv hl ht
    by_cases he : e = 0
    · have he2 : (e == 0) = true := by simpa using he
      have HE := Lib.hid he
      clear he
      go_enter Try.func38, Try.ntmps38
      go_wp2_with fail
      go_quiet ((go_at_call 62; exact Calls.quiet_of_same (HG.out _)))
      go_wp2
      go_ret
      refine ⟨?_, ?_, grown_set (grown_set (grown_drewN (grown_refl w _) _) _ _) _ _⟩
      · rw [HRN.out, if_pos HE.out, HT.out]; rfl
      · exact ⟨nx, e, (HR.out _).2, by rw [HRN.out, if_pos HE.out]; exact ⟨rfl, HE.out⟩⟩
    · have he2 : (e == 0) = false := by simpa using he
      have HE := Lib.hid he
      clear he
      go_enter Try.func38, Try.ntmps38
      go_wp2_with fail
      go_quiet ((go_at_call 62; exact Calls.quiet_of_same (HG.out _)))
      go_wp2
      go_ret
      refine ⟨?_, ?_, grown_set (grown_drewN (grown_refl w _) _) _ _⟩
      · rw [HRN.out, if_neg HE.out, ← HT.out, HER.out HE.out]; rfl
      · exact ⟨a, e, (HR.out _).1, by rw [HRN.out, if_neg HE.out]; rfl⟩

set_option maxRecDepth 100000 in
set_option maxHeartbeats 1000000 in
theorem below_any (w : World) (b : Nat) (s : ByteArray) (st : RS) (most : Int) (h : Rd 97 w b s st) (hf : VS.Fair s.data.toList st) (hs : s.size ≤ 140737488351232) :
    Calls Try.prog 37 #[.pointer (some ⟨b, 0, none⟩), .int .i64 (most + 1)] w fun r w' => r = .returned (.int .i64 (rb s.data.toList most st).1) ∧ Rd 97 w' b s (rb s.data.toList most st).2 ∧ w.grownBy w' (some b) := by
  have HN := Lib.hid (rnumber_any w b s st h hf hs)
  have HFF := Lib.hid (rn_fair hf).1
  have HRB : Hid (rb s.data.toList most st = rbk most (rn s.data.toList st).1 (rn s.data.toList st).2) := Lib.hid rfl
  have HE0 := Lib.hid (fun c => rn_err (l := s.data.toList) (st := st) (c := c))
  obtain ⟨n, hn⟩ : ∃ n, (rn s.data.toList st).1 = n := ⟨_, rfl⟩
  obtain ⟨st1, hst⟩ : ∃ x, (rn s.data.toList st).2 = x := ⟨_, rfl⟩
  obtain ⟨R, hR⟩ : ∃ R, rb s.data.toList most st = R := ⟨_, rfl⟩
  rw [hn, hst] at HN HRB HE0
  rw [hst] at HFF
  rw [hR] at HRB ⊢
  obtain ⟨m1, hm1⟩ : ∃ m1, most + 1 = m1 := ⟨_, rfl⟩
  rw [hm1]
  have HM1 : Hid (most + 1 = m1) := Lib.hid hm1
  clear hn hst hR h hf hm1
  cases st1 with
  | error c =>
    obtain rfl := HE0.out c rfl
    have hR : R = (0, .error c) := HRB.out
    subst hR
    have hc0 : (c == 0) = false := by have := HFF.out.1; simp; omega
    have hc1 : (c != 0) = true := by have := HFF.out.1; simp; omega
    clear HE0 HRB
    go_enter Try.func37, Try.ntmps37
    go_wp2_with fail
    refine HN.out.mono ?_
    rintro r w1 ⟨rfl, ⟨a1, f1, hrow, hst⟩, hg⟩
    obtain rfl : f1 = c := hst
    have c2 : w1.cell? ⟨b, 2, none⟩ = some (.int .i64 f1) := cell_of_row _ _ _ _ _ _ hrow
    have HR2 := Lib.hid hrow
    have HG := Lib.hid hg
    clear hrow hg
    go_wp2
    go_ret
    exact ⟨rfl, ⟨a1, f1, HR2.out, rfl⟩, HG.out⟩
  | ok a =>
    by_cases hbad : n < 0 ∨ most < n
    · have hR : R = (0, .error 4) := by rw [HRB.out]; unfold rbk; simp only; rw [if_pos hbad]
      subst hR
      clear HE0 HRB
      rcases (by omega : n < 0 ∨ 0 ≤ n) with h1 | h1
      all_goals
        have HB := Lib.hid hbad
        first
          | (have d1 : decide (n < 0) = true := decide_eq_true h1)
          | (have d1 : decide (n < 0) = false := decide_eq_false (by omega)
             have d2 : decide (m1 ≤ n) = true := decide_eq_true (by have := HM1.out; omega))
        clear hbad
        go_enter Try.func37, Try.ntmps37
        go_wp2_with fail
        refine HN.out.mono ?_
        rintro r w1 ⟨rfl, ⟨a1, f1, hrow, hst⟩, hg⟩
        obtain ⟨rfl, rfl⟩ := hst
        have f2 : w1.frozen? ⟨b, 2, none⟩ = false := frozen_of_row _ _ _ _ _ hrow
        have c2 : w1.cell? ⟨b, 2, none⟩ = some (.int .i64 0) := cell_of_row _ _ _ _ _ _ hrow
        have hr2 := heap_set_fr hrow 2 (.int .i64 4)
        have HR2 := Lib.hid hr2
        have HG := Lib.hid hg
        clear hrow hg hr2
        go_wp2
        go_ret
        exact ⟨rfl, ⟨a1, 4, HR2.out, rfl⟩, grown_set HG.out _ _⟩
    · have hR : R = (n, .ok a) := by rw [HRB.out]; unfold rbk; simp only; rw [if_neg hbad]
      subst hR
      have d1 : decide (n < 0) = false := decide_eq_false (by omega)
      have d2 : decide (m1 ≤ n) = false := decide_eq_false (by have := HM1.out; omega)
      clear HE0 HRB hbad
      go_enter Try.func37, Try.ntmps37
      go_wp2_with fail
      refine HN.out.mono ?_
      rintro r w1 ⟨rfl, ⟨a1, f1, hrow, hst⟩, hg⟩
      obtain ⟨rfl, rfl⟩ := hst
      have c2 : w1.cell? ⟨b, 2, none⟩ = some (.int .i64 0) := cell_of_row _ _ _ _ _ _ hrow
      have HR2 := Lib.hid hrow
      have HG := Lib.hid hg
      clear hrow hg
      go_wp2
      go_ret
      exact ⟨rfl, ⟨_, 0, HR2.out, ⟨rfl, rfl⟩⟩, HG.out⟩
end Go.Proofs.Ytfodbblcflolgaa
