/- Two lists that are one list are told as one. Made by gen_re.py. -/
import Derived.Test.YtfbhdggmefacjaaRd
import Derived.Deep.QuietTactic
namespace Go.Proofs.Ytfbhdggmefacjaa
open Go.RowKit
open SK

set_option maxRecDepth 100000 in
set_option maxHeartbeats 2000000 in
theorem same_any (A A' : Option Addr) (n c c' : Nat) (l : List SK.E) (w : World) (hn : l.length = n) (h1 : EntsIn w A l) (h2 : EntsIn w A' l) (h6 : n ≤ 1000000) :
    Calls Try.prog 11 #[.slice A n c, .slice A' n c'] w fun e w' => e = .returned (.bool true) ∧ Below w.heap.size w w' := by
  have H1 := Lib.hid h1
  have H2 := Lib.hid h2
  have HN := Lib.hid hn
  have hnn : ((n : Int) != (n : Int)) = false := by simp
  clear h1 h2 hn
  go_enter Try.func11, Try.ntmps11
  go_wp2_with fail
  go_loopw [13] (fun i wr => ∃ j : Nat, j ≤ n ∧ i = .int .i64 j ∧ Below w.heap.size w wr) (fun i _ => n - (intOf i).toNat)
  case atStart => exact ⟨0, by omega, rfl, Below.refl _ _⟩
  case round =>
    obtain ⟨j, hj, rfl, hbw⟩ := hrel
    have HB := Lib.hid hbw
    by_cases hlt : j < n
    · have hjl : j < l.length := by rw [HN.out]; omega
      obtain ⟨b, off, hA, hbl, hc⟩ := (H1.out.below hbw).at_ (by omega)
      obtain ⟨z0, z1, z2, z3, z4⟩ := hc j hjl
      obtain ⟨b', off', hA', hbl', hc'⟩ := (H2.out.below hbw).at_ (by omega)
      obtain ⟨y0, y1, y2, y3, y4⟩ := hc' j hjl
      obtain ⟨e, he⟩ : ∃ e, l[j] = e := ⟨_, rfl⟩
      rw [he] at z0 z1 z2 z3 z4 y0 y1 y2 y3 y4
      subst hA hA'
      obtain ⟨k2, q2, g2, v2, t2⟩ := e
      simp only at z0 z1 z2 z3 z4 y0 y1 y2 y3 y4
      have hee1 := fun W => rent_any W k2 k2 q2 q2 g2 g2 v2 v2 t2 t2
      have heq1 : eqB ⟨k2, q2, g2, v2, t2⟩ ⟨k2, q2, g2, v2, t2⟩ = true := (eqB_iff _ _).2 rfl
      simp only [heq1, Bool.not_true] at hee1
      have g0 : (0 : Int) ≤ (j : Int) := by omega
      have g1 : (j : Int) < (n : Int) := by omega
      clear hbw hbl hbl' hc hc' he heq1
      go_wp2_with fail
      go_quiet (fail)
      go_wp2
      go_roundw
      case rel => exact ⟨j + 1, by omega, by go_num, below_drewN HB.out _⟩
      case measure => simp [intOf]; omega
    · have hjn : j = n := by omega
      subst hjn
      clear hbw
      go_wp2
      go_ret
      exact ⟨rfl, HB.out⟩

set_option maxRecDepth 100000 in
set_option maxHeartbeats 2000000 in
theorem alike_any (A A' : Option Addr) (n c c' : Nat) (l : List SK.E) (w : World) (hn : l.length = n) (h1 : EntsIn w A l) (h2 : EntsIn w A' l) (h6 : n ≤ 1000000) :
    Calls Try.prog 20 #[.slice A n c, .slice A' n c'] w fun e w' => e = .returned (.bool true) ∧ Below w.heap.size w w' := by
  have H1 := Lib.hid h1
  have H2 := Lib.hid h2
  have HN := Lib.hid hn
  have hnn : ((n : Int) != (n : Int)) = false := by simp
  clear h1 h2 hn
  go_enter Try.func20, Try.ntmps20
  go_wp2_with fail
  go_loopw [13] (fun i wr => ∃ j : Nat, j ≤ n ∧ i = .int .i64 j ∧ Below w.heap.size w wr) (fun i _ => n - (intOf i).toNat)
  case atStart => exact ⟨0, by omega, rfl, Below.refl _ _⟩
  case round =>
    obtain ⟨j, hj, rfl, hbw⟩ := hrel
    have HB := Lib.hid hbw
    by_cases hlt : j < n
    · have hjl : j < l.length := by rw [HN.out]; omega
      obtain ⟨b, off, hA, hbl, hc⟩ := (H1.out.below hbw).at_ (by omega)
      obtain ⟨z0, z1, z2, z3, z4⟩ := hc j hjl
      obtain ⟨b', off', hA', hbl', hc'⟩ := (H2.out.below hbw).at_ (by omega)
      obtain ⟨y0, y1, y2, y3, y4⟩ := hc' j hjl
      obtain ⟨e, he⟩ : ∃ e, l[j] = e := ⟨_, rfl⟩
      rw [he] at z0 z1 z2 z3 z4 y0 y1 y2 y3 y4
      subst hA hA'
      obtain ⟨k2, q2, g2, v2, t2⟩ := e
      simp only at z0 z1 z2 z3 z4 y0 y1 y2 y3 y4
      have hee1 := fun W => ent_any W k2 k2 q2 q2 g2 g2 v2 v2 t2 t2
      have heq1 : eqB ⟨k2, q2, g2, v2, t2⟩ ⟨k2, q2, g2, v2, t2⟩ = true := (eqB_iff _ _).2 rfl
      simp only [heq1, Bool.not_true] at hee1
      have g0 : (0 : Int) ≤ (j : Int) := by omega
      have g1 : (j : Int) < (n : Int) := by omega
      clear hbw hbl hbl' hc hc' he heq1
      go_wp2_with fail
      go_quiet (fail)
      go_wp2
      go_roundw
      case rel => exact ⟨j + 1, by omega, by go_num, below_drewN HB.out _⟩
      case measure => simp [intOf]; omega
    · have hjn : j = n := by omega
      subst hjn
      clear hbw
      go_wp2
      go_ret
      exact ⟨rfl, HB.out⟩
end Go.Proofs.Ytfbhdggmefacjaa
