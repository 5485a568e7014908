/- Whole calls of a budget, one after another; wakes. -/
import Derived.Test.YtapncnbildampaaBc
import Derived.Test.YtapncnbildampaaRf
namespace Go.Proofs.Ytapncnbildampaa
open Go.RowKit
open BM

/-- a budget of the call's own -/
structure Lv (W w : World) (b : Nat) (s : S) : Prop where
  below : Below W.heap.size W w
  le : W.heap.size ≤ b
  at_ : BAt w b 0 s
  ok : Ok s

def LOut (W : World) (b : Nat) (r : Int × S) (e : Ending) (w' : World) : Prop := e = .returned (.int .i64 r.1) ∧ Lv W w' b r.2

theorem Lv.of_out {W w : World} {b : Nat} {s : S} (h : Lv W w b s) {r : Int × S} (ok : Ok r.2) {e : Ending} {w' : World} (ho : Out w b 0 r e w') : LOut W b r e w' :=
  ⟨ho.1, h.below.grown ho.2.2 h.below.size (fun g hg => by cases hg; exact h.le), h.le, ho.2.1, ok⟩
theorem Lv.reserve {W w : World} {b : Nat} {s : S} (h : Lv W w b s) (k n : Int) (hn : n ≤ 9223372036854775807) {r : Int × S} (hr : BM.reserve k n s = r) :
    Calls Try.prog 14 #[.pointer (some ⟨b, 0, none⟩), .int .i64 k, .int .i64 n] w (LOut W b r) := by
  subst hr
  exact (reserve_any h.at_ h.ok k n hn).mono fun e w' ho => h.of_out (ok_reserve h.ok k n) ho
theorem Lv.release {W w : World} {b : Nat} {s : S} (h : Lv W w b s) (k n : Int) (hn : n ≤ 9223372036854775807) {r : Int × S} (hr : BM.release k n s = r) :
    Calls Try.prog 15 #[.pointer (some ⟨b, 0, none⟩), .int .i64 k, .int .i64 n] w (LOut W b r) := by
  subst hr
  exact (release_any h.at_ h.ok k n hn).mono fun e w' ho => h.of_out (ok_release h.ok k n) ho
theorem Lv.change {W w : World} {b : Nat} {s : S} (h : Lv W w b s) (k n : Int) (hn : n ≤ 9223372036854775807) {r : Int × S} (hr : BM.change k n s = r) :
    Calls Try.prog 16 #[.pointer (some ⟨b, 0, none⟩), .int .i64 k, .int .i64 n] w (LOut W b r) := by
  subst hr
  exact (change_any h.at_ h.ok k n hn).mono fun e w' ho => h.of_out (ok_change h.ok k n) ho
theorem lv_new {W w : World} (h : Below W.heap.size W w) (l : Int) :
    Calls Try.prog 8 #[.int .i64 l] w fun e w' => e = .returned (.pointer (some ⟨w.heap.size, 0, none⟩)) ∧ Lv W w' w.heap.size (new l) :=
  (new_any l w).mono fun _ _ ⟨he, ha, hb⟩ => ⟨he, h.trans (hb.mono h.size), h.size, ha, ok_new l⟩
theorem lv_made {W w : World} (h : Below W.heap.size W w) (l : Int) :
    Calls Try.prog 8 #[.int .i64 l] w fun e w' => ∃ b, e = .returned (.pointer (some ⟨b, 0, none⟩)) ∧ Lv W w' b (new l) ∧ w.heap.size ≤ b ∧ Below w.heap.size w w' :=
  (new_any l w).mono fun _ _ ⟨he, ha, hb⟩ => ⟨_, he, ⟨h.trans (hb.mono h.size), h.size, ha, ok_new l⟩, Nat.le_refl _, hb⟩
theorem Lv.trans {W w w' : World} {b : Nat} {s : S} (h : Lv W w b s) (hb : Below w.heap.size w w') : Lv W w' b s := ⟨h.below.trans (hb.mono h.below.size), h.le, h.at_.below hb, h.ok⟩
theorem Lv.grown {W w w' : World} {b r : Nat} {s : S} (h : Lv W w b s) (hg : w.grownBy w' (some r)) (hr : W.heap.size ≤ r) (hne : b ≠ r) : Lv W w' b s :=
  ⟨h.below.grown hg h.below.size (fun g e => by cases e; exact hr), h.le, h.at_.kept hg (by simpa using hne), h.ok⟩

def wk1 : S := ⟨10, 7, 7, 0, 0, 0⟩
def wk2 : S := ⟨10, 7, 6, 0, 0, 0⟩
def wk3 : S := ⟨10, 10, 6, 4, 0, 0⟩
theorem wk1_eq : BM.reserve 0 7 (new 10) = (0, wk1) := by kernel_rfl
theorem wk2_eq : BM.reserve 1 4 wk1 = (14, wk1) := by kernel_rfl
theorem wk3_eq : BM.change 0 6 wk1 = (0, wk2) := by kernel_rfl
theorem wk4_eq : BM.reserve 1 4 wk2 = (0, wk3) := by kernel_rfl

set_option maxHeartbeats 1000000 in
theorem wakes_any (w : World) : Calls Try.prog 10 #[] w fun e w' => e = .returned (.bool true) ∧ Below w.heap.size w w' := by
  go_enter Try.func10, Try.ntmps10
  go_wp2_with fail
  refine (lv_new (Below.refl _ w) 10).mono ?_
  rintro e w1 ⟨rfl, h1⟩
  have H1 := Lib.hid h1
  clear h1
  go_wp2_with fail
  refine (H1.out.reserve 0 7 (by omega) wk1_eq).mono ?_
  rintro e w2 ⟨rfl, h2⟩
  have H2 := Lib.hid h2
  clear h2
  go_wp2_with fail
  refine (H2.out.reserve 1 4 (by omega) wk2_eq).mono ?_
  rintro e w3 ⟨rfl, h3⟩
  have H3 := Lib.hid h3
  clear h3
  go_wp2_with fail
  refine (H3.out.change 0 6 (by omega) wk3_eq).mono ?_
  rintro e w4 ⟨rfl, h4⟩
  have H4 := Lib.hid h4
  clear h4
  go_wp2_with fail
  refine (H4.out.reserve 1 4 (by omega) wk4_eq).mono ?_
  rintro e w5 ⟨rfl, h5⟩
  have H5 := Lib.hid h5
  clear h5
  go_wp2_with fail
  refine (high_any H5.out.at_).mono ?_
  rintro e w6 ⟨rfl, rfl⟩
  go_wp2
  go_ret
  exact ⟨rfl, H5.out.below⟩
end Go.Proofs.Ytapncnbildampaa
