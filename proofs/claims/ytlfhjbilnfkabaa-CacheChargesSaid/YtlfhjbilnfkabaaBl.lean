/- Whole calls of a budget, one after another; wakes. -/
import Derived.Test.YtlfhjbilnfkabaaBc
import Derived.Test.YtlfhjbilnfkabaaRf
namespace Go.Proofs.Ytlfhjbilnfkabaa
open Go.RowKit
open BM

/-- a budget of the call's own -/
structure Lv (W w : World) (b : Nat) (s : S) : Prop where
  below : Below W.heap.size W w
  le : W.heap.size ≤ b
  at_ : BAt w b 0 s
  ok : Ok s

def LOut (W : World) (b : Nat) (r : Int × S) (e : Ending) (w' : World) : Prop := e = .returned (.int .i64 r.1) ∧ Lv W w' b r.2

theorem Lv.of_out {W w : World} {b : Nat} {s : S} (h : Lv W w b s) {r : Int × S} (ok : Ok r.2) {e : Ending} {w' : World} (ho : Out w b 0 r e w') : LOut W b r e w' :=
  ⟨ho.1, h.below.grown ho.2.2 h.below.size (fun g hg => by cases hg; exact h.le), h.le, ho.2.1, ok⟩
theorem Lv.reserve {W w : World} {b : Nat} {s : S} (h : Lv W w b s) (k n : Int) (hn : n ≤ 9223372036854775807) {r : Int × S} (hr : BM.reserve k n s = r) :
    Calls Try.prog 40 #[.pointer (some ⟨b, 0, none⟩), .int .i64 k, .int .i64 n] w (LOut W b r) := by
  subst hr
  exact (reserve_any h.at_ h.ok k n hn).mono fun e w' ho => h.of_out (ok_reserve h.ok k n) ho
theorem Lv.release {W w : World} {b : Nat} {s : S} (h : Lv W w b s) (k n : Int) (hn : n ≤ 9223372036854775807) {r : Int × S} (hr : BM.release k n s = r) :
    Calls Try.prog 60 #[.pointer (some ⟨b, 0, none⟩), .int .i64 k, .int .i64 n] w (LOut W b r) := by
  subst hr
  exact (release_any h.at_ h.ok k n hn).mono fun e w' ho => h.of_out (ok_release h.ok k n) ho
theorem Lv.change {W w : World} {b : Nat} {s : S} (h : Lv W w b s) (k n : Int) (hn : n ≤ 9223372036854775807) {r : Int × S} (hr : BM.change k n s = r) :
    Calls Try.prog 32 #[.pointer (some ⟨b, 0, none⟩), .int .i64 k, .int .i64 n] w (LOut W b r) := by
  subst hr
  exact (change_any h.at_ h.ok k n hn).mono fun e w' ho => h.of_out (ok_change h.ok k n) ho
theorem lv_new {W w : World} (h : Below W.heap.size W w) (l : Int) :
    Calls Try.prog 8 #[.int .i64 l] w fun e w' => e = .returned (.pointer (some ⟨w.heap.size, 0, none⟩)) ∧ Lv W w' w.heap.size (new l) :=
  (new_any l w).mono fun _ _ ⟨he, ha, hb⟩ => ⟨he, h.trans (hb.mono h.size), h.size, ha, ok_new l⟩
theorem lv_made {W w : World} (h : Below W.heap.size W w) (l : Int) :
    Calls Try.prog 8 #[.int .i64 l] w fun e w' => ∃ b, e = .returned (.pointer (some ⟨b, 0, none⟩)) ∧ Lv W w' b (new l) ∧ w.heap.size ≤ b ∧ Below w.heap.size w w' :=
  (new_any l w).mono fun _ _ ⟨he, ha, hb⟩ => ⟨_, he, ⟨h.trans (hb.mono h.size), h.size, ha, ok_new l⟩, Nat.le_refl _, hb⟩
theorem Lv.trans {W w w' : World} {b : Nat} {s : S} (h : Lv W w b s) (hb : Below w.heap.size w w') : Lv W w' b s := ⟨h.below.trans (hb.mono h.below.size), h.le, h.at_.below hb, h.ok⟩
theorem Lv.grown {W w w' : World} {b r : Nat} {s : S} (h : Lv W w b s) (hg : w.grownBy w' (some r)) (hr : W.heap.size ≤ r) (hne : b ≠ r) : Lv W w' b s :=
  ⟨h.below.grown hg h.below.size (fun g e => by cases e; exact hr), h.le, h.at_.kept hg (by simpa using hne), h.ok⟩
end Go.Proofs.Ytlfhjbilnfkabaa
