/- Texts joined by bundle.py: Wa. -/
import Derived.Test.YtgknkldhjejjmaaGreatDoorZah
import Derived.Test.YtgknkldhjejjmaaGreatDoorZar
import Derived.Test.YtgknkldhjejjmaaGreatDoorZax
import Derived.Test.YtgknkldhjejjmaaGreatDoorZat

/- The calls of a log, over a disk: first, and the closures that it is handed. -/
namespace Go.Proofs.YtgknkldhjejjmaaGreatDoor
open Go.RowKit Go.Maps
open DM

/-- what a call leaves that answers a number -/
def NumEnds (P : Int → World → Prop) (e : Ending) (w' : World) : Prop := ∃ r, e = .returned (.int .i64 r) ∧ P r w'

set_option maxRecDepth 100000 in
theorem first_two {w : World} {b : Nat} {f1 f2 : FuncId} {C1 B2 C2 : Array Value} (h1 : w.cell? ⟨b, 0, none⟩ = some (.func (.func f1) #[] C1)) (h2 : w.cell? ⟨b, 1, none⟩ = some (.func (.func f2) B2 C2))
    (cf1 : ∀ W, (callFunc f1 C1).run Tryz.prog W = .ok (.enter f1 C1) W) (cf2 : ∀ W, (callFunc f2 (B2 ++ C2)).run Tryz.prog W = .ok (.enter f2 (B2 ++ C2)) W)
    {P1 P2 : Int → World → Prop} (hc1 : Calls Tryz.prog f1 C1 w (NumEnds fun r w' => P1 r w' ∧ w'.cell? ⟨b, 1, none⟩ = some (.func (.func f2) B2 C2)))
    (hc2 : ∀ w', P1 0 w' → Calls Tryz.prog f2 (B2 ++ C2) w' (NumEnds P2)) :
    Calls Tryz.prog 18 #[.slice (some ⟨b, 0, none⟩) 2 2] w (NumEnds fun r w' => (r ≠ 0 ∧ P1 r w') ∨ P2 r w') := by
  have HC1 := Lib.hid hc1
  have HC2 := Lib.hid hc2
  clear hc1 hc2
  go_enter Tryz.func18, Tryz.ntmps18
  go_wp2_with fail
  go_loopw [8] (fun v wr => (v = .int .i64 0 ∧ wr = w) ∨ (v = .int .i64 1 ∧ Hid (P1 0 wr) ∧ wr.cell? ⟨b, 1, none⟩ = some (.func (.func f2) B2 C2)) ∨ (v = .int .i64 2 ∧ Hid (P2 0 wr))) (fun v _ => 2 - (intOf v).toNat)
  case atStart => exact .inl ⟨rfl, rfl⟩
  case round =>
    rcases hrel with ⟨rfl, rfl⟩ | ⟨rfl, HP, h2'⟩ | ⟨rfl, HP⟩
    · go_wp2_with fail
      refine HC1.out.mono ?_
      rintro e w1 ⟨r, rfl, hp, hk⟩
      have HP := Lib.hid hp
      have HK := Lib.hid hk
      clear hp hk
      by_cases hr : r = 0
      · subst hr
        go_wp2
        go_roundw
        case rel => exact .inr (.inl ⟨rfl, HP, HK.out⟩)
        case measure => decide
      · go_wp2
        go_ret
        exact ⟨r, rfl, .inl ⟨hr, HP.out⟩⟩
    · go_wp2_with fail
      refine (HC2.out _ HP.out).mono ?_
      rintro e w1 ⟨r, rfl, hp⟩
      have HQ := Lib.hid hp
      clear hp
      by_cases hr : r = 0
      · subst hr
        go_wp2
        go_roundw
        case rel => exact .inr (.inr ⟨rfl, HQ⟩)
        case measure => decide
      · go_wp2
        go_ret
        exact ⟨r, rfl, .inr HQ.out⟩
    · go_wp2
      go_ret
      exact ⟨0, rfl, .inr HP.out⟩
end Go.Proofs.YtgknkldhjejjmaaGreatDoor

