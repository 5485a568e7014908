/- Plain mathematics of layer 3: how much fuel makes no difference. No program here. -/
import Derived.Test.YtgknkldhjejjmaaDoorFmB
namespace Go.Proofs.YtgknkldhjejjmaaDoor.FM

theorem all_fuel : ∀ (f g : Nat) (l : List UInt8), l.length < f → l.length < g → all f l = all g l
  | 0, _, _, h, _ => by omega
  | _ + 1, 0, _, _, h => by omega
  | f + 1, g + 1, l, hf, hg => by
    obtain ⟨b, m, c, h⟩ : ∃ b m c, get l = (b, m, c) := ⟨_, _, _, rfl⟩
    by_cases hc : c = 0
    · subst hc
      obtain ⟨hm, -, -⟩ := get_ok h
      obtain ⟨h8, hml, -, -, -⟩ := meas_ok hm
      have hl : (l.drop m).length = l.length - m := List.length_drop
      rw [all_step h, all_step h, all_fuel f g (l.drop m) (by omega) (by omega)]
    · rw [all_err (by rw [h]) hc, all_err (by rw [h]) hc]

theorem cut_all (bs : List (List UInt8)) (hb : ∀ b ∈ bs, b.length ≤ 65535) (c f : Nat) (hc : c ≤ (frames bs).length) (hf : c < f) :
    all f ((frames bs).take c) = (bs.take (whole bs c), ends bs (whole bs c), if ends bs (whole bs c) = c then 10 else 3) := by
  rw [← all_cut bs hb c ((frames bs).length + 1) hc (by omega)]
  exact all_fuel _ _ _ (by rw [List.length_take]; omega) (by rw [List.length_take]; omega)

theorem turned_all (bs : List (List UInt8)) (hb : ∀ b ∈ bs, b.length ≤ 65535) (j f : Nat) (y : UInt8) (hj : j < (frames bs).length) (hy : (frames bs).getD j 0 ≠ y) (hf : (frames bs).length < f) :
    ∃ e, (e = 4 ∨ e = 6) ∧ all f ((frames bs).set j y) = (bs.take (whole bs j), ends bs (whole bs j), e) := all_turned bs hb j f y hj hy hf
end Go.Proofs.YtgknkldhjejjmaaDoor.FM
