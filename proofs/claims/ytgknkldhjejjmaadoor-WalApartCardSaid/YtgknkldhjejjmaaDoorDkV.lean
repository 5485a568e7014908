/- Part: some of a file's bytes. -/
import Derived.Test.YtgknkldhjejjmaaDoorDkU
namespace Go.Proofs.YtgknkldhjejjmaaDoor
open Go.RowKit Go.Maps
open DM

/-- 'string(b[i:i+n])' of a row -/
theorem part_run {B : Nat} {w : World} {A : Option Addr} {L C : Nat} {l : Bs} (h : Row B w (.slice A L C) l) (hL : L = l.length) (I N : Nat) (hIN : I + N ≤ l.length) :
    ∃ A2 C2, (Instr.slice 51 (.slice A L C) (some (.int .i64 (I : Int))) (some (.int .i64 ((I : Int) + (N : Int)))) none).run Tryd.prog w = .ok (.slice A2 N C2) w ∧
      (convert 51 9 (.slice A2 N C2)).run Tryd.prog w = .ok (encS ((l.drop I).take N)) w := by
  have hs : ∀ w, (sizeOf (Tryd.prog.elem 51)).run Tryd.prog w = .ok 1 w := fun w => by kernel_rfl
  have hlc : L ≤ C ∧ (A = none → L = 0) := by
    rcases h with ⟨e, _⟩ | ⟨r, cap, cur, e, _, _, h4, _⟩
    · cases e; exact ⟨Nat.le_refl _, fun _ => rfl⟩
    · cases e; exact ⟨h4, fun e => by cases e⟩
  have hrun : (Instr.slice 51 (.slice A L C) (some (.int .i64 (I : Int))) (some (.int .i64 ((I : Int) + (N : Int)))) none).run Tryd.prog w = .ok (.slice (if C = I then A else A.map (·.add (I * 1))) N (C - I)) w := by
    rw [run_slice_lh w 51 A L C (by kernel_rfl) .i64 .i64 (I : Int) ((I : Int) + (N : Int)) (by omega) (by omega) (by omega), hs]
    simp only [Result.andThen, sliced, Int.toNat_natCast, show ((I : Int) + (N : Int)).toNat = I + N by omega, Nat.add_sub_cancel_left]
  refine ⟨_, _, hrun, ?_⟩
  have hlen : ((l.drop I).take N).length = N := by rw [List.length_take, List.length_drop]; omega
  have hconv : ∀ (r o : Nat) (c : Nat), Lib.Bytes w r o ⟨((l.drop I).take N).toArray⟩ → (convert 51 9 (.slice (some ⟨r, o, none⟩) N c)).run Tryd.prog w = .ok (encS ((l.drop I).take N)) w := fun r o c hb => by
    have h := Lib.run_convert_whole (P := Tryd.prog) w 51 5 9 Tryd.underlying51 Tryd.underlying5 Tryd.underlying9 r o ⟨((l.drop I).take N).toArray⟩ hb c
    have hz : (⟨((l.drop I).take N).toArray⟩ : ByteArray).size = N := by rw [← size_list]; simpa using hlen
    rw [hz] at h
    exact h
  rcases h with ⟨e, hl⟩ | ⟨r, cap, cur, e, _, hg, h4, _, _, htk⟩
  · cases e
    subst hl
    obtain rfl : N = 0 := by simp at hIN; omega
    obtain rfl : I = 0 := by simp at hIN; omega
    exact Lib.run_convert_nil_bytes w 51 9 5 0 Tryd.underlying51 Tryd.underlying5 Tryd.underlying9
  · cases e
    by_cases hC : C = I
    · obtain rfl : N = 0 := by omega
      rw [if_pos hC]
      refine hconv r 0 _ fun i hi => ?_
      simp [ByteArray.size] at hi
    · rw [if_neg hC]
      have ha : (some (⟨r, 0, none⟩ : Addr)).map (·.add (I * 1)) = some ⟨r, 0 + I * 1, none⟩ := by rw [Option.map_some, Go.WideShapes.add_plain]
      rw [ha]
      refine hconv r _ _ fun i hi => ?_
      have hi' : i < N := by rw [← hlen]; simpa [ByteArray.size] using hi
      have hb := Lib.bytes_of_row hg (l := l) htk (I + i) (by omega)
      rw [addr_add0] at hb
      rw [show 0 + I * 1 + i = I + i by omega, hb]
      have hx : (⟨((l.drop I).take N).toArray⟩ : ByteArray)[i]'hi = ((l.drop I).take N)[i]'(by rw [hlen]; exact hi') := rfl
      rw [hx, List.getElem_take, List.getElem_drop]

end Go.Proofs.YtgknkldhjejjmaaDoor
