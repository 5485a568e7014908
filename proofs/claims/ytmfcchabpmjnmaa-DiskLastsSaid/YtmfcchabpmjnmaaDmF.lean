/- What is synced is there behind a loss of power. No function of the program. -/
import Derived.Test.YtmfcchabpmjnmaaDmE
namespace Go.Proofs.Ytmfcchabpmjnmaa
namespace DM

def la1 (F M : Bs) : St := ⟨1099511627776, [⟨F ++ M, F.length⟩], [([97], 0)], [([97], 0)], [], false, 0, 0, [], 0⟩
def la2 (F M : Bs) : St := ⟨1099511627776, [⟨F ++ M, F.length⟩, ⟨[], 0⟩], [([97], 0), ([98], 1)], [([97], 0)], [⟨[], [98], 1⟩], false, 0, 0, [], 0⟩

theorem la_append (F M : Bs) (hF : F.length ≤ 1000) (hM : M.length ≤ 1000) : append [97] M (rn1 F 0 0 []) = (0, la1 F M) := by
  show (if 1048576 < ((F.length : Nat) + M.length : Int) ∨ (1099511627776 : Int) < (((F.length + 0 : Nat) : Int) + M.length : Int) then _ else _) = _
  rw [if_neg (by omega)]
  rfl
theorem la_create (F M : Bs) : create [98] (la1 F M) = (0, la2 F M) := rfl

theorem la_read (F M : Bs) (n : Int) (l : List Int) : ∃ m, F.length ≤ m ∧ m ≤ F.length + M.length ∧ read [97] (crash n l (la2 F M)) = ((F ++ M).take m, 0) := by
  refine ⟨F.length + rest (l.getD (0 % l.length) 0) ((F ++ M).length - F.length + 1), by omega, ?_, ?_⟩
  · have h := rest_le (l.getD (0 % l.length) 0) ((F ++ M).length - F.length)
    rw [List.length_append] at h ⊢
    omega
  · have hk : rest n 2 ≤ 1 := rest_le n 1
    have : rest n 2 = 0 ∨ rest n 2 = 1 := by omega
    show (match find (pre [([97], 0)] [⟨[], [98], 1⟩] (rest n 2)) [97] with | none => (([] : Bs), (10 : Int)) | some q => ((fileAt (crash n l (la2 F M)) q).data, 0)) = _
    rcases this with h | h
    · rw [h]; rfl
    · rw [h]; rfl

theorem la_names (F M : Bs) (n : Int) (l : List Int) : (crash n l (la2 F M)).names.map (·.1) = [[97]] ∨ (crash n l (la2 F M)).names.map (·.1) = [[97], [98]] := by
  have hk : rest n 2 ≤ 1 := rest_le n 1
  have : rest n 2 = 0 ∨ rest n 2 = 1 := by omega
  show (pre [([97], 0)] [⟨[], [98], 1⟩] (rest n 2)).map (·.1) = _ ∨ (pre [([97], 0)] [⟨[], [98], 1⟩] (rest n 2)).map (·.1) = _
  rcases this with h | h
  · rw [h]; exact .inl rfl
  · rw [h]; exact .inr rfl
end DM
end Go.Proofs.Ytmfcchabpmjnmaa
