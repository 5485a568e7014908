/- A file that is renamed over another one: what a loss of power leaves. No function of the program. -/
import Derived.Test.YtgknkldhjejjmaaDoorDmD
namespace Go.Proofs.YtgknkldhjejjmaaDoor
namespace DM

/-- a loss of power leaves a file whose bytes all last -/
theorem loseF_whole (bytes : List Int) (i : Nat) (x : Bs) : loseF bytes i ⟨x, x.length⟩ = ⟨x, x.length⟩ := by
  unfold loseF
  have : rest (bytes.getD (i % bytes.length) 0) (x.length - x.length + 1) = 0 := by
    have := rest_lt (bytes.getD (i % bytes.length) 0) (b := x.length - x.length + 1) (by omega)
    omega
  simp only [this, Nat.add_zero, List.take_length]

/-- whatever of the queue lasts, the name has a file whose bytes all last, one of those asked for -/
def Holds (k : Bs) (p : Bs → Prop) (s : St) : Prop :=
  ∀ j, j ≤ s.queue.length → ∃ m x, find (pre s.lasts s.queue j) k = some m ∧ m < s.files.length ∧ s.files.getD m ⟨[], 0⟩ = ⟨x, x.length⟩ ∧ p x

theorem rest_le (n : Int) (b : Nat) : rest n (b + 1) ≤ b := by
  have := rest_lt n (b := b + 1) (by omega)
  omega

theorem holds_lost {k : Bs} {p : Bs → Prop} {s s' : St} (h : Holds k p s) (n : Int) (l : List Int) (hf : s'.files = (fail s n l).files) (hl : s'.lasts = (fail s n l).lasts) (hq : s'.queue = []) : Holds k p s' := by
  intro j hj
  obtain ⟨m, x, h1, h2, h3, h4⟩ := h (rest n (s.queue.length + 1)) (rest_le _ _)
  rw [hq] at hj ⊢
  refine ⟨m, x, ?_, ?_, ?_, h4⟩
  · rw [hl]
    have hj0 : j = 0 := by simpa using hj
    subst hj0
    exact h1
  · rw [hf]
    simpa [fail] using h2
  · rw [hf]
    simp only [fail]
    rw [getD_mapIdx _ _ _ h2, h3]
    exact loseF_whole _ _ _

theorem holds_read {k : Bs} {p : Bs → Prop} {s : St} (h : Holds k p s) (n : Int) (l : List Int) : ∃ x, read k (crash n l s) = (x, 0) ∧ p x := by
  obtain ⟨m, x, h1, h2, h3, h4⟩ := h (rest n (s.queue.length + 1)) (rest_le _ _)
  refine ⟨x, ?_, h4⟩
  have e1 : find (crash n l s).names k = some m := h1
  have e2 : fileAt (crash n l s) m = ⟨x, x.length⟩ := by
    unfold fileAt
    show (s.files.mapIdx (loseF l)).getD m ⟨[], 0⟩ = _
    rw [getD_mapIdx _ _ _ h2, h3]
    exact loseF_whole _ _ _
  unfold read
  rw [if_neg (by simp [crash, on]), e1]
  simp only [e2]

/-! ### the script -/
def rn1 (E : Bs) (c : Nat) (n : Int) (l : List Int) : St := ⟨1099511627776, [⟨E, E.length⟩], [([97], 0)], [([97], 0)], [], false, c, n, l, 0⟩
def rn2 (E : Bs) (c : Nat) (n : Int) (l : List Int) : St := ⟨1099511627776, [⟨E, E.length⟩, ⟨[], 0⟩], [([97], 0), ([116], 1)], [([97], 0)], [⟨[], [116], 1⟩], false, c, n, l, 0⟩
def rn3 (E N : Bs) (c : Nat) (n : Int) (l : List Int) : St := { rn2 E c n l with files := [⟨E, E.length⟩, ⟨N, 0⟩] }
def rn4 (E N : Bs) (c : Nat) (n : Int) (l : List Int) : St := { rn2 E c n l with files := [⟨E, E.length⟩, ⟨N, N.length⟩] }
def rn5 (E N : Bs) (c : Nat) (n : Int) (l : List Int) : St := { rn4 E N c n l with names := [([97], 1)], queue := [⟨[], [116], 1⟩, ⟨[116], [97], 1⟩] }
def rn6 (E N : Bs) (c : Nat) (n : Int) (l : List Int) : St := { rn5 E N c n l with lasts := [([97], 1)], queue := [] }
def dark (s : St) (n : Int) (l : List Int) : St := { fail s n l with off := true }

theorem rn_start1 : create [97] (new 1099511627776) = (0, ⟨1099511627776, [⟨[], 0⟩], [([97], 0)], [], [⟨[], [97], 0⟩], false, 0, 0, [], 0⟩) := rfl
theorem rn_start2 (E : Bs) (h : E.length ≤ 1000) : append [97] E ⟨1099511627776, [⟨[], 0⟩], [([97], 0)], [], [⟨[], [97], 0⟩], false, 0, 0, [], 0⟩ = (0, ⟨1099511627776, [⟨E, 0⟩], [([97], 0)], [], [⟨[], [97], 0⟩], false, 0, 0, [], 0⟩) := by
  show (if 1048576 < ((0 : Nat) + E.length : Int) ∨ (1099511627776 : Int) < ((0 : Nat) + E.length : Int) then _ else _) = _
  rw [if_neg (by omega)]
  rfl
theorem rn_start3 (E : Bs) : sync [97] ⟨1099511627776, [⟨E, 0⟩], [([97], 0)], [], [⟨[], [97], 0⟩], false, 0, 0, [], 0⟩ = (0, ⟨1099511627776, [⟨E, E.length⟩], [([97], 0)], [], [⟨[], [97], 0⟩], false, 0, 0, [], 0⟩) := rfl
theorem rn_start4 (E : Bs) : syncDir ⟨1099511627776, [⟨E, E.length⟩], [([97], 0)], [], [⟨[], [97], 0⟩], false, 0, 0, [], 0⟩ = (0, rn1 E 0 0 []) := rfl
theorem rn_cut (E : Bs) (c : Nat) (hc : 1 ≤ c) (n : Int) (l : List Int) : cut (c : Int) n l (rn1 E 0 0 []) = rn1 E c n l := by
  have : (max (c : Int) 1).toNat = c := by omega
  simp only [cut, rn1, this]

theorem rn_create (E : Bs) (c : Nat) (n : Int) (l : List Int) : create [116] (rn1 E c n l) = if c = 1 then (13, dark (rn2 E (c - 1) n l) n l) else (0, rn2 E (c - 1) n l) := by
  show change true (doCreate [116]) (rn1 E c n l) = _
  unfold change
  show (if c = 1 then _ else _) = _
  split
  · rfl
  · rfl
theorem rn_append (E N : Bs) (c : Nat) (n : Int) (l : List Int) (hE : E.length ≤ 1000) (hN : N.length ≤ 1000) : append [116] N (rn2 E c n l) = if c = 1 then (13, dark (rn3 E N (c - 1) n l) n l) else (0, rn3 E N (c - 1) n l) := by
  show (if 1048576 < ((0 : Nat) + N.length : Int) ∨ (1099511627776 : Int) < (((E.length + (0 + 0) : Nat) : Int) + N.length : Int) then _ else _) = _
  rw [if_neg (by omega)]
  unfold change
  show (if c = 1 then _ else _) = _
  split
  · rfl
  · rfl
theorem rn_sync (E N : Bs) (c : Nat) (n : Int) (l : List Int) : sync [116] (rn3 E N c n l) = if c = 1 then (13, dark (rn3 E N (c - 1) n l) n l) else (0, rn4 E N (c - 1) n l) := by
  show change false (doSync 1) (rn3 E N c n l) = _
  unfold change
  show (if c = 1 then _ else _) = _
  split
  · rfl
  · rfl
theorem rn_rename (E N : Bs) (c : Nat) (n : Int) (l : List Int) : rename [116] [97] (rn4 E N c n l) = if c = 1 then (13, dark (rn5 E N (c - 1) n l) n l) else (0, rn5 E N (c - 1) n l) := by
  show change true (doRename [116] [97] 1) (rn4 E N c n l) = _
  unfold change
  show (if c = 1 then _ else _) = _
  split
  · rfl
  · rfl
theorem rn_syncDir (E N : Bs) (c : Nat) (n : Int) (l : List Int) : syncDir (rn5 E N c n l) = if c = 1 then (13, dark (rn5 E N (c - 1) n l) n l) else (0, rn6 E N (c - 1) n l) := by
  show change false doSyncDir (rn5 E N c n l) = _
  unfold change
  show (if c = 1 then _ else _) = _
  split
  · rfl
  · rfl

def either (E N : Bs) (x : Bs) : Prop := x = E ∨ x = N
theorem holds2 (E N : Bs) (c : Nat) (n : Int) (l : List Int) : Holds [97] (either E N) (rn2 E c n l) := fun j hj => by
  have : j = 0 ∨ j = 1 := by simp only [rn2, List.length_cons, List.length_nil] at hj; omega
  rcases this with rfl | rfl
  · exact ⟨0, E, rfl, Nat.zero_lt_two, rfl, .inl rfl⟩
  · exact ⟨0, E, rfl, Nat.zero_lt_two, rfl, .inl rfl⟩
theorem holds3 (E N : Bs) (c : Nat) (n : Int) (l : List Int) : Holds [97] (either E N) (rn3 E N c n l) := fun j hj => by
  have : j = 0 ∨ j = 1 := by simp only [rn3, rn2, List.length_cons, List.length_nil] at hj; omega
  rcases this with rfl | rfl
  · exact ⟨0, E, rfl, Nat.zero_lt_two, rfl, .inl rfl⟩
  · exact ⟨0, E, rfl, Nat.zero_lt_two, rfl, .inl rfl⟩
theorem holds5 (E N : Bs) (c : Nat) (n : Int) (l : List Int) : Holds [97] (either E N) (rn5 E N c n l) := fun j hj => by
  have : j = 0 ∨ j = 1 ∨ j = 2 := by simp only [rn5, List.length_cons, List.length_nil] at hj; omega
  rcases this with rfl | rfl | rfl
  · exact ⟨0, E, rfl, Nat.zero_lt_two, rfl, .inl rfl⟩
  · exact ⟨0, E, rfl, Nat.zero_lt_two, rfl, .inl rfl⟩
  · exact ⟨1, N, rfl, Nat.one_lt_two, rfl, .inr rfl⟩
theorem holds6 (E N : Bs) (c : Nat) (n : Int) (l : List Int) : Holds [97] (fun x => x = N) (rn6 E N c n l) := fun j hj => by
  have : j = 0 := by simp only [rn6, List.length_nil] at hj; omega
  subst this
  exact ⟨1, N, rfl, Nat.one_lt_two, rfl, rfl⟩
theorem holds_dark {k : Bs} {p : Bs → Prop} {s : St} (h : Holds k p s) (n : Int) (l : List Int) : Holds k p (dark s n l) := holds_lost h n l rfl rfl rfl
end DM
end Go.Proofs.YtgknkldhjejjmaaDoor
