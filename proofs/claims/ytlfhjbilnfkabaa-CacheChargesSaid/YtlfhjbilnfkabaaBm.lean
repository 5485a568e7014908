/- Budgets, in plain mathematics. -/
import Derived.Test.YtlfhjbilnfkabaaKit
namespace Go.Proofs.Ytlfhjbilnfkabaa
namespace BM
structure S where
  lim : Int
  high : Int
  k0 : Int
  k1 : Int
  k2 : Int
  k3 : Int

def S.used (s : S) : Int := s.k0 + s.k1 + s.k2 + s.k3
def known (k : Int) : Prop := 0 ≤ k ∧ k < 4
instance (k : Int) : Decidable (known k) := by unfold known; infer_instance
def S.of (s : S) (k : Int) : Int := if k = 0 then s.k0 else if k = 1 then s.k1 else if k = 2 then s.k2 else if k = 3 then s.k3 else 0
def S.set (s : S) (k v : Int) : S := if k = 0 then { s with k0 := v } else if k = 1 then { s with k1 := v } else if k = 2 then { s with k2 := v } else if k = 3 then { s with k3 := v } else s
def S.put (s : S) (k v : Int) : S := { s.set k v with high := max s.high (s.set k v).used }
def top (limit : Int) : Int := min (max limit 0) 1099511627776
def new (limit : Int) : S := ⟨top limit, 0, 0, 0, 0, 0⟩
def bad (k n : Int) : Prop := ¬ known k ∨ n < 0
instance (k n : Int) : Decidable (bad k n) := by unfold bad; infer_instance
def reserve (k n : Int) (s : S) : Int × S := if bad k n then (2, s) else if n > s.lim - s.used then (14, s) else (0, s.put k (s.of k + n))
def release (k n : Int) (s : S) : Int × S := if bad k n then (2, s) else if n > s.of k then (2, s) else (0, s.put k (s.of k - n))
def change (k n : Int) (s : S) : Int × S := if bad k n then (2, s) else if n > s.lim - (s.used - s.of k) then (14, s) else (0, s.put k n)

structure Ok (s : S) : Prop where
  p0 : 0 ≤ s.k0
  p1 : 0 ≤ s.k1
  p2 : 0 ≤ s.k2
  p3 : 0 ≤ s.k3
  uh : s.used ≤ s.high
  hl : s.high ≤ s.lim
  lt : s.lim ≤ 1099511627776

theorem known_cases {k : Int} (h : known k) : k = 0 ∨ k = 1 ∨ k = 2 ∨ k = 3 := by unfold known at h; omega

theorem ok_new (l : Int) : Ok (new l) := by
  refine ⟨by simp [new], by simp [new], by simp [new], by simp [new], by simp [new, S.used], ?_, ?_⟩ <;> simp only [new, top] <;> omega

theorem ok_put {s : S} (h : Ok s) {k v : Int} (hk : known k) (hv : 0 ≤ v) (hl : v - s.of k ≤ s.lim - s.used) : Ok (s.put k v) := by
  obtain ⟨p0, p1, p2, p3, uh, h1, h2⟩ := h
  rcases known_cases hk with rfl | rfl | rfl | rfl <;>
  · simp [S.of] at hl
    simp only [S.used] at uh hl
    refine ⟨?_, ?_, ?_, ?_, ?_, ?_, ?_⟩ <;> simp [S.put, S.set, S.used] <;> omega

theorem of_nonneg {s : S} (h : Ok s) (k : Int) : 0 ≤ s.of k := by
  have := h.p0; have := h.p1; have := h.p2; have := h.p3
  unfold S.of; repeat' split
  all_goals omega
theorem of_le {s : S} (h : Ok s) (k : Int) : s.of k ≤ s.used := by
  have := h.p0; have := h.p1; have := h.p2; have := h.p3
  unfold S.of S.used; repeat' split
  all_goals omega

theorem ok_reserve {s : S} (h : Ok s) (k n : Int) : Ok (reserve k n s).2 := by
  unfold reserve
  split
  · exact h
  · rename_i hb
    split
    · exact h
    · unfold bad at hb
      have := of_nonneg h k
      exact ok_put h (by by_cases hk : known k <;> simp_all) (by omega) (by omega)
theorem ok_release {s : S} (h : Ok s) (k n : Int) : Ok (release k n s).2 := by
  unfold release
  split
  · exact h
  · rename_i hb
    split
    · exact h
    · unfold bad at hb
      have := h.uh; have := h.hl
      exact ok_put h (by by_cases hk : known k <;> simp_all) (by omega) (by omega)
theorem ok_change {s : S} (h : Ok s) (k n : Int) : Ok (change k n s).2 := by
  unfold change
  split
  · exact h
  · rename_i hb
    split
    · exact h
    · unfold bad at hb
      exact ok_put h (by by_cases hk : known k <;> simp_all) (by omega) (by omega)
end BM
end Go.Proofs.Ytlfhjbilnfkabaa
