/- Plain mathematics: what the document's Compact asks of each entry. -/
import Derived.Test.YtfbhdggmefacjaaRg
import Derived.Test.YtfbhdggmefacjaaRc
namespace Go.Proofs.Ytfbhdggmefacjaa
open Go.RowKit
open SK HP VB
namespace VB
theorem mid_key {e y x : SK.E} (h1 : less e y = true) (h2 : less y x = true) (h : x.key = e.key) : y.key = e.key := by
  by_cases hy : y.key = e.key
  · exact hy
  · exfalso
    have hc : less y e = true := by
      unfold less at h2 ⊢
      rw [if_neg (by rw [h]; exact hy)] at h2
      rw [if_neg hy, ← h]
      exact h2
    rw [less_asymm h1] at hc
    cases hc
theorem head_any {l : List SK.E} (hs : Sorted l) {j : Nat} (hj : j < l.length) (h0 : 0 < j) : (l.take j).any (hasKey l[j].key) = decide (l[j - 1].key = l[j].key) := by
  rw [Bool.eq_iff_iff, List.any_eq_true, decide_eq_true_eq]
  constructor
  · rintro ⟨x, hx, hxk⟩
    obtain ⟨i, hi, rfl⟩ := List.mem_take_iff_getElem.1 hx
    simp only [hasKey, decide_eq_true_eq] at hxk
    by_cases e : i = j - 1
    · subst e; exact hxk
    · have h1 := List.pairwise_iff_getElem.1 hs i (j - 1) (by omega) (by omega) (by omega)
      have h2 := List.pairwise_iff_getElem.1 hs (j - 1) j (by omega) hj (by omega)
      rw [mid_key h1 h2 hxk.symm, hxk]
  · intro h
    exact ⟨l[j - 1], List.mem_take_iff_getElem.2 ⟨j - 1, by omega, rfl⟩, by simpa [hasKey] using h⟩
def head (l : List SK.E) (j : Nat) : Bool := decide (j = 0) || !decide ((l.getD (j - 1) SK.E.zero).key = (l.getD j SK.E.zero).key)
theorem keepsE_doc {l : List SK.E} {xs : List Int} (hs : Sorted l) {j : Nat} (hj : j < l.length) : keepsE xs (l.take j) l[j] = (head l j || xs.any (fun s => decide (idx (pk l[j].key s) l = (j : Int)))) := by
  unfold keepsE head
  congr 1
  · by_cases h0 : j = 0
    · subst h0; simp
    · rw [head_any hs hj (by omega), decide_eq_false h0, Bool.false_or, getD_at _ _ hj, getD_at _ _ (by omega)]
  · congr 1
    funext s
    rw [Bool.eq_iff_iff, decide_eq_true_eq, idx_iff hj]
    simp [pk]
theorem rl_drop {now : Int} {K : List SK.E} {j : Nat} (h : j < K.length) : rl now (K.drop j) = (if (K.drop j).any (fun x => decide (x.key = K[j].key) && alive x now) = true then [K[j]] else []) ++ rl now (K.drop (j + 1)) := by
  have hd : K.drop j = K[j] :: K.drop (j + 1) := List.drop_eq_getElem_cons h
  rw [hd, rl]
theorem mid_snoc {K : List SK.E} {j t : Nat} (hj : j ≤ t) (ht : t < K.length) : (K.take (t + 1)).drop j = (K.take t).drop j ++ [K[t]] := by
  rw [List.take_succ_eq_append_getElem ht, List.drop_append_of_le_length (by rw [List.length_take]; omega)]
end VB
end Go.Proofs.Ytfbhdggmefacjaa
