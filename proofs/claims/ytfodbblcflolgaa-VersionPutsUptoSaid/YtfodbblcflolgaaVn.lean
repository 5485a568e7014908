/- Apply's mathematics: what the program comes to is the document's. -/
import Derived.Test.YtfodbblcflolgaaVl
namespace Go.Proofs.Ytfodbblcflolgaa
open Go.RowKit
open VS

namespace VS
theorem made_perm {v : V} (hv : Ok v) {e : Ed} (hn : v.next ≤ e.next) (h3 : addOk e.next (files v.L) [] e.add = true) {S : Nat → List M} (hS : ∀ i, i < 4 → (S i).Perm (qk v.L e.drop e.add e.add.length i) ∧ weak (S i)) :
    (S 0 ++ S 1 ++ S 2 ++ S 3).Perm (kept v e ++ e.add) ∧ weak (S 0 ++ S 1 ++ S 2 ++ S 3) ∧ (ra (S 0 ++ S 1 ++ S 2 ++ S 3) 0 = true ↔ apart (S 0 ++ S 1 ++ S 2 ++ S 3)) := by
  have hq : ∀ i : Nat, qk v.L e.drop e.add e.add.length i = lev i (kept v e ++ e.add) := fun i => qk_all _ _ _ _
  have hlv : ∀ i, i < 4 → ∀ m ∈ S i, m.lvl = (i : Int) := fun i hi m hm => qk_lvl m ((hS i hi).1.subset hm)
  have hf : ∀ m ∈ kept v e ++ e.add, fine e.next m = true := made_fine hv hn h3
  have hp : (S 0 ++ S 1 ++ S 2 ++ S 3).Perm (kept v e ++ e.add) := by
    refine List.Perm.trans ?_ (levs_perm fun m hm => ⟨(fine_num (hf m hm)).1, (fine_num (hf m hm)).2.1⟩)
    have h0 := (hS 0 (by omega)).1
    have h1 := (hS 1 (by omega)).1
    have h2 := (hS 2 (by omega)).1
    have h3 := (hS 3 (by omega)).1
    rw [hq] at h0 h1 h2 h3
    exact ((h0.append h1).append h2).append h3
  refine ⟨hp, levs_weak (hlv 0 (by omega)) (hlv 1 (by omega)) (hlv 2 (by omega)) (hlv 3 (by omega)) (hS 0 (by omega)).2 (hS 1 (by omega)).2 (hS 2 (by omega)).2 (hS 3 (by omega)).2, ?_⟩
  have hlo : ∀ i, i < 4 → ∀ m ∈ S i, m.lvl = (i : Int) ∧ lt m.hi m.lo = false := fun i hi m hm => ⟨hlv i hi m hm, fine_lo (hf m (hp.subset (by
    rcases (by omega : i = 0 ∨ i = 1 ∨ i = 2 ∨ i = 3) with rfl | rfl | rfl | rfl <;> simp [hm])))⟩
  have e1 : lev 1 (S 0 ++ S 1 ++ S 2 ++ S 3) = S 1 := lev_of hlv (k := 1) (by omega)
  have e2 : lev 2 (S 0 ++ S 1 ++ S 2 ++ S 3) = S 2 := lev_of hlv (k := 2) (by omega)
  have e3 : lev 3 (S 0 ++ S 1 ++ S 2 ++ S 3) = S 3 := lev_of hlv (k := 3) (by omega)
  rw [levs_apart (hlv 0 (by omega)) (hlv 1 (by omega)) (hlv 2 (by omega)) (hlv 3 (by omega))]
  simp only [ra, e1, e2, e3, Bool.and_eq_true]
  rw [steps_apart (i := 1) (by omega) (hlo 1 (by omega)) (hS 1 (by omega)).2, steps_apart (i := 2) (by omega) (hlo 2 (by omega)) (hS 2 (by omega)).2, steps_apart (i := 3) (by omega) (hlo 3 (by omega)) (hS 3 (by omega)).2]

/-- the end of Apply -/
theorem made_end {v : V} (hv : Ok v) {e : Ed} (h1 : headOk v e = true) (h2 : dropOk (files v.L) [] e.drop = true) (h3 : addOk e.next (files v.L) [] e.add = true) {S : Nat → List M} (hS : ∀ i, i < 4 → (S i).Perm (qk v.L e.drop e.add e.add.length i) ∧ weak (S i)) :
    (ra (S 0 ++ S 1 ++ S 2 ++ S 3) 0 = true → apply v e = (⟨S 0 ++ S 1 ++ S 2 ++ S 3, e.log, e.next, e.seq⟩, 0)) ∧ (ra (S 0 ++ S 1 ++ S 2 ++ S 3) 0 = false → apply v e = (V.none, 17)) := by
  have hn := (headOk_num h1).2.1
  obtain ⟨hp, hw, hr⟩ := made_perm hv hn h3 hS
  obtain ⟨ha, hb⟩ := prog_doc hv hn h3 hp hw
  refine ⟨fun h => ?_, fun h => ?_⟩
  · have hap := hr.1 h
    have hg : good v e = true := by
      simp only [good, h1, h2, h3, Bool.true_and, decide_eq_true_eq]
      exact ha.1 hap
    unfold apply
    rw [if_pos hg, hb hap]
  · have hg : good v e = false := by
      simp only [good, h1, h2, h3, Bool.true_and, decide_eq_false_iff_not]
      intro hx
      have := hr.2 (ha.2 hx)
      rw [h] at this; cases this
    unfold apply
    rw [if_neg (by rw [hg]; simp)]

theorem apply_bad1 {v : V} {e : Ed} (h : headOk v e = false) : apply v e = (V.none, 17) := by
  unfold apply; rw [if_neg (by simp [good, h])]
theorem apply_bad2 {v : V} {e : Ed} (h : dropOk (files v.L) [] e.drop = false) : apply v e = (V.none, 17) := by
  unfold apply; rw [if_neg (by simp [good, h])]
theorem apply_bad3 {v : V} {e : Ed} (h : addOk e.next (files v.L) [] e.add = false) : apply v e = (V.none, 17) := by
  unfold apply; rw [if_neg (by simp [good, h])]

theorem made_len {v : V} (hv : Ok v) {e : Ed} (hn : v.next ≤ e.next) (h3 : addOk e.next (files v.L) [] e.add = true) {S : Nat → List M} (hS : ∀ i, i < 4 → (S i).Perm (qk v.L e.drop e.add e.add.length i) ∧ weak (S i)) : (S 0 ++ S 1 ++ S 2 ++ S 3).length ≤ v.L.length + e.add.length := by
  rw [(made_perm hv hn h3 hS).1.length_eq, List.length_append]
  have : (kept v e).length ≤ v.L.length := List.length_filter_le _ _
  omega
theorem apply_len (v : V) (e : Ed) : (apply v e).1.L.length ≤ v.L.length + e.add.length := by
  unfold apply
  split
  · rw [(behind_perm v e).length_eq, List.length_append]
    have : (kept v e).length ≤ v.L.length := List.length_filter_le _ _
    omega
  · simp [V.none]
end VS
end Go.Proofs.Ytfodbblcflolgaa
