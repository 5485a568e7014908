/- Plain mathematics: one step of a merge. -/
import Derived.Test.YtfbhdggmefacjaaMp
namespace Go.Proofs.Ytfbhdggmefacjaa
open SK
namespace HP

structure FineN (S : List Src) : Prop where
  sorted : ∀ s ∈ S, Sorted s.left
  nodup : (S.map (·.place)).Nodup

theorem nodup_apart : ∀ {S : List Src}, (S.map (·.place)).Nodup → ∀ s ∈ S, ∀ t ∈ S, s.place = t.place → s = t
  | [], _, s, hs, _, _, _ => by cases hs
  | x :: S, h, s, hs, t, ht, e => by
    rw [List.map_cons, List.nodup_cons] at h
    rcases List.mem_cons.1 hs with h1 | h1
    · rcases List.mem_cons.1 ht with h2 | h2
      · rw [h1, h2]
      · exact absurd (List.mem_map.2 ⟨t, h2, by rw [← e, h1]⟩) h.1
    · rcases List.mem_cons.1 ht with h2 | h2
      · exact absurd (List.mem_map.2 ⟨s, h1, by rw [e, h2]⟩) h.1
      · exact nodup_apart h.2 s h1 t h2 e

theorem nodup_place {S : List Src} (h : (S.map (·.b)).Nodup) (ha : ∀ s ∈ S, ∀ t ∈ S, s.place = t.place → s = t) : (S.map (·.place)).Nodup := by
  rw [List.Nodup, List.pairwise_map] at h ⊢
  exact h.imp_of_mem fun hx hy hne e => hne (by rw [ha _ hx _ hy e])

theorem FineN.fine {S : List Src} (h : FineN S) : Fine S := ⟨h.sorted, nodup_apart h.nodup⟩
theorem FineN.perm {S T : List Src} (h : FineN S) (p : T.Perm S) : FineN T := ⟨fun s hs => h.sorted s (p.mem_iff.1 hs), (p.map _).nodup_iff.2 h.nodup⟩
theorem Inv.perm {R out : List E} {S T : List Src} (h : Inv R out S) (p : T.Perm S) : Inv R out T := h.congr fun _ _ => p.mem_iff.symm

def tot (S : List Src) : Nat := (S.map (·.left.length)).sum
theorem tot_perm {S T : List Src} (h : S.Perm T) : tot S = tot T := (h.map _).sum_nat
theorem tot_cons (s : Src) (S : List Src) : tot (s :: S) = s.left.length + tot S := by simp [tot]

theorem step_plain {R out : List E} {L S L' : List Src} {s : Src} {h : E} {t : List E} (hi : Inv R out L) (hf : FineN L) (hp : (s :: S).Perm L) (hmin : ∀ u ∈ S, ltS u s = false) (hl : s.left = h :: t)
    (hrest : (t = [] ∧ L'.Perm S) ∨ (t ≠ [] ∧ ∃ s2 : Src, s2.left = t ∧ s2.place = s.place ∧ L'.Perm (S ++ [s2]))) :
    FineN L' ∧ ((∀ o, out.getLast? = some o → less o h = true) → Inv R (out ++ [h]) L') ∧ (∀ o, out.getLast? = some o → less o h = false → Inv R out L') ∧ tot L = tot L' + 1 := by
  have hf1 := hf.perm hp
  have hi1 := hi.perm hp
  have hst : Sorted (h :: t) := by rw [← hl]; exact hf1.sorted s (by simp)
  have htt := (List.pairwise_cons.1 hst).2
  have hnd := hf1.nodup
  rw [List.map_cons, List.nodup_cons] at hnd
  have ht0 : tot L = tot (s :: S) := (tot_perm hp).symm
  rw [tot_cons, hl] at ht0
  rcases hrest with ⟨rfl, hL⟩ | ⟨hne, s2, h1, h2, hL⟩
  · have hpop := hi1.pop (s2 := ⟨s.b, s.A, s.c, s.place, []⟩) hf1.fine hl rfl rfl hmin
    have hc : ∀ x : Src, x.left ≠ [] → (x ∈ (⟨s.b, s.A, s.c, s.place, []⟩ : Src) :: S ↔ x ∈ L') := fun x hx => by
      rw [hL.mem_iff, List.mem_cons]
      refine ⟨fun h => ?_, .inr⟩
      rcases h with rfl | h
      · exact absurd rfl hx
      · exact h
    refine ⟨⟨fun u hu => hf1.sorted u (by simp [hL.mem_iff.1 hu]), (hL.map _).nodup_iff.2 hnd.2⟩, fun ha => (hpop.1 ha).congr hc, fun o ho hb => (hpop.2 o ho hb).congr hc, ?_⟩
    rw [ht0, tot_perm hL]
    simp; omega
  · have hpop := hi1.pop (s2 := s2) hf1.fine hl h1 h2 hmin
    have hpm : (s2 :: S).Perm L' := ((List.perm_append_singleton _ _).symm.trans hL.symm)
    refine ⟨⟨fun u hu => ?_, ?_⟩, fun ha => (hpop.1 ha).perm hpm.symm, fun o ho hb => (hpop.2 o ho hb).perm hpm.symm, ?_⟩
    · rcases List.mem_cons.1 (hpm.symm.mem_iff.1 hu) with rfl | hu
      · rw [h1]; exact htt
      · exact hf1.sorted u (by simp [hu])
    · refine (hpm.symm.map _).nodup_iff.2 ?_
      rw [List.map_cons, List.nodup_cons, h2]
      exact hnd
    · rw [ht0, ← tot_perm hpm, tot_cons, h1]
      simp; omega
end HP
end Go.Proofs.Ytfbhdggmefacjaa
