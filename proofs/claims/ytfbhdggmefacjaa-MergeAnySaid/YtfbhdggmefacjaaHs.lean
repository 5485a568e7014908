/- Swap, Push, Pop of sources. -/
import Derived.Test.YtfbhdggmefacjaaHl
import Derived.StillTailTactics
import Derived.Deep.RegionLaw
namespace Go.Proofs.Ytfbhdggmefacjaa
open Go.RowKit
open SK HP

def swL (L : List Src) (i j : Nat) : List Src := (L.set i (L.getD j Src.dft)).set j (L.getD i Src.dft)
theorem swL_len (L : List Src) (i j : Nat) : (swL L i j).length = L.length := by simp [swL]
theorem swL_at {L : List Src} {i j : Nat} (hi : i < L.length) (hj : j < L.length) (k : Nat) : (swL L i j).getD k Src.dft = sw (fun k => L.getD k Src.dft) i j k := by
  simp only [swL, sw, List.getD_eq_getElem?_getD, List.getElem?_set]
  by_cases h1 : k = i
  · subst h1
    by_cases h2 : j = k
    · subst h2; simp [hi]
    · simp [h2, hi]
  · by_cases h2 : k = j
    · subst h2; simp [h1, hj]
    · have h1' : ¬ i = k := fun e => h1 e.symm
      have h2' : ¬ j = k := fun e => h2 e.symm
      simp [h1, h2, h1', h2']

theorem sw_perm {α : Type} : ∀ (L : List α) (i j : Nat) (hi : i < L.length) (hj : j < L.length), ((L.set i L[j]).set j L[i]).Perm L := by
  intro L i j hi hj
  exact List.set_set_perm hi hj

theorem swL_eq {L : List Src} {i j : Nat} (hi : i < L.length) (hj : j < L.length) : swL L i j = (L.set i L[j]).set j L[i] := by
  simp [swL, List.getD_eq_getElem?_getD, hi, hj]

theorem swL_perm {L : List Src} {i j : Nat} (hi : i < L.length) (hj : j < L.length) : (swL L i j).Perm L := by
  rw [swL_eq hi hj]; exact sw_perm L i j hi hj

section
variable {W0 w : World} {p : Nat} {v : Value} {L : List Src}

theorem ne_type {w : World} {a b : Nat} {c1 c2 : Array Value} {t1 t2 : TypeId} {f1 f2 : Nat × Nat} (ha : w.heap[a]? = some (.cells c1 t1 f1)) (hb : w.heap[b]? = some (.cells c2 t2 f2)) (h : t1 ≠ t2) : a ≠ b := fun e => by
  subst e
  rw [ha] at hb
  injection hb with hb
  injection hb with _ hb
  exact h hb

theorem Hp.swap (h : Hp W0 w p v L) {g cap : Nat} (hv : v = .slice (some ⟨g, 0, none⟩) L.length cap) {i j : Nat} (hi : i < L.length) (hj : j < L.length) :
    Hp W0 ((w.setCell ⟨g, i, none⟩ (ptrS L[j])).setCell ⟨g, j, none⟩ (ptrS L[i])) p v (swL L i j) ∧ Kp W0.heap.size w ((w.setCell ⟨g, i, none⟩ (ptrS L[j])).setCell ⟨g, j, none⟩ (ptrS L[i])) := by
  obtain ⟨g', cap', hv', hcap, hmax, hBg, cur, hg, hcs, hct⟩ := h.slice (by omega)
  rw [hv] at hv'
  simp only [Value.slice.injEq, Option.some.injEq, Addr.mk.injEq, and_true, true_and] at hv'
  obtain ⟨rfl, rfl⟩ := hv'
  have hsrc : isSrc (.cells cur 77 (0, 0)) := ⟨_, _, _, rfl, .inr (.inl rfl)⟩
  have hg1 := heap_set_fr hg i (ptrS L[j])
  have hg2 := heap_set_fr hg1 j (ptrS L[i])
  have hk1 : Kp W0.heap.size w (w.setCell ⟨g, i, none⟩ (ptrS L[j])) := Kp.set (.refl w) g hBg hg hsrc i _
  have hk : Kp W0.heap.size w ((w.setCell ⟨g, i, none⟩ (ptrS L[j])).setCell ⟨g, j, none⟩ (ptrS L[i])) := hk1.set g hBg hg1 ⟨_, _, _, rfl, .inr (.inl rfl)⟩ j _
  have hother : ∀ b, b ≠ g → ((w.setCell ⟨g, i, none⟩ (ptrS L[j])).setCell ⟨g, j, none⟩ (ptrS L[i])).heap[b]? = w.heap[b]? := fun b hb => (Below.heap_setCell _ _ _ _ hb).trans (Below.heap_setCell _ _ _ _ hb)
  have hp := swL_perm hi hj
  refine ⟨⟨h.below.trans (hk.below h.below.size), (hother p (ne_type h.box hg (by decide))).trans h.box, h.pB, ?_, fun s hs => (hother _ (ne_type (h.obj s (hp.mem_iff.1 hs)) hg (by decide))).trans (h.obj s (hp.mem_iff.1 hs)), fun s hs => h.objB s (hp.mem_iff.1 hs), (hp.map _).nodup_iff.2 h.nodup, fun s hs => h.ents s (hp.mem_iff.1 hs), by rw [swL_len]; exact h.few⟩, hk⟩
  refine ⟨by simp, .inr ⟨g, cap, _, by rw [hv, swL_len], hBg, hg2, by rw [swL_len]; exact hcap, hmax, by simp [hcs], ?_⟩⟩
  rw [swL_len, Nat.mul_one]
  simp only [Array.toList_setIfInBounds, List.take_set, hct]
  rw [swL_eq hi hj]
  simp [List.map_set]
end

set_option maxRecDepth 100000 in
set_option maxHeartbeats 4000000 in
theorem hswap_any {W0 w : World} {p : Nat} {v : Value} {L : List Src} (h : Hp W0 w p v L) (i j : Nat) (hi : i < L.length) (hj : j < L.length) :
    Calls Try.prog 84 #[v, .int .i64 i, .int .i64 j] w fun e w' => e = .returned (.tuple #[]) ∧ Hp W0 w' p v (swL L i j) ∧ Kp W0.heap.size w w' := by
  obtain ⟨g, cap, hv, hcap, -, -, cur, hg, -, -⟩ := h.slice (by omega)
  have z1 := h.at_ hv hi
  have z2 := h.at_ hv hj
  have f1 : w.frozen? ⟨g, i, none⟩ = false := frozen_of_row _ _ _ _ _ hg
  have f2 : w.frozen? ⟨g, j, none⟩ = false := frozen_of_row _ _ _ _ _ hg
  have HS := Lib.hid (And.intro ((h.swap hv hi hj).1.stay (Ks.refl _).drew) (h.swap hv hi hj).2.drew)
  have hn6 := h.few
  obtain ⟨L', hL'⟩ : ∃ L', swL L i j = L' := ⟨_, rfl⟩
  rw [hL'] at HS ⊢
  obtain ⟨n, hn⟩ : ∃ n, L.length = n := ⟨_, rfl⟩
  simp only [ptrS] at z1 z2 HS
  have hb : i = j → L[i].b = L[j].b := fun e => by subst e; rfl
  obtain ⟨bi, hbi⟩ : ∃ b, L[i].b = b := ⟨_, rfl⟩
  obtain ⟨bj, hbj⟩ : ∃ b, L[j].b = b := ⟨_, rfl⟩
  rw [hbi] at z1 HS hb
  rw [hbj] at z2 HS hb
  rw [hn] at hv hi hj hcap hn6
  have f3 : (w.setCell ⟨g, i, none⟩ (.pointer (some ⟨bj, 0, none⟩))).frozen? ⟨g, j, none⟩ = false := frozen_of_row _ _ _ _ _ (heap_set_fr hg i _)
  clear h hg hn hbi hbj hL'
  subst hv
  have z3 : (w.setCell ⟨g, i, none⟩ (.pointer (some ⟨bj, 0, none⟩))).cell? ⟨g, j, none⟩ = some (.pointer (some ⟨bj, 0, none⟩)) := by
    by_cases hij : i = j
    · subst hij
      exact World.cell?_setCell_same _ _ _ z1
    · exact (World.cell?_setCell_other _ _ _ _ (fun e => hij (by injection e))).trans z2
  have i0 : (0 : Int) ≤ (i : Int) := by omega
  have i1 : (i : Int) < (n : Int) := by omega
  have j0 : (0 : Int) ≤ (j : Int) := by omega
  have j1 : (j : Int) < (n : Int) := by omega
  clear hb
  go_enter Try.func84, Try.ntmps84
  go_wp2_with fail
  go_region
  go_wp2
  go_end0
  exact ⟨rfl, HS.out⟩
end Go.Proofs.Ytfbhdggmefacjaa
