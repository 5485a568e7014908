/- The walk of link. -/
import Derived.Test.YtgnlhnfjanoahaaSv
namespace Go.Proofs.Ytgnlhnfjanoahaa
open Go.RowKit
open SK

set_option maxRecDepth 100000 in
set_option maxHeartbeats 4000000 in
theorem link_any {B : Nat} {w : World} {a hb : Nat} {cs : List Int} {pre post : List ND} {n : ND} {c : Nat} {z : Int} (h : Mid B w a hb cs (pre ++ n :: post) c z) (hn : n.h = 0) (hc8 : n.c ≤ 8) :
    Calls Try.prog 27 #[.pointer (some ⟨a, 0, none⟩), .pointer (some ⟨n.b, 0, none⟩), aheadV pre] w fun e w' => (∃ v, e = .returned v) ∧ Mid B w' a hb cs (pre ++ { n with h := n.c } :: post) c z ∧ Keeps (a :: hb :: blks (pre ++ n :: post)) w w' := by
  have harr : (w.alloc (.cells (arr8 fun f => pv ((lst f pre).map (·.b))) 65)).heap[w.heap.size]? = some (.cells (arr8 fun f => pv ((lst f pre).map (·.b))) 65 (0, 0)) := heap_alloc_new w _
  have hmid : Mid B (w.alloc (.cells (arr8 fun f => pv ((lst f pre).map (·.b))) 65)) a hb cs (pre ++ n :: post) c z := h.below ((Below.refl _ w).alloc (Nat.le_refl _) _)
  have hkeep : Keeps (a :: hb :: blks (pre ++ n :: post)) w (w.alloc (.cells (arr8 fun f => pv ((lst f pre).map (·.b))) 65)) := Keeps.of_below ((Below.refl _ w).alloc (Nat.le_refl _) _)
  have hnlo := h.lo
  have HX : Hid (∀ x ∈ a :: hb :: blks (pre ++ n :: post), x < w.heap.size) := fun x hx => (h.lo x hx).2
  clear h hnlo
  have hn0 : ({ n with h := 0 } : ND) = n := by cases n; simp only at hn; subst hn; rfl
  have hmid0 : Mid B (w.alloc (.cells (arr8 fun f => pv ((lst f pre).map (·.b))) 65)) a hb cs (pre ++ { n with h := 0 } :: post) c z := by rw [hn0]; exact hmid
  have hnode : (w.alloc (.cells (arr8 fun f => pv ((lst f pre).map (·.b))) 65)).heap[n.b]? = some (.cells (ncells n) 62 (0, 0)) := (Chain.at_ hmid.chain).node
  obtain ⟨x, hx⟩ : ∃ x, w.heap.size = x := ⟨_, rfl⟩
  rw [hx] at harr HX
  have zn : (w.alloc (.cells (arr8 fun f => pv ((lst f pre).map (·.b))) 65)).cell? ⟨n.b, 5, none⟩ = some (.slice (some ⟨n.t, 0, none⟩) n.c n.c) := cell_of_row _ _ _ _ _ _ hnode
  unfold aheadV
  unfold arr8 at harr hmid0 hkeep zn ⊢
  dsimp only at harr hmid0 hkeep zn ⊢
  have HARR := Lib.hid harr
  have HMID := Lib.hid hmid0
  have HKEEP := Lib.hid hkeep
  have HC8 := Lib.hid hc8
  clear harr hmid hmid0 hkeep hnode hn0 hn hc8
  go_enter Try.func27, Try.ntmps27
  go_wp2_with fail
  generalize w.alloc (.cells #[pv ((lst 0 pre).map (·.b)), pv ((lst 1 pre).map (·.b)), pv ((lst 2 pre).map (·.b)), pv ((lst 3 pre).map (·.b)), pv ((lst 4 pre).map (·.b)), pv ((lst 5 pre).map (·.b)), pv ((lst 6 pre).map (·.b)), pv ((lst 7 pre).map (·.b))] 65) = W1 at HARR HMID HKEEP zn ⊢
  have HXX := Lib.hid hx
  clear hx
  go_loopw [13] (fun i wr => ∃ k : Nat, k ≤ n.c ∧ i = .int .i64 k ∧ Mid B wr a hb cs (pre ++ { n with h := k } :: post) c z ∧ Keeps (a :: hb :: blks (pre ++ n :: post)) w wr ∧ wr.heap[x]? = some (.cells (arr8 fun f => pv ((lst f pre).map (·.b))) 65 (0, 0))) (fun i _ => n.c - (intOf i).toNat)
  case atStart => exact ⟨0, by omega, rfl, HMID.out, HKEEP.out, HARR.out⟩
  case round =>
    obtain ⟨k, hk, rfl, hm, hkp, ha⟩ := hrel
    have HM := Lib.hid hm
    have HK := Lib.hid hkp
    have HA := Lib.hid ha
    clear zn HMID HKEEP HARR
    by_cases hlt : k < n.c
    · have hk8 : k < 8 := by have := HC8.out; omega
      obtain ⟨zs, hsn, fs, hsu, hsd⟩ := hm.slot (k := k) rfl hk8
      have hnode := (Chain.at_ hm.chain).node
      have zn : wr.cell? ⟨n.b, 5, none⟩ = some (.slice (some ⟨n.t, 0, none⟩) n.c n.c) := cell_of_row _ _ _ _ _ _ hnode
      obtain ⟨tc, ht1, ht2, -⟩ := (Chain.at_ hm.chain).tower
      have hux : towerB a (lst k pre) < x := HX.out _ (by
        rcases List.mem_cons.1 hsu with h | h
        · rw [h]; simp
        · rw [blks_app]; simp [h])
      have htx : n.t < x := HX.out _ (by rw [blks_app, blks_cons]; simp)
      have hnext := next_any a (lst k pre) wr hsd
      have hml := hm.link rfl hlt hk8
      have hkl : Keeps (a :: hb :: blks (pre ++ n :: post)) w ((wr.setCell ⟨n.t, k, none⟩ (pv (nx k post))).setCell ⟨towerB a (lst k pre), towerO (lst k pre) + k, none⟩ (pv (some n.b))) :=
        (hkp.set n.t k _ (.inl (by rw [blks_app, blks_cons]; simp))).set _ _ _ (.inl (by
          rcases List.mem_cons.1 hsu with h | h
          · rw [h]; simp
          · rw [blks_app]; simp [h]))
      have hal : ((wr.setCell ⟨n.t, k, none⟩ (pv (nx k post))).setCell ⟨towerB a (lst k pre), towerO (lst k pre) + k, none⟩ (pv (some n.b))).heap[x]? = some (.cells (arr8 fun f => pv ((lst f pre).map (·.b))) 65 (0, 0)) :=
        ((Below.heap_setCell _ _ _ _ (Ne.symm (Nat.ne_of_lt hux))).trans (Below.heap_setCell _ _ _ _ (Ne.symm (Nat.ne_of_lt htx)))).trans ha
      have zx : wr.cell? ⟨x, k, none⟩ = some (pv ((lst k pre).map (·.b))) := by rw [cell_of_row _ _ _ _ _ _ ha, arr8_at _ _ hk8]
      have ht2' : tc.size = n.c := ht2
      have zt : wr.cell? ⟨n.t, k, none⟩ = some (tc[k]'(by omega)) := by
        rw [cell_of_row _ _ _ _ _ _ ht1]
        exact Array.getElem?_eq_getElem _
      have ft : wr.frozen? ⟨n.t, k, none⟩ = false := frozen_of_row _ _ _ _ _ ht1
      have hne : n.t ≠ towerB a (lst k pre) := fun e => by
        have hnd := hm.nodup
        rw [blks_h] at hnd
        simp only [List.nodup_cons, List.mem_cons, not_or] at hnd
        rcases List.mem_cons.1 hsu with h | h
        · exact hnd.1.2 (by rw [← h, ← e, blks_app, blks_cons]; simp)
        · rw [blks_app, blks_cons] at hnd
          exact (List.nodup_append.1 hnd.2.2).2.2 _ h _ (by rw [← e]; simp) rfl
      have hmt : wr.frozen? ⟨towerB a (lst k pre), towerO (lst k pre) + k, none⟩ = false := fs
      have HHM := Lib.hid hml
      have HHK := Lib.hid hkl
      have HHA := Lib.hid hal
      unfold towerV at hnext
      obtain ⟨u, hu⟩ : ∃ y, towerB a (lst k pre) = y := ⟨_, rfl⟩
      obtain ⟨o, ho⟩ : ∃ y, towerO (lst k pre) = y := ⟨_, rfl⟩
      obtain ⟨tn, htn⟩ : ∃ y, towerN (lst k pre) = y := ⟨_, rfl⟩
      obtain ⟨pa, hpa⟩ : ∃ pa, ((lst k pre).map (·.b)).map (fun b => (⟨b, 0, none⟩ : Addr)) = pa := ⟨_, rfl⟩
      have hpv : pv ((lst k pre).map (·.b)) = .pointer pa := by rw [← hpa]; rfl
      obtain ⟨pn, hpn⟩ : ∃ pn, (nx k post).map (fun b => (⟨b, 0, none⟩ : Addr)) = pn := ⟨_, rfl⟩
      have hpvn : pv (nx k post) = .pointer pn := by rw [← hpn]; rfl
      rw [hu, ho, htn, hpv] at hnext
      rw [hu, ho, hpvn] at zs HHM HHK HHA
      rw [hu, ho] at fs
      rw [htn] at hsn
      rw [hpv] at zx
      rw [hu] at hne
      have hpb : pv (some n.b) = .pointer (some ⟨n.b, 0, none⟩) := rfl
      rw [hpb] at HHM HHK HHA
      have HNX := Lib.hid hnext
      have k0 : (0 : Int) ≤ (k : Int) := by omega
      have k1 : (k : Int) < (tn : Int) := by omega
      have k2 : (k : Int) < (n.c : Int) := by omega
      have k8 : (k : Int) < 8 := by omega
      obtain ⟨tv, htv⟩ : ∃ y, tc[k]'(by omega) = y := ⟨_, rfl⟩
      rw [htv] at zt
      clear hm hkp ha hsd hsu hnode ht1 ht2 ht2' hux htx hnext hml hkl hal hmt hu ho htn hpa hpv hpn hpvn htv HM HK HA hk8 hpb
      go_wp2_with fail
      refine HNX.out.mono ?_
      rintro e w' ⟨rfl, rfl⟩
      clear HNX
      go_wp2_with fail
      go_region
      have M2 := Lib.hid (HHM.out.below ((Below.refl _ _).drew))
      have K2 := Lib.hid (HHK.out.trans (Keeps.of_below (S := []) ((Below.refl _ _).drew)) (by simp))
      have A2 := Lib.hid (((Below.refl _ _).drew).block x (Nat.lt_of_lt_of_le (by have := HXX.out; exact (Array.getElem?_eq_some_iff.1 HHA.out).1) (Nat.le_refl _)) |>.trans HHA.out)
      clear HHM HHK HHA zn ft fs zs zt zx
      generalize World.drew _ = w9 at M2 K2 A2 ⊢
      go_wp2
      go_roundw
      case rel => exact ⟨k + 1, by omega, by go_num, M2.out, K2.out, A2.out⟩
      case measure => simp [intOf]; omega
    · have hkn : k = n.c := by omega
      subst hkn
      go_wp2
      go_end0
      exact ⟨⟨_, rfl⟩, HM.out, HK.out⟩
end Go.Proofs.Ytgnlhnfjanoahaa
