/- Texts joined by bundle.py: YSSv, YSSx, YSNw, YSPt, YSPu, YSPw. -/
import Derived.Test.YtjkofciohehgfaaGreatDoorZbi
import Derived.StillTailTactics

/- link: on each floor of its tower a node comes next to the one that stands ahead of it. -/
namespace Go.Proofs.YtjkofciohehgfaaGreatDoor.L6
open Go.RowKit
open SK

/-- what a call leaves: all blocks that were there but some -/
structure Keeps (S : List Nat) (w w' : World) : Prop where
  os : w'.os = w.os
  tape : w'.tape = w.tape
  output : w'.output = w.output
  size : w.heap.size ≤ w'.heap.size
  block : ∀ k, k < w.heap.size → k ∉ S → w'.heap[k]? = w.heap[k]?

theorem Keeps.of_below {S : List Nat} {w w' : World} (h : Below w.heap.size w w') : Keeps S w w' := ⟨h.os, h.tape, h.output, h.size, fun k hk _ => h.block k hk⟩
theorem Keeps.trans {S S' : List Nat} {w w1 w2 : World} (h : Keeps S w w1) (k : Keeps S' w1 w2) (hs : ∀ x ∈ S', x < w.heap.size → x ∈ S) : Keeps S w w2 :=
  ⟨k.os.trans h.os, k.tape.trans h.tape, k.output.trans h.output, Nat.le_trans h.size k.size, fun x hx hn => (k.block x (Nat.lt_of_lt_of_le hx h.size) (fun hm => hn (hs x hm hx))).trans (h.block x hx hn)⟩
theorem Keeps.set {S : List Nat} {w w1 : World} (h : Keeps S w w1) (b j : Nat) (v : Value) (hb : b ∈ S ∨ w.heap.size ≤ b) : Keeps S w (w1.setCell ⟨b, j, none⟩ v) :=
  ⟨h.os, h.tape, h.output, by rw [setCell_size]; exact h.size, fun x hx hn => (Below.heap_setCell _ _ _ _ (by
    rcases hb with hb | hb
    · exact fun e => hn (e ▸ hb)
    · show x ≠ b
      omega)).trans (h.block x hx hn)⟩
theorem Keeps.below {S : List Nat} {w w' : World} {B : Nat} (h : Keeps S w w') (hB : B ≤ w.heap.size) (hS : ∀ x ∈ S, B ≤ x) : Below B w w' :=
  ⟨h.os, h.tape, h.output, h.size, fun k hk => h.block k (Nat.lt_of_lt_of_le hk hB) (fun hm => by have := hS k hm; omega)⟩
/-- a list while a node is being linked -/
structure Mid (B : Nat) (w : World) (a hb : Nat) (cs : List Int) (l : List ND) (c : Nat) (z : Int) : Prop where
  head : w.heap[a]? = some (.cells (hcells hb cs.length (fun f => nx f l) c z) 92 (0, 0))
  coins : ∃ hc, w.heap[hb]? = some (.cells hc 5 (0, 0)) ∧ hc.size = cs.length ∧ ∀ j, (h : j < cs.length) → hc[j]? = some (.int .u8 (coin cs[j]))
  chain : Chain w l
  nodup : (a :: hb :: blks l).Nodup
  lo : ∀ x ∈ a :: hb :: blks l, B ≤ x ∧ x < w.heap.size

theorem Mid.same {B : Nat} {w : World} {a hb : Nat} {cs : List Int} {l : List ND} {c : Nat} {z : Int} (h : Mid B w a hb cs l c z) {w' : World} (hs : ∀ x ∈ a :: hb :: blks l, w'.heap[x]? = w.heap[x]?) (hz : w.heap.size ≤ w'.heap.size) : Mid B w' a hb cs l c z := by
  obtain ⟨hc, h1, h2, h3⟩ := h.coins
  exact ⟨(hs a (by simp)).trans h.head, ⟨hc, (hs hb (by simp)).trans h1, h2, h3⟩, h.chain.stays fun x hx => hs x (by simp [hx]), h.nodup, fun x hx => ⟨(h.lo x hx).1, Nat.lt_of_lt_of_le (h.lo x hx).2 hz⟩⟩
theorem Mid.below {B : Nat} {w : World} {a hb : Nat} {cs : List Int} {l : List ND} {c : Nat} {z : Int} (h : Mid B w a hb cs l c z) {w' : World} (hb' : Below w.heap.size w w') : Mid B w' a hb cs l c z :=
  h.same (fun x hx => hb'.block x (h.lo x hx).2) hb'.size
theorem Rep.mid {B : Nat} {w : World} {a hb : Nat} {cs : List Int} {l : List ND} {s : St} (h : Rep B w a hb cs l s) : Mid B w a hb cs l s.l.length s.size := ⟨h.head, h.coins, h.chain, h.nodup, h.lo⟩

theorem hcells_set (hb n : Nat) (g : Nat → Option Nat) (c : Nat) (z : Int) (k : Nat) (hk : k < 8) (v : Option Nat) : (hcells hb n g c z).setIfInBounds (1 + k) (pv v) = hcells hb n (fun f => if f = k then v else g f) c z := by
  match k, hk with
  | 0, _ => rfl
  | 1, _ => rfl
  | 2, _ => rfl
  | 3, _ => rfl
  | 4, _ => rfl
  | 5, _ => rfl
  | 6, _ => rfl
  | 7, _ => rfl

theorem blks_h (p r : List ND) (n : ND) (k : Nat) : blks (p ++ { n with h := k } :: r) = blks (p ++ n :: r) := by simp [blks]

/-- the tower that is written, and what it holds -/
theorem Mid.slot {B : Nat} {w : World} {a hb : Nat} {cs : List Int} {pre post : List ND} {n : ND} {c : Nat} {z : Int} {k : Nat} (h : Mid B w a hb cs (pre ++ n :: post) c z) (hk : n.h = k) (hk8 : k < 8) :
    w.cell? ⟨towerB a (lst k pre), towerO (lst k pre) + k, none⟩ = some (pv (nx k post)) ∧ k < towerN (lst k pre) ∧ w.frozen? ⟨towerB a (lst k pre), towerO (lst k pre) + k, none⟩ = false ∧
      towerB a (lst k pre) ∈ a :: blks pre ∧ (∀ d, lst k pre = some d → w.heap[d.b]? = some (.cells (ncells d) 100 (0, 0))) := by
  have hn0 : nx k (n :: post) = nx k post := by rw [nx, if_neg (by omega)]
  rcases lst_cases k pre with ⟨h0, hall⟩ | ⟨p, d, q, hp, h0, hd, hq⟩
  · rw [h0]
    refine ⟨?_, hk8, frozen_of_row _ _ _ _ _ h.head, by simp [towerB], fun d hd => by cases hd⟩
    show w.cell? ⟨a, 1 + k, none⟩ = _
    rw [cell_of_row _ _ _ _ _ _ h.head, hcells_floor _ _ _ _ _ k hk8, nx_app_none hall, hn0]
  · rw [h0]
    have hc := h.chain
    rw [hp, List.append_assoc, List.cons_append] at hc
    have hN := Chain.at_ hc
    obtain ⟨cs', h1, h2, h3⟩ := hN.tower
    have hle := hN.le
    refine ⟨?_, by simp only [towerN]; omega, frozen_of_row _ _ _ _ _ h1, by simp [towerB, hp, blks], fun d' hd' => by cases hd'; exact hN.node⟩
    simp only [towerB, towerO, Nat.zero_add]
    rw [cell_of_row _ _ _ _ _ _ h1, h3 k hd, nx_app_none hq, hn0]

theorem Mid.link {B : Nat} {w : World} {a hb : Nat} {cs : List Int} {pre post : List ND} {n : ND} {c : Nat} {z : Int} {k : Nat} (h : Mid B w a hb cs (pre ++ n :: post) c z) (hk : n.h = k) (hkc : k < n.c) (hk8 : k < 8) :
    Mid B ((w.setCell ⟨n.t, k, none⟩ (pv (nx k post))).setCell ⟨towerB a (lst k pre), towerO (lst k pre) + k, none⟩ (pv (some n.b))) a hb cs (pre ++ { n with h := k + 1 } :: post) c z := by
  have hnd := h.nodup
  simp only [List.nodup_cons, List.mem_cons, not_or] at hnd
  obtain ⟨⟨hahb, hal⟩, hhl, hndl⟩ := hnd
  have hnt : n.t ∈ blks (pre ++ n :: post) := by rw [blks_app, blks_cons]; simp
  have hnta : n.t ≠ a := fun e => hal (e ▸ hnt)
  have hnth : n.t ≠ hb := fun e => hhl (e ▸ hnt)
  have hu : towerB a (lst k pre) ∈ a :: blks pre := (h.slot hk hk8).2.2.2.1
  have huh : towerB a (lst k pre) ≠ hb := fun e => by
    rw [e] at hu
    rcases List.mem_cons.1 hu with hu | hu
    · exact hahb hu.symm
    · exact hhl (by rw [blks_app]; exact List.mem_append_left _ hu)
  have hun : towerB a (lst k pre) ≠ n.t := fun e => by
    rw [e] at hu
    rcases List.mem_cons.1 hu with hu | hu
    · exact hnta hu
    · rw [blks_app, blks_cons] at hndl
      exact (List.nodup_append.1 hndl).2.2 _ hu _ (by simp) rfl
  obtain ⟨hc, h1, h2, h3⟩ := h.coins
  refine ⟨?_, ⟨hc, ((Below.heap_setCell _ _ _ _ (Ne.symm huh)).trans (Below.heap_setCell _ _ _ _ (Ne.symm hnth))).trans h1, h2, h3⟩, ?_, by rw [blks_h]; exact h.nodup, fun x hx => by
    rw [blks_h] at hx
    rw [setCell_size, setCell_size]
    exact h.lo x hx⟩
  · rcases lst_cases k pre with ⟨h0, hall⟩ | ⟨p, d, q, hp, h0, hd, hq⟩
    · rw [h0]
      simp only [towerB, towerO]
      have hh : (w.setCell ⟨n.t, k, none⟩ (pv (nx k post))).heap[a]? = some (.cells (hcells hb cs.length (fun f => nx f (pre ++ n :: post)) c z) 92 (0, 0)) := (Below.heap_setCell _ _ _ _ (Ne.symm hnta)).trans h.head
      rw [heap_set_fr hh, hcells_set _ _ _ _ _ k hk8]
      congr 3
      funext f
      rw [nx_link hk]
      simp [h0]
    · rw [h0]
      simp only [towerB, towerO]
      rw [Below.heap_setCell _ _ _ _ (by
        have : d.t ∈ blks (pre ++ n :: post) := by rw [hp]; simp [blks]
        exact fun e => hal (by have e' : a = d.t := e; rw [e']; exact this)), Below.heap_setCell _ _ _ _ (Ne.symm hnta), h.head]
      congr 3
      funext f
      rw [nx_link hk]
      simp [h0]
  · refine Chain.link hk hkc h.chain hndl _ ?_ hun ?_ _ ?_
    · cases hl : lst k pre <;> rfl
    · intro h0
      rw [h0]
      exact hal
    · intro h0
      cases hl : lst k pre with
      | none => exact absurd hl h0
      | some d => simp [towerO]
end Go.Proofs.YtjkofciohehgfaaGreatDoor.L6


/- The walk of link. -/
namespace Go.Proofs.YtjkofciohehgfaaGreatDoor.L6
open Go.RowKit
open SK

set_option maxRecDepth 100000 in
set_option maxHeartbeats 4000000 in
theorem link_any {B : Nat} {w : World} {a hb : Nat} {cs : List Int} {pre post : List ND} {n : ND} {c : Nat} {z : Int} (h : Mid B w a hb cs (pre ++ n :: post) c z) (hn : n.h = 0) (hc8 : n.c ≤ 8) :
    Calls Tryz.prog 58 #[.pointer (some ⟨a, 0, none⟩), .pointer (some ⟨n.b, 0, none⟩), aheadV pre] w fun e w' => (∃ v, e = .returned v) ∧ Mid B w' a hb cs (pre ++ { n with h := n.c } :: post) c z ∧ Keeps (a :: hb :: blks (pre ++ n :: post)) w w' := by
  have harr : (w.alloc (.cells (arr8 fun f => pv ((lst f pre).map (·.b))) 90)).heap[w.heap.size]? = some (.cells (arr8 fun f => pv ((lst f pre).map (·.b))) 90 (0, 0)) := heap_alloc_new w _
  have hmid : Mid B (w.alloc (.cells (arr8 fun f => pv ((lst f pre).map (·.b))) 90)) a hb cs (pre ++ n :: post) c z := h.below ((Below.refl _ w).alloc (Nat.le_refl _) _)
  have hkeep : Keeps (a :: hb :: blks (pre ++ n :: post)) w (w.alloc (.cells (arr8 fun f => pv ((lst f pre).map (·.b))) 90)) := Keeps.of_below ((Below.refl _ w).alloc (Nat.le_refl _) _)
  have hnlo := h.lo
  have HX : Hid (∀ x ∈ a :: hb :: blks (pre ++ n :: post), x < w.heap.size) := fun x hx => (h.lo x hx).2
  clear h hnlo
  have hn0 : ({ n with h := 0 } : ND) = n := by cases n; simp only at hn; subst hn; rfl
  have hmid0 : Mid B (w.alloc (.cells (arr8 fun f => pv ((lst f pre).map (·.b))) 90)) a hb cs (pre ++ { n with h := 0 } :: post) c z := by rw [hn0]; exact hmid
  have hnode : (w.alloc (.cells (arr8 fun f => pv ((lst f pre).map (·.b))) 90)).heap[n.b]? = some (.cells (ncells n) 100 (0, 0)) := (Chain.at_ hmid.chain).node
  obtain ⟨x, hx⟩ : ∃ x, w.heap.size = x := ⟨_, rfl⟩
  rw [hx] at harr HX
  have zn : (w.alloc (.cells (arr8 fun f => pv ((lst f pre).map (·.b))) 90)).cell? ⟨n.b, 5, none⟩ = some (.slice (some ⟨n.t, 0, none⟩) n.c n.c) := cell_of_row _ _ _ _ _ _ hnode
  unfold aheadV
  unfold arr8 at harr hmid0 hkeep zn ⊢
  dsimp only at harr hmid0 hkeep zn ⊢
  have HARR := Lib.hid harr
  have HMID := Lib.hid hmid0
  have HKEEP := Lib.hid hkeep
  have HC8 := Lib.hid hc8
  clear harr hmid hmid0 hkeep hnode hn0 hn hc8
  go_enter Tryz.func58, Tryz.ntmps58
  go_wp2_with fail
  generalize w.alloc (.cells #[pv ((lst 0 pre).map (·.b)), pv ((lst 1 pre).map (·.b)), pv ((lst 2 pre).map (·.b)), pv ((lst 3 pre).map (·.b)), pv ((lst 4 pre).map (·.b)), pv ((lst 5 pre).map (·.b)), pv ((lst 6 pre).map (·.b)), pv ((lst 7 pre).map (·.b))] 90) = W1 at HARR HMID HKEEP zn ⊢
  have HXX := Lib.hid hx
  clear hx
  go_loopw [13] (fun i wr => ∃ k : Nat, k ≤ n.c ∧ i = .int .i64 k ∧ Mid B wr a hb cs (pre ++ { n with h := k } :: post) c z ∧ Keeps (a :: hb :: blks (pre ++ n :: post)) w wr ∧ wr.heap[x]? = some (.cells (arr8 fun f => pv ((lst f pre).map (·.b))) 90 (0, 0))) (fun i _ => n.c - (intOf i).toNat)
  case atStart => exact ⟨0, by omega, rfl, HMID.out, HKEEP.out, HARR.out⟩
  case round =>
    obtain ⟨k, hk, rfl, hm, hkp, ha⟩ := hrel
    have HM := Lib.hid hm
    have HK := Lib.hid hkp
    have HA := Lib.hid ha
    clear zn HMID HKEEP HARR
    by_cases hlt : k < n.c
    · have hk8 : k < 8 := by have := HC8.out; omega
      obtain ⟨zs, hsn, fs, hsu, hsd⟩ := hm.slot (k := k) rfl hk8
      have hnode := (Chain.at_ hm.chain).node
      have zn : wr.cell? ⟨n.b, 5, none⟩ = some (.slice (some ⟨n.t, 0, none⟩) n.c n.c) := cell_of_row _ _ _ _ _ _ hnode
      obtain ⟨tc, ht1, ht2, -⟩ := (Chain.at_ hm.chain).tower
      have hux : towerB a (lst k pre) < x := HX.out _ (by
        rcases List.mem_cons.1 hsu with h | h
        · rw [h]; simp
        · rw [blks_app]; simp [h])
      have htx : n.t < x := HX.out _ (by rw [blks_app, blks_cons]; simp)
      have hnext := next_any a (lst k pre) wr hsd
      have hml := hm.link rfl hlt hk8
      have hkl : Keeps (a :: hb :: blks (pre ++ n :: post)) w ((wr.setCell ⟨n.t, k, none⟩ (pv (nx k post))).setCell ⟨towerB a (lst k pre), towerO (lst k pre) + k, none⟩ (pv (some n.b))) :=
        (hkp.set n.t k _ (.inl (by rw [blks_app, blks_cons]; simp))).set _ _ _ (.inl (by
          rcases List.mem_cons.1 hsu with h | h
          · rw [h]; simp
          · rw [blks_app]; simp [h]))
      have hal : ((wr.setCell ⟨n.t, k, none⟩ (pv (nx k post))).setCell ⟨towerB a (lst k pre), towerO (lst k pre) + k, none⟩ (pv (some n.b))).heap[x]? = some (.cells (arr8 fun f => pv ((lst f pre).map (·.b))) 90 (0, 0)) :=
        ((Below.heap_setCell _ _ _ _ (Ne.symm (Nat.ne_of_lt hux))).trans (Below.heap_setCell _ _ _ _ (Ne.symm (Nat.ne_of_lt htx)))).trans ha
      have zx : wr.cell? ⟨x, k, none⟩ = some (pv ((lst k pre).map (·.b))) := by rw [cell_of_row _ _ _ _ _ _ ha, arr8_at _ _ hk8]
      have ht2' : tc.size = n.c := ht2
      have zt : wr.cell? ⟨n.t, k, none⟩ = some (tc[k]'(by omega)) := by
        rw [cell_of_row _ _ _ _ _ _ ht1]
        exact Array.getElem?_eq_getElem _
      have ft : wr.frozen? ⟨n.t, k, none⟩ = false := frozen_of_row _ _ _ _ _ ht1
      have hne : n.t ≠ towerB a (lst k pre) := fun e => by
        have hnd := hm.nodup
        rw [blks_h] at hnd
        simp only [List.nodup_cons, List.mem_cons, not_or] at hnd
        rcases List.mem_cons.1 hsu with h | h
        · exact hnd.1.2 (by rw [← h, ← e, blks_app, blks_cons]; simp)
        · rw [blks_app, blks_cons] at hnd
          exact (List.nodup_append.1 hnd.2.2).2.2 _ h _ (by rw [← e]; simp) rfl
      have hmt : wr.frozen? ⟨towerB a (lst k pre), towerO (lst k pre) + k, none⟩ = false := fs
      have HHM := Lib.hid hml
      have HHK := Lib.hid hkl
      have HHA := Lib.hid hal
      unfold towerV at hnext
      obtain ⟨u, hu⟩ : ∃ y, towerB a (lst k pre) = y := ⟨_, rfl⟩
      obtain ⟨o, ho⟩ : ∃ y, towerO (lst k pre) = y := ⟨_, rfl⟩
      obtain ⟨tn, htn⟩ : ∃ y, towerN (lst k pre) = y := ⟨_, rfl⟩
      obtain ⟨pa, hpa⟩ : ∃ pa, ((lst k pre).map (·.b)).map (fun b => (⟨b, 0, none⟩ : Addr)) = pa := ⟨_, rfl⟩
      have hpv : pv ((lst k pre).map (·.b)) = .pointer pa := by rw [← hpa]; rfl
      obtain ⟨pn, hpn⟩ : ∃ pn, (nx k post).map (fun b => (⟨b, 0, none⟩ : Addr)) = pn := ⟨_, rfl⟩
      have hpvn : pv (nx k post) = .pointer pn := by rw [← hpn]; rfl
      rw [hu, ho, htn, hpv] at hnext
      rw [hu, ho, hpvn] at zs HHM HHK HHA
      rw [hu, ho] at fs
      rw [htn] at hsn
      rw [hpv] at zx
      rw [hu] at hne
      have hpb : pv (some n.b) = .pointer (some ⟨n.b, 0, none⟩) := rfl
      rw [hpb] at HHM HHK HHA
      have HNX := Lib.hid hnext
      have k0 : (0 : Int) ≤ (k : Int) := by omega
      have k1 : (k : Int) < (tn : Int) := by omega
      have k2 : (k : Int) < (n.c : Int) := by omega
      have k8 : (k : Int) < 8 := by omega
      obtain ⟨tv, htv⟩ : ∃ y, tc[k]'(by omega) = y := ⟨_, rfl⟩
      rw [htv] at zt
      clear hm hkp ha hsd hsu hnode ht1 ht2 ht2' hux htx hnext hml hkl hal hmt hu ho htn hpa hpv hpn hpvn htv HM HK HA hk8 hpb
      go_wp2_with fail
      refine HNX.out.mono ?_
      rintro e w' ⟨rfl, rfl⟩
      clear HNX
      go_wp2_with fail
      go_region
      have M2 := Lib.hid (HHM.out.below ((Below.refl _ _).drew))
      have K2 := Lib.hid (HHK.out.trans (Keeps.of_below (S := []) ((Below.refl _ _).drew)) (by simp))
      have A2 := Lib.hid (((Below.refl _ _).drew).block x (Nat.lt_of_lt_of_le (by have := HXX.out; exact (Array.getElem?_eq_some_iff.1 HHA.out).1) (Nat.le_refl _)) |>.trans HHA.out)
      clear HHM HHK HHA zn ft fs zs zt zx
      generalize World.drew _ = w9 at M2 K2 A2 ⊢
      go_wp2
      go_roundw
      case rel => exact ⟨k + 1, by omega, by go_num, M2.out, K2.out, A2.out⟩
      case measure => simp [intOf]; omega
    · have hkn : k = n.c := by omega
      subst hkn
      go_wp2
      go_end0
      exact ⟨⟨_, rfl⟩, HM.out, HK.out⟩
end Go.Proofs.YtjkofciohehgfaaGreatDoor.L6


/- New: an empty list whose towers are as high as coins say. -/
namespace Go.Proofs.YtjkofciohehgfaaGreatDoor.L6
open Go.RowKit
open SK

/-- coins that come in: nil and empty ones too -/
structure CoinsIn (w : World) (A : Option Addr) (cs : List Int) : Prop where
  fits : ∀ c ∈ cs, -9223372036854775808 ≤ c ∧ c ≤ 9223372036854775807
  at_ : 0 < cs.length → ∃ b off, A = some ⟨b, off, none⟩ ∧ b < w.heap.size ∧ ∀ j, (h : j < cs.length) → w.cell? ⟨b, off + j, none⟩ = some (.int .i64 cs[j])

theorem CoinsIn.below {w w' : World} {A : Option Addr} {cs : List Int} (h : CoinsIn w A cs) (hb : Below w.heap.size w w') : CoinsIn w' A cs :=
  ⟨h.fits, fun hn => by
    obtain ⟨b, off, hA, hlt, hc⟩ := h.at_ hn
    exact ⟨b, off, hA, Nat.lt_of_lt_of_le hlt hb.size, fun j hj => (hb.cell (p := ⟨b, off + j, none⟩) hlt).trans (hc j hj)⟩⟩

structure NewRel (w : World) (cs : List Int) (k : Nat) (wr : World) : Prop where
  below : Below w.heap.size w wr
  size : w.heap.size + 2 ≤ wr.heap.size
  head : wr.heap[w.heap.size + 1]? = some (.cells (hcells w.heap.size cs.length (fun _ => none) 0 0) 92 (0, 0))
  row : ∃ hc, wr.heap[w.heap.size]? = some (.cells hc 5 (0, 0)) ∧ hc.size = cs.length ∧ ∀ j, (h : j < cs.length) → j < k → hc[j]? = some (.int .u8 (coin cs[j]))

theorem NewRel.step {w : World} {cs : List Int} {k : Nat} {wr : World} (h : NewRel w cs k wr) (hk : k < cs.length) : NewRel w cs (k + 1) (wr.setCell ⟨w.heap.size, k, none⟩ (.int .u8 (coin cs[k]))) := by
  obtain ⟨hc, h1, h2, h3⟩ := h.row
  refine ⟨h.below.setCell (p := ⟨w.heap.size, k, none⟩) (Nat.le_refl _) _, by rw [setCell_size]; exact h.size, (Below.heap_setCell _ _ _ _ (by show w.heap.size + 1 ≠ w.heap.size; omega)).trans h.head, hc.setIfInBounds k (.int .u8 (coin cs[k])), heap_set_fr h1 k _, by simpa using h2, fun j hj hjk => ?_⟩
  rw [Array.getElem?_setIfInBounds]
  by_cases e : k = j
  · subst e
    rw [if_pos rfl, if_pos (by omega)]
  · rw [if_neg e]
    exact h3 j hj (by omega)

theorem NewRel.drew {w : World} {cs : List Int} {k : Nat} {wr : World} (h : NewRel w cs k wr) : NewRel w cs k wr.drew := ⟨h.below.drew, h.size, h.head, h.row⟩

set_option maxRecDepth 100000 in
set_option maxHeartbeats 1000000 in
theorem new_any (A : Option Addr) (n c : Nat) (cs : List Int) (w : World) (hn : cs.length = n) (hin : CoinsIn w A cs) (hmax : n ≤ 140737488351232) :
    Calls Tryz.prog 15 #[.slice A n c] w fun e w' => e = .returned (.pointer (some ⟨w.heap.size + 1, 0, none⟩)) ∧ Rep w.heap.size w' (w.heap.size + 1) w.heap.size cs [] St.new ∧ Below w.heap.size w w' ∧ w.heap.size + 2 ≤ w'.heap.size := by
  have hmk := make_bytes w n (by omega)
  have hz : (byteWorld w n).heap.size = w.heap.size + 1 := by simp [byteWorld]
  have HIN := Lib.hid hin
  have HN := Lib.hid hn
  have HS : Hid (NewRel w cs 0 ((byteWorld w n).alloc (.cells (hcells w.heap.size n (fun _ => none) 0 0) 92))) := Lib.hid (by
    have hb : Below w.heap.size w (byteWorld w n) := (Below.refl _ w).alloc (Nat.le_refl _) _
    refine ⟨hb.alloc (by omega) _, by simp [hz], ?_, madeCells #[.int .u8 0] n, ?_, by rw [size_madeCells, hn]; try simp, fun j _ h => by omega⟩
    · have := heap_alloc_new (byteWorld w n) (.cells (hcells w.heap.size n (fun _ => none) 0 0) 92)
      rw [hz] at this
      rw [hn]
      exact this
    · rw [Below.heap_alloc _ _ _ (by omega)]
      exact byteWorld_row w n)
  unfold hcells at HS
  simp only [pv, Option.map_none, Int.natCast_zero] at HS
  have HZ := Lib.hid hz
  clear hin hn hz
  go_enter Tryz.func15, Tryz.ntmps15
  go_wp2_with fail
  rw [HZ.out]
  generalize (byteWorld w n).alloc (.cells #[.slice (some ⟨w.heap.size, 0, none⟩) n n, .pointer none, .pointer none, .pointer none, .pointer none, .pointer none, .pointer none, .pointer none, .pointer none, .int .i64 0, .int .i64 0] 92) = W1 at HS ⊢
  clear hmk
  go_loopw [13] (fun i wr => ∃ k : Nat, k ≤ n ∧ i = .int .i64 k ∧ NewRel w cs k wr) (fun i _ => n - (intOf i).toNat)
  case atStart => exact ⟨0, by omega, rfl, HS.out⟩
  case round =>
    obtain ⟨k, hk, rfl, hr⟩ := hrel
    have HR := Lib.hid hr
    by_cases hlt : k < n
    · have hkl : k < cs.length := by rw [HN.out]; exact hlt
      obtain ⟨b, off, hA, hbl, hc⟩ := HIN.out.at_ (by omega)
      have zc : wr.cell? ⟨b, off + k, none⟩ = some (.int .i64 cs[k]) := (hr.below.cell (p := ⟨b, off + k, none⟩) hbl).trans (hc k hkl)
      have z0 : wr.cell? ⟨w.heap.size + 1, 0, none⟩ = some (.slice (some ⟨w.heap.size, 0, none⟩) n n) := by
        rw [← HN.out]
        exact cell_of_row _ _ _ _ _ _ hr.head
      obtain ⟨hc', h1, h2, -⟩ := hr.row
      have zt : wr.cell? ⟨w.heap.size, k, none⟩ = some (hc'[k]'(by omega)) := by
        rw [cell_of_row _ _ _ _ _ _ h1]
        exact Array.getElem?_eq_getElem _
      have ft : wr.frozen? ⟨w.heap.size, k, none⟩ = false := frozen_of_row _ _ _ _ _ h1
      have hst := hr.step hkl
      have hfit := HIN.out.fits _ (List.getElem_mem hkl)
      obtain ⟨tv, htv⟩ : ∃ y, hc'[k]'(by omega) = y := ⟨_, rfl⟩
      obtain ⟨cc, hcc⟩ : ∃ y, cs[k] = y := ⟨_, rfl⟩
      rw [htv] at zt
      rw [hcc] at zc hst hfit
      have hcr := coin_range cc
      have HH : Hid (∀ W, Calls Tryz.prog 48 #[.int .i64 cc] W fun e w' => e = .returned (.int .i64 (coin cc)) ∧ W = w') := fun W => height_any cc W hfit
      obtain ⟨cv, hcv⟩ : ∃ y, coin cc = y := ⟨_, rfl⟩
      rw [hcv] at hst hcr HH
      have hwr : IntKind.u8.wrap cv = cv := by simp [IntKind.wrap, IntKind.signed, IntKind.bits]; omega
      have HST := Lib.hid hst
      have k0 : (0 : Int) ≤ (k : Int) := by omega
      have k1 : (k : Int) < (n : Int) := by omega
      subst hA
      clear hr hc h1 h2 htv hcc hcv hst hfit
      go_wp2_with fail
      go_region_with (
        go_at_call 48
        refine (HH.out _).mono ?_
        rintro e w' ⟨rfl, rfl⟩)
      all_goals
        have HD := Lib.hid HST.out.drew
        clear HST z0 zt ft zc HH
        generalize World.drew _ = w9 at HD ⊢
        go_wp2
        go_roundw
        case rel => exact ⟨k + 1, by omega, by go_num, HD.out⟩
        case measure => simp [intOf]; omega
    · have hkn : k = n := by omega
      subst hkn
      have HRP : Hid (Rep w.heap.size wr (w.heap.size + 1) w.heap.size cs [] St.new) := Lib.hid (by
        obtain ⟨hc', h1, h2, h3⟩ := hr.row
        refine ⟨hr.head, ⟨hc', h1, h2, fun j hj => h3 j hj (by rw [← HN.out]; exact hj)⟩, trivial, rfl, by simp, by simp [blks], fun y hy => ?_⟩
        have := hr.size
        simp [blks] at hy
        omega)
      clear hr
      go_wp2
      go_ret
      exact ⟨rfl, HRP.out, HR.out.below, HR.out.size⟩
end Go.Proofs.YtjkofciohehgfaaGreatDoor.L6


/- What Put does to a list in memory. No walk. -/
namespace Go.Proofs.YtjkofciohehgfaaGreatDoor.L6
open Go.RowKit
open SK

theorem Rep.split {B : Nat} {w : World} {a hb : Nat} {cs : List Int} {l : List ND} {s : St} (h : Rep B w a hb cs l s) (ok : Sorted s.l) (e : E) :
    ∃ pre post, l = pre ++ post ∧ (∀ d ∈ pre, less d.e e = true) ∧ (∀ d ∈ post, less d.e e = false) ∧ pre.map (·.e) = front e s.l ∧ post.map (·.e) = rest e s.l := by
  have h1 : l.map (·.e) = front e s.l ++ rest e s.l := by rw [front_rest]; exact h.ents
  obtain ⟨l1, l2, hl, h2, h3⟩ := List.map_eq_append_iff.1 h1
  refine ⟨l1, l2, hl, fun d hd => front_less (e := e) (l := s.l) d.e (by rw [← h2]; exact List.mem_map_of_mem hd), fun d hd => rest_not ok d.e (by rw [← h3]; exact List.mem_map_of_mem hd), h2, h3⟩

theorem Mid.cells {B : Nat} {w : World} {a hb : Nat} {cs : List Int} {l : List ND} {c : Nat} {z : Int} (h : Mid B w a hb cs l c z) (j : Nat) : w.cell? ⟨a, j, none⟩ = (hcells hb cs.length (fun f => nx f l) c z)[j]? := cell_of_row _ _ _ _ _ _ h.head
theorem Mid.frozen {B : Nat} {w : World} {a hb : Nat} {cs : List Int} {l : List ND} {c : Nat} {z : Int} (h : Mid B w a hb cs l c z) (j : Nat) : w.frozen? ⟨a, j, none⟩ = false := frozen_of_row _ _ _ _ _ h.head

theorem Mid.setHead {B : Nat} {w : World} {a hb : Nat} {cs : List Int} {l : List ND} {c : Nat} {z : Int} (h : Mid B w a hb cs l c z) {c' : Nat} {z' : Int} {j : Nat} {v : Value}
    (hv : (hcells hb cs.length (fun f => nx f l) c z).setIfInBounds j v = hcells hb cs.length (fun f => nx f l) c' z') : Mid B (w.setCell ⟨a, j, none⟩ v) a hb cs l c' z' := by
  have hnd := h.nodup
  simp only [List.nodup_cons, List.mem_cons, not_or] at hnd
  obtain ⟨hc, h1, h2, h3⟩ := h.coins
  have hne : ∀ x, x ≠ a → (w.setCell ⟨a, j, none⟩ v).heap[x]? = w.heap[x]? := fun x e => Below.heap_setCell _ _ _ _ e
  refine ⟨by rw [heap_set_fr h.head, hv], ⟨hc, (hne hb (Ne.symm hnd.1.1)).trans h1, h2, h3⟩, h.chain.stays fun x hx => hne x (fun e => hnd.1.2 (e ▸ hx)), h.nodup, fun x hx => by rw [setCell_size]; exact h.lo x hx⟩
theorem Mid.setSize {B : Nat} {w : World} {a hb : Nat} {cs : List Int} {l : List ND} {c : Nat} {z : Int} (h : Mid B w a hb cs l c z) (z' : Int) : Mid B (w.setCell ⟨a, 10, none⟩ (.int .i64 z')) a hb cs l c z' := h.setHead rfl
theorem Mid.setCount {B : Nat} {w : World} {a hb : Nat} {cs : List Int} {l : List ND} {c : Nat} {z : Int} (h : Mid B w a hb cs l c z) (c' : Nat) : Mid B (w.setCell ⟨a, 9, none⟩ (.int .i64 c')) a hb cs l c' z := h.setHead rfl

/-- the world with a new node: its tower at block t, itself behind it -/
def nodeW (w : World) (e : E) (H : Nat) : World := (w.alloc (.cells (madeCells #[.pointer none] H) 89)).alloc (.cells #[.string e.key, .int .i64 e.seq, .bool e.gone, .string e.value, .int .i64 e.til, .slice (some ⟨w.heap.size, 0, none⟩) H H] 100)

theorem nodeW_below (w : World) (e : E) (H : Nat) : Below w.heap.size w (nodeW w e H) := ((Below.refl _ w).alloc (Nat.le_refl _) _).alloc (by simp) _
theorem nodeW_size (w : World) (e : E) (H : Nat) : (nodeW w e H).heap.size = w.heap.size + 2 := by simp [nodeW]

theorem Mid.fresh {B : Nat} {w : World} {a hb : Nat} {cs : List Int} {pre post : List ND} {c : Nat} {z : Int} (h : Mid B w a hb cs (pre ++ post) c z) (hB : B ≤ w.heap.size) (e : E) (H : Nat) :
    Mid B (nodeW w e H) a hb cs (pre ++ ⟨w.heap.size + 1, w.heap.size, 0, H, e⟩ :: post) c z := by
  have hm := h.below (nodeW_below w e H)
  have hN : NodeAt (nodeW w e H) ⟨w.heap.size + 1, w.heap.size, 0, H, e⟩ (fun _ => none) := by
    refine ⟨?_, Nat.zero_le _, madeCells #[.pointer none] H, ?_, by simp [size_madeCells], fun f hf => absurd hf (Nat.not_lt_zero _)⟩
    · have := heap_alloc_new (w.alloc (.cells (madeCells #[.pointer none] H) 89)) (.cells #[.string e.key, .int .i64 e.seq, .bool e.gone, .string e.value, .int .i64 e.til, .slice (some ⟨w.heap.size, 0, none⟩) H H] 100)
      simpa [nodeW, ncells] using this
    · show (nodeW w e H).heap[w.heap.size]? = _
      unfold nodeW
      rw [Below.heap_alloc _ _ _ (by simp)]
      exact heap_alloc_new w _
  have hnx : ∀ f (p q : List ND), nx f (p ++ ⟨w.heap.size + 1, w.heap.size, 0, H, e⟩ :: q) = nx f (p ++ q) := by
    intro f p q
    induction p with
    | nil => simp [nx]
    | cons x p ih => simp only [List.cons_append, nx, ih]
  refine ⟨?_, hm.coins, hm.chain.fresh rfl hN, ?_, fun x hx => ?_⟩
  · have := hm.head
    simp only [hnx]
    exact this
  · have hlt : ∀ x ∈ a :: hb :: blks (pre ++ post), x < w.heap.size := fun x hx => (h.lo x hx).2
    have hnd := h.nodup
    have hp : (a :: hb :: blks (pre ++ ⟨w.heap.size + 1, w.heap.size, 0, H, e⟩ :: post)).Perm ((w.heap.size + 1) :: w.heap.size :: a :: hb :: blks (pre ++ post)) := by
      rw [blks_app, blks_cons, blks_app]
      simp only
      refine (List.perm_append_comm_assoc (a :: hb :: blks pre) [w.heap.size + 1, w.heap.size] (blks post)).trans ?_
      exact List.Perm.refl _
    refine hp.nodup_iff.2 (List.nodup_cons.2 ⟨?_, List.nodup_cons.2 ⟨fun hx => by have := hlt _ hx; omega, hnd⟩⟩)
    intro hx
    rcases List.mem_cons.1 hx with h | hx
    · omega
    · have := hlt _ hx; omega
  · rw [nodeW_size]
    have hx' : x = w.heap.size + 1 ∨ x = w.heap.size ∨ x ∈ a :: hb :: blks (pre ++ post) := by
      rw [blks_app, blks_cons] at hx
      rw [blks_app]
      simp only [List.mem_cons, List.mem_append] at hx ⊢
      rcases hx with h | h | h | h | h | h
      · exact .inr (.inr (.inl h))
      · exact .inr (.inr (.inr (.inl h)))
      · exact .inr (.inr (.inr (.inr (.inl h))))
      · exact .inl h
      · exact .inr (.inl h)
      · exact .inr (.inr (.inr (.inr (.inr h))))
    rcases hx' with rfl | rfl | hx
    · omega
    · omega
    · have := h.lo x hx; omega

theorem make_tower (w : World) (n : Nat) (h : n ≤ 8) : (Instr.makeSlice 98 (.int .i64 (n : Int)) (.int .i64 (n : Int))).run Tryz.prog w = .ok (.slice (some ⟨w.heap.size, 0, none⟩) n n) (w.alloc (.cells (madeCells #[.pointer none] n) 89)) := by
  have hinf : (Tryz.prog.info? 89).map (fun i => (i.zero, i.size, i.bytes)) = some (some (.pointer none), 1, 8) := by kernel_rfl
  obtain ⟨i0, hi, hz0, hz1, hz2⟩ := info_parts hinf
  have h := run_make (P := Tryz.prog) w 98 89 i0 (.pointer none) Tryz.underlying98 hi hz0 .i64 .i64 (n : Int) (n : Int) (by omega) (Int.le_refl _) (by rw [hz2]; omega) (by omega)
  rw [Int.toNat_natCast] at h
  simpa [hz1, Value.cells] using h

/-- the entries behind a put -/
theorem put_rep {B : Nat} {w : World} {a hb : Nat} {cs : List Int} {pre post : List ND} {n : ND} {s : St} {z : Int} (h : Mid B w a hb cs (pre ++ n :: post) (s.l.length + 1) z) (hfull : ∀ d ∈ pre ++ post, d.h = d.c ∧ 1 ≤ d.h ∧ d.h ≤ 8)
    (hn : n.h = n.c ∧ 1 ≤ n.h ∧ n.h ≤ 8) (h1 : pre.map (·.e) = front n.e s.l) (h2 : post.map (·.e) = rest n.e s.l) : Rep B w a hb cs (pre ++ n :: post) ⟨front n.e s.l ++ n.e :: rest n.e s.l, z⟩ := by
  have hlen : (front n.e s.l ++ n.e :: rest n.e s.l).length = s.l.length + 1 := by
    have := congrArg List.length (front_rest n.e s.l)
    simp at *; omega
  refine ⟨by simp only [hlen]; exact h.head, h.coins, h.chain, by simp [h1, h2], fun d hd => ?_, h.nodup, h.lo⟩
  rcases List.mem_append.1 hd with hd | hd
  · exact hfull d (List.mem_append_left _ hd)
  · rcases List.mem_cons.1 hd with rfl | hd
    · exact hn
    · exact hfull d (List.mem_append_right _ hd)
end Go.Proofs.YtjkofciohehgfaaGreatDoor.L6


/- The walk of Put. -/
namespace Go.Proofs.YtjkofciohehgfaaGreatDoor.L6
open Go.RowKit
open SK

theorem put_bad (a : Nat) (e : E) (w : World) (he : e.wf) (hg : good e ≠ 0) : Calls Tryz.prog 17 #[.pointer (some ⟨a, 0, none⟩), e.val] w fun r w' => r = .returned (.int .i64 (good e)) ∧ Below w.heap.size w w' := by
  have HG : Hid (∀ W, Calls Tryz.prog 26 #[e.val] W fun r w' => r = .returned (.int .i64 (good e)) ∧ Below W.heap.size W w') := fun W => good_any e W he
  obtain ⟨G, hG⟩ : ∃ G, good e = G := ⟨_, rfl⟩
  rw [hG] at HG hg ⊢
  obtain ⟨k, q, g, v, t⟩ := e
  simp only [E.val] at HG ⊢
  clear hG he
  have hg2 : (G == 0) = false := beq_eq_false_iff_ne.2 hg
  go_enter Tryz.func17, Tryz.ntmps17
  go_wp2_with fail
  refine (HG.out _).mono ?_
  rintro r w1 ⟨rfl, hb⟩
  have HB : Hid (Below w.heap.size w w1) := Lib.hid (((Below.refl _ w).alloc (Nat.le_refl _) _).trans (hb.mono (by simp)))
  clear hb
  go_wp2
  go_ret
  exact ⟨rfl, HB.out⟩

set_option maxRecDepth 100000 in
set_option maxHeartbeats 4000000 in
theorem put_there {B : Nat} {w : World} {a hb : Nat} {cs : List Int} {l : List ND} {s : St} (h : Rep B w a hb cs l s) (e : E) (he : e.wf) (hg : good e = 0) (pre post : List ND) (hl : l = pre ++ post) (hpre : ∀ d ∈ pre, less d.e e = true) (hpost : ∀ d ∈ post, less d.e e = false) (d : ND) (r : List ND) (hpd : post = d :: r) (hle : less e d.e = false) :
    Calls Tryz.prog 17 #[.pointer (some ⟨a, 0, none⟩), e.val] w fun r w' => r = .returned (.int .i64 11) ∧ Below w.heap.size w w' := by
  have h1 : ∀ d ∈ l, 1 ≤ d.h := fun d hd => (h.full d hd).2.1
  have hlst : (lst 0 pre).map (·.b) = pre.getLast?.map (·.b) := by rw [lst0_last fun d hd => h1 d (by rw [hl]; simp [hd])]
  have hnx : nx 0 post = post.head?.map (·.b) := nx0_head fun d hd => h1 d (by rw [hl]; simp [hd])
  have HG : Hid (∀ W, Calls Tryz.prog 26 #[e.val] W fun r w' => r = .returned (.int .i64 0) ∧ Below W.heap.size W w') := fun W => by have := good_any e W he; rw [hg] at this; exact this
  have HA : Hid (∀ W, Below w.heap.size w W → Calls Tryz.prog 54 #[.pointer (some ⟨a, 0, none⟩), e.val] W fun r w' => r = .returned (aheadV pre) ∧ Below W.heap.size W w') := fun W hB => ahead_any (h.below hB) e pre post hl hpre hpost
  have HN : Hid (∀ W, Below w.heap.size w W → Calls Tryz.prog 55 #[.pointer (some ⟨a, 0, none⟩), pv (pre.getLast?.map (·.b))] W fun e w' => e = .returned (towerV a pre.getLast?) ∧ W = w') := fun W hB =>
    next_any a pre.getLast? W (fun d hd => (h.below hB).node (by rw [hl]; exact List.mem_append_left _ (List.mem_of_getLast? hd)))
  have HT : Hid (∀ W, Below w.heap.size w W → W.cell? ⟨towerB a pre.getLast?, towerO pre.getLast? + 0, none⟩ = some (pv (nx 0 post)) ∧ 0 < towerN pre.getLast?) := fun W hB => by
    obtain ⟨x, y, -⟩ := (h.below hB).tower pre post hl 0 (fun d hd => h1 d (by rw [hl]; exact List.mem_append_left _ (List.mem_of_getLast? hd))) (by omega)
    exact ⟨x, y⟩
  have HL : Hid (∀ W, Calls Tryz.prog 56 #[e.val, d.e.val] W fun r w' => r = .returned (.bool false) ∧ Below W.heap.size W w') := fun W => by have := less_any e d.e W; rw [hle] at this; exact this
  have HND : Hid (∀ W, Below w.heap.size w W → W.heap[d.b]? = some (.cells (ncells d) 100 (0, 0))) := fun W hB => (h.below hB).node (by rw [hl, hpd]; simp)
  have hhd : post.head?.map (·.b) = some d.b := by rw [hpd]; rfl
  rw [hhd] at hnx
  clear hhd
  obtain ⟨p0, hp0⟩ : ∃ p, ((lst 0 pre).map (fun d : ND => d.b)).map (fun b => (⟨b, 0, none⟩ : Addr)) = p := ⟨_, rfl⟩
  obtain ⟨p1, hp1⟩ : ∃ p, ((lst 1 pre).map (fun d : ND => d.b)).map (fun b => (⟨b, 0, none⟩ : Addr)) = p := ⟨_, rfl⟩
  obtain ⟨p2, hp2⟩ : ∃ p, ((lst 2 pre).map (fun d : ND => d.b)).map (fun b => (⟨b, 0, none⟩ : Addr)) = p := ⟨_, rfl⟩
  obtain ⟨p3, hp3⟩ : ∃ p, ((lst 3 pre).map (fun d : ND => d.b)).map (fun b => (⟨b, 0, none⟩ : Addr)) = p := ⟨_, rfl⟩
  obtain ⟨p4, hp4⟩ : ∃ p, ((lst 4 pre).map (fun d : ND => d.b)).map (fun b => (⟨b, 0, none⟩ : Addr)) = p := ⟨_, rfl⟩
  obtain ⟨p5, hp5⟩ : ∃ p, ((lst 5 pre).map (fun d : ND => d.b)).map (fun b => (⟨b, 0, none⟩ : Addr)) = p := ⟨_, rfl⟩
  obtain ⟨p6, hp6⟩ : ∃ p, ((lst 6 pre).map (fun d : ND => d.b)).map (fun b => (⟨b, 0, none⟩ : Addr)) = p := ⟨_, rfl⟩
  obtain ⟨p7, hp7⟩ : ∃ p, ((lst 7 pre).map (fun d : ND => d.b)).map (fun b => (⟨b, 0, none⟩ : Addr)) = p := ⟨_, rfl⟩
  have HV : Hid (aheadV pre = .agg #[.pointer p0, .pointer p1, .pointer p2, .pointer p3, .pointer p4, .pointer p5, .pointer p6, .pointer p7]) := Lib.hid (by
    unfold aheadV arr8 pv
    dsimp only
    rw [hp0, hp1, hp2, hp3, hp4, hp5, hp6, hp7])
  unfold towerV at HN
  obtain ⟨tb, htb⟩ : ∃ y, towerB a pre.getLast? = y := ⟨_, rfl⟩
  obtain ⟨to, hto⟩ : ∃ y, towerO pre.getLast? = y := ⟨_, rfl⟩
  obtain ⟨tn, htn⟩ : ∃ y, towerN pre.getLast? = y := ⟨_, rfl⟩
  have hpp0 : pv (pre.getLast?.map (·.b)) = .pointer p0 := by rw [← hp0, hlst]; rfl
  rw [htb, hto, htn, hpp0] at HN
  rw [htb, hto, htn, hnx] at HT
  rw [HV.out] at HA
  simp only [pv, Option.map_some] at HT
  obtain ⟨k, q, g, v, t⟩ := e
  simp only [E.val] at HG HA ⊢
  clear htb hto htn hpp0 hp0 hp1 hp2 hp3 hp4 hp5 hp6 hp7 hlst hnx
  obtain ⟨x, hx⟩ : ∃ x, w.heap.size = x := ⟨_, rfl⟩
  have HX := Lib.hid hx
  have HB0 := Lib.hid ((Below.refl w.heap.size w).alloc (Nat.le_refl _) (.cells #[.string k, .int .i64 q, .bool g, .string v, .int .i64 t] 45))
  have HR0 := Lib.hid (heap_alloc_new w (.cells #[.string k, .int .i64 q, .bool g, .string v, .int .i64 t] 45))
  have HZ0 : Hid ((w.alloc (.cells #[.string k, .int .i64 q, .bool g, .string v, .int .i64 t] 45)).heap.size = x + 1) := Lib.hid (by rw [← hx]; simp)
  rw [hx] at HB0 HR0
  clear hx
  go_enter Tryz.func17, Tryz.ntmps17
  go_wp2_with fail
  generalize w.alloc (.cells #[.string k, .int .i64 q, .bool g, .string v, .int .i64 t] 45) = W0 at HB0 HR0 HZ0 ⊢
  rw [HX.out]
  refine (HG.out _).mono ?_
  rintro r w1 ⟨rfl, hb⟩
  have HB1 : Hid (Below (x + 1) W0 w1) := Lib.hid (hb.mono (by have := HZ0.out; omega))
  clear hb
  have hR1 : w1.heap[x]? = some (.cells #[.string k, .int .i64 q, .bool g, .string v, .int .i64 t] 45 (0, 0)) := (HB1.out.block x (by omega)).trans HR0.out
  have b0 : w1.cell? ⟨x, 0, none⟩ = some (.string k) := cell_of_row _ _ _ _ _ _ hR1
  have b1 : w1.cell? ⟨x, 1, none⟩ = some (.int .i64 q) := cell_of_row _ _ _ _ _ _ hR1
  have b2 : w1.cell? ⟨x, 2, none⟩ = some (.bool g) := cell_of_row _ _ _ _ _ _ hR1
  have b3 : w1.cell? ⟨x, 3, none⟩ = some (.string v) := cell_of_row _ _ _ _ _ _ hR1
  have b4 : w1.cell? ⟨x, 4, none⟩ = some (.int .i64 t) := cell_of_row _ _ _ _ _ _ hR1
  have hlt1 : x + 1 ≤ w1.heap.size := by have := HZ0.out; have := HB1.out.size; omega
  have HBW1 : Hid (Below w.heap.size w w1) := Lib.hid (by rw [HX.out]; exact HB0.out.trans (HB1.out.mono (by omega)))
  clear hR1
  go_wp2_with fail
  refine (HA.out _ HBW1.out).mono ?_
  rintro r w2 ⟨rfl, hb⟩
  have HB2 : Hid (Below x w w2) := Lib.hid ((HB0.out.trans (HB1.out.mono (by omega))).trans (hb.mono (by omega)))
  have hR2 : w2.heap[x]? = some (.cells #[.string k, .int .i64 q, .bool g, .string v, .int .i64 t] 45 (0, 0)) := (hb.block x (by omega)).trans ((HB1.out.block x (by omega)).trans HR0.out)
  have hlt2 : x + 1 ≤ w2.heap.size := by have := hb.size; omega
  have HB3 : Hid (Below x w (w2.alloc (.cells #[.pointer p0, .pointer p1, .pointer p2, .pointer p3, .pointer p4, .pointer p5, .pointer p6, .pointer p7] 90))) := Lib.hid (HB2.out.alloc (by omega) _)
  have HA3 := Lib.hid (heap_alloc_new w2 (.cells #[.pointer p0, .pointer p1, .pointer p2, .pointer p3, .pointer p4, .pointer p5, .pointer p6, .pointer p7] 90))
  have HR3 : Hid ((w2.alloc (.cells #[.pointer p0, .pointer p1, .pointer p2, .pointer p3, .pointer p4, .pointer p5, .pointer p6, .pointer p7] 90)).heap[x]? = some (.cells #[.string k, .int .i64 q, .bool g, .string v, .int .i64 t] 45 (0, 0))) := Lib.hid ((Below.heap_alloc _ _ _ (by omega)).trans hR2)
  have HZ3 : Hid ((w2.alloc (.cells #[.pointer p0, .pointer p1, .pointer p2, .pointer p3, .pointer p4, .pointer p5, .pointer p6, .pointer p7] 90)).heap.size = w2.heap.size + 1) := Lib.hid (by simp)
  clear hb hR2 b0 b1 b2 b3 b4 hlt1
  go_wp2_with fail
  generalize w2.alloc (.cells #[.pointer p0, .pointer p1, .pointer p2, .pointer p3, .pointer p4, .pointer p5, .pointer p6, .pointer p7] 90) = w3 at HB3 HA3 HR3 HZ3 ⊢
  obtain ⟨y, hy⟩ : ∃ y, w2.heap.size = y := ⟨_, rfl⟩
  rw [hy] at HA3 HZ3 hlt2 ⊢
  clear hy HB2
  have HBW3 : Hid (Below w.heap.size w w3) := Lib.hid (by rw [HX.out]; exact HB3.out)
  obtain ⟨zt, hz0⟩ := HT.out w3 HBW3.out
  simp only [Nat.add_zero] at zt
  refine (HN.out _ HBW3.out).mono ?_
  rintro r w3' ⟨rfl, rfl⟩
  have hz0' : (0 : Int) < (tn : Int) := by omega
  have hlt3 : y + 1 ≤ w3.heap.size := by have := HZ3.out; omega
  go_wp2_with fail
  have b0 : w3.cell? ⟨x, 0, none⟩ = some (.string k) := cell_of_row _ _ _ _ _ _ HR3.out
  have b1 : w3.cell? ⟨x, 1, none⟩ = some (.int .i64 q) := cell_of_row _ _ _ _ _ _ HR3.out
  have b2 : w3.cell? ⟨x, 2, none⟩ = some (.bool g) := cell_of_row _ _ _ _ _ _ HR3.out
  have b3 : w3.cell? ⟨x, 3, none⟩ = some (.string v) := cell_of_row _ _ _ _ _ _ HR3.out
  have b4 : w3.cell? ⟨x, 4, none⟩ = some (.int .i64 t) := cell_of_row _ _ _ _ _ _ HR3.out
  clear zt hz0 hz0' HT HN HA HG
  have hnd := HND.out w3 HBW3.out
  have hdlt : d.b < w3.heap.size := (Array.getElem?_eq_some_iff.1 hnd).1
  obtain ⟨b, hb'⟩ : ∃ b, d.b = b := ⟨_, rfl⟩
  unfold ncells at hnd
  rw [hb'] at hnd hdlt ⊢
  obtain ⟨de, hde⟩ : ∃ de, d.e = de := ⟨_, rfl⟩
  rw [hde] at hnd HL
  obtain ⟨k2, q2, g2, v2, t2⟩ := de
  simp only [E.val] at hnd HL
  have z0 : w3.cell? ⟨b, 0, none⟩ = some (.string k2) := cell_of_row _ _ _ _ _ _ hnd
  have z1 : w3.cell? ⟨b, 1, none⟩ = some (.int .i64 q2) := cell_of_row _ _ _ _ _ _ hnd
  have z2 : w3.cell? ⟨b, 2, none⟩ = some (.bool g2) := cell_of_row _ _ _ _ _ _ hnd
  have z3 : w3.cell? ⟨b, 3, none⟩ = some (.string v2) := cell_of_row _ _ _ _ _ _ hnd
  have z4 : w3.cell? ⟨b, 4, none⟩ = some (.int .i64 t2) := cell_of_row _ _ _ _ _ _ hnd
  clear hnd hb' hde
  go_region_held3 (fun w' => w'.cell? ⟨b, 0, none⟩ = some (.string k2) ∧ w'.cell? ⟨b, 1, none⟩ = some (.int .i64 q2) ∧ w'.cell? ⟨b, 2, none⟩ = some (.bool g2) ∧ w'.cell? ⟨b, 3, none⟩ = some (.string v2) ∧ w'.cell? ⟨b, 4, none⟩ = some (.int .i64 t2) ∧ w'.cell? ⟨x, 0, none⟩ = some (.string k) ∧ w'.cell? ⟨x, 1, none⟩ = some (.int .i64 q) ∧ w'.cell? ⟨x, 2, none⟩ = some (.bool g) ∧ w'.cell? ⟨x, 3, none⟩ = some (.string v) ∧ w'.cell? ⟨x, 4, none⟩ = some (.int .i64 t))
    (first | go_keep | exact HS4.out | fail)
    (first
      | (go_at_call 56
         refine (HL.out _).mono ?_
         rintro e w4 ⟨rfl, hbb⟩
         have HBB : Hid (Below w3.heap.size w3 w4) := Lib.hid (Below.trans (Below.refl _ _).drew hbb)
         have HS4 : Hid (w4.cell? ⟨b, 0, none⟩ = some (.string k2) ∧ w4.cell? ⟨b, 1, none⟩ = some (.int .i64 q2) ∧ w4.cell? ⟨b, 2, none⟩ = some (.bool g2) ∧ w4.cell? ⟨b, 3, none⟩ = some (.string v2) ∧ w4.cell? ⟨b, 4, none⟩ = some (.int .i64 t2) ∧ w4.cell? ⟨x, 0, none⟩ = some (.string k) ∧ w4.cell? ⟨x, 1, none⟩ = some (.int .i64 q) ∧ w4.cell? ⟨x, 2, none⟩ = some (.bool g) ∧ w4.cell? ⟨x, 3, none⟩ = some (.string v) ∧ w4.cell? ⟨x, 4, none⟩ = some (.int .i64 t)) := Lib.hid ⟨(hbb.cell (p := ⟨b, 0, none⟩) (by simp; omega)).trans z0, (hbb.cell (p := ⟨b, 1, none⟩) (by simp; omega)).trans z1, (hbb.cell (p := ⟨b, 2, none⟩) (by simp; omega)).trans z2, (hbb.cell (p := ⟨b, 3, none⟩) (by simp; omega)).trans z3, (hbb.cell (p := ⟨b, 4, none⟩) (by simp; omega)).trans z4, (hbb.cell (p := ⟨x, 0, none⟩) (by simp; omega)).trans b0, (hbb.cell (p := ⟨x, 1, none⟩) (by simp; omega)).trans b1, (hbb.cell (p := ⟨x, 2, none⟩) (by simp; omega)).trans b2, (hbb.cell (p := ⟨x, 3, none⟩) (by simp; omega)).trans b3, (hbb.cell (p := ⟨x, 4, none⟩) (by simp; omega)).trans b4⟩
         clear hbb)
      | fail)
  all_goals
    have HE : Hid (Below w.heap.size w w4) := Lib.hid (HBW3.out.trans (HBB.out.mono (by have := HX.out; omega)))
    clear HS4 b0 b1 b2 b3 b4 z0 z1 z2 z3 z4
    go_wp2
    go_ret
    exact ⟨rfl, HE.out⟩

set_option maxRecDepth 100000 in
set_option maxHeartbeats 4000000 in
theorem put_end {B : Nat} {w : World} {a hb : Nat} {cs : List Int} {l : List ND} {s : St} (h : Rep B w a hb cs l s) (hB : B ≤ w.heap.size) (e : E) (he : e.wf) (hg : good e = 0) (pre post : List ND) (hl : l = pre ++ post) (hpre : ∀ d ∈ pre, less d.e e = true) (hpost : ∀ d ∈ post, less d.e e = false) (hpd : post = []) (hsz : 0 ≤ s.size ∧ s.size ≤ 1152921504606846976) (hlen : s.l.length ≤ 1152921504606846976) (h1e : pre.map (·.e) = front e s.l) (h2e : post.map (·.e) = rest e s.l) :
    Calls Tryz.prog 17 #[.pointer (some ⟨a, 0, none⟩), e.val] w fun r w' => r = .returned (.int .i64 0) ∧ ∃ l', Rep B w' a hb cs l' ⟨front e s.l ++ e :: rest e s.l, s.size + cost cs s.l.length e⟩ ∧ Keeps (a :: hb :: blks l) w w' ∧ ∀ x ∈ blks l', x ∈ blks l ∨ w.heap.size ≤ x := by
  have h1 : ∀ d ∈ l, 1 ≤ d.h := fun d hd => (h.full d hd).2.1
  have hlst : (lst 0 pre).map (·.b) = pre.getLast?.map (·.b) := by rw [lst0_last fun d hd => h1 d (by rw [hl]; simp [hd])]
  have hnx : nx 0 post = post.head?.map (·.b) := nx0_head fun d hd => h1 d (by rw [hl]; simp [hd])
  have HG : Hid (∀ W, Calls Tryz.prog 26 #[e.val] W fun r w' => r = .returned (.int .i64 0) ∧ Below W.heap.size W w') := fun W => by have := good_any e W he; rw [hg] at this; exact this
  have HA : Hid (∀ W, Below w.heap.size w W → Calls Tryz.prog 54 #[.pointer (some ⟨a, 0, none⟩), e.val] W fun r w' => r = .returned (aheadV pre) ∧ Below W.heap.size W w') := fun W hB => ahead_any (h.below hB) e pre post hl hpre hpost
  have HN : Hid (∀ W, Below w.heap.size w W → Calls Tryz.prog 55 #[.pointer (some ⟨a, 0, none⟩), pv (pre.getLast?.map (·.b))] W fun e w' => e = .returned (towerV a pre.getLast?) ∧ W = w') := fun W hB =>
    next_any a pre.getLast? W (fun d hd => (h.below hB).node (by rw [hl]; exact List.mem_append_left _ (List.mem_of_getLast? hd)))
  have HT : Hid (∀ W, Below w.heap.size w W → W.cell? ⟨towerB a pre.getLast?, towerO pre.getLast? + 0, none⟩ = some (pv (nx 0 post)) ∧ 0 < towerN pre.getLast?) := fun W hB => by
    obtain ⟨x, y, -⟩ := (h.below hB).tower pre post hl 0 (fun d hd => h1 d (by rw [hl]; exact List.mem_append_left _ (List.mem_of_getLast? hd))) (by omega)
    exact ⟨x, y⟩
  have hhd : post.head?.map (·.b) = none := by rw [hpd]; rfl
  rw [hhd] at hnx
  clear hhd
  have hgz := good_zero hg
  have hht := height_range cs s.l.length
  have HCO : Hid (∀ W, Below w.heap.size w W → Calls Tryz.prog 57 #[.pointer (some ⟨a, 0, none⟩), e.val] W fun r w' => r = .returned (.int .i64 (cost cs s.l.length e)) ∧ Below W.heap.size W w') := fun W hB => cost_any (h.below hB) e he
  have HCL : Hid (∀ W, Calls Tryz.prog 53 #[e.val] W fun r w' => r = .returned e.val ∧ Below W.heap.size W w') := fun W => eclone_any e W ⟨by have := he.key; omega, by have := he.value; omega⟩
  have hco : 0 ≤ cost cs s.l.length e ∧ cost cs s.l.length e ≤ 1000 := by unfold cost; omega
  obtain ⟨C, hC⟩ : ∃ C, cost cs s.l.length e = C := ⟨_, rfl⟩
  obtain ⟨H, hH⟩ : ∃ H, height cs s.l.length = H := ⟨_, rfl⟩
  obtain ⟨c, hc⟩ : ∃ c, s.l.length = c := ⟨_, rfl⟩
  obtain ⟨z, hz⟩ : ∃ z, s.size = z := ⟨_, rfl⟩
  have HM0 : Hid (Mid B w a hb cs (pre ++ post) c z) := Lib.hid (by rw [← hc, ← hz, ← hl]; exact h.mid)
  have HFULL : Hid (∀ d ∈ pre ++ post, d.h = d.c ∧ 1 ≤ d.h ∧ d.h ≤ 8) := Lib.hid (by rw [← hl]; exact h.full)
  have HBL : Hid (∀ x ∈ a :: hb :: blks (pre ++ post), x < w.heap.size) := Lib.hid (fun x hx => (HM0.out.lo x hx).2)
  have HBB0 := Lib.hid hB
  have HREP : Hid (∀ W n z', Mid B W a hb cs (pre ++ n :: post) (c + 1) z' → n.e = e → (n.h = n.c ∧ 1 ≤ n.h ∧ n.h ≤ 8) → Rep B W a hb cs (pre ++ n :: post) ⟨front e s.l ++ e :: rest e s.l, z'⟩) := fun W n z' hm hne hn => by
    subst hne
    exact put_rep (by rw [hc]; exact hm) HFULL.out hn h1e h2e
  have hcH : cs.length = cs.length := rfl
  have HNH : Hid (∀ W cc zz, Mid B W a hb cs (pre ++ post) c zz → cc = c → Calls Tryz.prog 59 #[.pointer (some ⟨a, 0, none⟩)] W fun e w' => e = .returned (.int .i64 H) ∧ Below W.heap.size W w') := fun W cc zz hm _ => by
    have := nextHeight_at (n := c) (hm.cells 0) (hm.cells 9) hm.coins
    rw [← hc, hH] at this
    exact this
  rw [hC] at HCO hco ⊢
  rw [hH] at hht
  rw [hc] at hlen
  rw [hz] at hsz ⊢
  rw [hl]
  have HFR : Hid (front e s.l = front e s.l) := rfl
  have hwz : IntKind.i64.wrap (z + C) = z + C := wrap_in _ (by omega)
  have hwc : IntKind.i64.wrap ((c : Int) + 1) = (c : Int) + 1 := wrap_in _ (by omega)
  obtain ⟨S', hS'⟩ : ∃ S', (⟨front e s.l ++ e :: rest e s.l, z + C⟩ : St) = S' := ⟨_, rfl⟩
  have HREP2 : Hid (∀ W n, Mid B W a hb cs (pre ++ n :: post) (c + 1) (z + C) → n.e = e → (n.h = n.c ∧ 1 ≤ n.h ∧ n.h ≤ 8) → Rep B W a hb cs (pre ++ n :: post) S') := fun W n hm hne hn => by
    rw [← hS']
    exact HREP.out W n _ hm hne hn
  rw [hS']
  have HLK : Hid (∀ W, Mid B W a hb cs (pre ++ post) c (z + C) → B ≤ W.heap.size → Calls Tryz.prog 58 #[.pointer (some ⟨a, 0, none⟩), .pointer (some ⟨W.heap.size + 1, 0, none⟩), aheadV pre] (nodeW W e H) fun r w' => (∃ v, r = .returned v) ∧ Mid B w' a hb cs (pre ++ ⟨W.heap.size + 1, W.heap.size, H, H, e⟩ :: post) c (z + C) ∧ Keeps (a :: hb :: blks (pre ++ ⟨W.heap.size + 1, W.heap.size, 0, H, e⟩ :: post)) (nodeW W e H) w') := fun W hm hBW =>
    link_any (hm.fresh hBW e H) rfl hht.2
  have hmk := fun W => make_tower W H hht.2
  unfold nodeW at HLK
  clear h hB he hg hl hpre hpost h1 hC hH hc hz h1e h2e hgz HREP HFR hcH hS'
  obtain ⟨p0, hp0⟩ : ∃ p, ((lst 0 pre).map (fun d : ND => d.b)).map (fun b => (⟨b, 0, none⟩ : Addr)) = p := ⟨_, rfl⟩
  obtain ⟨p1, hp1⟩ : ∃ p, ((lst 1 pre).map (fun d : ND => d.b)).map (fun b => (⟨b, 0, none⟩ : Addr)) = p := ⟨_, rfl⟩
  obtain ⟨p2, hp2⟩ : ∃ p, ((lst 2 pre).map (fun d : ND => d.b)).map (fun b => (⟨b, 0, none⟩ : Addr)) = p := ⟨_, rfl⟩
  obtain ⟨p3, hp3⟩ : ∃ p, ((lst 3 pre).map (fun d : ND => d.b)).map (fun b => (⟨b, 0, none⟩ : Addr)) = p := ⟨_, rfl⟩
  obtain ⟨p4, hp4⟩ : ∃ p, ((lst 4 pre).map (fun d : ND => d.b)).map (fun b => (⟨b, 0, none⟩ : Addr)) = p := ⟨_, rfl⟩
  obtain ⟨p5, hp5⟩ : ∃ p, ((lst 5 pre).map (fun d : ND => d.b)).map (fun b => (⟨b, 0, none⟩ : Addr)) = p := ⟨_, rfl⟩
  obtain ⟨p6, hp6⟩ : ∃ p, ((lst 6 pre).map (fun d : ND => d.b)).map (fun b => (⟨b, 0, none⟩ : Addr)) = p := ⟨_, rfl⟩
  obtain ⟨p7, hp7⟩ : ∃ p, ((lst 7 pre).map (fun d : ND => d.b)).map (fun b => (⟨b, 0, none⟩ : Addr)) = p := ⟨_, rfl⟩
  have HV : Hid (aheadV pre = .agg #[.pointer p0, .pointer p1, .pointer p2, .pointer p3, .pointer p4, .pointer p5, .pointer p6, .pointer p7]) := Lib.hid (by
    unfold aheadV arr8 pv
    dsimp only
    rw [hp0, hp1, hp2, hp3, hp4, hp5, hp6, hp7])
  unfold towerV at HN
  obtain ⟨tb, htb⟩ : ∃ y, towerB a pre.getLast? = y := ⟨_, rfl⟩
  obtain ⟨to, hto⟩ : ∃ y, towerO pre.getLast? = y := ⟨_, rfl⟩
  obtain ⟨tn, htn⟩ : ∃ y, towerN pre.getLast? = y := ⟨_, rfl⟩
  have hpp0 : pv (pre.getLast?.map (·.b)) = .pointer p0 := by rw [← hp0, hlst]; rfl
  rw [htb, hto, htn, hpp0] at HN
  rw [htb, hto, htn, hnx] at HT
  rw [HV.out] at HA
  simp only [pv, Option.map_none] at HT
  obtain ⟨k, q, g, v, t⟩ := e
  rw [HV.out] at HLK
  simp only [E.val] at HG HA HCO HCL HLK ⊢
  clear htb hto htn hpp0 hp0 hp1 hp2 hp3 hp4 hp5 hp6 hp7 hlst hnx
  obtain ⟨x, hx⟩ : ∃ x, w.heap.size = x := ⟨_, rfl⟩
  have HX := Lib.hid hx
  have HB0 := Lib.hid ((Below.refl w.heap.size w).alloc (Nat.le_refl _) (.cells #[.string k, .int .i64 q, .bool g, .string v, .int .i64 t] 45))
  have HR0 := Lib.hid (heap_alloc_new w (.cells #[.string k, .int .i64 q, .bool g, .string v, .int .i64 t] 45))
  have HZ0 : Hid ((w.alloc (.cells #[.string k, .int .i64 q, .bool g, .string v, .int .i64 t] 45)).heap.size = x + 1) := Lib.hid (by rw [← hx]; simp)
  rw [hx] at HB0 HR0
  clear hx
  go_enter Tryz.func17, Tryz.ntmps17
  go_wp2_with fail
  generalize w.alloc (.cells #[.string k, .int .i64 q, .bool g, .string v, .int .i64 t] 45) = W0 at HB0 HR0 HZ0 ⊢
  rw [HX.out]
  refine (HG.out _).mono ?_
  rintro r w1 ⟨rfl, hb⟩
  have HB1 : Hid (Below (x + 1) W0 w1) := Lib.hid (hb.mono (by have := HZ0.out; omega))
  clear hb
  have hR1 : w1.heap[x]? = some (.cells #[.string k, .int .i64 q, .bool g, .string v, .int .i64 t] 45 (0, 0)) := (HB1.out.block x (by omega)).trans HR0.out
  have b0 : w1.cell? ⟨x, 0, none⟩ = some (.string k) := cell_of_row _ _ _ _ _ _ hR1
  have b1 : w1.cell? ⟨x, 1, none⟩ = some (.int .i64 q) := cell_of_row _ _ _ _ _ _ hR1
  have b2 : w1.cell? ⟨x, 2, none⟩ = some (.bool g) := cell_of_row _ _ _ _ _ _ hR1
  have b3 : w1.cell? ⟨x, 3, none⟩ = some (.string v) := cell_of_row _ _ _ _ _ _ hR1
  have b4 : w1.cell? ⟨x, 4, none⟩ = some (.int .i64 t) := cell_of_row _ _ _ _ _ _ hR1
  have hlt1 : x + 1 ≤ w1.heap.size := by have := HZ0.out; have := HB1.out.size; omega
  have HBW1 : Hid (Below w.heap.size w w1) := Lib.hid (by rw [HX.out]; exact HB0.out.trans (HB1.out.mono (by omega)))
  clear hR1
  go_wp2_with fail
  refine (HA.out _ HBW1.out).mono ?_
  rintro r w2 ⟨rfl, hb⟩
  have HB2 : Hid (Below x w w2) := Lib.hid ((HB0.out.trans (HB1.out.mono (by omega))).trans (hb.mono (by omega)))
  have hR2 : w2.heap[x]? = some (.cells #[.string k, .int .i64 q, .bool g, .string v, .int .i64 t] 45 (0, 0)) := (hb.block x (by omega)).trans ((HB1.out.block x (by omega)).trans HR0.out)
  have hlt2 : x + 1 ≤ w2.heap.size := by have := hb.size; omega
  have HB3 : Hid (Below x w (w2.alloc (.cells #[.pointer p0, .pointer p1, .pointer p2, .pointer p3, .pointer p4, .pointer p5, .pointer p6, .pointer p7] 90))) := Lib.hid (HB2.out.alloc (by omega) _)
  have HA3 := Lib.hid (heap_alloc_new w2 (.cells #[.pointer p0, .pointer p1, .pointer p2, .pointer p3, .pointer p4, .pointer p5, .pointer p6, .pointer p7] 90))
  have HR3 : Hid ((w2.alloc (.cells #[.pointer p0, .pointer p1, .pointer p2, .pointer p3, .pointer p4, .pointer p5, .pointer p6, .pointer p7] 90)).heap[x]? = some (.cells #[.string k, .int .i64 q, .bool g, .string v, .int .i64 t] 45 (0, 0))) := Lib.hid ((Below.heap_alloc _ _ _ (by omega)).trans hR2)
  have HZ3 : Hid ((w2.alloc (.cells #[.pointer p0, .pointer p1, .pointer p2, .pointer p3, .pointer p4, .pointer p5, .pointer p6, .pointer p7] 90)).heap.size = w2.heap.size + 1) := Lib.hid (by simp)
  clear hb hR2 b0 b1 b2 b3 b4 hlt1
  go_wp2_with fail
  generalize w2.alloc (.cells #[.pointer p0, .pointer p1, .pointer p2, .pointer p3, .pointer p4, .pointer p5, .pointer p6, .pointer p7] 90) = w3 at HB3 HA3 HR3 HZ3 ⊢
  obtain ⟨y, hy⟩ : ∃ y, w2.heap.size = y := ⟨_, rfl⟩
  rw [hy] at HA3 HZ3 hlt2 ⊢
  clear hy HB2
  have HBW3 : Hid (Below w.heap.size w w3) := Lib.hid (by rw [HX.out]; exact HB3.out)
  obtain ⟨zt, hz0⟩ := HT.out w3 HBW3.out
  simp only [Nat.add_zero] at zt
  refine (HN.out _ HBW3.out).mono ?_
  rintro r w3' ⟨rfl, rfl⟩
  have hz0' : (0 : Int) < (tn : Int) := by omega
  have hlt3 : y + 1 ≤ w3.heap.size := by have := HZ3.out; omega
  go_wp2_with fail
  have b0 : w3.cell? ⟨x, 0, none⟩ = some (.string k) := cell_of_row _ _ _ _ _ _ HR3.out
  have b1 : w3.cell? ⟨x, 1, none⟩ = some (.int .i64 q) := cell_of_row _ _ _ _ _ _ HR3.out
  have b2 : w3.cell? ⟨x, 2, none⟩ = some (.bool g) := cell_of_row _ _ _ _ _ _ HR3.out
  have b3 : w3.cell? ⟨x, 3, none⟩ = some (.string v) := cell_of_row _ _ _ _ _ _ HR3.out
  have b4 : w3.cell? ⟨x, 4, none⟩ = some (.int .i64 t) := cell_of_row _ _ _ _ _ _ HR3.out
  clear zt hz0 hz0' HT HN HA HG
  go_quiet (fail)
  all_goals
    have hB34 : Below w3.heap.size w3 (w3.drewN nq) := below_drewN (Below.refl _ _) nq
    generalize w3.drewN nq = w4 at hB34 ⊢
    have HB4 : Hid (Below w.heap.size w w4) := Lib.hid (HBW3.out.trans (hB34.mono (by have := HX.out; omega)))
    have hRX4 : w4.heap[x]? = some (.cells #[.string k, .int .i64 q, .bool g, .string v, .int .i64 t] 45 (0, 0)) := (hB34.block x (by omega)).trans HR3.out
    have hRY4 : w4.heap[y]? = some (.cells #[.pointer p0, .pointer p1, .pointer p2, .pointer p3, .pointer p4, .pointer p5, .pointer p6, .pointer p7] 90 (0, 0)) := (hB34.block y (by omega)).trans HA3.out
    have hlt4 : y + 1 ≤ w4.heap.size := by have := hB34.size; omega
    have hM4 : Mid B w4 a hb cs (pre ++ post) c z := HM0.out.below HB4.out
    have zs : w4.cell? ⟨a, 10, none⟩ = some (.int .i64 z) := hM4.cells 10
    have fs : w4.frozen? ⟨a, 10, none⟩ = false := hM4.frozen 10
    have hax : a < x := by have := HBL.out a (by simp); have := HX.out; omega
    clear hB34 b0 b1 b2 b3 b4
    have b0 : w4.cell? ⟨x, 0, none⟩ = some (.string k) := cell_of_row _ _ _ _ _ _ hRX4
    have b1 : w4.cell? ⟨x, 1, none⟩ = some (.int .i64 q) := cell_of_row _ _ _ _ _ _ hRX4
    have b2 : w4.cell? ⟨x, 2, none⟩ = some (.bool g) := cell_of_row _ _ _ _ _ _ hRX4
    have b3 : w4.cell? ⟨x, 3, none⟩ = some (.string v) := cell_of_row _ _ _ _ _ _ hRX4
    have b4 : w4.cell? ⟨x, 4, none⟩ = some (.int .i64 t) := cell_of_row _ _ _ _ _ _ hRX4
    have HM4 := Lib.hid hM4
    have HRX4 := Lib.hid hRX4
    have HRY4 := Lib.hid hRY4
    clear hM4 hRX4 hRY4
    go_wp2_with fail
    go_region_with (
      go_at_call 57
      refine (HCO.out _ (HB4.out.trans (Below.mono ((Below.refl w4.heap.size w4).drew) (by have := HX.out; omega)))).mono ?_
      rintro r w5 ⟨rfl, hb⟩
      have HB45 : Hid (Below w4.heap.size w4 w5) := Lib.hid (Below.trans ((Below.refl _ w4).drew) hb)
      have zs5 : w5.cell? ⟨a, 10, none⟩ = some (.int .i64 z) := (HB45.out.cell (p := ⟨a, 10, none⟩) (by simp; omega)).trans zs
      have fs5 : w5.frozen? ⟨a, 10, none⟩ = false := (HB45.out.frozen (p := ⟨a, 10, none⟩) (by simp; omega)).trans fs
      clear hb)
    all_goals
      have hM6 : Mid B (w5.setCell ⟨a, 10, none⟩ (.int .i64 (z + C))) a hb cs (pre ++ post) c (z + C) := (HM4.out.below HB45.out).setSize _
      have hK6 : Keeps (a :: hb :: blks (pre ++ post)) w (w5.setCell ⟨a, 10, none⟩ (.int .i64 (z + C))) := (Keeps.of_below (HB4.out.trans (HB45.out.mono (by have := HX.out; omega)))).set a 10 _ (.inl (by simp))
      have hRX6 : (w5.setCell ⟨a, 10, none⟩ (.int .i64 (z + C))).heap[x]? = some (.cells #[.string k, .int .i64 q, .bool g, .string v, .int .i64 t] 45 (0, 0)) := (Below.heap_setCell _ _ _ _ (Ne.symm (Nat.ne_of_lt hax))).trans ((HB45.out.block x (by omega)).trans HRX4.out)
      have hRY6 : (w5.setCell ⟨a, 10, none⟩ (.int .i64 (z + C))).heap[y]? = some (.cells #[.pointer p0, .pointer p1, .pointer p2, .pointer p3, .pointer p4, .pointer p5, .pointer p6, .pointer p7] 90 (0, 0)) := (Below.heap_setCell _ _ _ _ (Ne.symm (Nat.ne_of_lt (show a < y by omega)))).trans ((HB45.out.block y (by omega)).trans HRY4.out)
      have hlt6 : y + 1 ≤ (w5.setCell ⟨a, 10, none⟩ (.int .i64 (z + C))).heap.size := by rw [setCell_size]; have := HB45.out.size; omega
      clear HM4 HRX4 HRY4 HB45 b0 b1 b2 b3 b4 zs fs zs5 fs5 hlt4
      go_wp2_with fail
      generalize w5.setCell ⟨a, 10, none⟩ (.int .i64 (z + C)) = w6 at hM6 hK6 hRX6 hRY6 hlt6 ⊢
      have S6 : w6.cell? ⟨x, 0, none⟩ = some (.string k) ∧ w6.cell? ⟨x, 1, none⟩ = some (.int .i64 q) ∧ w6.cell? ⟨x, 2, none⟩ = some (.bool g) ∧ w6.cell? ⟨x, 3, none⟩ = some (.string v) ∧ w6.cell? ⟨x, 4, none⟩ = some (.int .i64 t) ∧ w6.cell? ⟨y, 0, none⟩ = some (.pointer p0) ∧ w6.cell? ⟨y, 1, none⟩ = some (.pointer p1) ∧ w6.cell? ⟨y, 2, none⟩ = some (.pointer p2) ∧ w6.cell? ⟨y, 3, none⟩ = some (.pointer p3) ∧ w6.cell? ⟨y, 4, none⟩ = some (.pointer p4) ∧ w6.cell? ⟨y, 5, none⟩ = some (.pointer p5) ∧ w6.cell? ⟨y, 6, none⟩ = some (.pointer p6) ∧ w6.cell? ⟨y, 7, none⟩ = some (.pointer p7) := ⟨cell_of_row _ _ _ _ _ _ hRX6, cell_of_row _ _ _ _ _ _ hRX6, cell_of_row _ _ _ _ _ _ hRX6, cell_of_row _ _ _ _ _ _ hRX6, cell_of_row _ _ _ _ _ _ hRX6, cell_of_row _ _ _ _ _ _ hRY6, cell_of_row _ _ _ _ _ _ hRY6, cell_of_row _ _ _ _ _ _ hRY6, cell_of_row _ _ _ _ _ _ hRY6, cell_of_row _ _ _ _ _ _ hRY6, cell_of_row _ _ _ _ _ _ hRY6, cell_of_row _ _ _ _ _ _ hRY6, cell_of_row _ _ _ _ _ _ hRY6⟩
      obtain ⟨e0, e1, e2, e3, e4, e5, e6, e7, e8, e9, e10, e11, e12⟩ := S6
      have HM6 := Lib.hid hM6
      have HK6 := Lib.hid hK6
      clear hM6 hK6 hRX6 hRY6
      have HLK2 : Hid (∀ w8, Below w6.heap.size w6 w8 → Calls Tryz.prog 58 #[.pointer (some ⟨a, 0, none⟩), .pointer (some ⟨w8.heap.size + 1, 0, none⟩), .agg #[.pointer p0, .pointer p1, .pointer p2, .pointer p3, .pointer p4, .pointer p5, .pointer p6, .pointer p7]] ((w8.alloc (.cells (madeCells #[.pointer none] H) 89)).alloc (.cells #[.string k, .int .i64 q, .bool g, .string v, .int .i64 t, .slice (some ⟨w8.heap.size, 0, none⟩) H H] 100)) fun r w9 => (∃ v, r = .returned v) ∧
          Mid B w9 a hb cs (pre ++ ⟨w8.heap.size + 1, w8.heap.size, H, H, ⟨k, q, g, v, t⟩⟩ :: post) c (z + C) ∧ Keeps (a :: hb :: blks (pre ++ post)) w w9 ∧ (∀ j, w9.cell? ⟨x, j, none⟩ = w8.cell? ⟨x, j, none⟩) ∧ (∀ j, w9.cell? ⟨y, j, none⟩ = w8.cell? ⟨y, j, none⟩)) := Lib.hid fun w8 hb8 => by
        have h8 := hb8.size
        have h6 := HK6.out.size
        have hxw := HX.out
        refine (HLK.out w8 (HM6.out.below hb8) (by have := HBB0.out; omega)).mono ?_
        rintro r w9 ⟨hv, hm9, hk9⟩
        have hnb : Below w8.heap.size w8 (nodeW w8 ⟨k, q, g, v, t⟩ H) := nodeW_below _ _ _
        have hin : ∀ b, b ∈ a :: hb :: blks (pre ++ ⟨w8.heap.size + 1, w8.heap.size, 0, H, ⟨k, q, g, v, t⟩⟩ :: post) → b < w8.heap.size → b ∈ a :: hb :: blks (pre ++ post) := fun b hm hlt => by
          rw [blks_app, blks_cons] at hm
          rw [blks_app]
          simp only [List.mem_cons, List.mem_append] at hm ⊢
          rcases hm with h | h | h | h | h | h
          · exact .inl h
          · exact .inr (.inl h)
          · exact .inr (.inr (.inl h))
          · exact absurd h (by omega)
          · exact absurd h (by omega)
          · exact .inr (.inr (.inr h))
        have hfar : ∀ b, w.heap.size ≤ b → b < w8.heap.size → ∀ j, w9.cell? ⟨b, j, none⟩ = w8.cell? ⟨b, j, none⟩ := fun b h1 h2 j => by
          have e1 : w9.heap[b]? = w8.heap[b]? := (hk9.block b (by have := hnb.size; exact Nat.lt_of_lt_of_le h2 this) (fun hm => by have := HBL.out b (hin b hm h2); omega)).trans (hnb.block b h2)
          unfold World.cell?
          rw [e1]
        refine ⟨hv, hm9, ?_, hfar x (by omega) (by omega), hfar y (by omega) (by omega)⟩
        refine (HK6.out.trans (Keeps.of_below (S := []) (hb8.trans (hnb.mono h8))) (by simp)).trans hk9 fun b hm hlt => hin b hm (by omega)
      go_region_held3 (fun w' => w'.cell? ⟨x, 0, none⟩ = some (.string k) ∧ w'.cell? ⟨x, 1, none⟩ = some (.int .i64 q) ∧ w'.cell? ⟨x, 2, none⟩ = some (.bool g) ∧ w'.cell? ⟨x, 3, none⟩ = some (.string v) ∧ w'.cell? ⟨x, 4, none⟩ = some (.int .i64 t) ∧ w'.cell? ⟨y, 0, none⟩ = some (.pointer p0) ∧ w'.cell? ⟨y, 1, none⟩ = some (.pointer p1) ∧ w'.cell? ⟨y, 2, none⟩ = some (.pointer p2) ∧ w'.cell? ⟨y, 3, none⟩ = some (.pointer p3) ∧ w'.cell? ⟨y, 4, none⟩ = some (.pointer p4) ∧ w'.cell? ⟨y, 5, none⟩ = some (.pointer p5) ∧ w'.cell? ⟨y, 6, none⟩ = some (.pointer p6) ∧ w'.cell? ⟨y, 7, none⟩ = some (.pointer p7))
        (first | go_keep | exact HS7.out | exact HS8.out | exact HS9.out | fail)
        (first
          | (go_at_call 58
             refine (HLK2.out w8 HB68.out).mono ?_
             rintro r w9 ⟨⟨vv, rfl⟩, hm9, hk9, hcx, hcy⟩
             have HM9 := Lib.hid hm9
             have HK9 := Lib.hid hk9
             have HS9 : Hid (w9.cell? ⟨x, 0, none⟩ = some (.string k) ∧ w9.cell? ⟨x, 1, none⟩ = some (.int .i64 q) ∧ w9.cell? ⟨x, 2, none⟩ = some (.bool g) ∧ w9.cell? ⟨x, 3, none⟩ = some (.string v) ∧ w9.cell? ⟨x, 4, none⟩ = some (.int .i64 t) ∧ w9.cell? ⟨y, 0, none⟩ = some (.pointer p0) ∧ w9.cell? ⟨y, 1, none⟩ = some (.pointer p1) ∧ w9.cell? ⟨y, 2, none⟩ = some (.pointer p2) ∧ w9.cell? ⟨y, 3, none⟩ = some (.pointer p3) ∧ w9.cell? ⟨y, 4, none⟩ = some (.pointer p4) ∧ w9.cell? ⟨y, 5, none⟩ = some (.pointer p5) ∧ w9.cell? ⟨y, 6, none⟩ = some (.pointer p6) ∧ w9.cell? ⟨y, 7, none⟩ = some (.pointer p7)) := Lib.hid ⟨(hcx 0).trans g0, (hcx 1).trans g1, (hcx 2).trans g2, (hcx 3).trans g3, (hcx 4).trans g4, (hcy 0).trans g5, (hcy 1).trans g6, (hcy 2).trans g7, (hcy 3).trans g8, (hcy 4).trans g9, (hcy 5).trans g10, (hcy 6).trans g11, (hcy 7).trans g12⟩
             clear hm9 hk9 hcx hcy)
          | (go_at_call 53
             refine (HCL.out _).mono ?_
             rintro r w7 ⟨rfl, hb⟩
             have HB67 : Hid (Below w6.heap.size w6 w7) := Lib.hid (Below.trans ((Below.refl _ w6).drew) hb)
             have f0 : w7.cell? ⟨x, 0, none⟩ = some (.string k) := (HB67.out.cell (p := ⟨x, 0, none⟩) (by simp; omega)).trans e0
             have f1 : w7.cell? ⟨x, 1, none⟩ = some (.int .i64 q) := (HB67.out.cell (p := ⟨x, 1, none⟩) (by simp; omega)).trans e1
             have f2 : w7.cell? ⟨x, 2, none⟩ = some (.bool g) := (HB67.out.cell (p := ⟨x, 2, none⟩) (by simp; omega)).trans e2
             have f3 : w7.cell? ⟨x, 3, none⟩ = some (.string v) := (HB67.out.cell (p := ⟨x, 3, none⟩) (by simp; omega)).trans e3
             have f4 : w7.cell? ⟨x, 4, none⟩ = some (.int .i64 t) := (HB67.out.cell (p := ⟨x, 4, none⟩) (by simp; omega)).trans e4
             have f5 : w7.cell? ⟨y, 0, none⟩ = some (.pointer p0) := (HB67.out.cell (p := ⟨y, 0, none⟩) (by simp; omega)).trans e5
             have f6 : w7.cell? ⟨y, 1, none⟩ = some (.pointer p1) := (HB67.out.cell (p := ⟨y, 1, none⟩) (by simp; omega)).trans e6
             have f7 : w7.cell? ⟨y, 2, none⟩ = some (.pointer p2) := (HB67.out.cell (p := ⟨y, 2, none⟩) (by simp; omega)).trans e7
             have f8 : w7.cell? ⟨y, 3, none⟩ = some (.pointer p3) := (HB67.out.cell (p := ⟨y, 3, none⟩) (by simp; omega)).trans e8
             have f9 : w7.cell? ⟨y, 4, none⟩ = some (.pointer p4) := (HB67.out.cell (p := ⟨y, 4, none⟩) (by simp; omega)).trans e9
             have f10 : w7.cell? ⟨y, 5, none⟩ = some (.pointer p5) := (HB67.out.cell (p := ⟨y, 5, none⟩) (by simp; omega)).trans e10
             have f11 : w7.cell? ⟨y, 6, none⟩ = some (.pointer p6) := (HB67.out.cell (p := ⟨y, 6, none⟩) (by simp; omega)).trans e11
             have f12 : w7.cell? ⟨y, 7, none⟩ = some (.pointer p7) := (HB67.out.cell (p := ⟨y, 7, none⟩) (by simp; omega)).trans e12
             have HS7 : Hid (w7.cell? ⟨x, 0, none⟩ = some (.string k) ∧ w7.cell? ⟨x, 1, none⟩ = some (.int .i64 q) ∧ w7.cell? ⟨x, 2, none⟩ = some (.bool g) ∧ w7.cell? ⟨x, 3, none⟩ = some (.string v) ∧ w7.cell? ⟨x, 4, none⟩ = some (.int .i64 t) ∧ w7.cell? ⟨y, 0, none⟩ = some (.pointer p0) ∧ w7.cell? ⟨y, 1, none⟩ = some (.pointer p1) ∧ w7.cell? ⟨y, 2, none⟩ = some (.pointer p2) ∧ w7.cell? ⟨y, 3, none⟩ = some (.pointer p3) ∧ w7.cell? ⟨y, 4, none⟩ = some (.pointer p4) ∧ w7.cell? ⟨y, 5, none⟩ = some (.pointer p5) ∧ w7.cell? ⟨y, 6, none⟩ = some (.pointer p6) ∧ w7.cell? ⟨y, 7, none⟩ = some (.pointer p7)) := Lib.hid ⟨f0, f1, f2, f3, f4, f5, f6, f7, f8, f9, f10, f11, f12⟩
             clear hb)
          | (go_at_call 59
             refine (HNH.out w7 c (z + C) (HM6.out.below HB67.out) rfl).mono ?_
             rintro r w8 ⟨rfl, hb⟩
             have HB68 : Hid (Below w6.heap.size w6 w8) := Lib.hid (HB67.out.trans (hb.mono HB67.out.size))
             have HM8 := Lib.hid (HM6.out.below HB68.out)
             have g0 : w8.cell? ⟨x, 0, none⟩ = some (.string k) := (HB68.out.cell (p := ⟨x, 0, none⟩) (by simp; omega)).trans e0
             have g1 : w8.cell? ⟨x, 1, none⟩ = some (.int .i64 q) := (HB68.out.cell (p := ⟨x, 1, none⟩) (by simp; omega)).trans e1
             have g2 : w8.cell? ⟨x, 2, none⟩ = some (.bool g) := (HB68.out.cell (p := ⟨x, 2, none⟩) (by simp; omega)).trans e2
             have g3 : w8.cell? ⟨x, 3, none⟩ = some (.string v) := (HB68.out.cell (p := ⟨x, 3, none⟩) (by simp; omega)).trans e3
             have g4 : w8.cell? ⟨x, 4, none⟩ = some (.int .i64 t) := (HB68.out.cell (p := ⟨x, 4, none⟩) (by simp; omega)).trans e4
             have g5 : w8.cell? ⟨y, 0, none⟩ = some (.pointer p0) := (HB68.out.cell (p := ⟨y, 0, none⟩) (by simp; omega)).trans e5
             have g6 : w8.cell? ⟨y, 1, none⟩ = some (.pointer p1) := (HB68.out.cell (p := ⟨y, 1, none⟩) (by simp; omega)).trans e6
             have g7 : w8.cell? ⟨y, 2, none⟩ = some (.pointer p2) := (HB68.out.cell (p := ⟨y, 2, none⟩) (by simp; omega)).trans e7
             have g8 : w8.cell? ⟨y, 3, none⟩ = some (.pointer p3) := (HB68.out.cell (p := ⟨y, 3, none⟩) (by simp; omega)).trans e8
             have g9 : w8.cell? ⟨y, 4, none⟩ = some (.pointer p4) := (HB68.out.cell (p := ⟨y, 4, none⟩) (by simp; omega)).trans e9
             have g10 : w8.cell? ⟨y, 5, none⟩ = some (.pointer p5) := (HB68.out.cell (p := ⟨y, 5, none⟩) (by simp; omega)).trans e10
             have g11 : w8.cell? ⟨y, 6, none⟩ = some (.pointer p6) := (HB68.out.cell (p := ⟨y, 6, none⟩) (by simp; omega)).trans e11
             have g12 : w8.cell? ⟨y, 7, none⟩ = some (.pointer p7) := (HB68.out.cell (p := ⟨y, 7, none⟩) (by simp; omega)).trans e12
             have HS8 : Hid (w8.cell? ⟨x, 0, none⟩ = some (.string k) ∧ w8.cell? ⟨x, 1, none⟩ = some (.int .i64 q) ∧ w8.cell? ⟨x, 2, none⟩ = some (.bool g) ∧ w8.cell? ⟨x, 3, none⟩ = some (.string v) ∧ w8.cell? ⟨x, 4, none⟩ = some (.int .i64 t) ∧ w8.cell? ⟨y, 0, none⟩ = some (.pointer p0) ∧ w8.cell? ⟨y, 1, none⟩ = some (.pointer p1) ∧ w8.cell? ⟨y, 2, none⟩ = some (.pointer p2) ∧ w8.cell? ⟨y, 3, none⟩ = some (.pointer p3) ∧ w8.cell? ⟨y, 4, none⟩ = some (.pointer p4) ∧ w8.cell? ⟨y, 5, none⟩ = some (.pointer p5) ∧ w8.cell? ⟨y, 6, none⟩ = some (.pointer p6) ∧ w8.cell? ⟨y, 7, none⟩ = some (.pointer p7)) := Lib.hid ⟨g0, g1, g2, g3, g4, g5, g6, g7, g8, g9, g10, g11, g12⟩
             clear hb)
          | fail)
      all_goals
        have zc : w9.cell? ⟨a, 9, none⟩ = some (.int .i64 c) := HM9.out.cells 9
        have fc : w9.frozen? ⟨a, 9, none⟩ = false := HM9.out.frozen 9
        have HM10 : Hid (Mid B (w9.setCell ⟨a, 9, none⟩ (.int .i64 ((c : Int) + 1))) a hb cs (pre ++ ⟨w8.heap.size + 1, w8.heap.size, H, H, ⟨k, q, g, v, t⟩⟩ :: post) (c + 1) (z + C)) := Lib.hid (HM9.out.setCount (c + 1))
        have HK10 : Hid (Keeps (a :: hb :: blks (pre ++ post)) w (w9.setCell ⟨a, 9, none⟩ (.int .i64 ((c : Int) + 1)))) := Lib.hid (HK9.out.set a 9 _ (.inl (by simp)))
        have HNEW : Hid (w.heap.size ≤ w8.heap.size) := Lib.hid (Nat.le_trans HK6.out.size HB68.out.size)
        clear HS9 HS8 HS7 HM9 HK9 HLK2 HLK
        go_wp2
        go_ret
        refine ⟨rfl, _, HREP2.out _ _ HM10.out rfl ⟨rfl, hht⟩, HK10.out, fun b hm => ?_⟩
        have hnew := HNEW.out
        rw [blks_app, blks_cons] at hm
        rw [blks_app]
        simp only [List.mem_cons, List.mem_append] at hm ⊢
        rcases hm with h | h | h | h
        · exact .inl (.inl h)
        · exact .inr (by omega)
        · exact .inr (by omega)
        · exact .inl (.inr h)

set_option maxRecDepth 100000 in
set_option maxHeartbeats 4000000 in
theorem put_amid {B : Nat} {w : World} {a hb : Nat} {cs : List Int} {l : List ND} {s : St} (h : Rep B w a hb cs l s) (hB : B ≤ w.heap.size) (e : E) (he : e.wf) (hg : good e = 0) (pre post : List ND) (hl : l = pre ++ post) (hpre : ∀ d ∈ pre, less d.e e = true) (hpost : ∀ d ∈ post, less d.e e = false) (d : ND) (r : List ND) (hpd : post = d :: r) (hle : less e d.e = true) (hsz : 0 ≤ s.size ∧ s.size ≤ 1152921504606846976) (hlen : s.l.length ≤ 1152921504606846976) (h1e : pre.map (·.e) = front e s.l) (h2e : post.map (·.e) = rest e s.l) :
    Calls Tryz.prog 17 #[.pointer (some ⟨a, 0, none⟩), e.val] w fun r w' => r = .returned (.int .i64 0) ∧ ∃ l', Rep B w' a hb cs l' ⟨front e s.l ++ e :: rest e s.l, s.size + cost cs s.l.length e⟩ ∧ Keeps (a :: hb :: blks l) w w' ∧ ∀ x ∈ blks l', x ∈ blks l ∨ w.heap.size ≤ x := by
  have h1 : ∀ d ∈ l, 1 ≤ d.h := fun d hd => (h.full d hd).2.1
  have hlst : (lst 0 pre).map (·.b) = pre.getLast?.map (·.b) := by rw [lst0_last fun d hd => h1 d (by rw [hl]; simp [hd])]
  have hnx : nx 0 post = post.head?.map (·.b) := nx0_head fun d hd => h1 d (by rw [hl]; simp [hd])
  have HG : Hid (∀ W, Calls Tryz.prog 26 #[e.val] W fun r w' => r = .returned (.int .i64 0) ∧ Below W.heap.size W w') := fun W => by have := good_any e W he; rw [hg] at this; exact this
  have HA : Hid (∀ W, Below w.heap.size w W → Calls Tryz.prog 54 #[.pointer (some ⟨a, 0, none⟩), e.val] W fun r w' => r = .returned (aheadV pre) ∧ Below W.heap.size W w') := fun W hB => ahead_any (h.below hB) e pre post hl hpre hpost
  have HN : Hid (∀ W, Below w.heap.size w W → Calls Tryz.prog 55 #[.pointer (some ⟨a, 0, none⟩), pv (pre.getLast?.map (·.b))] W fun e w' => e = .returned (towerV a pre.getLast?) ∧ W = w') := fun W hB =>
    next_any a pre.getLast? W (fun d hd => (h.below hB).node (by rw [hl]; exact List.mem_append_left _ (List.mem_of_getLast? hd)))
  have HT : Hid (∀ W, Below w.heap.size w W → W.cell? ⟨towerB a pre.getLast?, towerO pre.getLast? + 0, none⟩ = some (pv (nx 0 post)) ∧ 0 < towerN pre.getLast?) := fun W hB => by
    obtain ⟨x, y, -⟩ := (h.below hB).tower pre post hl 0 (fun d hd => h1 d (by rw [hl]; exact List.mem_append_left _ (List.mem_of_getLast? hd))) (by omega)
    exact ⟨x, y⟩
  have HL : Hid (∀ W, Calls Tryz.prog 56 #[e.val, d.e.val] W fun r w' => r = .returned (.bool true) ∧ Below W.heap.size W w') := fun W => by have := less_any e d.e W; rw [hle] at this; exact this
  have HND : Hid (∀ W, Below w.heap.size w W → W.heap[d.b]? = some (.cells (ncells d) 100 (0, 0))) := fun W hB => (h.below hB).node (by rw [hl, hpd]; simp)
  have hhd : post.head?.map (·.b) = some d.b := by rw [hpd]; rfl
  rw [hhd] at hnx
  clear hhd
  have hgz := good_zero hg
  have hht := height_range cs s.l.length
  have HCO : Hid (∀ W, Below w.heap.size w W → Calls Tryz.prog 57 #[.pointer (some ⟨a, 0, none⟩), e.val] W fun r w' => r = .returned (.int .i64 (cost cs s.l.length e)) ∧ Below W.heap.size W w') := fun W hB => cost_any (h.below hB) e he
  have HCL : Hid (∀ W, Calls Tryz.prog 53 #[e.val] W fun r w' => r = .returned e.val ∧ Below W.heap.size W w') := fun W => eclone_any e W ⟨by have := he.key; omega, by have := he.value; omega⟩
  have hco : 0 ≤ cost cs s.l.length e ∧ cost cs s.l.length e ≤ 1000 := by unfold cost; omega
  obtain ⟨C, hC⟩ : ∃ C, cost cs s.l.length e = C := ⟨_, rfl⟩
  obtain ⟨H, hH⟩ : ∃ H, height cs s.l.length = H := ⟨_, rfl⟩
  obtain ⟨c, hc⟩ : ∃ c, s.l.length = c := ⟨_, rfl⟩
  obtain ⟨z, hz⟩ : ∃ z, s.size = z := ⟨_, rfl⟩
  have HM0 : Hid (Mid B w a hb cs (pre ++ post) c z) := Lib.hid (by rw [← hc, ← hz, ← hl]; exact h.mid)
  have HFULL : Hid (∀ d ∈ pre ++ post, d.h = d.c ∧ 1 ≤ d.h ∧ d.h ≤ 8) := Lib.hid (by rw [← hl]; exact h.full)
  have HBL : Hid (∀ x ∈ a :: hb :: blks (pre ++ post), x < w.heap.size) := Lib.hid (fun x hx => (HM0.out.lo x hx).2)
  have HBB0 := Lib.hid hB
  have HREP : Hid (∀ W n z', Mid B W a hb cs (pre ++ n :: post) (c + 1) z' → n.e = e → (n.h = n.c ∧ 1 ≤ n.h ∧ n.h ≤ 8) → Rep B W a hb cs (pre ++ n :: post) ⟨front e s.l ++ e :: rest e s.l, z'⟩) := fun W n z' hm hne hn => by
    subst hne
    exact put_rep (by rw [hc]; exact hm) HFULL.out hn h1e h2e
  have hcH : cs.length = cs.length := rfl
  have HNH : Hid (∀ W cc zz, Mid B W a hb cs (pre ++ post) c zz → cc = c → Calls Tryz.prog 59 #[.pointer (some ⟨a, 0, none⟩)] W fun e w' => e = .returned (.int .i64 H) ∧ Below W.heap.size W w') := fun W cc zz hm _ => by
    have := nextHeight_at (n := c) (hm.cells 0) (hm.cells 9) hm.coins
    rw [← hc, hH] at this
    exact this
  rw [hC] at HCO hco ⊢
  rw [hH] at hht
  rw [hc] at hlen
  rw [hz] at hsz ⊢
  rw [hl]
  have HFR : Hid (front e s.l = front e s.l) := rfl
  have hwz : IntKind.i64.wrap (z + C) = z + C := wrap_in _ (by omega)
  have hwc : IntKind.i64.wrap ((c : Int) + 1) = (c : Int) + 1 := wrap_in _ (by omega)
  obtain ⟨S', hS'⟩ : ∃ S', (⟨front e s.l ++ e :: rest e s.l, z + C⟩ : St) = S' := ⟨_, rfl⟩
  have HREP2 : Hid (∀ W n, Mid B W a hb cs (pre ++ n :: post) (c + 1) (z + C) → n.e = e → (n.h = n.c ∧ 1 ≤ n.h ∧ n.h ≤ 8) → Rep B W a hb cs (pre ++ n :: post) S') := fun W n hm hne hn => by
    rw [← hS']
    exact HREP.out W n _ hm hne hn
  rw [hS']
  have HLK : Hid (∀ W, Mid B W a hb cs (pre ++ post) c (z + C) → B ≤ W.heap.size → Calls Tryz.prog 58 #[.pointer (some ⟨a, 0, none⟩), .pointer (some ⟨W.heap.size + 1, 0, none⟩), aheadV pre] (nodeW W e H) fun r w' => (∃ v, r = .returned v) ∧ Mid B w' a hb cs (pre ++ ⟨W.heap.size + 1, W.heap.size, H, H, e⟩ :: post) c (z + C) ∧ Keeps (a :: hb :: blks (pre ++ ⟨W.heap.size + 1, W.heap.size, 0, H, e⟩ :: post)) (nodeW W e H) w') := fun W hm hBW =>
    link_any (hm.fresh hBW e H) rfl hht.2
  have hmk := fun W => make_tower W H hht.2
  unfold nodeW at HLK
  clear h hB he hg hl hpre hpost h1 hC hH hc hz h1e h2e hgz HREP HFR hcH hS'
  obtain ⟨p0, hp0⟩ : ∃ p, ((lst 0 pre).map (fun d : ND => d.b)).map (fun b => (⟨b, 0, none⟩ : Addr)) = p := ⟨_, rfl⟩
  obtain ⟨p1, hp1⟩ : ∃ p, ((lst 1 pre).map (fun d : ND => d.b)).map (fun b => (⟨b, 0, none⟩ : Addr)) = p := ⟨_, rfl⟩
  obtain ⟨p2, hp2⟩ : ∃ p, ((lst 2 pre).map (fun d : ND => d.b)).map (fun b => (⟨b, 0, none⟩ : Addr)) = p := ⟨_, rfl⟩
  obtain ⟨p3, hp3⟩ : ∃ p, ((lst 3 pre).map (fun d : ND => d.b)).map (fun b => (⟨b, 0, none⟩ : Addr)) = p := ⟨_, rfl⟩
  obtain ⟨p4, hp4⟩ : ∃ p, ((lst 4 pre).map (fun d : ND => d.b)).map (fun b => (⟨b, 0, none⟩ : Addr)) = p := ⟨_, rfl⟩
  obtain ⟨p5, hp5⟩ : ∃ p, ((lst 5 pre).map (fun d : ND => d.b)).map (fun b => (⟨b, 0, none⟩ : Addr)) = p := ⟨_, rfl⟩
  obtain ⟨p6, hp6⟩ : ∃ p, ((lst 6 pre).map (fun d : ND => d.b)).map (fun b => (⟨b, 0, none⟩ : Addr)) = p := ⟨_, rfl⟩
  obtain ⟨p7, hp7⟩ : ∃ p, ((lst 7 pre).map (fun d : ND => d.b)).map (fun b => (⟨b, 0, none⟩ : Addr)) = p := ⟨_, rfl⟩
  have HV : Hid (aheadV pre = .agg #[.pointer p0, .pointer p1, .pointer p2, .pointer p3, .pointer p4, .pointer p5, .pointer p6, .pointer p7]) := Lib.hid (by
    unfold aheadV arr8 pv
    dsimp only
    rw [hp0, hp1, hp2, hp3, hp4, hp5, hp6, hp7])
  unfold towerV at HN
  obtain ⟨tb, htb⟩ : ∃ y, towerB a pre.getLast? = y := ⟨_, rfl⟩
  obtain ⟨to, hto⟩ : ∃ y, towerO pre.getLast? = y := ⟨_, rfl⟩
  obtain ⟨tn, htn⟩ : ∃ y, towerN pre.getLast? = y := ⟨_, rfl⟩
  have hpp0 : pv (pre.getLast?.map (·.b)) = .pointer p0 := by rw [← hp0, hlst]; rfl
  rw [htb, hto, htn, hpp0] at HN
  rw [htb, hto, htn, hnx] at HT
  rw [HV.out] at HA
  simp only [pv, Option.map_some] at HT
  obtain ⟨k, q, g, v, t⟩ := e
  rw [HV.out] at HLK
  simp only [E.val] at HG HA HCO HCL HLK ⊢
  clear htb hto htn hpp0 hp0 hp1 hp2 hp3 hp4 hp5 hp6 hp7 hlst hnx
  obtain ⟨x, hx⟩ : ∃ x, w.heap.size = x := ⟨_, rfl⟩
  have HX := Lib.hid hx
  have HB0 := Lib.hid ((Below.refl w.heap.size w).alloc (Nat.le_refl _) (.cells #[.string k, .int .i64 q, .bool g, .string v, .int .i64 t] 45))
  have HR0 := Lib.hid (heap_alloc_new w (.cells #[.string k, .int .i64 q, .bool g, .string v, .int .i64 t] 45))
  have HZ0 : Hid ((w.alloc (.cells #[.string k, .int .i64 q, .bool g, .string v, .int .i64 t] 45)).heap.size = x + 1) := Lib.hid (by rw [← hx]; simp)
  rw [hx] at HB0 HR0
  clear hx
  go_enter Tryz.func17, Tryz.ntmps17
  go_wp2_with fail
  generalize w.alloc (.cells #[.string k, .int .i64 q, .bool g, .string v, .int .i64 t] 45) = W0 at HB0 HR0 HZ0 ⊢
  rw [HX.out]
  refine (HG.out _).mono ?_
  rintro r w1 ⟨rfl, hb⟩
  have HB1 : Hid (Below (x + 1) W0 w1) := Lib.hid (hb.mono (by have := HZ0.out; omega))
  clear hb
  have hR1 : w1.heap[x]? = some (.cells #[.string k, .int .i64 q, .bool g, .string v, .int .i64 t] 45 (0, 0)) := (HB1.out.block x (by omega)).trans HR0.out
  have b0 : w1.cell? ⟨x, 0, none⟩ = some (.string k) := cell_of_row _ _ _ _ _ _ hR1
  have b1 : w1.cell? ⟨x, 1, none⟩ = some (.int .i64 q) := cell_of_row _ _ _ _ _ _ hR1
  have b2 : w1.cell? ⟨x, 2, none⟩ = some (.bool g) := cell_of_row _ _ _ _ _ _ hR1
  have b3 : w1.cell? ⟨x, 3, none⟩ = some (.string v) := cell_of_row _ _ _ _ _ _ hR1
  have b4 : w1.cell? ⟨x, 4, none⟩ = some (.int .i64 t) := cell_of_row _ _ _ _ _ _ hR1
  have hlt1 : x + 1 ≤ w1.heap.size := by have := HZ0.out; have := HB1.out.size; omega
  have HBW1 : Hid (Below w.heap.size w w1) := Lib.hid (by rw [HX.out]; exact HB0.out.trans (HB1.out.mono (by omega)))
  clear hR1
  go_wp2_with fail
  refine (HA.out _ HBW1.out).mono ?_
  rintro r w2 ⟨rfl, hb⟩
  have HB2 : Hid (Below x w w2) := Lib.hid ((HB0.out.trans (HB1.out.mono (by omega))).trans (hb.mono (by omega)))
  have hR2 : w2.heap[x]? = some (.cells #[.string k, .int .i64 q, .bool g, .string v, .int .i64 t] 45 (0, 0)) := (hb.block x (by omega)).trans ((HB1.out.block x (by omega)).trans HR0.out)
  have hlt2 : x + 1 ≤ w2.heap.size := by have := hb.size; omega
  have HB3 : Hid (Below x w (w2.alloc (.cells #[.pointer p0, .pointer p1, .pointer p2, .pointer p3, .pointer p4, .pointer p5, .pointer p6, .pointer p7] 90))) := Lib.hid (HB2.out.alloc (by omega) _)
  have HA3 := Lib.hid (heap_alloc_new w2 (.cells #[.pointer p0, .pointer p1, .pointer p2, .pointer p3, .pointer p4, .pointer p5, .pointer p6, .pointer p7] 90))
  have HR3 : Hid ((w2.alloc (.cells #[.pointer p0, .pointer p1, .pointer p2, .pointer p3, .pointer p4, .pointer p5, .pointer p6, .pointer p7] 90)).heap[x]? = some (.cells #[.string k, .int .i64 q, .bool g, .string v, .int .i64 t] 45 (0, 0))) := Lib.hid ((Below.heap_alloc _ _ _ (by omega)).trans hR2)
  have HZ3 : Hid ((w2.alloc (.cells #[.pointer p0, .pointer p1, .pointer p2, .pointer p3, .pointer p4, .pointer p5, .pointer p6, .pointer p7] 90)).heap.size = w2.heap.size + 1) := Lib.hid (by simp)
  clear hb hR2 b0 b1 b2 b3 b4 hlt1
  go_wp2_with fail
  generalize w2.alloc (.cells #[.pointer p0, .pointer p1, .pointer p2, .pointer p3, .pointer p4, .pointer p5, .pointer p6, .pointer p7] 90) = w3 at HB3 HA3 HR3 HZ3 ⊢
  obtain ⟨y, hy⟩ : ∃ y, w2.heap.size = y := ⟨_, rfl⟩
  rw [hy] at HA3 HZ3 hlt2 ⊢
  clear hy HB2
  have HBW3 : Hid (Below w.heap.size w w3) := Lib.hid (by rw [HX.out]; exact HB3.out)
  obtain ⟨zt, hz0⟩ := HT.out w3 HBW3.out
  simp only [Nat.add_zero] at zt
  refine (HN.out _ HBW3.out).mono ?_
  rintro r w3' ⟨rfl, rfl⟩
  have hz0' : (0 : Int) < (tn : Int) := by omega
  have hlt3 : y + 1 ≤ w3.heap.size := by have := HZ3.out; omega
  go_wp2_with fail
  have b0 : w3.cell? ⟨x, 0, none⟩ = some (.string k) := cell_of_row _ _ _ _ _ _ HR3.out
  have b1 : w3.cell? ⟨x, 1, none⟩ = some (.int .i64 q) := cell_of_row _ _ _ _ _ _ HR3.out
  have b2 : w3.cell? ⟨x, 2, none⟩ = some (.bool g) := cell_of_row _ _ _ _ _ _ HR3.out
  have b3 : w3.cell? ⟨x, 3, none⟩ = some (.string v) := cell_of_row _ _ _ _ _ _ HR3.out
  have b4 : w3.cell? ⟨x, 4, none⟩ = some (.int .i64 t) := cell_of_row _ _ _ _ _ _ HR3.out
  clear zt hz0 hz0' HT HN HA HG
  have hnd := HND.out w3 HBW3.out
  have hdlt : d.b < w3.heap.size := (Array.getElem?_eq_some_iff.1 hnd).1
  obtain ⟨b, hb'⟩ : ∃ b, d.b = b := ⟨_, rfl⟩
  unfold ncells at hnd
  rw [hb'] at hnd hdlt ⊢
  obtain ⟨de, hde⟩ : ∃ de, d.e = de := ⟨_, rfl⟩
  rw [hde] at hnd HL
  obtain ⟨k2, q2, g2, v2, t2⟩ := de
  simp only [E.val] at hnd HL
  have z0 : w3.cell? ⟨b, 0, none⟩ = some (.string k2) := cell_of_row _ _ _ _ _ _ hnd
  have z1 : w3.cell? ⟨b, 1, none⟩ = some (.int .i64 q2) := cell_of_row _ _ _ _ _ _ hnd
  have z2 : w3.cell? ⟨b, 2, none⟩ = some (.bool g2) := cell_of_row _ _ _ _ _ _ hnd
  have z3 : w3.cell? ⟨b, 3, none⟩ = some (.string v2) := cell_of_row _ _ _ _ _ _ hnd
  have z4 : w3.cell? ⟨b, 4, none⟩ = some (.int .i64 t2) := cell_of_row _ _ _ _ _ _ hnd
  clear hnd hb' hde
  go_region_held3 (fun w' => w'.cell? ⟨b, 0, none⟩ = some (.string k2) ∧ w'.cell? ⟨b, 1, none⟩ = some (.int .i64 q2) ∧ w'.cell? ⟨b, 2, none⟩ = some (.bool g2) ∧ w'.cell? ⟨b, 3, none⟩ = some (.string v2) ∧ w'.cell? ⟨b, 4, none⟩ = some (.int .i64 t2) ∧ w'.cell? ⟨x, 0, none⟩ = some (.string k) ∧ w'.cell? ⟨x, 1, none⟩ = some (.int .i64 q) ∧ w'.cell? ⟨x, 2, none⟩ = some (.bool g) ∧ w'.cell? ⟨x, 3, none⟩ = some (.string v) ∧ w'.cell? ⟨x, 4, none⟩ = some (.int .i64 t))
    (first | go_keep | exact HS4.out | fail)
    (first
      | (go_at_call 56
         refine (HL.out _).mono ?_
         rintro e w4 ⟨rfl, hbb⟩
         have HBB : Hid (Below w3.heap.size w3 w4) := Lib.hid (Below.trans (Below.refl _ _).drew hbb)
         have HS4 : Hid (w4.cell? ⟨b, 0, none⟩ = some (.string k2) ∧ w4.cell? ⟨b, 1, none⟩ = some (.int .i64 q2) ∧ w4.cell? ⟨b, 2, none⟩ = some (.bool g2) ∧ w4.cell? ⟨b, 3, none⟩ = some (.string v2) ∧ w4.cell? ⟨b, 4, none⟩ = some (.int .i64 t2) ∧ w4.cell? ⟨x, 0, none⟩ = some (.string k) ∧ w4.cell? ⟨x, 1, none⟩ = some (.int .i64 q) ∧ w4.cell? ⟨x, 2, none⟩ = some (.bool g) ∧ w4.cell? ⟨x, 3, none⟩ = some (.string v) ∧ w4.cell? ⟨x, 4, none⟩ = some (.int .i64 t)) := Lib.hid ⟨(hbb.cell (p := ⟨b, 0, none⟩) (by simp; omega)).trans z0, (hbb.cell (p := ⟨b, 1, none⟩) (by simp; omega)).trans z1, (hbb.cell (p := ⟨b, 2, none⟩) (by simp; omega)).trans z2, (hbb.cell (p := ⟨b, 3, none⟩) (by simp; omega)).trans z3, (hbb.cell (p := ⟨b, 4, none⟩) (by simp; omega)).trans z4, (hbb.cell (p := ⟨x, 0, none⟩) (by simp; omega)).trans b0, (hbb.cell (p := ⟨x, 1, none⟩) (by simp; omega)).trans b1, (hbb.cell (p := ⟨x, 2, none⟩) (by simp; omega)).trans b2, (hbb.cell (p := ⟨x, 3, none⟩) (by simp; omega)).trans b3, (hbb.cell (p := ⟨x, 4, none⟩) (by simp; omega)).trans b4⟩
         clear hbb)
      | fail)
  all_goals
    have hB34 : Below w3.heap.size w3 w4 := HBB.out
    clear HS4 z0 z1 z2 z3 z4 HBB
    have HB4 : Hid (Below w.heap.size w w4) := Lib.hid (HBW3.out.trans (hB34.mono (by have := HX.out; omega)))
    have hRX4 : w4.heap[x]? = some (.cells #[.string k, .int .i64 q, .bool g, .string v, .int .i64 t] 45 (0, 0)) := (hB34.block x (by omega)).trans HR3.out
    have hRY4 : w4.heap[y]? = some (.cells #[.pointer p0, .pointer p1, .pointer p2, .pointer p3, .pointer p4, .pointer p5, .pointer p6, .pointer p7] 90 (0, 0)) := (hB34.block y (by omega)).trans HA3.out
    have hlt4 : y + 1 ≤ w4.heap.size := by have := hB34.size; omega
    have hM4 : Mid B w4 a hb cs (pre ++ post) c z := HM0.out.below HB4.out
    have zs : w4.cell? ⟨a, 10, none⟩ = some (.int .i64 z) := hM4.cells 10
    have fs : w4.frozen? ⟨a, 10, none⟩ = false := hM4.frozen 10
    have hax : a < x := by have := HBL.out a (by simp); have := HX.out; omega
    clear hB34 b0 b1 b2 b3 b4
    have b0 : w4.cell? ⟨x, 0, none⟩ = some (.string k) := cell_of_row _ _ _ _ _ _ hRX4
    have b1 : w4.cell? ⟨x, 1, none⟩ = some (.int .i64 q) := cell_of_row _ _ _ _ _ _ hRX4
    have b2 : w4.cell? ⟨x, 2, none⟩ = some (.bool g) := cell_of_row _ _ _ _ _ _ hRX4
    have b3 : w4.cell? ⟨x, 3, none⟩ = some (.string v) := cell_of_row _ _ _ _ _ _ hRX4
    have b4 : w4.cell? ⟨x, 4, none⟩ = some (.int .i64 t) := cell_of_row _ _ _ _ _ _ hRX4
    have HM4 := Lib.hid hM4
    have HRX4 := Lib.hid hRX4
    have HRY4 := Lib.hid hRY4
    clear hM4 hRX4 hRY4
    go_wp2_with fail
    go_region_with (
      go_at_call 57
      refine (HCO.out _ (HB4.out.trans (Below.mono ((Below.refl w4.heap.size w4).drew) (by have := HX.out; omega)))).mono ?_
      rintro r w5 ⟨rfl, hb⟩
      have HB45 : Hid (Below w4.heap.size w4 w5) := Lib.hid (Below.trans ((Below.refl _ w4).drew) hb)
      have zs5 : w5.cell? ⟨a, 10, none⟩ = some (.int .i64 z) := (HB45.out.cell (p := ⟨a, 10, none⟩) (by simp; omega)).trans zs
      have fs5 : w5.frozen? ⟨a, 10, none⟩ = false := (HB45.out.frozen (p := ⟨a, 10, none⟩) (by simp; omega)).trans fs
      clear hb)
    all_goals
      have hM6 : Mid B (w5.setCell ⟨a, 10, none⟩ (.int .i64 (z + C))) a hb cs (pre ++ post) c (z + C) := (HM4.out.below HB45.out).setSize _
      have hK6 : Keeps (a :: hb :: blks (pre ++ post)) w (w5.setCell ⟨a, 10, none⟩ (.int .i64 (z + C))) := (Keeps.of_below (HB4.out.trans (HB45.out.mono (by have := HX.out; omega)))).set a 10 _ (.inl (by simp))
      have hRX6 : (w5.setCell ⟨a, 10, none⟩ (.int .i64 (z + C))).heap[x]? = some (.cells #[.string k, .int .i64 q, .bool g, .string v, .int .i64 t] 45 (0, 0)) := (Below.heap_setCell _ _ _ _ (Ne.symm (Nat.ne_of_lt hax))).trans ((HB45.out.block x (by omega)).trans HRX4.out)
      have hRY6 : (w5.setCell ⟨a, 10, none⟩ (.int .i64 (z + C))).heap[y]? = some (.cells #[.pointer p0, .pointer p1, .pointer p2, .pointer p3, .pointer p4, .pointer p5, .pointer p6, .pointer p7] 90 (0, 0)) := (Below.heap_setCell _ _ _ _ (Ne.symm (Nat.ne_of_lt (show a < y by omega)))).trans ((HB45.out.block y (by omega)).trans HRY4.out)
      have hlt6 : y + 1 ≤ (w5.setCell ⟨a, 10, none⟩ (.int .i64 (z + C))).heap.size := by rw [setCell_size]; have := HB45.out.size; omega
      clear HM4 HRX4 HRY4 HB45 b0 b1 b2 b3 b4 zs fs zs5 fs5 hlt4
      go_wp2_with fail
      generalize w5.setCell ⟨a, 10, none⟩ (.int .i64 (z + C)) = w6 at hM6 hK6 hRX6 hRY6 hlt6 ⊢
      have S6 : w6.cell? ⟨x, 0, none⟩ = some (.string k) ∧ w6.cell? ⟨x, 1, none⟩ = some (.int .i64 q) ∧ w6.cell? ⟨x, 2, none⟩ = some (.bool g) ∧ w6.cell? ⟨x, 3, none⟩ = some (.string v) ∧ w6.cell? ⟨x, 4, none⟩ = some (.int .i64 t) ∧ w6.cell? ⟨y, 0, none⟩ = some (.pointer p0) ∧ w6.cell? ⟨y, 1, none⟩ = some (.pointer p1) ∧ w6.cell? ⟨y, 2, none⟩ = some (.pointer p2) ∧ w6.cell? ⟨y, 3, none⟩ = some (.pointer p3) ∧ w6.cell? ⟨y, 4, none⟩ = some (.pointer p4) ∧ w6.cell? ⟨y, 5, none⟩ = some (.pointer p5) ∧ w6.cell? ⟨y, 6, none⟩ = some (.pointer p6) ∧ w6.cell? ⟨y, 7, none⟩ = some (.pointer p7) := ⟨cell_of_row _ _ _ _ _ _ hRX6, cell_of_row _ _ _ _ _ _ hRX6, cell_of_row _ _ _ _ _ _ hRX6, cell_of_row _ _ _ _ _ _ hRX6, cell_of_row _ _ _ _ _ _ hRX6, cell_of_row _ _ _ _ _ _ hRY6, cell_of_row _ _ _ _ _ _ hRY6, cell_of_row _ _ _ _ _ _ hRY6, cell_of_row _ _ _ _ _ _ hRY6, cell_of_row _ _ _ _ _ _ hRY6, cell_of_row _ _ _ _ _ _ hRY6, cell_of_row _ _ _ _ _ _ hRY6, cell_of_row _ _ _ _ _ _ hRY6⟩
      obtain ⟨e0, e1, e2, e3, e4, e5, e6, e7, e8, e9, e10, e11, e12⟩ := S6
      have HM6 := Lib.hid hM6
      have HK6 := Lib.hid hK6
      clear hM6 hK6 hRX6 hRY6
      have HLK2 : Hid (∀ w8, Below w6.heap.size w6 w8 → Calls Tryz.prog 58 #[.pointer (some ⟨a, 0, none⟩), .pointer (some ⟨w8.heap.size + 1, 0, none⟩), .agg #[.pointer p0, .pointer p1, .pointer p2, .pointer p3, .pointer p4, .pointer p5, .pointer p6, .pointer p7]] ((w8.alloc (.cells (madeCells #[.pointer none] H) 89)).alloc (.cells #[.string k, .int .i64 q, .bool g, .string v, .int .i64 t, .slice (some ⟨w8.heap.size, 0, none⟩) H H] 100)) fun r w9 => (∃ v, r = .returned v) ∧
          Mid B w9 a hb cs (pre ++ ⟨w8.heap.size + 1, w8.heap.size, H, H, ⟨k, q, g, v, t⟩⟩ :: post) c (z + C) ∧ Keeps (a :: hb :: blks (pre ++ post)) w w9 ∧ (∀ j, w9.cell? ⟨x, j, none⟩ = w8.cell? ⟨x, j, none⟩) ∧ (∀ j, w9.cell? ⟨y, j, none⟩ = w8.cell? ⟨y, j, none⟩)) := Lib.hid fun w8 hb8 => by
        have h8 := hb8.size
        have h6 := HK6.out.size
        have hxw := HX.out
        refine (HLK.out w8 (HM6.out.below hb8) (by have := HBB0.out; omega)).mono ?_
        rintro r w9 ⟨hv, hm9, hk9⟩
        have hnb : Below w8.heap.size w8 (nodeW w8 ⟨k, q, g, v, t⟩ H) := nodeW_below _ _ _
        have hin : ∀ b, b ∈ a :: hb :: blks (pre ++ ⟨w8.heap.size + 1, w8.heap.size, 0, H, ⟨k, q, g, v, t⟩⟩ :: post) → b < w8.heap.size → b ∈ a :: hb :: blks (pre ++ post) := fun b hm hlt => by
          rw [blks_app, blks_cons] at hm
          rw [blks_app]
          simp only [List.mem_cons, List.mem_append] at hm ⊢
          rcases hm with h | h | h | h | h | h
          · exact .inl h
          · exact .inr (.inl h)
          · exact .inr (.inr (.inl h))
          · exact absurd h (by omega)
          · exact absurd h (by omega)
          · exact .inr (.inr (.inr h))
        have hfar : ∀ b, w.heap.size ≤ b → b < w8.heap.size → ∀ j, w9.cell? ⟨b, j, none⟩ = w8.cell? ⟨b, j, none⟩ := fun b h1 h2 j => by
          have e1 : w9.heap[b]? = w8.heap[b]? := (hk9.block b (by have := hnb.size; exact Nat.lt_of_lt_of_le h2 this) (fun hm => by have := HBL.out b (hin b hm h2); omega)).trans (hnb.block b h2)
          unfold World.cell?
          rw [e1]
        refine ⟨hv, hm9, ?_, hfar x (by omega) (by omega), hfar y (by omega) (by omega)⟩
        refine (HK6.out.trans (Keeps.of_below (S := []) (hb8.trans (hnb.mono h8))) (by simp)).trans hk9 fun b hm hlt => hin b hm (by omega)
      go_region_held3 (fun w' => w'.cell? ⟨x, 0, none⟩ = some (.string k) ∧ w'.cell? ⟨x, 1, none⟩ = some (.int .i64 q) ∧ w'.cell? ⟨x, 2, none⟩ = some (.bool g) ∧ w'.cell? ⟨x, 3, none⟩ = some (.string v) ∧ w'.cell? ⟨x, 4, none⟩ = some (.int .i64 t) ∧ w'.cell? ⟨y, 0, none⟩ = some (.pointer p0) ∧ w'.cell? ⟨y, 1, none⟩ = some (.pointer p1) ∧ w'.cell? ⟨y, 2, none⟩ = some (.pointer p2) ∧ w'.cell? ⟨y, 3, none⟩ = some (.pointer p3) ∧ w'.cell? ⟨y, 4, none⟩ = some (.pointer p4) ∧ w'.cell? ⟨y, 5, none⟩ = some (.pointer p5) ∧ w'.cell? ⟨y, 6, none⟩ = some (.pointer p6) ∧ w'.cell? ⟨y, 7, none⟩ = some (.pointer p7))
        (first | go_keep | exact HS7.out | exact HS8.out | exact HS9.out | fail)
        (first
          | (go_at_call 58
             refine (HLK2.out w8 HB68.out).mono ?_
             rintro r w9 ⟨⟨vv, rfl⟩, hm9, hk9, hcx, hcy⟩
             have HM9 := Lib.hid hm9
             have HK9 := Lib.hid hk9
             have HS9 : Hid (w9.cell? ⟨x, 0, none⟩ = some (.string k) ∧ w9.cell? ⟨x, 1, none⟩ = some (.int .i64 q) ∧ w9.cell? ⟨x, 2, none⟩ = some (.bool g) ∧ w9.cell? ⟨x, 3, none⟩ = some (.string v) ∧ w9.cell? ⟨x, 4, none⟩ = some (.int .i64 t) ∧ w9.cell? ⟨y, 0, none⟩ = some (.pointer p0) ∧ w9.cell? ⟨y, 1, none⟩ = some (.pointer p1) ∧ w9.cell? ⟨y, 2, none⟩ = some (.pointer p2) ∧ w9.cell? ⟨y, 3, none⟩ = some (.pointer p3) ∧ w9.cell? ⟨y, 4, none⟩ = some (.pointer p4) ∧ w9.cell? ⟨y, 5, none⟩ = some (.pointer p5) ∧ w9.cell? ⟨y, 6, none⟩ = some (.pointer p6) ∧ w9.cell? ⟨y, 7, none⟩ = some (.pointer p7)) := Lib.hid ⟨(hcx 0).trans g0, (hcx 1).trans g1, (hcx 2).trans g2, (hcx 3).trans g3, (hcx 4).trans g4, (hcy 0).trans g5, (hcy 1).trans g6, (hcy 2).trans g7, (hcy 3).trans g8, (hcy 4).trans g9, (hcy 5).trans g10, (hcy 6).trans g11, (hcy 7).trans g12⟩
             clear hm9 hk9 hcx hcy)
          | (go_at_call 53
             refine (HCL.out _).mono ?_
             rintro r w7 ⟨rfl, hb⟩
             have HB67 : Hid (Below w6.heap.size w6 w7) := Lib.hid (Below.trans ((Below.refl _ w6).drew) hb)
             have f0 : w7.cell? ⟨x, 0, none⟩ = some (.string k) := (HB67.out.cell (p := ⟨x, 0, none⟩) (by simp; omega)).trans e0
             have f1 : w7.cell? ⟨x, 1, none⟩ = some (.int .i64 q) := (HB67.out.cell (p := ⟨x, 1, none⟩) (by simp; omega)).trans e1
             have f2 : w7.cell? ⟨x, 2, none⟩ = some (.bool g) := (HB67.out.cell (p := ⟨x, 2, none⟩) (by simp; omega)).trans e2
             have f3 : w7.cell? ⟨x, 3, none⟩ = some (.string v) := (HB67.out.cell (p := ⟨x, 3, none⟩) (by simp; omega)).trans e3
             have f4 : w7.cell? ⟨x, 4, none⟩ = some (.int .i64 t) := (HB67.out.cell (p := ⟨x, 4, none⟩) (by simp; omega)).trans e4
             have f5 : w7.cell? ⟨y, 0, none⟩ = some (.pointer p0) := (HB67.out.cell (p := ⟨y, 0, none⟩) (by simp; omega)).trans e5
             have f6 : w7.cell? ⟨y, 1, none⟩ = some (.pointer p1) := (HB67.out.cell (p := ⟨y, 1, none⟩) (by simp; omega)).trans e6
             have f7 : w7.cell? ⟨y, 2, none⟩ = some (.pointer p2) := (HB67.out.cell (p := ⟨y, 2, none⟩) (by simp; omega)).trans e7
             have f8 : w7.cell? ⟨y, 3, none⟩ = some (.pointer p3) := (HB67.out.cell (p := ⟨y, 3, none⟩) (by simp; omega)).trans e8
             have f9 : w7.cell? ⟨y, 4, none⟩ = some (.pointer p4) := (HB67.out.cell (p := ⟨y, 4, none⟩) (by simp; omega)).trans e9
             have f10 : w7.cell? ⟨y, 5, none⟩ = some (.pointer p5) := (HB67.out.cell (p := ⟨y, 5, none⟩) (by simp; omega)).trans e10
             have f11 : w7.cell? ⟨y, 6, none⟩ = some (.pointer p6) := (HB67.out.cell (p := ⟨y, 6, none⟩) (by simp; omega)).trans e11
             have f12 : w7.cell? ⟨y, 7, none⟩ = some (.pointer p7) := (HB67.out.cell (p := ⟨y, 7, none⟩) (by simp; omega)).trans e12
             have HS7 : Hid (w7.cell? ⟨x, 0, none⟩ = some (.string k) ∧ w7.cell? ⟨x, 1, none⟩ = some (.int .i64 q) ∧ w7.cell? ⟨x, 2, none⟩ = some (.bool g) ∧ w7.cell? ⟨x, 3, none⟩ = some (.string v) ∧ w7.cell? ⟨x, 4, none⟩ = some (.int .i64 t) ∧ w7.cell? ⟨y, 0, none⟩ = some (.pointer p0) ∧ w7.cell? ⟨y, 1, none⟩ = some (.pointer p1) ∧ w7.cell? ⟨y, 2, none⟩ = some (.pointer p2) ∧ w7.cell? ⟨y, 3, none⟩ = some (.pointer p3) ∧ w7.cell? ⟨y, 4, none⟩ = some (.pointer p4) ∧ w7.cell? ⟨y, 5, none⟩ = some (.pointer p5) ∧ w7.cell? ⟨y, 6, none⟩ = some (.pointer p6) ∧ w7.cell? ⟨y, 7, none⟩ = some (.pointer p7)) := Lib.hid ⟨f0, f1, f2, f3, f4, f5, f6, f7, f8, f9, f10, f11, f12⟩
             clear hb)
          | (go_at_call 59
             refine (HNH.out w7 c (z + C) (HM6.out.below HB67.out) rfl).mono ?_
             rintro r w8 ⟨rfl, hb⟩
             have HB68 : Hid (Below w6.heap.size w6 w8) := Lib.hid (HB67.out.trans (hb.mono HB67.out.size))
             have HM8 := Lib.hid (HM6.out.below HB68.out)
             have g0 : w8.cell? ⟨x, 0, none⟩ = some (.string k) := (HB68.out.cell (p := ⟨x, 0, none⟩) (by simp; omega)).trans e0
             have g1 : w8.cell? ⟨x, 1, none⟩ = some (.int .i64 q) := (HB68.out.cell (p := ⟨x, 1, none⟩) (by simp; omega)).trans e1
             have g2 : w8.cell? ⟨x, 2, none⟩ = some (.bool g) := (HB68.out.cell (p := ⟨x, 2, none⟩) (by simp; omega)).trans e2
             have g3 : w8.cell? ⟨x, 3, none⟩ = some (.string v) := (HB68.out.cell (p := ⟨x, 3, none⟩) (by simp; omega)).trans e3
             have g4 : w8.cell? ⟨x, 4, none⟩ = some (.int .i64 t) := (HB68.out.cell (p := ⟨x, 4, none⟩) (by simp; omega)).trans e4
             have g5 : w8.cell? ⟨y, 0, none⟩ = some (.pointer p0) := (HB68.out.cell (p := ⟨y, 0, none⟩) (by simp; omega)).trans e5
             have g6 : w8.cell? ⟨y, 1, none⟩ = some (.pointer p1) := (HB68.out.cell (p := ⟨y, 1, none⟩) (by simp; omega)).trans e6
             have g7 : w8.cell? ⟨y, 2, none⟩ = some (.pointer p2) := (HB68.out.cell (p := ⟨y, 2, none⟩) (by simp; omega)).trans e7
             have g8 : w8.cell? ⟨y, 3, none⟩ = some (.pointer p3) := (HB68.out.cell (p := ⟨y, 3, none⟩) (by simp; omega)).trans e8
             have g9 : w8.cell? ⟨y, 4, none⟩ = some (.pointer p4) := (HB68.out.cell (p := ⟨y, 4, none⟩) (by simp; omega)).trans e9
             have g10 : w8.cell? ⟨y, 5, none⟩ = some (.pointer p5) := (HB68.out.cell (p := ⟨y, 5, none⟩) (by simp; omega)).trans e10
             have g11 : w8.cell? ⟨y, 6, none⟩ = some (.pointer p6) := (HB68.out.cell (p := ⟨y, 6, none⟩) (by simp; omega)).trans e11
             have g12 : w8.cell? ⟨y, 7, none⟩ = some (.pointer p7) := (HB68.out.cell (p := ⟨y, 7, none⟩) (by simp; omega)).trans e12
             have HS8 : Hid (w8.cell? ⟨x, 0, none⟩ = some (.string k) ∧ w8.cell? ⟨x, 1, none⟩ = some (.int .i64 q) ∧ w8.cell? ⟨x, 2, none⟩ = some (.bool g) ∧ w8.cell? ⟨x, 3, none⟩ = some (.string v) ∧ w8.cell? ⟨x, 4, none⟩ = some (.int .i64 t) ∧ w8.cell? ⟨y, 0, none⟩ = some (.pointer p0) ∧ w8.cell? ⟨y, 1, none⟩ = some (.pointer p1) ∧ w8.cell? ⟨y, 2, none⟩ = some (.pointer p2) ∧ w8.cell? ⟨y, 3, none⟩ = some (.pointer p3) ∧ w8.cell? ⟨y, 4, none⟩ = some (.pointer p4) ∧ w8.cell? ⟨y, 5, none⟩ = some (.pointer p5) ∧ w8.cell? ⟨y, 6, none⟩ = some (.pointer p6) ∧ w8.cell? ⟨y, 7, none⟩ = some (.pointer p7)) := Lib.hid ⟨g0, g1, g2, g3, g4, g5, g6, g7, g8, g9, g10, g11, g12⟩
             clear hb)
          | fail)
      all_goals
        have zc : w9.cell? ⟨a, 9, none⟩ = some (.int .i64 c) := HM9.out.cells 9
        have fc : w9.frozen? ⟨a, 9, none⟩ = false := HM9.out.frozen 9
        have HM10 : Hid (Mid B (w9.setCell ⟨a, 9, none⟩ (.int .i64 ((c : Int) + 1))) a hb cs (pre ++ ⟨w8.heap.size + 1, w8.heap.size, H, H, ⟨k, q, g, v, t⟩⟩ :: post) (c + 1) (z + C)) := Lib.hid (HM9.out.setCount (c + 1))
        have HK10 : Hid (Keeps (a :: hb :: blks (pre ++ post)) w (w9.setCell ⟨a, 9, none⟩ (.int .i64 ((c : Int) + 1)))) := Lib.hid (HK9.out.set a 9 _ (.inl (by simp)))
        have HNEW : Hid (w.heap.size ≤ w8.heap.size) := Lib.hid (Nat.le_trans HK6.out.size HB68.out.size)
        clear HS9 HS8 HS7 HM9 HK9 HLK2 HLK
        go_wp2
        go_ret
        refine ⟨rfl, _, HREP2.out _ _ HM10.out rfl ⟨rfl, hht⟩, HK10.out, fun b hm => ?_⟩
        have hnew := HNEW.out
        rw [blks_app, blks_cons] at hm
        rw [blks_app]
        simp only [List.mem_cons, List.mem_append] at hm ⊢
        rcases hm with h | h | h | h
        · exact .inl (.inl h)
        · exact .inr (by omega)
        · exact .inr (by omega)
        · exact .inl (.inr h)
end Go.Proofs.YtjkofciohehgfaaGreatDoor.L6


/- Put, Get of a list in memory; From makes an iterator. -/
namespace Go.Proofs.YtjkofciohehgfaaGreatDoor.L6
open Go.RowKit
open SK

theorem put_any {B : Nat} {w : World} {a hb : Nat} {cs : List Int} {l : List ND} {s : St} (h : Rep B w a hb cs l s) (ok : Ok s) (hB : B ≤ w.heap.size) (e : E) (he : e.wf) (hlen : s.l.length ≤ 1000000) :
    Calls Tryz.prog 17 #[.pointer (some ⟨a, 0, none⟩), e.val] w fun r w' => r = .returned (.int .i64 (s.step cs e).1) ∧
      ∃ l', Rep B w' a hb cs l' (s.step cs e).2 ∧ Keeps (a :: hb :: blks l) w w' ∧ (∀ x ∈ blks l', x ∈ blks l ∨ w.heap.size ≤ x) ∧ ((s.step cs e).1 ≠ 0 → Below w.heap.size w w') := by
  by_cases hg : good e = 0
  · obtain ⟨pre, post, hl, h1, h2, h3, h4⟩ := h.split ok.sorted e
    have hth := there_iff (e := e) ok.sorted
    rw [← h4] at hth
    cases hp : post with
    | nil =>
      rw [hp] at hth
      have hs : s.step cs e = (0, ⟨front e s.l ++ e :: rest e s.l, s.size + cost cs s.l.length e⟩) := by
        unfold St.step
        rw [if_neg (by simp [hg]), if_neg (by rw [hth]; simp)]
      rw [hs]
      exact (put_end h hB e he hg pre post hl h1 h2 hp (by have := ok.size; omega) (by omega) h3 h4).mono fun r w' ⟨a1, l', a2, a3, a4⟩ => ⟨a1, l', a2, a3, a4, fun h => absurd rfl h⟩
    | cons d r =>
      rw [hp] at hth
      simp only [List.map_cons] at hth
      cases hle : less e d.e with
      | false =>
        have hs : s.step cs e = (11, s) := by
          unfold St.step
          rw [if_neg (by simp [hg]), if_pos (by rw [hth, hle]; rfl)]
        rw [hs]
        refine (put_there h e he hg pre post hl h1 h2 d r hp hle).mono ?_
        rintro r' w' ⟨rfl, hb'⟩
        exact ⟨rfl, l, h.below hb', Keeps.of_below hb', fun x hx => .inl hx, fun _ => hb'⟩
      | true =>
        have hs : s.step cs e = (0, ⟨front e s.l ++ e :: rest e s.l, s.size + cost cs s.l.length e⟩) := by
          unfold St.step
          rw [if_neg (by simp [hg]), if_neg (by rw [hth, hle]; simp)]
        rw [hs]
        exact (put_amid h hB e he hg pre post hl h1 h2 d r hp hle (by have := ok.size; omega) (by omega) h3 h4).mono fun r w' ⟨a1, l', a2, a3, a4⟩ => ⟨a1, l', a2, a3, a4, fun h => absurd rfl h⟩
  · have hs : s.step cs e = (good e, s) := by
      unfold St.step
      rw [if_pos hg]
    rw [hs]
    refine (put_bad a e w he hg).mono ?_
    rintro r' w' ⟨rfl, hb'⟩
    exact ⟨rfl, l, h.below hb', Keeps.of_below hb', fun x hx => .inl hx, fun _ => hb'⟩

/-- From: an iterator over what it has captured -/
theorem from_any (p : Option Addr) (k : ByteArray) (w : World) (hk : k.size ≤ 281474976710656) :
    Calls Tryz.prog 16 #[.pointer p, .string k] w fun r w' => r = .returned (.func (.func 50) #[] #[.pointer (some ⟨w.heap.size, 0, none⟩), .pointer (some ⟨w.heap.size + 1, 0, none⟩)]) ∧
      Below w.heap.size w w' ∧ w.heap.size + 2 ≤ w'.heap.size ∧ w'.cell? ⟨w.heap.size, 0, none⟩ = some (.pointer p) ∧ w'.cell? ⟨w.heap.size + 1, 0, none⟩ = some (.string k) := by
  have HC : Hid (∀ W, Calls Tryz.prog 49 #[.string k] W fun r w' => r = .returned (.string k) ∧ Below W.heap.size W w') := fun W => clone_any k W hk
  clear hk
  have hr0 : ((w.alloc (.cells #[.pointer p] 54)).alloc (.cells #[.string k] 9)).heap[w.heap.size]? = some (.cells #[.pointer p] 54 (0, 0)) := (Below.heap_alloc _ _ _ (by simp)).trans (heap_alloc_new w _)
  have hr1 : ((w.alloc (.cells #[.pointer p] 54)).alloc (.cells #[.string k] 9)).heap[w.heap.size + 1]? = some (.cells #[.string k] 9 (0, 0)) := by
    have := heap_alloc_new (w.alloc (.cells #[.pointer p] 54)) (.cells #[.string k] 9)
    simpa using this
  have hbel : Below w.heap.size w ((w.alloc (.cells #[.pointer p] 54)).alloc (.cells #[.string k] 9)) := ((Below.refl _ w).alloc (Nat.le_refl _) _).alloc (by simp) _
  have hsz : ((w.alloc (.cells #[.pointer p] 54)).alloc (.cells #[.string k] 9)).heap.size = w.heap.size + 2 := by simp
  go_enter Tryz.func16, Tryz.ntmps16
  go_wp2_with fail
  generalize (w.alloc (.cells #[.pointer p] 54)).alloc (.cells #[.string k] 9) = W0 at hr0 hr1 hbel hsz ⊢
  refine (HC.out _).mono ?_
  rintro r w1 ⟨rfl, hb⟩
  have hr2 := (hb.block (w.heap.size + 1) (by omega)).trans hr1
  have z0 : w1.cell? ⟨w.heap.size, 0, none⟩ = some (.pointer p) := cell_of_row _ _ _ _ _ _ ((hb.block w.heap.size (by omega)).trans hr0)
  have z1 : w1.cell? ⟨w.heap.size + 1, 0, none⟩ = some (.string k) := cell_of_row _ _ _ _ _ _ hr2
  have f1 : w1.frozen? ⟨w.heap.size + 1, 0, none⟩ = false := frozen_of_row _ _ _ _ _ hr2
  have s1 := set_same z1
  have HB : Hid (Below w.heap.size w w1 ∧ w.heap.size + 2 ≤ w1.heap.size) := Lib.hid ⟨hbel.trans (hb.mono (by omega)), by have := hb.size; omega⟩
  have HZ : Hid (w1.cell? ⟨w.heap.size, 0, none⟩ = some (.pointer p) ∧ w1.cell? ⟨w.heap.size + 1, 0, none⟩ = some (.string k)) := Lib.hid ⟨z0, z1⟩
  clear hr0 hr1 hbel hsz hr2 hb
  go_wp2
  go_ret
  exact ⟨rfl, HB.out.1, HB.out.2, HZ.out.1, HZ.out.2⟩
end Go.Proofs.YtjkofciohehgfaaGreatDoor.L6


