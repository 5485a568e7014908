/- link: on each floor of its tower a node comes next to the one that stands ahead of it. -/
import Derived.Test.YtgnlhnfjanoahaaSu
import Derived.StillTailTactics
namespace Go.Proofs.Ytgnlhnfjanoahaa
open Go.RowKit
open SK

/-- what a call leaves: all blocks that were there but some -/
structure Keeps (S : List Nat) (w w' : World) : Prop where
  os : w'.os = w.os
  tape : w'.tape = w.tape
  output : w'.output = w.output
  size : w.heap.size ≤ w'.heap.size
  block : ∀ k, k < w.heap.size → k ∉ S → w'.heap[k]? = w.heap[k]?

theorem Keeps.of_below {S : List Nat} {w w' : World} (h : Below w.heap.size w w') : Keeps S w w' := ⟨h.os, h.tape, h.output, h.size, fun k hk _ => h.block k hk⟩
theorem Keeps.refl (S : List Nat) (w : World) : Keeps S w w := .of_below (Below.refl _ _)
theorem Keeps.trans {S S' : List Nat} {w w1 w2 : World} (h : Keeps S w w1) (k : Keeps S' w1 w2) (hs : ∀ x ∈ S', x < w.heap.size → x ∈ S) : Keeps S w w2 :=
  ⟨k.os.trans h.os, k.tape.trans h.tape, k.output.trans h.output, Nat.le_trans h.size k.size, fun x hx hn => (k.block x (Nat.lt_of_lt_of_le hx h.size) (fun hm => hn (hs x hm hx))).trans (h.block x hx hn)⟩
theorem Keeps.set {S : List Nat} {w w1 : World} (h : Keeps S w w1) (b j : Nat) (v : Value) (hb : b ∈ S ∨ w.heap.size ≤ b) : Keeps S w (w1.setCell ⟨b, j, none⟩ v) :=
  ⟨h.os, h.tape, h.output, by rw [setCell_size]; exact h.size, fun x hx hn => (Below.heap_setCell _ _ _ _ (by
    rcases hb with hb | hb
    · exact fun e => hn (e ▸ hb)
    · show x ≠ b
      omega)).trans (h.block x hx hn)⟩
theorem Keeps.below {S : List Nat} {w w' : World} {B : Nat} (h : Keeps S w w') (hB : B ≤ w.heap.size) (hS : ∀ x ∈ S, B ≤ x) : Below B w w' :=
  ⟨h.os, h.tape, h.output, h.size, fun k hk => h.block k (Nat.lt_of_lt_of_le hk hB) (fun hm => by have := hS k hm; omega)⟩
theorem Keeps.more {S S' : List Nat} {w w' : World} (h : Keeps S w w') (hs : ∀ x ∈ S, x < w.heap.size → x ∈ S') : Keeps S' w w' :=
  ⟨h.os, h.tape, h.output, h.size, fun k hk hn => h.block k hk (fun hm => hn (hs k hm hk))⟩

/-- a list while a node is being linked -/
structure Mid (B : Nat) (w : World) (a hb : Nat) (cs : List Int) (l : List ND) (c : Nat) (z : Int) : Prop where
  head : w.heap[a]? = some (.cells (hcells hb cs.length (fun f => nx f l) c z) 67 (0, 0))
  coins : ∃ hc, w.heap[hb]? = some (.cells hc 5 (0, 0)) ∧ hc.size = cs.length ∧ ∀ j, (h : j < cs.length) → hc[j]? = some (.int .u8 (coin cs[j]))
  chain : Chain w l
  nodup : (a :: hb :: blks l).Nodup
  lo : ∀ x ∈ a :: hb :: blks l, B ≤ x ∧ x < w.heap.size

theorem Mid.same {B : Nat} {w : World} {a hb : Nat} {cs : List Int} {l : List ND} {c : Nat} {z : Int} (h : Mid B w a hb cs l c z) {w' : World} (hs : ∀ x ∈ a :: hb :: blks l, w'.heap[x]? = w.heap[x]?) (hz : w.heap.size ≤ w'.heap.size) : Mid B w' a hb cs l c z := by
  obtain ⟨hc, h1, h2, h3⟩ := h.coins
  exact ⟨(hs a (by simp)).trans h.head, ⟨hc, (hs hb (by simp)).trans h1, h2, h3⟩, h.chain.stays fun x hx => hs x (by simp [hx]), h.nodup, fun x hx => ⟨(h.lo x hx).1, Nat.lt_of_lt_of_le (h.lo x hx).2 hz⟩⟩
theorem Mid.below {B : Nat} {w : World} {a hb : Nat} {cs : List Int} {l : List ND} {c : Nat} {z : Int} (h : Mid B w a hb cs l c z) {w' : World} (hb' : Below w.heap.size w w') : Mid B w' a hb cs l c z :=
  h.same (fun x hx => hb'.block x (h.lo x hx).2) hb'.size
theorem Rep.mid {B : Nat} {w : World} {a hb : Nat} {cs : List Int} {l : List ND} {s : St} (h : Rep B w a hb cs l s) : Mid B w a hb cs l s.l.length s.size := ⟨h.head, h.coins, h.chain, h.nodup, h.lo⟩

theorem hcells_set (hb n : Nat) (g : Nat → Option Nat) (c : Nat) (z : Int) (k : Nat) (hk : k < 8) (v : Option Nat) : (hcells hb n g c z).setIfInBounds (1 + k) (pv v) = hcells hb n (fun f => if f = k then v else g f) c z := by
  match k, hk with
  | 0, _ => rfl
  | 1, _ => rfl
  | 2, _ => rfl
  | 3, _ => rfl
  | 4, _ => rfl
  | 5, _ => rfl
  | 6, _ => rfl
  | 7, _ => rfl

theorem blks_h (p r : List ND) (n : ND) (k : Nat) : blks (p ++ { n with h := k } :: r) = blks (p ++ n :: r) := by simp [blks]

/-- the tower that is written, and what it holds -/
theorem Mid.slot {B : Nat} {w : World} {a hb : Nat} {cs : List Int} {pre post : List ND} {n : ND} {c : Nat} {z : Int} {k : Nat} (h : Mid B w a hb cs (pre ++ n :: post) c z) (hk : n.h = k) (hk8 : k < 8) :
    w.cell? ⟨towerB a (lst k pre), towerO (lst k pre) + k, none⟩ = some (pv (nx k post)) ∧ k < towerN (lst k pre) ∧ w.frozen? ⟨towerB a (lst k pre), towerO (lst k pre) + k, none⟩ = false ∧
      towerB a (lst k pre) ∈ a :: blks pre ∧ (∀ d, lst k pre = some d → w.heap[d.b]? = some (.cells (ncells d) 62 (0, 0))) := by
  have hn0 : nx k (n :: post) = nx k post := by rw [nx, if_neg (by omega)]
  rcases lst_cases k pre with ⟨h0, hall⟩ | ⟨p, d, q, hp, h0, hd, hq⟩
  · rw [h0]
    refine ⟨?_, hk8, frozen_of_row _ _ _ _ _ h.head, by simp [towerB], fun d hd => by cases hd⟩
    show w.cell? ⟨a, 1 + k, none⟩ = _
    rw [cell_of_row _ _ _ _ _ _ h.head, hcells_floor _ _ _ _ _ k hk8, nx_app_none hall, hn0]
  · rw [h0]
    have hc := h.chain
    rw [hp, List.append_assoc, List.cons_append] at hc
    have hN := Chain.at_ hc
    obtain ⟨cs', h1, h2, h3⟩ := hN.tower
    have hle := hN.le
    refine ⟨?_, by simp only [towerN]; omega, frozen_of_row _ _ _ _ _ h1, by simp [towerB, hp, blks], fun d' hd' => by cases hd'; exact hN.node⟩
    simp only [towerB, towerO, Nat.zero_add]
    rw [cell_of_row _ _ _ _ _ _ h1, h3 k hd, nx_app_none hq, hn0]

theorem Mid.link {B : Nat} {w : World} {a hb : Nat} {cs : List Int} {pre post : List ND} {n : ND} {c : Nat} {z : Int} {k : Nat} (h : Mid B w a hb cs (pre ++ n :: post) c z) (hk : n.h = k) (hkc : k < n.c) (hk8 : k < 8) :
    Mid B ((w.setCell ⟨n.t, k, none⟩ (pv (nx k post))).setCell ⟨towerB a (lst k pre), towerO (lst k pre) + k, none⟩ (pv (some n.b))) a hb cs (pre ++ { n with h := k + 1 } :: post) c z := by
  have hnd := h.nodup
  simp only [List.nodup_cons, List.mem_cons, not_or] at hnd
  obtain ⟨⟨hahb, hal⟩, hhl, hndl⟩ := hnd
  have hnt : n.t ∈ blks (pre ++ n :: post) := by rw [blks_app, blks_cons]; simp
  have hnta : n.t ≠ a := fun e => hal (e ▸ hnt)
  have hnth : n.t ≠ hb := fun e => hhl (e ▸ hnt)
  have hu : towerB a (lst k pre) ∈ a :: blks pre := (h.slot hk hk8).2.2.2.1
  have huh : towerB a (lst k pre) ≠ hb := fun e => by
    rw [e] at hu
    rcases List.mem_cons.1 hu with hu | hu
    · exact hahb hu.symm
    · exact hhl (by rw [blks_app]; exact List.mem_append_left _ hu)
  have hun : towerB a (lst k pre) ≠ n.t := fun e => by
    rw [e] at hu
    rcases List.mem_cons.1 hu with hu | hu
    · exact hnta hu
    · rw [blks_app, blks_cons] at hndl
      exact (List.nodup_append.1 hndl).2.2 _ hu _ (by simp) rfl
  obtain ⟨hc, h1, h2, h3⟩ := h.coins
  refine ⟨?_, ⟨hc, ((Below.heap_setCell _ _ _ _ (Ne.symm huh)).trans (Below.heap_setCell _ _ _ _ (Ne.symm hnth))).trans h1, h2, h3⟩, ?_, by rw [blks_h]; exact h.nodup, fun x hx => by
    rw [blks_h] at hx
    rw [setCell_size, setCell_size]
    exact h.lo x hx⟩
  · rcases lst_cases k pre with ⟨h0, hall⟩ | ⟨p, d, q, hp, h0, hd, hq⟩
    · rw [h0]
      simp only [towerB, towerO]
      have hh : (w.setCell ⟨n.t, k, none⟩ (pv (nx k post))).heap[a]? = some (.cells (hcells hb cs.length (fun f => nx f (pre ++ n :: post)) c z) 67 (0, 0)) := (Below.heap_setCell _ _ _ _ (Ne.symm hnta)).trans h.head
      rw [heap_set_fr hh, hcells_set _ _ _ _ _ k hk8]
      congr 3
      funext f
      rw [nx_link hk]
      simp [h0]
    · rw [h0]
      simp only [towerB, towerO]
      rw [Below.heap_setCell _ _ _ _ (by
        have : d.t ∈ blks (pre ++ n :: post) := by rw [hp]; simp [blks]
        exact fun e => hal (by have e' : a = d.t := e; rw [e']; exact this)), Below.heap_setCell _ _ _ _ (Ne.symm hnta), h.head]
      congr 3
      funext f
      rw [nx_link hk]
      simp [h0]
  · refine Chain.link hk hkc h.chain hndl _ ?_ hun ?_ _ ?_
    · cases hl : lst k pre <;> rfl
    · intro h0
      rw [h0]
      exact hal
    · intro h0
      cases hl : lst k pre with
      | none => exact absurd hl h0
      | some d => simp [towerO]
end Go.Proofs.Ytgnlhnfjanoahaa
