/- link and unlink. -/
import Derived.Test.YtlfhjbilnfkabaaCc
import Derived.StillTailTactics
namespace Go.Proofs.Ytlfhjbilnfkabaa
open Go.RowKit Go.Maps
open BM CM

/-- blocks of a ring, and what closes it, as rows that may be written -/
structure Rows0 (w : World) (c : Nat) (ps : List Nat) : Prop where
  blk : ∀ p ∈ ps, ∃ cs t, w.heap[p]? = some (.cells cs t (0, 0))
  head : ∃ cs t, w.heap[c]? = some (.cells cs t (0, 0))
theorem Rows0.frozen {w : World} {c : Nat} {ps : List Nat} (h : Rows0 w c ps) (i j : Nat) : w.frozen? ⟨(nd c ps i).1, j, none⟩ = false := by
  have key : nd c ps i = (c, 2) ∨ ∃ p ∈ ps, nd c ps i = (p, 0) := by
    cases i with
    | zero => exact .inl rfl
    | succ k =>
      by_cases hk : k < ps.length
      · exact .inr ⟨ps[k], List.getElem_mem hk, nd_in hk⟩
      · exact .inl (nd_out (by omega))
  rcases key with e | ⟨p, hp, e⟩
  · obtain ⟨cs, t, h1⟩ := h.head
    rw [e]; exact frozen_of_row _ _ _ _ _ h1
  · obtain ⟨cs, t, h1⟩ := h.blk p hp
    rw [e]; exact frozen_of_row _ _ _ _ _ h1
theorem frozen_set (w : World) (a q : Addr) (u : Value) : (w.setCell a u).frozen? q = w.frozen? q := World.frozen?_setCell _ _ _ _

set_option maxRecDepth 100000 in
set_option maxHeartbeats 2000000 in
theorem unlink_any {w : World} {c : Nat} {ps : List Nat} (h : Ring w c ps) (ha : Apart c ps) (hr : Rows0 w c ps) {i : Nat} (hi : i < ps.length) :
    Calls Try.prog 46 #[.pointer (some ⟨ps[i], 0, none⟩)] w fun e w' => e = .returned (.tuple #[]) ∧ LkO w w' c ps ∧ Ring w' c (ps.eraseIdx i) := by
  have HR : Hid (∀ n, LkO w (((w.drewN n).setCell (nd c ps i).nx (nd c ps (i + 2)).ptr).setCell (nd c ps (i + 2)).pv (nd c ps i).ptr) c ps ∧ Ring (((w.drewN n).setCell (nd c ps i).nx (nd c ps (i + 2)).ptr).setCell (nd c ps (i + 2)).pv (nd c ps i).ptr) c (ps.eraseIdx i)) := Lib.hid fun n =>
    ⟨((LkO.refl w c ps).drewN n |>.trans (LkO.set_nd _ c ps ha.notc i 5 (.inr rfl) _)).trans (LkO.set_nd _ c ps ha.notc (i + 2) 4 (.inl rfl) _), Ring.erase (w := w.drewN n) h ha hi⟩
  have c1 := (h (i + 1) (by omega)).1
  have c2 := (h i (by omega)).2
  have c3 := (h i (by omega)).1
  have c4 := (h (i + 1) (by omega)).2
  rw [nd_in hi] at c1 c2
  have f1 := hr.frozen i ((nd c ps i).2 + 5)
  have f2 := hr.frozen (i + 2) ((nd c ps (i + 2)).2 + 4)
  have hne := nx_pv ha i (i + 2)
  generalize ps[i] = p at c1 c2 ⊢
  have c4n : (w.setCell (nd c ps i).nx (nd c ps (i + 2)).ptr).cell? (nd c ps (i + 2)).pv = some (nd c ps (i + 1)).ptr := by
    rw [cell_pv, set_nx c3, if_neg (fun e => hne ⟨e.1.symm, e.2.symm⟩)]
    exact c4
  simp only [Nd.nx, Nd.pv, Nd.ptr] at c1 c2 c3 c4 c4n HR
  obtain ⟨⟨xa, xo⟩, hx⟩ : ∃ x, nd c ps i = x := ⟨_, rfl⟩
  obtain ⟨⟨ya, yo⟩, hy⟩ : ∃ y, nd c ps (i + 2) = y := ⟨_, rfl⟩
  obtain ⟨⟨za, zo⟩, hz⟩ : ∃ y, nd c ps (i + 1) = y := ⟨_, rfl⟩
  simp only [hx, hy, hz] at c1 c2 c3 c4 c4n HR f1 f2 hne
  simp only [Nat.zero_add] at c1 c2
  clear hx hy hz h ha hr hi hne
  go_enter Try.func46, Try.ntmps46
  go_wp2_with fail
  go_region
  all_goals
    go_wp2
    go_end0
    exact ⟨rfl, (HR.out 1).1, (HR.out 1).2⟩

theorem Rows0.frozen_in {w : World} {c : Nat} {ps : List Nat} (h : Rows0 w c ps) {p : Nat} (hp : p ∈ ps) (j : Nat) : w.frozen? ⟨p, j, none⟩ = false := by
  obtain ⟨cs, t, h1⟩ := h.blk p hp
  exact frozen_of_row _ _ _ _ _ h1

set_option maxRecDepth 100000 in
set_option maxHeartbeats 2000000 in
theorem link_any {w : World} {c p : Nat} {ps : List Nat} (h : Ring w c ps) (ha : Apart c (ps ++ [p])) (hr : Rows0 w c (ps ++ [p])) {o n : Value} (ho : w.cell? ⟨p, 4, none⟩ = some o) (hn : w.cell? ⟨p, 5, none⟩ = some n) :
    Calls Try.prog 42 #[.pointer (some ⟨p, 0, none⟩), .pointer (some ⟨c, 2, none⟩)] w fun e w' => e = .returned (.tuple #[]) ∧ LkO w w' c (ps ++ [p]) ∧ Ring w' c (ps ++ [p]) := by
  have hap : Apart c ps := ⟨(List.nodup_append.1 ha.nodup).1, fun h => ha.notc (List.mem_append_left _ h)⟩
  have hpc : p ≠ c := fun e => ha.notc (by simp [e])
  have hpm : p ∉ ps := fun hm => (List.nodup_append.1 ha.nodup).2.2 p hm p (by simp) rfl
  have hne : ∀ k, (nd c ps k).1 ≠ p := by
    intro k
    cases k with
    | zero => exact fun e => hpc e.symm
    | succ k =>
      by_cases hk : k < ps.length
      · rw [nd_in hk]; exact fun e => hpm (by simp only at e; rw [← e]; exact List.getElem_mem hk)
      · rw [nd_out (by omega)]; exact fun e => hpc e.symm
  have hend : nd c ps (ps.length + 1) = nd c ps 0 := by rw [nd_out (by omega)]; rfl
  have hxe : nd c (ps ++ [p]) ps.length = nd c ps ps.length := by rw [nd_snoc, if_neg (by omega)]
  have hpl : p ∈ ps ++ [p] := by simp
  have HR : Hid (LkO w ((((w.setCell ⟨p, 4, none⟩ (nd c ps ps.length).ptr).setCell ⟨p, 5, none⟩ (nd c ps 0).ptr).setCell (nd c ps ps.length).nx (Nd.ptr (p, 0))).setCell (nd c ps 0).pv (Nd.ptr (p, 0))) c (ps ++ [p]) ∧
      Ring ((((w.setCell ⟨p, 4, none⟩ (nd c ps ps.length).ptr).setCell ⟨p, 5, none⟩ (nd c ps 0).ptr).setCell (nd c ps ps.length).nx (Nd.ptr (p, 0))).setCell (nd c ps 0).pv (Nd.ptr (p, 0))) c (ps ++ [p])) := Lib.hid
    ⟨(((LkO.set_blk w c _ ha.notc p hpl 4 (.inl rfl) _).trans (LkO.set_blk _ c _ ha.notc p hpl 5 (.inr rfl) _)).trans (by have := LkO.set_nd ((w.setCell ⟨p, 4, none⟩ (nd c ps ps.length).ptr).setCell ⟨p, 5, none⟩ (nd c ps 0).ptr) c (ps ++ [p]) ha.notc ps.length 5 (.inr rfl) (Nd.ptr (p, 0)); rw [hxe] at this; exact this)).trans (LkO.set_head _ c _ ha.notc 6 (.inl rfl) _), h.snoc ha ho hn⟩
  have c1 := (h ps.length (Nat.le_refl _)).1
  have c2 := (h ps.length (Nat.le_refl _)).2
  rw [hend] at c2
  have s1 := fun b j => cell_set ho (nd c ps ps.length).ptr b j
  have hn1 : (w.setCell ⟨p, 4, none⟩ (nd c ps ps.length).ptr).cell? ⟨p, 5, none⟩ = some n := by rw [s1, if_neg (by omega)]; exact hn
  have s2 := fun b j => cell_set hn1 (nd c ps 0).ptr b j
  have e4 : ((w.setCell ⟨p, 4, none⟩ (nd c ps ps.length).ptr).setCell ⟨p, 5, none⟩ (nd c ps 0).ptr).cell? ⟨p, 4, none⟩ = some (nd c ps ps.length).ptr := by rw [s2, if_neg (by omega), s1, if_pos ⟨rfl, rfl⟩]
  have e5 : ((w.setCell ⟨p, 4, none⟩ (nd c ps ps.length).ptr).setCell ⟨p, 5, none⟩ (nd c ps 0).ptr).cell? ⟨p, 5, none⟩ = some (nd c ps 0).ptr := by rw [s2, if_pos ⟨rfl, rfl⟩]
  have c12 : ((w.setCell ⟨p, 4, none⟩ (nd c ps ps.length).ptr).setCell ⟨p, 5, none⟩ (nd c ps 0).ptr).cell? (nd c ps ps.length).nx = some (nd c ps (ps.length + 1)).ptr := by
    rw [cell_nx, s2, if_neg (fun e => hne _ e.1), s1, if_neg (fun e => hne _ e.1)]
    exact c1
  have c23 : (((w.setCell ⟨p, 4, none⟩ (nd c ps ps.length).ptr).setCell ⟨p, 5, none⟩ (nd c ps 0).ptr).setCell (nd c ps ps.length).nx (Nd.ptr (p, 0))).cell? (nd c ps 0).pv = some (nd c ps ps.length).ptr := by
    rw [cell_pv, set_nx c12, if_neg (fun e => nx_pv hap ps.length 0 ⟨e.1.symm, e.2.symm⟩), s2, if_neg (fun e => hne _ e.1), s1, if_neg (fun e => hne _ e.1)]
    exact c2
  have f0 := hr.frozen_in hpl 4
  have f0' := hr.frozen_in hpl 5
  have f1 := hr.frozen ps.length ((nd c ps ps.length).2 + 5)
  rw [hxe] at f1
  have f2 := hr.frozen 0 6
  rw [hend] at c12 c1
  have h0 : nd c ps 0 = (c, 2) := rfl
  obtain ⟨⟨xa, xo⟩, hx⟩ : ∃ x, nd c ps ps.length = x := ⟨_, rfl⟩
  simp only [Nd.nx, Nd.pv, Nd.ptr, hx, h0] at c1 c2 c12 c23 e4 e5 hn1 HR f1 f2
  simp only [nd, Nat.reduceAdd] at f2 c2 c23 HR
  have g1 : ((w.setCell ⟨p, 4, none⟩ (.pointer (some ⟨xa, xo, none⟩))).setCell ⟨p, 5, none⟩ (.pointer (some ⟨c, 2, none⟩))).frozen? ⟨xa, xo + 5, none⟩ = false := by rw [frozen_set, frozen_set]; exact f1
  have g2 : ((w.setCell ⟨p, 4, none⟩ (.pointer (some ⟨xa, xo, none⟩))).setCell ⟨p, 5, none⟩ (.pointer (some ⟨c, 2, none⟩))).frozen? ⟨c, 6, none⟩ = false := by rw [frozen_set, frozen_set]; exact f2
  clear hx h0 h ha hr hap hpc hpm hne hend hxe hpl s1 s2
  go_enter Try.func42, Try.ntmps42
  go_wp2_with fail
  generalize (w.setCell ⟨p, 4, none⟩ (.pointer (some ⟨xa, xo, none⟩))).setCell ⟨p, 5, none⟩ (.pointer (some ⟨c, 2, none⟩)) = w2 at c12 c23 e4 e5 HR g1 g2 ⊢
  clear f0 f0' f1 f2 c1 c2 hn1 ho hn
  go_region
  all_goals
    go_wp2
    go_end0
    exact ⟨rfl, HR.out.1.drewN 1, HR.out.2⟩
end Go.Proofs.Ytlfhjbilnfkabaa
