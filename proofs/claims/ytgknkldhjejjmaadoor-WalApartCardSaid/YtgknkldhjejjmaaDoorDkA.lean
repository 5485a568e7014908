/- The smallest calls of a disk: ready, goodName, remainder, countDown. -/
import Derived.Test.YtgknkldhjejjmaaDoorDkRep
import Derived.Deep.QuietTactic
import Derived.BigQuiet
import Derived.WalkSpells
namespace Go.Proofs.YtgknkldhjejjmaaDoor
open Go.RowKit Go.Maps
open DM

/-- the body, and what stands in the disk's block -/
structure Half (B : Nat) (w : World) (d : Nat) (s : St) (g : Gh) (C : Array Value) : Prop where
  body : Body B w s g
  at_ : w.heap[d]? = some (.cells C 57 (0, 0))
  le : B ≤ d

theorem Rep.half {B : Nat} {w : World} {d : Nat} {s : St} {g : Gh} (h : Rep B w d s g) : Half B w d s g (dC s g (used s.files s.names)) := ⟨h.body, h.at_, h.le⟩

section
variable {B : Nat} {w : World} {d : Nat} {s : St} {g : Gh} {C : Array Value}
theorem Half.lt (h : Half B w d s g C) : d < w.heap.size := (Array.getElem?_eq_some_iff.1 h.at_).1
theorem Half.set (h : Half B w d s g C) (j : Nat) (u : Value) : Half B (w.setCell ⟨d, j, none⟩ u) d s g (C.setIfInBounds j u) :=
  ⟨h.body.other (grownBy_setCell w ⟨d, j, none⟩ u) h.at_ (by decide), heap_set_fr h.at_ j u, h.le⟩
theorem Half.still {w' : World} (h : Half B w d s g C) (hg : w.grownBy w' none) : Half B w' d s g C := ⟨h.body.still hg, (hg.block d h.lt (by simp)).trans h.at_, h.le⟩
theorem Half.alloc (h : Half B w d s g C) (o : Obj) : Half B (w.alloc o) d s g C := h.still (World.grownBy_alloc w o none)
theorem Half.drew (h : Half B w d s g C) : Half B w.drew d s g C := ⟨h.body.still ⟨rfl, rfl, rfl, Nat.le_refl _, fun _ _ _ => rfl⟩, h.at_, h.le⟩
theorem Half.kin (h : Half B w d s g C) : Kin w d := kin_cells h.at_ (by decide)
theorem Half.cells (h : Half B w d s g C) (j : Nat) : w.cell? ⟨d, j, none⟩ = C[j]? := cell_of_row _ _ _ _ _ _ h.at_
theorem Half.frozen (h : Half B w d s g C) (j : Nat) : w.frozen? ⟨d, j, none⟩ = false := frozen_of_row _ _ _ _ _ h.at_
end

theorem fits_iff (x : Int) : fits x ↔ -9223372036854775808 ≤ x ∧ x ≤ 9223372036854775807 := Iff.rfl

set_option maxHeartbeats 400000 in
theorem rem_any (n : Int) (b : Nat) (w : World) (hn : fits n) (hb : 0 < b) (hb2 : b ≤ 4611686018427387904) :
    Calls Tryd.prog 39 #[.int .i64 n, .int .i64 b] w fun e w' => e = .returned (.int .i64 (rest n b)) ∧ w = w' := by
  unfold fits at hn
  obtain ⟨h1, h2⟩ := hn
  have hb1 : (1 : Int) ≤ (b : Int) := by omega
  by_cases h0 : n < 0
  · have hr : ((rest n b : Nat) : Int) = (-(n + 1)) % (b : Int) := by
      unfold rest
      rw [if_pos h0, Int.natCast_emod]
      congr 1
      omega
    have HR := Lib.hid hr
    obtain ⟨m, hm⟩ : ∃ m, -(n + 1) = m := ⟨_, rfl⟩
    have h3 : 0 ≤ m := by omega
    rw [hm] at HR
    clear hr
    go_enter Tryd.func39, Tryd.ntmps39
    go_wp2
    go_ret
    exact ⟨ret_int HR.out.symm, rfl⟩
  · have hr : ((rest n b : Nat) : Int) = n % (b : Int) := by
      unfold rest
      rw [if_neg h0, Int.natCast_emod]
      congr 1
      omega
    have HR := Lib.hid hr
    clear hr
    have h0' : 0 ≤ n := by omega
    go_enter Tryd.func39, Tryd.ntmps39
    go_wp2
    go_ret
    exact ⟨ret_int HR.out.symm, rfl⟩

theorem ready_nil (w : World) : Calls Tryd.prog 51 #[.pointer none] w fun e w' => e = .returned (.int .i64 1) ∧ w = w' := by
  go_enter Tryd.func51, Tryd.ntmps51
  go_wp2
  go_ret
  exact ⟨rfl, rfl⟩

theorem ready_off {B : Nat} {w : World} {d : Nat} {s : St} {g : Gh} (h : Rep B w d s g) (ho : s.off = true) :
    Calls Tryd.prog 51 #[.pointer (some ⟨d, 0, none⟩)] w fun e w' => e = .returned (.int .i64 13) ∧ w = w' := by
  have c6 := h.half.cells 6
  simp only [dC, ho] at c6
  clear h ho
  go_enter Tryd.func51, Tryd.ntmps51
  go_wp2
  go_ret
  exact ⟨rfl, rfl⟩

/-- what ready leaves: the maps are there -/
def ReadyOut (B : Nat) (w : World) (d : Nat) (s : St) (e : Ending) (w' : World) : Prop :=
  e = .returned (.int .i64 0) ∧ (∃ g' b1 b2, g'.m1 = some b1 ∧ g'.m2 = some b2 ∧ Rep B w' d s g') ∧ Moves B w w'

theorem setCell_size (w : World) (p : Addr) (u : Value) : (w.setCell p u).heap.size = w.heap.size := by simp [World.setCell]

theorem maps_made {B : Nat} {w : World} {d : Nat} {s : St} {g : Gh} (h : Rep B w d s g) (hB : B ≤ w.heap.size) (e1 : g.m1 = none) :
    ∃ g', g'.m1 = some w.heap.size ∧ g'.m2 = some (w.heap.size + 1) ∧ Rep B ((((w.setCell ⟨d, 3, none⟩ (.map (some w.heap.size))).setCell ⟨d, 4, none⟩ (.map (some (w.heap.size + 1)))).alloc (.map #[] 0)).alloc (.map #[] 0)) d s g' ∧
      Moves B w ((((w.setCell ⟨d, 3, none⟩ (.map (some w.heap.size))).setCell ⟨d, 4, none⟩ (.map (some (w.heap.size + 1)))).alloc (.map #[] 0)).alloc (.map #[] 0)) := by
  have hm : s.names = [] ∧ s.lasts = [] ∧ s.queue = [] := by
    rcases h.body.maps with ⟨_, _, h1, h2, h3⟩ | ⟨b1, b2, e, _⟩
    · exact ⟨h1, h2, h3⟩
    · rw [e1] at e; cases e
  have hA := (h.half.set 3 (.map (some w.heap.size))).set 4 (.map (some (w.heap.size + 1)))
  have m1 : Moves B w ((w.setCell ⟨d, 3, none⟩ (.map (some w.heap.size))).setCell ⟨d, 4, none⟩ (.map (some (w.heap.size + 1)))) :=
    (((Moves.refl B w).setCell (p := ⟨d, 3, none⟩) hB h.le h.half.kin _).setCell (p := ⟨d, 4, none⟩) (by rw [setCell_size]; exact hB) h.le (h.half.set 3 _).kin _)
  have hsz : ((w.setCell ⟨d, 3, none⟩ (.map (some w.heap.size))).setCell ⟨d, 4, none⟩ (.map (some (w.heap.size + 1)))).heap.size = w.heap.size := by rw [setCell_size, setCell_size]
  generalize ((w.setCell ⟨d, 3, none⟩ (.map (some w.heap.size))).setCell ⟨d, 4, none⟩ (.map (some (w.heap.size + 1)))) = w2 at hA m1 hsz ⊢
  have hs1 : (w2.alloc (.map #[] 0)).heap.size = w.heap.size + 1 := by simp [hsz]
  have hBd := (hA.alloc (.map #[] 0)).alloc (.map #[] 0)
  have o1 : OwnM ((w2.alloc (.map #[] 0)).alloc (.map #[] 0)) w.heap.size 0 (.map []) := by
    have := World.ownsMap_made w2 Tryd.prog 9 ptrElem
    rw [hsz] at this
    exact World.ownsMap.alloc this _
  have o2 : OwnM ((w2.alloc (.map #[] 0)).alloc (.map #[] 0)) (w.heap.size + 1) 0 (.map []) := by
    have := World.ownsMap_made (w2.alloc (.map #[] 0)) Tryd.prog 9 ptrElem
    rwa [hs1] at this
  refine ⟨{ g with m1 := some w.heap.size, m2 := some (w.heap.size + 1) }, rfl, rfl, ⟨⟨?_, hBd.body.queue, hBd.body.files, hBd.body.apart, hBd.body.cut, hBd.body.bk⟩, ?_, h.le⟩, ?_⟩
  · refine .inr ⟨w.heap.size, w.heap.size + 1, rfl, rfl, by omega, hB, by omega, ?_, ?_⟩
    · rw [hm.1]; exact o1
    · rw [hm.2.1]; exact o2
  · rw [hBd.at_]; rfl
  · exact (m1.alloc (by omega) _).alloc (by omega) _

set_option maxHeartbeats 400000 in
theorem ready_on {B : Nat} {w : World} {d : Nat} {s : St} {g : Gh} (h : Rep B w d s g) (ho : s.off = false) (hB : B ≤ w.heap.size) :
    Calls Tryd.prog 51 #[.pointer (some ⟨d, 0, none⟩)] w (ReadyOut B w d s) := by
  have c6 := h.half.cells 6
  have c3 := h.half.cells 3
  simp only [dC, ho] at c6 c3
  have f3 := h.half.frozen 3
  have f4 := h.half.frozen 4
  have c4 := h.half.cells 4
  simp only [dC] at c4
  have hlt := h.lt
  rcases hm1 : g.m1 with _ | b1
  · have HM := Lib.hid (maps_made h hB hm1)
    rw [hm1] at c3
    clear h ho hm1
    have hmm := @run_makeMap Tryd.prog
    have hq := fun W : World => run_eql_map_nil (P := Tryd.prog) W 52 9 68 none Tryd.underlying52
    go_enter Tryd.func51, Tryd.ntmps51
    go_wp2
    go_ret
    obtain ⟨g', h1, h2, h3, h4⟩ := HM.out
    exact ⟨rfl, ⟨g', _, _, h1, h2, h3⟩, h4⟩
  · obtain ⟨b2, hm2⟩ : ∃ b2, g.m2 = some b2 := by
      rcases h.body.maps with ⟨e, _⟩ | ⟨_, b2, _, e, _⟩
      · rw [hm1] at e; cases e
      · exact ⟨b2, e⟩
    have HM : Hid (ReadyOut B w d s (.returned (.int .i64 0)) w) := ⟨rfl, ⟨g, b1, b2, hm1, hm2, h⟩, Moves.refl _ _⟩
    rw [hm1] at c3
    clear h ho hm1 hm2
    have hq := fun W : World => run_eql_map_nil (P := Tryd.prog) W 52 9 68 (some b1) Tryd.underlying52
    go_enter Tryd.func51, Tryd.ntmps51
    go_wp2
    go_ret
    exact HM.out

theorem count_zero (b o : Nat) (w : World) (hc : w.cell? ⟨b, o, none⟩ = some (.int .i64 0)) :
    Calls Tryd.prog 81 #[.pointer (some ⟨b, o, none⟩)] w fun e w' => e = .returned (.bool false) ∧ w = w' := by
  go_enter Tryd.func81, Tryd.ntmps81
  go_wp2
  go_ret
  exact ⟨rfl, rfl⟩

theorem count_pos (b o : Nat) (n : Nat) (w : World) (hc : w.cell? ⟨b, o, none⟩ = some (.int .i64 (n + 1 : Nat))) (hf : w.frozen? ⟨b, o, none⟩ = false) (hn : n < 9223372036854775807) :
    Calls Tryd.prog 81 #[.pointer (some ⟨b, o, none⟩)] w fun e w' => e = .returned (.bool (decide (n = 0))) ∧ w.setCell ⟨b, o, none⟩ (.int .i64 n) = w' := by
  have e1 : (((n + 1 : Nat) : Int) == 0) = false := by simp; omega
  have e2 : IntKind.i64.wrap (((n + 1 : Nat) : Int) - 1) = (n : Int) := by
    rw [IntWalk.i64_in _ (by omega)]; omega
  by_cases h0 : n = 0
  · subst h0
    go_enter Tryd.func81, Tryd.ntmps81
    go_wp2
    go_ret
    exact ⟨rfl, rfl⟩
  · have e3 : ((n : Int) == 0) = false := by simp; omega
    have e4 : decide (n = 0) = false := by simp; omega
    rw [e4]
    go_enter Tryd.func81, Tryd.ntmps81
    go_wp2
    go_ret
    exact ⟨rfl, rfl⟩

theorem good_any (k : ByteArray) (w : World) :
    Calls Tryd.prog 52 #[.string k] w fun e w' => e = .returned (.bool (goodName k.data.toList)) ∧ w = w' := by
  have hsz := size_list k
  by_cases h0 : k = ⟨#[]⟩
  · subst h0
    have e1 : goodName (⟨#[]⟩ : ByteArray).data.toList = false := by decide
    rw [e1]
    go_enter Tryd.func52, Tryd.ntmps52
    go_wp2
    go_ret
    exact ⟨rfl, rfl⟩
  · have hne : k.data.toList ≠ [] := fun e => h0 (str_ext (by rw [e]))
    have e1 : goodName k.data.toList = decide ((k.size : Int) ≤ 64) := by
      unfold goodName
      rw [hsz]
      cases hk : k.data.toList with
      | nil => exact absurd hk hne
      | cons a r => simp; omega
    have e2 : k.toList.isEmpty = false := by
      rw [Lib.toList_data]
      cases hk : k.data.toList with
      | nil => exact absurd hk hne
      | cons a r => rfl
    rw [e1]
    clear h0 hne e1 hsz
    go_enter Tryd.func52, Tryd.ntmps52
    go_wp2
    go_ret
    exact ⟨rfl, rfl⟩

end Go.Proofs.YtgknkldhjejjmaaDoor
