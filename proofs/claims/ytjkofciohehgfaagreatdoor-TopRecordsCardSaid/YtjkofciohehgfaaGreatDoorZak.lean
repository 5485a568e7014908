/- Texts joined by bundle.py: YDDkA, YDDkB. -/
import Derived.Test.YtjkofciohehgfaaGreatDoorZah
import Derived.Deep.QuietTactic
import Derived.BigQuiet
import Derived.WalkSpells

/- The smallest calls of a disk: ready, goodName, remainder, countDown. -/
namespace Go.Proofs.YtjkofciohehgfaaGreatDoor.L8
open Go.RowKit Go.Maps
open DM

/-- the body, and what stands in the disk's block -/
structure Half (B : Nat) (w : World) (d : Nat) (s : St) (g : Gh) (C : Array Value) : Prop where
  body : Body B w s g
  at_ : w.heap[d]? = some (.cells C 52 (0, 0))
  le : B ≤ d

theorem Rep.half {B : Nat} {w : World} {d : Nat} {s : St} {g : Gh} (h : Rep B w d s g) : Half B w d s g (dC s g (used s.files s.names)) := ⟨h.body, h.at_, h.le⟩

section
variable {B : Nat} {w : World} {d : Nat} {s : St} {g : Gh} {C : Array Value}
theorem Half.lt (h : Half B w d s g C) : d < w.heap.size := (Array.getElem?_eq_some_iff.1 h.at_).1
theorem Half.set (h : Half B w d s g C) (j : Nat) (u : Value) : Half B (w.setCell ⟨d, j, none⟩ u) d s g (C.setIfInBounds j u) :=
  ⟨h.body.other (grownBy_setCell w ⟨d, j, none⟩ u) h.at_ (by decide), heap_set_fr h.at_ j u, h.le⟩
theorem Half.still {w' : World} (h : Half B w d s g C) (hg : w.grownBy w' none) : Half B w' d s g C := ⟨h.body.still hg, (hg.block d h.lt (by simp)).trans h.at_, h.le⟩
theorem Half.alloc (h : Half B w d s g C) (o : Obj) : Half B (w.alloc o) d s g C := h.still (World.grownBy_alloc w o none)
theorem Half.drew (h : Half B w d s g C) : Half B w.drew d s g C := ⟨h.body.still ⟨rfl, rfl, rfl, Nat.le_refl _, fun _ _ _ => rfl⟩, h.at_, h.le⟩
theorem Half.kin (h : Half B w d s g C) : Kin w d := kin_cells h.at_ (by decide)
theorem Half.cells (h : Half B w d s g C) (j : Nat) : w.cell? ⟨d, j, none⟩ = C[j]? := cell_of_row _ _ _ _ _ _ h.at_
theorem Half.frozen (h : Half B w d s g C) (j : Nat) : w.frozen? ⟨d, j, none⟩ = false := frozen_of_row _ _ _ _ _ h.at_
end

set_option maxHeartbeats 400000 in
theorem rem_any (n : Int) (b : Nat) (w : World) (hn : fits n) (hb : 0 < b) (hb2 : b ≤ 4611686018427387904) :
    Calls Tryz.prog 79 #[.int .i64 n, .int .i64 b] w fun e w' => e = .returned (.int .i64 (rest n b)) ∧ w = w' := by
  unfold fits at hn
  obtain ⟨h1, h2⟩ := hn
  have hb1 : (1 : Int) ≤ (b : Int) := by omega
  by_cases h0 : n < 0
  · have hr : ((rest n b : Nat) : Int) = (-(n + 1)) % (b : Int) := by
      unfold rest
      rw [if_pos h0, Int.natCast_emod]
      congr 1
      omega
    have HR := Lib.hid hr
    obtain ⟨m, hm⟩ : ∃ m, -(n + 1) = m := ⟨_, rfl⟩
    have h3 : 0 ≤ m := by omega
    rw [hm] at HR
    clear hr
    go_enter Tryz.func79, Tryz.ntmps79
    go_wp2
    go_ret
    exact ⟨ret_int HR.out.symm, rfl⟩
  · have hr : ((rest n b : Nat) : Int) = n % (b : Int) := by
      unfold rest
      rw [if_neg h0, Int.natCast_emod]
      congr 1
      omega
    have HR := Lib.hid hr
    clear hr
    have h0' : 0 ≤ n := by omega
    go_enter Tryz.func79, Tryz.ntmps79
    go_wp2
    go_ret
    exact ⟨ret_int HR.out.symm, rfl⟩

theorem ready_off {B : Nat} {w : World} {d : Nat} {s : St} {g : Gh} (h : Rep B w d s g) (ho : s.off = true) :
    Calls Tryz.prog 65 #[.pointer (some ⟨d, 0, none⟩)] w fun e w' => e = .returned (.int .i64 13) ∧ w = w' := by
  have c6 := h.half.cells 6
  simp only [dC, ho] at c6
  clear h ho
  go_enter Tryz.func65, Tryz.ntmps65
  go_wp2
  go_ret
  exact ⟨rfl, rfl⟩

/-- what ready leaves: the maps are there -/
def ReadyOut (B : Nat) (w : World) (d : Nat) (s : St) (e : Ending) (w' : World) : Prop :=
  e = .returned (.int .i64 0) ∧ (∃ g' b1 b2, g'.m1 = some b1 ∧ g'.m2 = some b2 ∧ Rep B w' d s g') ∧ Moves B w w'

theorem setCell_size (w : World) (p : Addr) (u : Value) : (w.setCell p u).heap.size = w.heap.size := by simp [World.setCell]

theorem maps_made {B : Nat} {w : World} {d : Nat} {s : St} {g : Gh} (h : Rep B w d s g) (hB : B ≤ w.heap.size) (e1 : g.m1 = none) :
    ∃ g', g'.m1 = some w.heap.size ∧ g'.m2 = some (w.heap.size + 1) ∧ Rep B ((((w.setCell ⟨d, 3, none⟩ (.map (some w.heap.size))).setCell ⟨d, 4, none⟩ (.map (some (w.heap.size + 1)))).alloc (.map #[] 0)).alloc (.map #[] 0)) d s g' ∧
      Moves B w ((((w.setCell ⟨d, 3, none⟩ (.map (some w.heap.size))).setCell ⟨d, 4, none⟩ (.map (some (w.heap.size + 1)))).alloc (.map #[] 0)).alloc (.map #[] 0)) := by
  have hm : s.names = [] ∧ s.lasts = [] ∧ s.queue = [] := by
    rcases h.body.maps with ⟨_, _, h1, h2, h3⟩ | ⟨b1, b2, e, _⟩
    · exact ⟨h1, h2, h3⟩
    · rw [e1] at e; cases e
  have hA := (h.half.set 3 (.map (some w.heap.size))).set 4 (.map (some (w.heap.size + 1)))
  have m1 : Moves B w ((w.setCell ⟨d, 3, none⟩ (.map (some w.heap.size))).setCell ⟨d, 4, none⟩ (.map (some (w.heap.size + 1)))) :=
    (((Moves.refl B w).setCell (p := ⟨d, 3, none⟩) hB h.le h.half.kin _).setCell (p := ⟨d, 4, none⟩) (by rw [setCell_size]; exact hB) h.le (h.half.set 3 _).kin _)
  have hsz : ((w.setCell ⟨d, 3, none⟩ (.map (some w.heap.size))).setCell ⟨d, 4, none⟩ (.map (some (w.heap.size + 1)))).heap.size = w.heap.size := by rw [setCell_size, setCell_size]
  generalize ((w.setCell ⟨d, 3, none⟩ (.map (some w.heap.size))).setCell ⟨d, 4, none⟩ (.map (some (w.heap.size + 1)))) = w2 at hA m1 hsz ⊢
  have hs1 : (w2.alloc (.map #[] 0)).heap.size = w.heap.size + 1 := by simp [hsz]
  have hBd := (hA.alloc (.map #[] 0)).alloc (.map #[] 0)
  have o1 : OwnM ((w2.alloc (.map #[] 0)).alloc (.map #[] 0)) w.heap.size 0 (.map []) := by
    have := World.ownsMap_made w2 Tryz.prog 9 ptrElem
    rw [hsz] at this
    exact World.ownsMap.alloc this _
  have o2 : OwnM ((w2.alloc (.map #[] 0)).alloc (.map #[] 0)) (w.heap.size + 1) 0 (.map []) := by
    have := World.ownsMap_made (w2.alloc (.map #[] 0)) Tryz.prog 9 ptrElem
    rwa [hs1] at this
  refine ⟨{ g with m1 := some w.heap.size, m2 := some (w.heap.size + 1) }, rfl, rfl, ⟨⟨?_, hBd.body.queue, hBd.body.files, hBd.body.apart, hBd.body.cut, hBd.body.bk⟩, ?_, h.le⟩, ?_⟩
  · refine .inr ⟨w.heap.size, w.heap.size + 1, rfl, rfl, by omega, hB, by omega, ?_, ?_⟩
    · rw [hm.1]; exact o1
    · rw [hm.2.1]; exact o2
  · rw [hBd.at_]; rfl
  · exact (m1.alloc (by omega) _).alloc (by omega) _

set_option maxHeartbeats 400000 in
theorem ready_on {B : Nat} {w : World} {d : Nat} {s : St} {g : Gh} (h : Rep B w d s g) (ho : s.off = false) (hB : B ≤ w.heap.size) :
    Calls Tryz.prog 65 #[.pointer (some ⟨d, 0, none⟩)] w (ReadyOut B w d s) := by
  have c6 := h.half.cells 6
  have c3 := h.half.cells 3
  simp only [dC, ho] at c6 c3
  have f3 := h.half.frozen 3
  have f4 := h.half.frozen 4
  have c4 := h.half.cells 4
  simp only [dC] at c4
  have hlt := h.lt
  rcases hm1 : g.m1 with _ | b1
  · have HM := Lib.hid (maps_made h hB hm1)
    rw [hm1] at c3
    clear h ho hm1
    have hmm := @run_makeMap Tryz.prog
    have hq := fun W : World => run_eql_map_nil (P := Tryz.prog) W 47 9 113 none Tryz.underlying47
    go_enter Tryz.func65, Tryz.ntmps65
    go_wp2
    go_ret
    obtain ⟨g', h1, h2, h3, h4⟩ := HM.out
    exact ⟨rfl, ⟨g', _, _, h1, h2, h3⟩, h4⟩
  · obtain ⟨b2, hm2⟩ : ∃ b2, g.m2 = some b2 := by
      rcases h.body.maps with ⟨e, _⟩ | ⟨_, b2, _, e, _⟩
      · rw [hm1] at e; cases e
      · exact ⟨b2, e⟩
    have HM : Hid (ReadyOut B w d s (.returned (.int .i64 0)) w) := ⟨rfl, ⟨g, b1, b2, hm1, hm2, h⟩, Moves.refl _ _⟩
    rw [hm1] at c3
    clear h ho hm1 hm2
    have hq := fun W : World => run_eql_map_nil (P := Tryz.prog) W 47 9 113 (some b1) Tryz.underlying47
    go_enter Tryz.func65, Tryz.ntmps65
    go_wp2
    go_ret
    exact HM.out

theorem count_zero (b o : Nat) (w : World) (hc : w.cell? ⟨b, o, none⟩ = some (.int .i64 0)) :
    Calls Tryz.prog 105 #[.pointer (some ⟨b, o, none⟩)] w fun e w' => e = .returned (.bool false) ∧ w = w' := by
  go_enter Tryz.func105, Tryz.ntmps105
  go_wp2
  go_ret
  exact ⟨rfl, rfl⟩

theorem count_pos (b o : Nat) (n : Nat) (w : World) (hc : w.cell? ⟨b, o, none⟩ = some (.int .i64 (n + 1 : Nat))) (hf : w.frozen? ⟨b, o, none⟩ = false) (hn : n < 9223372036854775807) :
    Calls Tryz.prog 105 #[.pointer (some ⟨b, o, none⟩)] w fun e w' => e = .returned (.bool (decide (n = 0))) ∧ w.setCell ⟨b, o, none⟩ (.int .i64 n) = w' := by
  have e1 : (((n + 1 : Nat) : Int) == 0) = false := by simp; omega
  have e2 : IntKind.i64.wrap (((n + 1 : Nat) : Int) - 1) = (n : Int) := by
    rw [IntWalk.i64_in _ (by omega)]; omega
  by_cases h0 : n = 0
  · subst h0
    go_enter Tryz.func105, Tryz.ntmps105
    go_wp2
    go_ret
    exact ⟨rfl, rfl⟩
  · have e3 : ((n : Int) == 0) = false := by simp; omega
    have e4 : decide (n = 0) = false := by simp; omega
    rw [e4]
    go_enter Tryz.func105, Tryz.ntmps105
    go_wp2
    go_ret
    exact ⟨rfl, rfl⟩

theorem good_any (k : ByteArray) (w : World) :
    Calls Tryz.prog 66 #[.string k] w fun e w' => e = .returned (.bool (goodName k.data.toList)) ∧ w = w' := by
  have hsz := size_list k
  by_cases h0 : k = ⟨#[]⟩
  · subst h0
    have e1 : goodName (⟨#[]⟩ : ByteArray).data.toList = false := by decide
    rw [e1]
    go_enter Tryz.func66, Tryz.ntmps66
    go_wp2
    go_ret
    exact ⟨rfl, rfl⟩
  · have hne : k.data.toList ≠ [] := fun e => h0 (str_ext (by rw [e]))
    have e1 : goodName k.data.toList = decide ((k.size : Int) ≤ 64) := by
      unfold goodName
      rw [hsz]
      cases hk : k.data.toList with
      | nil => exact absurd hk hne
      | cons a r => simp; omega
    have e2 : k.toList.isEmpty = false := by
      rw [Lib.toList_data]
      cases hk : k.data.toList with
      | nil => exact absurd hk hne
      | cons a r => rfl
    rw [e1]
    clear h0 hne e1 hsz
    go_enter Tryz.func66, Tryz.ntmps66
    go_wp2
    go_ret
    exact ⟨rfl, rfl⟩

end Go.Proofs.YtjkofciohehgfaaGreatDoor.L8


/- find, size, apply. -/
namespace Go.Proofs.YtjkofciohehgfaaGreatDoor.L8
open Go.RowKit Go.Maps
open DM

theorem find_off {B : Nat} {w : World} {d : Nat} {s : St} {g : Gh} (h : Rep B w d s g) (ho : s.off = true) (k : ByteArray) :
    Calls Tryz.prog 76 #[.pointer (some ⟨d, 0, none⟩), .string k] w fun e w' => e = .returned (.tuple #[.pointer none, .int .i64 13]) ∧ w = w' := by
  have HR := Lib.hid (ready_off h ho)
  clear h ho
  go_enter Tryz.func76, Tryz.ntmps76
  go_wp2_with (go_at_call 65; refine HR.out.mono ?_; rintro e w' ⟨rfl, rfl⟩)
  go_ret2
  exact ⟨rfl, rfl⟩

/-- what find leaves, of a disk whose power is on -/
def FindOut (B : Nat) (w : World) (d : Nat) (s : St) (o : Option Nat) (e : Ending) (w' : World) : Prop :=
  Moves B w w' ∧ ∃ g' b1 b2, g'.m1 = some b1 ∧ g'.m2 = some b2 ∧ Rep B w' d s g' ∧ e = .returned (.tuple #[pv g'.blk o, .int .i64 (if o.isNone then 10 else 0)])

theorem Rep.own1 {B : Nat} {w : World} {d : Nat} {s : St} {g : Gh} (h : Rep B w d s g) {b1 : Nat} (e : g.m1 = some b1) : OwnM w b1 s.names.length (D g.blk s.names) := by
  rcases h.body.maps with ⟨e1, _⟩ | ⟨b, _, e1, _, _, _, _, o1, _⟩
  · rw [e1] at e; cases e
  · rw [e1] at e; cases e; exact o1

set_option maxHeartbeats 400000 in
theorem find_on {B : Nat} {w : World} {d : Nat} {s : St} {g : Gh} (h : Rep B w d s g) (ho : s.off = false) (hB : B ≤ w.heap.size) (k : ByteArray) (hk : k.size ≤ maxLen) :
    Calls Tryz.prog 76 #[.pointer (some ⟨d, 0, none⟩), .string k] w (FindOut B w d s (find s.names k.data.toList)) := by
  have HR := Lib.hid (ready_on h ho hB)
  clear h ho
  obtain ⟨o, ho⟩ : ∃ o, find s.names k.data.toList = o := ⟨_, rfl⟩
  rw [ho]
  have HO := Lib.hid ho
  clear ho
  go_enter Tryz.func76, Tryz.ntmps76
  go_wp2_with fail
  refine HR.out.mono ?_
  rintro e w1 ⟨rfl, ⟨g', b1, b2, h1, h2, hr⟩, hmv⟩
  have c3 := hr.half.cells 3
  simp only [dC, h1] at c3
  have hlk := look (hr.own1 h1) k hk
  rw [HO.out] at hlk
  have HREP : Hid (FindOut B w d s o (.returned (.tuple #[pv g'.blk o, .int .i64 (if o.isNone then 10 else 0)])) w1) := ⟨hmv, g', b1, b2, h1, h2, hr, rfl⟩
  clear h1 h2 hr hmv hk hB
  cases o with
  | none =>
    simp only [pv] at hlk HREP
    go_wp2
    go_ret2
    exact HREP.out
  | some n =>
    simp only [pv] at hlk HREP
    go_wp2
    go_ret2
    exact HREP.out

theorem row_slice {B : Nat} {w : World} {g : Gh} {n : Nat} {f : F} (h : FileAt B w g n f) : ∃ A c, g.row n = .slice A f.data.length c := by
  rcases h.2.2 with ⟨e, h0⟩ | ⟨r, c, _, e, _⟩
  · exact ⟨none, 0, by rw [e, h0]; rfl⟩
  · exact ⟨_, c, e⟩

/-- what size finds of a name -/
def SizeIs (w : World) (blk : Nat → Nat) (l : Nm) (k : Bs) (N : Nat) : Prop :=
  (find l k = none ∧ N = 0) ∨ ∃ m A c, find l k = some m ∧ w.cell? ⟨blk m, 1, none⟩ = some (.slice A N c)

theorem size_any {w : World} {d b1 n : Nat} {blk : Nat → Nat} {l : Nm} (c3 : w.cell? ⟨d, 3, none⟩ = some (.map (some b1))) (hown : OwnM w b1 n (D blk l)) (k : ByteArray) (hk : k.size ≤ maxLen) (N : Nat) (hs : SizeIs w blk l k.data.toList N) :
    Calls Tryz.prog 106 #[.pointer (some ⟨d, 0, none⟩), .string k] w fun e w' => e = .returned (.int .i64 N) ∧ w = w' := by
  have hlk := look hown k hk
  rcases hs with ⟨h1, rfl⟩ | ⟨m, A, c, h1, hc⟩
  · rw [h1] at hlk
    simp only [pv] at hlk
    clear hown h1 hk
    go_enter Tryz.func106, Tryz.ntmps106
    go_wp2
    go_ret
    exact ⟨rfl, rfl⟩
  · rw [h1] at hlk
    simp only [pv] at hlk
    clear hown h1 hk
    go_enter Tryz.func106, Tryz.ntmps106
    go_wp2
    go_ret
    exact ⟨rfl, rfl⟩

/-- what apply leaves -/
def AppOut (w : World) (b : Nat) (blk : Nat → Nat) (l : Nm) (e : Ending) (w' : World) : Prop := e = .returned (.tuple #[]) ∧ OwnM w' b l.length (D blk l) ∧ w.grownBy w' (some b)

theorem own_len {w : World} {b n : Nat} {blk : Nat → Nat} {l : Nm} (h : OwnM w b n (D blk l)) : OwnM w b l.length (D blk l) := by
  have := own_exact h
  rwa [D_size] at this

theorem alloc_grown {w w' : World} {o : Obj} {row : Option Nat} (h : (w.alloc o).grownBy w' row) : w.grownBy w' row := World.grownBy.trans ((World.grownBy_alloc w o none).but row) h

set_option maxHeartbeats 400000 in
theorem apply_any {w : World} {b n : Nat} {blk : Nat → Nat} {l : Nm} (hown : OwnM w b n (D blk l)) (G N : ByteArray) (F : Nat) (hG : G.size ≤ maxLen) (hN : N.size ≤ maxLen) (hn : n < maxLen) :
    Calls Tryz.prog 107 #[.agg #[.string G, .string N, pv blk (if N.data.toList = [] then none else some F)], .map (some b)] w (AppOut w b blk (app l ⟨G.data.toList, N.data.toList, F⟩)) := by
  have hkG := WideMaps.keyOf_string_mk (P := Tryz.prog) Tryz.underlying9 hG
  have hkN := WideMaps.keyOf_string_mk (P := Tryz.prog) Tryz.underlying9 hN
  have hlt := hown.lt
  by_cases h0 : N = ⟨#[]⟩
  · subst h0
    have e1 : app l ⟨G.data.toList, (⟨#[]⟩ : ByteArray).data.toList, F⟩ = del l G.data.toList := by simp [app]
    have e2 : (if (⟨#[]⟩ : ByteArray).data.toList = [] then none else some F) = none := by simp
    rw [e1, e2]
    simp only [pv]
    have ho := World.ownsMap.alloc hown (.cells #[.string G, .string ⟨#[]⟩, .pointer none] 119)
    have hcB : ∀ w1 : World, (w.alloc (.cells #[.string G, .string ⟨#[]⟩, .pointer none] 119)).mapTurned w1 b → w1.cell? ⟨w.heap.size, 1, none⟩ = some (.string ⟨#[]⟩) := fun w1 ht => by
      rw [World.cell?_of_block (w := w.alloc (.cells #[.string G, .string ⟨#[]⟩, .pointer none] 119)) (ht.grown.block w.heap.size (by simp) (by simp; omega))]
      exact cell_of_row _ _ _ _ _ _ (heap_alloc_new w _)
    have HP : Hid (∀ w1 : World, OwnM w1 b n ((D blk l).del (.string G.data.toList)) → (w.alloc (.cells #[.string G, .string ⟨#[]⟩, .pointer none] 119)).mapTurned w1 b → AppOut w b blk (del l G.data.toList) (.returned (.tuple #[])) w1) := fun w1 h1 ht => by
      rw [D_del] at h1
      exact ⟨rfl, own_len h1, alloc_grown ht.grown⟩
    clear hN hkN e1 e2 hown
    go_enter Tryz.func107, Tryz.ntmps107
    go_wp2_with (at_delete; refine wpList_delete_own _ rfl _ _ 47 9 rfl 113 keyLaw Tryz.underlying47 _ b n (D blk l) rfl ho _ _ rfl hkG ?_; intro w1 hown1 hturn1; have hc1 := hcB w1 hturn1; have HF := Lib.hid (HP.out w1 hown1 hturn1); clear hown1 hturn1 hcB ho)
    go_end0
    exact HF.out
  · have hne : N.data.toList ≠ [] := fun e => h0 (str_ext (by rw [e]))
    have e1 : app l ⟨G.data.toList, N.data.toList, F⟩ = put (del l G.data.toList) N.data.toList F := by simp only [app]; rw [if_neg hne]
    have e3 : N.toList.isEmpty = false := by
      rw [Lib.toList_data]
      cases hk : N.data.toList with
      | nil => exact absurd hk hne
      | cons a r => rfl
    rw [e1, if_neg hne]
    simp only [pv]
    have ho := World.ownsMap.alloc hown (.cells #[.string G, .string N, .pointer (some ⟨blk F, 0, none⟩)] 119)
    have hcB : ∀ w1 : World, (w.alloc (.cells #[.string G, .string N, .pointer (some ⟨blk F, 0, none⟩)] 119)).mapTurned w1 b → w1.cell? ⟨w.heap.size, 1, none⟩ = some (.string N) ∧ w1.cell? ⟨w.heap.size, 2, none⟩ = some (.pointer (some ⟨blk F, 0, none⟩)) := fun w1 ht => by
      have hb := ht.grown.block w.heap.size (by simp) (by simp; omega)
      refine ⟨?_, ?_⟩
      · rw [World.cell?_of_block (w := w.alloc (.cells #[.string G, .string N, .pointer (some ⟨blk F, 0, none⟩)] 119)) hb]
        exact cell_of_row _ _ _ _ _ _ (heap_alloc_new w _)
      · rw [World.cell?_of_block (w := w.alloc (.cells #[.string G, .string N, .pointer (some ⟨blk F, 0, none⟩)] 119)) hb]
        exact cell_of_row _ _ _ _ _ _ (heap_alloc_new w _)
    have HP : Hid (∀ w1 w2 : World, (w.alloc (.cells #[.string G, .string N, .pointer (some ⟨blk F, 0, none⟩)] 119)).mapTurned w1 b → OwnM w2 b (n + 1) (((D blk l).del (.string G.data.toList)).put (.string N.data.toList) (.lit (.int .i64 (blk F)))) → w1.grownBy w2 (some b) →
        AppOut w b blk (put (del l G.data.toList) N.data.toList F) (.returned (.tuple #[])) w2) := fun w1 w2 ht h2 hg2 => by
      rw [D_del, D_put] at h2
      exact ⟨rfl, own_len h2, (alloc_grown ht.grown).trans hg2⟩
    clear e1 hown h0 hne
    go_enter Tryz.func107, Tryz.ntmps107
    go_wp2_with (first | (at_delete; refine wpList_delete_own _ rfl _ _ 47 9 rfl 113 keyLaw Tryz.underlying47 _ b n (D blk l) rfl ho _ _ rfl hkG ?_; intro w1 hown1 hturn1; obtain ⟨hc1, hc2⟩ := hcB w1 hturn1; have HT := Lib.hid hturn1; clear hturn1 hcB ho) | (at_mapUpdate; refine wpList_mapUpdate_own _ rfl _ _ _ 47 rfl 9 113 keyLaw Tryz.underlying47 _ b n _ rfl hown1 hn _ _ _ rfl rfl hkN (.lit (.int .i64 (blk F))) [] rfl ?_; intro w2 hown2 hg2; have HF := Lib.hid (HP.out w1 w2 HT.out hown2 hg2); clear hown2 hg2))
    go_end0
    exact HF.out
end Go.Proofs.YtjkofciohehgfaaGreatDoor.L8


