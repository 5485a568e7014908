/- find, size, apply. -/
import Derived.Test.YtgknkldhjejjmaaDoorDkA
namespace Go.Proofs.YtgknkldhjejjmaaDoor
open Go.RowKit Go.Maps
open DM

theorem find_nil (k : ByteArray) (w : World) : Calls Tryd.prog 60 #[.pointer none, .string k] w fun e w' => e = .returned (.tuple #[.pointer none, .int .i64 1]) ∧ w = w' := by
  go_enter Tryd.func60, Tryd.ntmps60
  go_wp2_with (go_at_call 51; refine (ready_nil _).mono ?_; rintro e w' ⟨rfl, rfl⟩)
  go_ret2
  exact ⟨rfl, rfl⟩

theorem find_off {B : Nat} {w : World} {d : Nat} {s : St} {g : Gh} (h : Rep B w d s g) (ho : s.off = true) (k : ByteArray) :
    Calls Tryd.prog 60 #[.pointer (some ⟨d, 0, none⟩), .string k] w fun e w' => e = .returned (.tuple #[.pointer none, .int .i64 13]) ∧ w = w' := by
  have HR := Lib.hid (ready_off h ho)
  clear h ho
  go_enter Tryd.func60, Tryd.ntmps60
  go_wp2_with (go_at_call 51; refine HR.out.mono ?_; rintro e w' ⟨rfl, rfl⟩)
  go_ret2
  exact ⟨rfl, rfl⟩

/-- what find leaves, of a disk whose power is on -/
def FindOut (B : Nat) (w : World) (d : Nat) (s : St) (o : Option Nat) (e : Ending) (w' : World) : Prop :=
  Moves B w w' ∧ ∃ g' b1 b2, g'.m1 = some b1 ∧ g'.m2 = some b2 ∧ Rep B w' d s g' ∧ e = .returned (.tuple #[pv g'.blk o, .int .i64 (if o.isNone then 10 else 0)])

theorem Rep.own1 {B : Nat} {w : World} {d : Nat} {s : St} {g : Gh} (h : Rep B w d s g) {b1 : Nat} (e : g.m1 = some b1) : OwnM w b1 s.names.length (D g.blk s.names) := by
  rcases h.body.maps with ⟨e1, _⟩ | ⟨b, _, e1, _, _, _, _, o1, _⟩
  · rw [e1] at e; cases e
  · rw [e1] at e; cases e; exact o1

set_option maxHeartbeats 400000 in
theorem find_on {B : Nat} {w : World} {d : Nat} {s : St} {g : Gh} (h : Rep B w d s g) (ho : s.off = false) (hB : B ≤ w.heap.size) (k : ByteArray) (hk : k.size ≤ maxLen) :
    Calls Tryd.prog 60 #[.pointer (some ⟨d, 0, none⟩), .string k] w (FindOut B w d s (find s.names k.data.toList)) := by
  have HR := Lib.hid (ready_on h ho hB)
  clear h ho
  obtain ⟨o, ho⟩ : ∃ o, find s.names k.data.toList = o := ⟨_, rfl⟩
  rw [ho]
  have HO := Lib.hid ho
  clear ho
  go_enter Tryd.func60, Tryd.ntmps60
  go_wp2_with fail
  refine HR.out.mono ?_
  rintro e w1 ⟨rfl, ⟨g', b1, b2, h1, h2, hr⟩, hmv⟩
  have c3 := hr.half.cells 3
  simp only [dC, h1] at c3
  have hlk := look (hr.own1 h1) k hk
  rw [HO.out] at hlk
  have HREP : Hid (FindOut B w d s o (.returned (.tuple #[pv g'.blk o, .int .i64 (if o.isNone then 10 else 0)])) w1) := ⟨hmv, g', b1, b2, h1, h2, hr, rfl⟩
  clear h1 h2 hr hmv hk hB
  cases o with
  | none =>
    simp only [pv] at hlk HREP
    go_wp2
    go_ret2
    exact HREP.out
  | some n =>
    simp only [pv] at hlk HREP
    go_wp2
    go_ret2
    exact HREP.out

theorem row_slice {B : Nat} {w : World} {g : Gh} {n : Nat} {f : F} (h : FileAt B w g n f) : ∃ A c, g.row n = .slice A f.data.length c := by
  rcases h.2.2 with ⟨e, h0⟩ | ⟨r, c, _, e, _⟩
  · exact ⟨none, 0, by rw [e, h0]; rfl⟩
  · exact ⟨_, c, e⟩

/-- what size finds of a name -/
def SizeIs (w : World) (blk : Nat → Nat) (l : Nm) (k : Bs) (N : Nat) : Prop :=
  (find l k = none ∧ N = 0) ∨ ∃ m A c, find l k = some m ∧ w.cell? ⟨blk m, 1, none⟩ = some (.slice A N c)

theorem size_any {w : World} {d b1 n : Nat} {blk : Nat → Nat} {l : Nm} (c3 : w.cell? ⟨d, 3, none⟩ = some (.map (some b1))) (hown : OwnM w b1 n (D blk l)) (k : ByteArray) (hk : k.size ≤ maxLen) (N : Nat) (hs : SizeIs w blk l k.data.toList N) :
    Calls Tryd.prog 82 #[.pointer (some ⟨d, 0, none⟩), .string k] w fun e w' => e = .returned (.int .i64 N) ∧ w = w' := by
  have hlk := look hown k hk
  rcases hs with ⟨h1, rfl⟩ | ⟨m, A, c, h1, hc⟩
  · rw [h1] at hlk
    simp only [pv] at hlk
    clear hown h1 hk
    go_enter Tryd.func82, Tryd.ntmps82
    go_wp2
    go_ret
    exact ⟨rfl, rfl⟩
  · rw [h1] at hlk
    simp only [pv] at hlk
    clear hown h1 hk
    go_enter Tryd.func82, Tryd.ntmps82
    go_wp2
    go_ret
    exact ⟨rfl, rfl⟩

/-- what apply leaves -/
def AppOut (w : World) (b : Nat) (blk : Nat → Nat) (l : Nm) (e : Ending) (w' : World) : Prop := e = .returned (.tuple #[]) ∧ OwnM w' b l.length (D blk l) ∧ w.grownBy w' (some b)

theorem own_len {w : World} {b n : Nat} {blk : Nat → Nat} {l : Nm} (h : OwnM w b n (D blk l)) : OwnM w b l.length (D blk l) := by
  have := own_exact h
  rwa [D_size] at this

theorem alloc_grown {w w' : World} {o : Obj} {row : Option Nat} (h : (w.alloc o).grownBy w' row) : w.grownBy w' row := World.grownBy.trans ((World.grownBy_alloc w o none).but row) h

set_option maxHeartbeats 400000 in
theorem apply_any {w : World} {b n : Nat} {blk : Nat → Nat} {l : Nm} (hown : OwnM w b n (D blk l)) (G N : ByteArray) (F : Nat) (hG : G.size ≤ maxLen) (hN : N.size ≤ maxLen) (hn : n < maxLen) :
    Calls Tryd.prog 83 #[.agg #[.string G, .string N, pv blk (if N.data.toList = [] then none else some F)], .map (some b)] w (AppOut w b blk (app l ⟨G.data.toList, N.data.toList, F⟩)) := by
  have hkG := WideMaps.keyOf_string_mk (P := Tryd.prog) Tryd.underlying9 hG
  have hkN := WideMaps.keyOf_string_mk (P := Tryd.prog) Tryd.underlying9 hN
  have hlt := hown.lt
  by_cases h0 : N = ⟨#[]⟩
  · subst h0
    have e1 : app l ⟨G.data.toList, (⟨#[]⟩ : ByteArray).data.toList, F⟩ = del l G.data.toList := by simp [app]
    have e2 : (if (⟨#[]⟩ : ByteArray).data.toList = [] then none else some F) = none := by simp
    rw [e1, e2]
    simp only [pv]
    have ho := World.ownsMap.alloc hown (.cells #[.string G, .string ⟨#[]⟩, .pointer none] 90)
    have hcB : ∀ w1 : World, (w.alloc (.cells #[.string G, .string ⟨#[]⟩, .pointer none] 90)).mapTurned w1 b → w1.cell? ⟨w.heap.size, 1, none⟩ = some (.string ⟨#[]⟩) := fun w1 ht => by
      rw [World.cell?_of_block (w := w.alloc (.cells #[.string G, .string ⟨#[]⟩, .pointer none] 90)) (ht.grown.block w.heap.size (by simp) (by simp; omega))]
      exact cell_of_row _ _ _ _ _ _ (heap_alloc_new w _)
    have HP : Hid (∀ w1 : World, OwnM w1 b n ((D blk l).del (.string G.data.toList)) → (w.alloc (.cells #[.string G, .string ⟨#[]⟩, .pointer none] 90)).mapTurned w1 b → AppOut w b blk (del l G.data.toList) (.returned (.tuple #[])) w1) := fun w1 h1 ht => by
      rw [D_del] at h1
      exact ⟨rfl, own_len h1, alloc_grown ht.grown⟩
    clear hN hkN e1 e2 hown
    go_enter Tryd.func83, Tryd.ntmps83
    go_wp2_with (at_delete; refine wpList_delete_own _ rfl _ _ 52 9 rfl 68 keyLaw Tryd.underlying52 _ b n (D blk l) rfl ho _ _ rfl hkG ?_; intro w1 hown1 hturn1; have hc1 := hcB w1 hturn1; have HF := Lib.hid (HP.out w1 hown1 hturn1); clear hown1 hturn1 hcB ho)
    go_end0
    exact HF.out
  · have hne : N.data.toList ≠ [] := fun e => h0 (str_ext (by rw [e]))
    have e1 : app l ⟨G.data.toList, N.data.toList, F⟩ = put (del l G.data.toList) N.data.toList F := by simp only [app]; rw [if_neg hne]
    have e3 : N.toList.isEmpty = false := by
      rw [Lib.toList_data]
      cases hk : N.data.toList with
      | nil => exact absurd hk hne
      | cons a r => rfl
    rw [e1, if_neg hne]
    simp only [pv]
    have ho := World.ownsMap.alloc hown (.cells #[.string G, .string N, .pointer (some ⟨blk F, 0, none⟩)] 90)
    have hcB : ∀ w1 : World, (w.alloc (.cells #[.string G, .string N, .pointer (some ⟨blk F, 0, none⟩)] 90)).mapTurned w1 b → w1.cell? ⟨w.heap.size, 1, none⟩ = some (.string N) ∧ w1.cell? ⟨w.heap.size, 2, none⟩ = some (.pointer (some ⟨blk F, 0, none⟩)) := fun w1 ht => by
      have hb := ht.grown.block w.heap.size (by simp) (by simp; omega)
      refine ⟨?_, ?_⟩
      · rw [World.cell?_of_block (w := w.alloc (.cells #[.string G, .string N, .pointer (some ⟨blk F, 0, none⟩)] 90)) hb]
        exact cell_of_row _ _ _ _ _ _ (heap_alloc_new w _)
      · rw [World.cell?_of_block (w := w.alloc (.cells #[.string G, .string N, .pointer (some ⟨blk F, 0, none⟩)] 90)) hb]
        exact cell_of_row _ _ _ _ _ _ (heap_alloc_new w _)
    have HP : Hid (∀ w1 w2 : World, (w.alloc (.cells #[.string G, .string N, .pointer (some ⟨blk F, 0, none⟩)] 90)).mapTurned w1 b → OwnM w2 b (n + 1) (((D blk l).del (.string G.data.toList)).put (.string N.data.toList) (.lit (.int .i64 (blk F)))) → w1.grownBy w2 (some b) →
        AppOut w b blk (put (del l G.data.toList) N.data.toList F) (.returned (.tuple #[])) w2) := fun w1 w2 ht h2 hg2 => by
      rw [D_del, D_put] at h2
      exact ⟨rfl, own_len h2, (alloc_grown ht.grown).trans hg2⟩
    clear e1 hown h0 hne
    go_enter Tryd.func83, Tryd.ntmps83
    go_wp2_with (first | (at_delete; refine wpList_delete_own _ rfl _ _ 52 9 rfl 68 keyLaw Tryd.underlying52 _ b n (D blk l) rfl ho _ _ rfl hkG ?_; intro w1 hown1 hturn1; obtain ⟨hc1, hc2⟩ := hcB w1 hturn1; have HT := Lib.hid hturn1; clear hturn1 hcB ho) | (at_mapUpdate; refine wpList_mapUpdate_own _ rfl _ _ _ 52 rfl 9 68 keyLaw Tryd.underlying52 _ b n _ rfl hown1 hn _ _ _ rfl rfl hkN (.lit (.int .i64 (blk F))) [] rfl ?_; intro w2 hown2 hg2; have HF := Lib.hid (HP.out w1 w2 HT.out hown2 hg2); clear hown2 hg2))
    go_end0
    exact HF.out
end Go.Proofs.YtgknkldhjejjmaaDoor
