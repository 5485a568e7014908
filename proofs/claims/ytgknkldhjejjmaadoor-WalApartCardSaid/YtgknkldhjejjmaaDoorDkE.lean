/- The walks of the closures that turn names. -/
import Derived.Test.YtgknkldhjejjmaaDoorDkD
namespace Go.Proofs.YtgknkldhjejjmaaDoor
open Go.RowKit Go.Maps
open DM

/-- a captured variable's block -/
def Cap (w : World) (b : Nat) (v : Value) (t : TypeId) : Prop := w.heap[b]? = some (.cells #[v] t (0, 0))
theorem Cap.cell {w : World} {b : Nat} {v : Value} {t : TypeId} (h : Cap w b v t) : w.cell? ⟨b, 0, none⟩ = some v := cell_of_row _ _ _ _ _ _ h
theorem Cap.lt {w : World} {b : Nat} {v : Value} {t : TypeId} (h : Cap w b v t) : b < w.heap.size := (Array.getElem?_eq_some_iff.1 h).1
theorem Cap.moved {B : Nat} {w w' : World} {b : Nat} {v : Value} {t : TypeId} (h : Cap w b v t) (hm : Moves B w w') (ht : kin t = false) : Cap w' b v t := hm.kept _ _ _ _ h ht
theorem Cap.below {w w' : World} {b : Nat} {v : Value} {t : TypeId} (h : Cap w b v t) (hb : Below w.heap.size w w') : Cap w' b v t := (hb.block b h.lt).trans h

theorem grown_of_below {w w' : World} (h : Below w.heap.size w w') : w.grownBy w' none := ⟨h.os, h.tape, h.output, h.size, fun k hk _ => h.block k hk⟩

theorem below_two {w W0 w1 : World} (h0 : Below w.heap.size w W0) (h1 : Below W0.heap.size W0 w1) : Below w.heap.size w w1 := h0.trans (h1.mono h0.size)

set_option maxRecDepth 100000 in
set_option maxHeartbeats 1000000 in
theorem create_do {B : Nat} {w : World} {d : Nat} {s : St} {g : Gh} (h : Rep B w d s g) (ok : Ok s) {b1 b2 : Nat} (e1 : g.m1 = some b1) (e2 : g.m2 = some b2) (hB : B ≤ w.heap.size) (N : ByteArray) (hk : goodName N.data.toList = true) (hfn : find s.names N.data.toList = none) (hl : s.names.length < 4096)
    (hql : s.queue.length < 1099511627776) (hfl : s.files.length < 1099511627776) (bd bn : Nat) (hd : Cap w bd (.pointer (some ⟨d, 0, none⟩)) 31) (hn : Cap w bn (.string N) 9) :
    Calls Tryd.prog 54 #[.pointer (some ⟨bd, 0, none⟩), .pointer (some ⟨bn, 0, none⟩)] w (DoOut B w d (doCreate N.data.toList s)) := by
  have HP := Lib.hid (create_point h ok e1 e2 hB N hk hfn hl hql)
  have hNs : N.size ≤ 64 := by rw [← size_list]; exact ((goodName_iff _).1 hk).2
  have cd := hd.cell
  have cn := hn.cell
  have c2 : w.cell? ⟨d, 2, none⟩ = some (.int .i64 s.files.length) := h.cells.2.2.1
  have hdl := h.lt
  have hbd := hd.lt
  have hbn := hn.lt
  have HD := Lib.hid hd
  have HN := Lib.hid hn
  obtain ⟨L, hL⟩ : ∃ L, s.files.length = L := ⟨_, rfl⟩
  have HL := Lib.hid hL
  rw [hL] at HP c2 hfl
  clear h ok e1 e2 hk hfn hd hn hL
  go_enter Tryd.func54, Tryd.ntmps54
  go_wp2_with fail
  go_region_held3 (fun w' => w'.cell? ⟨bd, 0, none⟩ = some (.pointer (some ⟨d, 0, none⟩)) ∧ w'.cell? ⟨bn, 0, none⟩ = some (.string N) ∧ w'.cell? ⟨d, 2, none⟩ = some (.int .i64 L))
    (first | go_keep | exact ⟨z1, z2, z3⟩ | exact ⟨y1, y0, y2⟩ | fail)
    (first
      | (go_at_call 56; refine (clone_any _ _ (by omega)).mono ?_
         rintro e w1 ⟨rfl, hB1⟩
         have HB1 : Hid (Below w.heap.size w w1) := by
           first | exact below_two ((Below.refl _ _).drew) hB1 | exact below_two (((Below.refl _ _).alloc (Nat.le_refl _) _).drew) hB1 | fail
         have z1 := (HB1.out.cell (p := ⟨bd, 0, none⟩) hbd).trans cd
         have z2 := (HB1.out.cell (p := ⟨bn, 0, none⟩) hbn).trans cn
         have z3 := (HB1.out.cell (p := ⟨d, 2, none⟩) hdl).trans c2
         have HB0 := Lib.hid hB1
         clear hB1)
      | (go_at_call 55
         first
           | ((with_reducible refine (HP.out _ w1.heap.size ?_ ?_ ?_).mono ?_)
              · exact grown_of_below (HB1.out.alloc HB1.out.size _)
              · exact HB1.out.size
              · exact heap_alloc_new w1 _
              rintro e w2 ⟨rfl, hcm⟩
              have HM2 : Hid (Moves B w w2) := ((Moves.refl B w).of_below (HB1.out.alloc HB1.out.size _) hB).trans hcm.moves)
           | ((with_reducible refine (HP.out _ w.heap.size ?_ ?_ ?_).mono ?_)
              · exact grown_of_below HB1.out
              · exact Nat.le_refl _
              · exact (HB0.out.block w.heap.size (by simp)).trans (drew_at _ _ _ (heap_alloc_new w _))
              rintro e w2 ⟨rfl, hcm⟩
              have HM2 : Hid (Moves B w w2) := ((Moves.refl B w).of_below HB1.out hB).trans hcm.moves)
           | fail
         have y1 := (HD.out.moved HM2.out (by decide)).cell
         have y0 := (HN.out.moved HM2.out (by decide)).cell
         have y2 := hcm.cell
         have y3 := hcm.frozen
         rw [HL.out] at y2
         have HC := Lib.hid hcm
         clear hcm)
      | fail)
  all_goals
    go_wp2
    go_end0
    obtain ⟨g3, m1, m2, hr⟩ := HC.out.rep
    rw [HL.out] at hr
    exact ⟨rfl, HM2.out.setCell (p := ⟨d, 2, none⟩) (by have := HM2.out.size; omega) HC.out.le HC.out.kin _, g3, b1, b2, m1, m2, hr⟩

theorem DoOut.from {B : Nat} {w W : World} {d : Nat} {s : St} {e : Ending} {w' : World} (h : DoOut B W d s e w') (hm : Moves B w W) : DoOut B w d s e w' := ⟨h.1, hm.trans h.2.1, h.2.2⟩

set_option maxRecDepth 100000 in
set_option maxHeartbeats 1000000 in
theorem remove_do {B : Nat} {w : World} {d : Nat} {s : St} {g : Gh} (h : Rep B w d s g) (ok : Ok s) {b1 b2 : Nat} (e1 : g.m1 = some b1) (e2 : g.m2 = some b2) (hB : B ≤ w.heap.size) (N : ByteArray) {n : Nat} (hfn : find s.names N.data.toList = some n)
    (hql : s.queue.length < 1099511627776) (bd bn : Nat) (hd : Cap w bd (.pointer (some ⟨d, 0, none⟩)) 31) (hn : Cap w bn (.string N) 9) :
    Calls Tryd.prog 66 #[.pointer (some ⟨bd, 0, none⟩), .pointer (some ⟨bn, 0, none⟩)] w (DoOut B w d (doRemove N.data.toList s)) := by
  have hNs : N.size ≤ 64 := by rw [← size_list]; exact (ok.gnames.key _ (find_some hfn)).2
  have hne : N.data.toList ≠ [] := (ok.gnames.key _ (find_some hfn)).1
  have HP : Hid (∀ W, w.grownBy W none → Calls Tryd.prog 55 #[.pointer (some ⟨d, 0, none⟩), .agg #[.string N, .string ⟨#[]⟩, .pointer none]] W (DoOut B W d (doRemove N.data.toList s))) := fun W hg =>
    point_rep (h.still hg) ok e1 e2 (by have := hg.size; omega) N ⟨#[]⟩ 0 (ok_remove ok hfn) hNs (by decide) (.inr rfl) hql (fun hn => absurd rfl hn)
  have cd := hd.cell
  have cn := hn.cell
  have hbd := hd.lt
  have hbn := hn.lt
  have HD := Lib.hid hd
  have HN := Lib.hid hn
  clear h ok e1 e2 hfn hd hn hne
  go_enter Tryd.func66, Tryd.ntmps66
  go_wp2_with fail
  go_region_held3 (fun w' => w'.cell? ⟨bd, 0, none⟩ = some (.pointer (some ⟨d, 0, none⟩)) ∧ w'.cell? ⟨bn, 0, none⟩ = some (.string N))
    (first | go_keep | exact ⟨z1, z2⟩ | exact ⟨y1, y2⟩ | fail)
    (first
      | (go_at_call 56; refine (clone_any _ _ (by omega)).mono ?_
         rintro e w1 ⟨rfl, hB1⟩
         have HB1 : Hid (Below w.heap.size w w1) := below_two ((Below.refl _ _).drew) hB1
         have z1 := (HB1.out.cell (p := ⟨bd, 0, none⟩) hbd).trans cd
         have z2 := (HB1.out.cell (p := ⟨bn, 0, none⟩) hbn).trans cn
         clear hB1)
      | (go_at_call 55
         refine (HP.out _ ?_).mono ?_
         · exact grown_of_below HB1.out
         rintro e w2 hdo
         have HDO := Lib.hid (hdo.from ((Moves.refl B w).of_below HB1.out hB))
         clear hdo
         obtain ⟨rfl, hm2, hr2⟩ := HDO.out
         have y1 := (HD.out.moved hm2 (by decide)).cell
         have y2 := (HN.out.moved hm2 (by decide)).cell
         clear hm2 hr2)
      | fail)
  all_goals
    go_wp2
    go_end0
    exact HDO.out

end Go.Proofs.YtgknkldhjejjmaaDoor
