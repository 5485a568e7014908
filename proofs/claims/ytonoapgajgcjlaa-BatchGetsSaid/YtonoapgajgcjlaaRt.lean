/- Reading: all items. -/
import Derived.Test.YtonoapgajgcjlaaRi
import Derived.Test.YtonoapgajgcjlaaRow
namespace Go.Proofs.Ytonoapgajgcjlaa
open Go.RowKit
open SK

/-- what reading all items comes to -/
def ItemsOut (w : World) (r : Nat) (x : Except Int (List E)) (e : Ending) (w' : World) : Prop :=
  w.grownBy w' (some r) ∧ match x with
    | .ok es => ∃ g, e = .returned (.slice (some ⟨g, 0, none⟩) es.length es.length) ∧ RowAt w' g es ∧ w.heap.size ≤ g ∧ ∀ x ∈ es, x.wf
    | .error c => e = .panicked (fault c)

theorem item_wf {l : List UInt8} {p q : Nat} {e : E} (h : BK.rItem l p = .ok (e, q)) : e.wf := by
  obtain ⟨h1, h2, h3, -⟩ := BK.item_ok h
  obtain ⟨h4, h5, h6, h7, -⟩ := BK.good_one_zero (BK.bad1_zero h1).1
  exact ⟨by omega, by omega, by rw [h2]; decide, by omega, h3⟩

theorem set_next (acc : List E) (j k : Nat) (h : acc.length = j) (e : E) : (acc ++ List.replicate (k + 1) E.zero).set j e = (acc ++ [e]) ++ List.replicate k E.zero := by
  rw [List.set_append_right _ _ (by omega), show j - acc.length = 0 by omega, List.replicate_succ]
  simp

set_option maxRecDepth 100000 in
set_option maxHeartbeats 4000000 in
theorem items_any (w : World) (r : Nat) (s : ByteArray) (h : RdAt w r s 0) (hs : s.size ≤ 281474976710656) :
    Calls Try.prog 26 #[.pointer (some ⟨r, 0, none⟩)] w fun e w' => ItemsOut w r (BK.getOut s.data.toList) e w' := by
  have HC := Lib.hid (count_any w r 0 s h hs (Nat.zero_le _))
  have hlt := h.lt
  have HGC : Hid (BK.getOut s.data.toList = match BK.rCount s.data.toList 0 with | .error c => .error c | .ok (n, p) => BK.rEnd s.data.toList (BK.rItems s.data.toList n.toNat p [])) := Lib.hid (BK.get_count _)
  obtain ⟨X, hX⟩ : ∃ X, BK.getOut s.data.toList = X := ⟨_, rfl⟩
  rw [hX] at HGC ⊢
  have HLT := Lib.hid hlt
  clear hX h hlt
  cases hc : BK.rCount s.data.toList 0 with
  | error c =>
    have HF : Hid (X = .error c) := Lib.hid (by rw [HGC.out, hc])
    rw [hc] at HC
    clear hc HGC
    go_enter Try.func26, Try.ntmps26
    go_wp2_with fail
    refine HC.out.mono ?_
    rintro e w1 ⟨hg, rfl⟩
    exact ⟨rfl, hg, by rw [HF.out]⟩
  | ok z =>
    obtain ⟨n, p⟩ := z
    obtain ⟨hn0, hn1, hpl⟩ := BK.count_ok hc
    have HXX : Hid (X = BK.rEnd s.data.toList (BK.rItems s.data.toList n.toNat p [])) := Lib.hid (by rw [HGC.out, hc])
    rw [hc] at HC
    clear hc HGC
    rw [size_list] at hpl
    obtain ⟨m, rfl⟩ := Int.eq_ofNat_of_zero_le hn0
    rw [Int.toNat_natCast] at HXX
    have HM : Hid (m ≤ 64) := Lib.hid (by omega)
    have HPL := Lib.hid hpl
    clear hn0 hn1 hpl
    go_enter Try.func26, Try.ntmps26
    go_wp2_with fail
    refine HC.out.mono ?_
    rintro e w1 ⟨hg, rfl, hr⟩
    have hmk := make_ents w1 m (by have := HM.out; omega)
    have HG1 := Lib.hid (grown_trans hg (grown_alloc w1 (.cells (ecs (List.replicate m E.zero)).toArray 40) (some r)))
    have HR1 := Lib.hid (hr.grown (grown_alloc w1 (.cells (ecs (List.replicate m E.zero)).toArray 40) none))
    have HW1 : Hid (RowAt (w1.alloc (.cells (ecs (List.replicate m E.zero)).toArray 40)) w1.heap.size (List.replicate m E.zero)) := Lib.hid (heap_alloc_new w1 _)
    have HGS : Hid (w.heap.size ≤ w1.heap.size) := Lib.hid hg.size
    have HRG : Hid (r < w1.heap.size) := Lib.hid hr.lt
    clear hg hr HC
    simp only [numV]
    go_wp2_with fail
    generalize w1.alloc _ = w2 at HG1 HR1 HW1 ⊢
    obtain ⟨g, hg⟩ : ∃ g, w1.heap.size = g := ⟨_, rfl⟩
    rw [hg] at HW1 HGS HRG ⊢
    clear hmk hg
    go_loopw [10] (fun i wr => ∃ j : Nat, j ≤ m ∧ i = .int .i64 j ∧ ∃ (acc : List E) (q : Nat), acc.length = j ∧ BK.rItems s.data.toList m p [] = BK.rItems s.data.toList (m - j) q acc ∧ q ≤ s.size ∧ RdAt wr r s q ∧ RowAt wr g (acc ++ List.replicate (m - j) E.zero) ∧ w.grownBy wr (some r) ∧ ∀ x ∈ acc, x.wf) (fun i _ => m - (intOf i).toNat)
    case atStart => exact ⟨0, by omega, rfl, [], p, rfl, by simp, HPL.out, HR1.out, by simpa using HW1.out, HG1.out, by simp⟩
    case round =>
      obtain ⟨j, hj, rfl, acc, q, hal, hit, hq, hr, hrow, hg, hwf⟩ := hrel
      by_cases hlt : j < m
      · have HIT := Lib.hid (item_any wr r q s hr hs hq)
        have hjm : m - j = (m - (j + 1)) + 1 := by omega
        rw [hjm] at hit hrow
        simp only [BK.rItems] at hit
        have g0 : (0 : Int) ≤ (j : Int) := by omega
        have g1 : (j : Int) < (m : Int) := by omega
        cases hi : BK.rItem s.data.toList q with
        | error c =>
          rw [hi] at hit HIT
          have HF : Hid (X = .error c) := Lib.hid (by rw [HXX.out, hit]; rfl)
          have HG := Lib.hid hg
          clear hi hit hrow hr hq hal hwf hg hjm
          go_wp2_with fail
          refine HIT.out.mono ?_
          rintro e w3 ⟨hg3, rfl⟩
          exact ⟨rfl, grown_trans HG.out hg3, by rw [HF.out]⟩
        | ok z =>
          obtain ⟨e, q'⟩ := z
          have hew := item_wf hi
          have hq' := (BK.item_ok hi).2.2.2.1
          rw [size_list] at hq'
          rw [hi] at hit HIT
          simp only at hit
          have HIT2 := Lib.hid hit
          have HG := Lib.hid hg
          have HROW := Lib.hid hrow
          have HAL := Lib.hid hal
          have HQ := Lib.hid hq'
          have HWF : Hid (∀ x ∈ acc ++ [e], x.wf) := Lib.hid (fun x hx => by
            rcases List.mem_append.1 hx with h | h
            · exact hwf x h
            · simp at h; rw [h]; exact hew)
          clear hi hit hrow hr hq hal hwf hg hjm hew hq'
          go_wp2_with fail
          refine HIT.out.mono ?_
          rintro e3 w3 ⟨hg3, rfl, hr3⟩
          have HROW3 := Lib.hid (HROW.out.grown hg3 (by have := HRG.out; simp; omega))
          have HG3 := Lib.hid (grown_trans HG.out hg3)
          have HR3 := Lib.hid hr3
          have hjl : j < (acc ++ List.replicate (m - (j + 1) + 1) E.zero).length := by rw [List.length_append, List.length_replicate, HAL.out]; omega
          have hput := HROW3.out.put j hjl e
          rw [set_next acc j _ HAL.out e] at hput
          have HPUT := Lib.hid hput
          obtain ⟨x, hx⟩ : ∃ x, (acc ++ List.replicate (m - (j + 1) + 1) E.zero)[j] = x := ⟨_, rfl⟩
          have c0 : w3.cell? ⟨g, j * 5, none⟩ = some (.string x.key) := by rw [← hx]; exact HROW3.out.cell j 0 hjl (by omega)
          have c1 : w3.cell? ⟨g, j * 5 + 1, none⟩ = some (.int .i64 x.seq) := by rw [← hx]; exact HROW3.out.cell j 1 hjl (by omega)
          have c2 : w3.cell? ⟨g, j * 5 + 2, none⟩ = some (.bool x.gone) := by rw [← hx]; exact HROW3.out.cell j 2 hjl (by omega)
          have c3 : w3.cell? ⟨g, j * 5 + 3, none⟩ = some (.string x.value) := by rw [← hx]; exact HROW3.out.cell j 3 hjl (by omega)
          have c4 : w3.cell? ⟨g, j * 5 + 4, none⟩ = some (.int .i64 x.til) := by rw [← hx]; exact HROW3.out.cell j 4 hjl (by omega)
          have f0 : w3.frozen? ⟨g, j * 5, none⟩ = false := HROW3.out.frozen _
          have f1 : w3.frozen? ⟨g, j * 5 + 1, none⟩ = false := HROW3.out.frozen _
          have f2 : w3.frozen? ⟨g, j * 5 + 2, none⟩ = false := HROW3.out.frozen _
          have f3 : w3.frozen? ⟨g, j * 5 + 3, none⟩ = false := HROW3.out.frozen _
          have f4 : w3.frozen? ⟨g, j * 5 + 4, none⟩ = false := HROW3.out.frozen _
          clear hg3 hr3 HROW HG HIT hjl hput hx HROW3
          obtain ⟨k2, q2, g2, v2, t2⟩ := e
          simp only [itemV, E.val]
          have HRD : Hid (RdAt (((((w3.setCell ⟨g, j * 5, none⟩ (.string k2)).setCell ⟨g, j * 5 + 1, none⟩ (.int .i64 q2)).setCell ⟨g, j * 5 + 2, none⟩ (.bool g2)).setCell ⟨g, j * 5 + 3, none⟩ (.string v2)).setCell ⟨g, j * 5 + 4, none⟩ (.int .i64 t2)) r s q') := Lib.hid (by
            have hne : r ≠ g := by have := HRG.out; omega
            unfold RdAt
            rw [Below.heap_setCell _ _ _ _ hne, Below.heap_setCell _ _ _ _ hne, Below.heap_setCell _ _ _ _ hne, Below.heap_setCell _ _ _ _ hne, Below.heap_setCell _ _ _ _ hne]
            exact HR3.out)
          have HG8 : Hid (w.grownBy (((((w3.setCell ⟨g, j * 5, none⟩ (.string k2)).setCell ⟨g, j * 5 + 1, none⟩ (.int .i64 q2)).setCell ⟨g, j * 5 + 2, none⟩ (.bool g2)).setCell ⟨g, j * 5 + 3, none⟩ (.string v2)).setCell ⟨g, j * 5 + 4, none⟩ (.int .i64 t2)) (some r)) := Lib.hid (grown_new (grown_new (grown_new (grown_new (grown_new HG3.out _ _ _ HGS.out) _ _ _ HGS.out) _ _ _ HGS.out) _ _ _ HGS.out) _ _ _ HGS.out)
          have hm64 : m ≤ 64 := HM.out
          go_wp2
          go_roundw
          case rel => exact ⟨j + 1, by omega, by go_num, acc ++ [⟨k2, q2, g2, v2, t2⟩], q', by rw [List.length_append, HAL.out]; rfl, HIT2.out, HQ.out, HRD.out, HPUT.out, HG8.out, HWF.out⟩
          case measure => simp [intOf]; omega
      · have hjm : j = m := by omega
        have hz : m - j = 0 := by omega
        rw [hz] at hit hrow
        simp only [BK.rItems, List.replicate_zero, List.append_nil] at hit hrow
        have HX2 : Hid (X = if q < s.size then .error 4 else .ok acc) := Lib.hid (by rw [HXX.out, hit]; unfold BK.rEnd; rw [size_list])
        have HG := Lib.hid hg
        have HROW := Lib.hid hrow
        have HWF := Lib.hid hwf
        have c0 := hr.c0
        have c1 := hr.c1
        have hne : ∀ i j : Nat, j < i → ¬ i ≤ j := fun _ _ h => by omega
        subst hjm
        clear hz hit hrow hg hwf hr HXX
        by_cases hql : q < s.size
        · have HF : Hid (X = .error 4) := Lib.hid (by rw [HX2.out, if_pos hql])
          have hqi : (q : Int) < (s.size : Int) := by omega
          go_wp2_with fail
          go_quiet (fail)
          go_wp2_with fail
          refine (leave_bad 4 _ (by decide)).mono ?_
          rintro e w3 ⟨rfl, rfl⟩
          exact ⟨rfl, grown_drewN HG.out _, by rw [HF.out]⟩
        · have HF : Hid (X = .ok acc) := Lib.hid (by rw [HX2.out, if_neg hql])
          have hqi : ¬ (q : Int) < (s.size : Int) := by omega
          go_wp2_with fail
          go_quiet (fail)
          go_wp2
          go_ret
          refine ⟨grown_drewN HG.out _, ?_⟩
          rw [HF.out]
          exact ⟨g, by rw [hal]; rfl, HROW.out, HGS.out, HWF.out⟩
end Go.Proofs.Ytonoapgajgcjlaa
