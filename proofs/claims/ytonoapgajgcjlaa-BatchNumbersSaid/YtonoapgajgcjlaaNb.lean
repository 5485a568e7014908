/- The walk of Number. -/
import Derived.Test.YtonoapgajgcjlaaNm
namespace Go.Proofs.Ytonoapgajgcjlaa
open Go.RowKit
open SK

set_option maxRecDepth 100000 in
set_option maxHeartbeats 4000000 in
theorem bnum_any (A : Option Addr) (n cap : Nat) (l : List E) (q : Int) (w : World) (hn : l.length = n) (hin : EntsIn w A l) (hb : n * 56 ≤ 140737488351232) (hq : -4611686018427387904 ≤ q ∧ q ≤ 4611686018427387904) :
    Calls Try.prog 14 #[.slice A n cap, .int .i64 q] w fun e w' => ∃ g, e = .returned (.slice (some ⟨g, 0, none⟩) n n) ∧ RowAt w' g (BK.nb q l) ∧ w.heap.size ≤ g ∧ Below w.heap.size w w' := by
  have HIN := Lib.hid hin
  have HLN := Lib.hid hn
  have hmk := make_ents w n (by omega)
  have hrow0 : RowAt (w.alloc (.cells (ecs (List.replicate n E.zero)).toArray 40)) w.heap.size (List.replicate n E.zero) := heap_alloc_new w _
  have hbel0 := (Below.refl w.heap.size w).alloc (Nat.le_refl _) (.cells (ecs (List.replicate n E.zero)).toArray 40)
  have hsz0 : w.heap.size < (w.alloc (.cells (ecs (List.replicate n E.zero)).toArray 40)).heap.size := by simp
  clear hin hn
  go_enter Try.func14, Try.ntmps14
  go_wp2_with fail
  generalize w.alloc _ = w0 at hrow0 hbel0 hsz0 ⊢
  obtain ⟨g, hg⟩ : ∃ g, w.heap.size = g := ⟨_, rfl⟩
  have HG := Lib.hid hg
  rw [hg] at hrow0 hbel0 hsz0 ⊢
  clear hmk hg
  go_loopw [13] (fun i wr => ∃ j : Nat, j ≤ n ∧ i = .int .i64 j ∧ RowAt wr g ((BK.nb q l).take j ++ List.replicate (n - j) E.zero) ∧ Below g w wr ∧ g < wr.heap.size) (fun i _ => n - (intOf i).toNat)
  case atStart => exact ⟨0, by omega, rfl, by simpa using hrow0, hbel0, hsz0⟩
  case round =>
    obtain ⟨j, hj, rfl, hrow, hbel, hsz⟩ := hrel
    by_cases hlt : j < n
    · have hjl : j < l.length := by rw [HLN.out]; omega
      have hbelw : Below w.heap.size w wr := by rw [HG.out]; exact hbel
      obtain ⟨b, off, hA, hbl, hc⟩ := (HIN.out.below hbelw).at_ (by omega)
      obtain ⟨z0, z1, z2, z3, z4⟩ := hc j hjl
      have hwf := HIN.out.wf _ (List.getElem_mem hjl)
      have hjm : n - j = (n - (j + 1)) + 1 := by omega
      rw [hjm, List.replicate_succ] at hrow
      have HTK := Lib.hid (BK.nb_take q l j hjl)
      obtain ⟨e, he⟩ : ∃ e, l[j] = e := ⟨_, rfl⟩
      rw [he] at z0 z1 z2 z3 z4 hwf HTK
      have hal : ((BK.nb q l).take j).length = j := by rw [List.length_take, BK.nb_len]; omega
      obtain ⟨acc, hacc⟩ : ∃ acc, (BK.nb q l).take j = acc := ⟨_, rfl⟩
      rw [hacc] at hrow hal HTK
      have hw1 := hrow.below ((Below.refl wr.heap.size wr).alloc (Nat.le_refl _) (.cells #[.string e.key, .int .i64 e.seq, .bool e.gone, .string e.value, .int .i64 e.til] 40))
      have hb1 := hbel.alloc (Nat.le_of_lt hsz) (.cells #[.string e.key, .int .i64 e.seq, .bool e.gone, .string e.value, .int .i64 e.til] 40)
      have hx1 := heap_alloc_new wr (.cells #[.string e.key, .int .i64 e.seq, .bool e.gone, .string e.value, .int .i64 e.til] 40)
      have HAL := Lib.hid hal
      have HSZ := Lib.hid hsz
      have HW1 := Lib.hid hw1
      have HB1 := Lib.hid hb1
      have HX1 := Lib.hid hx1
      have H1 : Hid (∀ W, Calls Try.prog 29 #[.string e.key] W fun r w' => r = .returned (.string e.key) ∧ Below W.heap.size W w') := fun W => clone_any e.key W (by have := hwf.key; omega)
      have H2 : Hid (∀ W, Calls Try.prog 29 #[.string e.value] W fun r w' => r = .returned (.string e.value) ∧ Below W.heap.size W w') := fun W => clone_any e.value W (by have := hwf.value; omega)
      subst hA
      have g0 : (0 : Int) ≤ (j : Int) := by omega
      have g1 : (j : Int) < (n : Int) := by omega
      have hwr : IntKind.i64.wrap (q + (j : Int)) = q + (j : Int) := IntWalk.i64_in _ ⟨by omega, by omega⟩
      have hjl1 : j < (acc ++ E.zero :: List.replicate (n - (j + 1)) E.zero).length := by rw [List.length_append, hal, List.length_cons]; omega
      obtain ⟨x, hx⟩ : ∃ x, wr.heap.size = x := ⟨_, rfl⟩
      clear hrow hbel hsz hbelw hbl hc hwf he hacc hw1 hb1 hx1 hjm hal
      obtain ⟨k2, q2, g2, v2, t2⟩ := e
      simp only at z0 z1 z2 z3 z4 HX1 HW1 HB1 H1 H2 HTK
      have hLj : (acc ++ E.zero :: List.replicate (n - (j + 1)) E.zero)[j] = E.zero := by
        rw [List.getElem_append_right (by have := HAL.out; omega)]
        simp [HAL.out]
      have c0 : (wr.alloc (.cells #[.string k2, .int .i64 q2, .bool g2, .string v2, .int .i64 t2] 40)).cell? ⟨g, j * 5, none⟩ = some (.string ⟨#[]⟩) := (HW1.out.cell j 0 hjl1 (by omega)).trans (by rw [hLj]; rfl)
      have c1 : (wr.alloc (.cells #[.string k2, .int .i64 q2, .bool g2, .string v2, .int .i64 t2] 40)).cell? ⟨g, j * 5 + 1, none⟩ = some (.int .i64 0) := (HW1.out.cell j 1 hjl1 (by omega)).trans (by rw [hLj]; rfl)
      have c2 : (wr.alloc (.cells #[.string k2, .int .i64 q2, .bool g2, .string v2, .int .i64 t2] 40)).cell? ⟨g, j * 5 + 2, none⟩ = some (.bool false) := (HW1.out.cell j 2 hjl1 (by omega)).trans (by rw [hLj]; rfl)
      have c3 : (wr.alloc (.cells #[.string k2, .int .i64 q2, .bool g2, .string v2, .int .i64 t2] 40)).cell? ⟨g, j * 5 + 3, none⟩ = some (.string ⟨#[]⟩) := (HW1.out.cell j 3 hjl1 (by omega)).trans (by rw [hLj]; rfl)
      have c4 : (wr.alloc (.cells #[.string k2, .int .i64 q2, .bool g2, .string v2, .int .i64 t2] 40)).cell? ⟨g, j * 5 + 4, none⟩ = some (.int .i64 0) := (HW1.out.cell j 4 hjl1 (by omega)).trans (by rw [hLj]; rfl)
      have f0 : (wr.alloc (.cells #[.string k2, .int .i64 q2, .bool g2, .string v2, .int .i64 t2] 40)).frozen? ⟨g, j * 5, none⟩ = false := HW1.out.frozen _
      have f1 : (wr.alloc (.cells #[.string k2, .int .i64 q2, .bool g2, .string v2, .int .i64 t2] 40)).frozen? ⟨g, j * 5 + 1, none⟩ = false := HW1.out.frozen _
      have f2 : (wr.alloc (.cells #[.string k2, .int .i64 q2, .bool g2, .string v2, .int .i64 t2] 40)).frozen? ⟨g, j * 5 + 2, none⟩ = false := HW1.out.frozen _
      have f3 : (wr.alloc (.cells #[.string k2, .int .i64 q2, .bool g2, .string v2, .int .i64 t2] 40)).frozen? ⟨g, j * 5 + 3, none⟩ = false := HW1.out.frozen _
      have f4 : (wr.alloc (.cells #[.string k2, .int .i64 q2, .bool g2, .string v2, .int .i64 t2] 40)).frozen? ⟨g, j * 5 + 4, none⟩ = false := HW1.out.frozen _
      have hgx : g < wr.heap.size := HSZ.out
      have hput := HW1.out.put j hjl1 ⟨k2, q2, g2, v2, t2⟩
      rw [set_nth acc j _ HAL.out] at hput
      have hbp : Below g w ((((((wr.alloc (.cells #[.string k2, .int .i64 q2, .bool g2, .string v2, .int .i64 t2] 40)).setCell ⟨g, j * 5, none⟩ (.string k2)).setCell ⟨g, j * 5 + 1, none⟩ (.int .i64 q2)).setCell ⟨g, j * 5 + 2, none⟩ (.bool g2)).setCell ⟨g, j * 5 + 3, none⟩ (.string v2)).setCell ⟨g, j * 5 + 4, none⟩ (.int .i64 t2)) := ((((HB1.out.setCell (p := ⟨g, j * 5, none⟩) (Nat.le_refl _) _).setCell (p := ⟨g, j * 5 + 1, none⟩) (Nat.le_refl _) _).setCell (p := ⟨g, j * 5 + 2, none⟩) (Nat.le_refl _) _).setCell (p := ⟨g, j * 5 + 3, none⟩) (Nat.le_refl _) _).setCell (p := ⟨g, j * 5 + 4, none⟩) (Nat.le_refl _) _
      have hxp : ((((((wr.alloc (.cells #[.string k2, .int .i64 q2, .bool g2, .string v2, .int .i64 t2] 40)).setCell ⟨g, j * 5, none⟩ (.string k2)).setCell ⟨g, j * 5 + 1, none⟩ (.int .i64 q2)).setCell ⟨g, j * 5 + 2, none⟩ (.bool g2)).setCell ⟨g, j * 5 + 3, none⟩ (.string v2)).setCell ⟨g, j * 5 + 4, none⟩ (.int .i64 t2)).heap[x]? = some (.cells #[.string k2, .int .i64 q2, .bool g2, .string v2, .int .i64 t2] 40 (0, 0)) := by
        have hne : x ≠ g := by omega
        rw [Below.heap_setCell _ _ _ _ hne, Below.heap_setCell _ _ _ _ hne, Below.heap_setCell _ _ _ _ hne, Below.heap_setCell _ _ _ _ hne, Below.heap_setCell _ _ _ _ hne, ← hx]
        exact HX1.out
      have hsp : ((((((wr.alloc (.cells #[.string k2, .int .i64 q2, .bool g2, .string v2, .int .i64 t2] 40)).setCell ⟨g, j * 5, none⟩ (.string k2)).setCell ⟨g, j * 5 + 1, none⟩ (.int .i64 q2)).setCell ⟨g, j * 5 + 2, none⟩ (.bool g2)).setCell ⟨g, j * 5 + 3, none⟩ (.string v2)).setCell ⟨g, j * 5 + 4, none⟩ (.int .i64 t2)).heap.size = x + 1 := by
        simp only [setCell_size]
        rw [← hx]; simp
      clear hLj HW1 HB1 HX1
      go_wp2_with fail
      generalize ((((((wr.alloc (.cells #[.string k2, .int .i64 q2, .bool g2, .string v2, .int .i64 t2] 40)).setCell ⟨g, j * 5, none⟩ (.string k2)).setCell ⟨g, j * 5 + 1, none⟩ (.int .i64 q2)).setCell ⟨g, j * 5 + 2, none⟩ (.bool g2)).setCell ⟨g, j * 5 + 3, none⟩ (.string v2)).setCell ⟨g, j * 5 + 4, none⟩ (.int .i64 t2)) = W0 at hput hbp hxp hsp ⊢
      have hjl2 : j < (acc ++ (⟨k2, q2, g2, v2, t2⟩ : E) :: List.replicate (n - (j + 1)) E.zero).length := by rw [List.length_append, HAL.out, List.length_cons]; omega
      have hLj2 : (acc ++ (⟨k2, q2, g2, v2, t2⟩ : E) :: List.replicate (n - (j + 1)) E.zero)[j] = ⟨k2, q2, g2, v2, t2⟩ := by
        rw [List.getElem_append_right (by have := HAL.out; omega)]
        simp [HAL.out]
      have HPUT := Lib.hid hput
      have HBP := Lib.hid hbp
      have HXP := Lib.hid hxp
      have HSP := Lib.hid hsp
      have HGX : Hid (g < x) := Lib.hid (by omega)
      have HST : Hid (∀ W, RowAt W g (acc ++ (⟨k2, q2, g2, v2, t2⟩ : E) :: List.replicate (n - (j + 1)) E.zero) → W.heap[x]? = some (.cells #[.string k2, .int .i64 q2, .bool g2, .string v2, .int .i64 t2] 40 (0, 0)) → ((fun w' => w'.cell? ⟨x, 0, none⟩ = some (.string k2) ∧ w'.cell? ⟨x, 3, none⟩ = some (.string v2) ∧ w'.cell? ⟨g, j * 5, none⟩ = some (.string k2) ∧ w'.cell? ⟨g, j * 5 + 3, none⟩ = some (.string v2) ∧ w'.frozen? ⟨g, j * 5, none⟩ = false ∧ w'.frozen? ⟨g, j * 5 + 3, none⟩ = false)) W) := Lib.hid (fun W h1 h2 =>
        ⟨cell_of_row _ _ _ _ _ _ h2, cell_of_row _ _ _ _ _ _ h2, (h1.cell j 0 hjl2 (by omega)).trans (by rw [hLj2]; rfl), (h1.cell j 3 hjl2 (by omega)).trans (by rw [hLj2]; rfl), h1.frozen _, h1.frozen _⟩)
      obtain ⟨s0, s1, s2, s3, s4, s5⟩ := HST.out _ hput hxp
      clear hput hbp hxp hsp c0 c1 c2 c3 c4 f0 f1 f2 f3 f4 z0 z1 z2 z3 z4 hjl1 hx
      go_region_held3 (fun w' => w'.cell? ⟨x, 0, none⟩ = some (.string k2) ∧ w'.cell? ⟨x, 3, none⟩ = some (.string v2) ∧ w'.cell? ⟨g, j * 5, none⟩ = some (.string k2) ∧ w'.cell? ⟨g, j * 5 + 3, none⟩ = some (.string v2) ∧ w'.frozen? ⟨g, j * 5, none⟩ = false ∧ w'.frozen? ⟨g, j * 5 + 3, none⟩ = false)
        (first | exact HS1.out | exact HS2.out | go_keep | fail)
        (first
          | (go_at_call 29
             refine (H1.out _).mono ?_
             rintro e w1 ⟨rfl, hb⟩
             have HPUT1 := Lib.hid (HPUT.out.below (Below.trans (Below.refl _ W0).drew hb))
             have HXP1 := Lib.hid ((hb.block x (by have := HSP.out; simp; omega)).trans HXP.out)
             have HBP1 : Hid (Below g w w1) := Lib.hid (HBP.out.drew.trans (hb.mono (by have := HSP.out; have := HGX.out; simp; omega)))
             have HSP1 : Hid (x < w1.heap.size) := Lib.hid (Array.getElem?_eq_some_iff.1 HXP1.out).1
             have HS1 := Lib.hid (HST.out _ HPUT1.out HXP1.out)
             clear hb)
          | (go_at_call 29
             have hh := HPUT1.out
             refine (H2.out _).mono ?_
             rintro e w2 ⟨rfl, hb⟩
             have HPUT2 := Lib.hid (HPUT1.out.below hb)
             have HXP2 := Lib.hid ((hb.block x HSP1.out).trans HXP1.out)
             have HBP2 : Hid (Below g w w2) := Lib.hid (HBP1.out.trans (hb.mono (by have := HPUT1.out.lt; omega)))
             have HS2 := Lib.hid (HST.out _ HPUT2.out HXP2.out)
             have hs0 : w2.setCell ⟨g, j * 5, none⟩ (.string k2) = w2 := set_same HS2.out.2.2.1
             have hs3 : w2.setCell ⟨g, j * 5 + 3, none⟩ (.string v2) = w2 := set_same HS2.out.2.2.2.1
             clear hb hh)
          | fail)
      all_goals
        have HSET := Lib.hid (HPUT2.out.set j 1 hjl2 (by omega) (.int .i64 (q + (j : Int))) ⟨k2, q + (j : Int), g2, v2, t2⟩ (by rw [hLj2]; rfl))
        have c1 : w2.cell? ⟨g, j * 5 + 1, none⟩ = some (.int .i64 q2) := (HPUT2.out.cell j 1 hjl2 (by omega)).trans (by rw [hLj2]; rfl)
        have f1 : w2.frozen? ⟨g, j * 5 + 1, none⟩ = false := HPUT2.out.frozen _
        have HEND : Hid (RowAt (w2.setCell ⟨g, j * 5 + 1, none⟩ (.int .i64 (q + (j : Int)))) g ((BK.nb q l).take (j + 1) ++ List.replicate (n - (j + 1)) E.zero)) := Lib.hid (by
          have h := HSET.out
          rw [set_nth acc j _ HAL.out] at h
          rw [HTK.out, List.append_assoc]
          exact h)
        have HBE : Hid (Below g w (w2.setCell ⟨g, j * 5 + 1, none⟩ (.int .i64 (q + (j : Int))))) := Lib.hid (HBP2.out.setCell (p := ⟨g, j * 5 + 1, none⟩) (Nat.le_refl _) _)
        have HGL : Hid (g < (w2.setCell ⟨g, j * 5 + 1, none⟩ (.int .i64 (q + (j : Int)))).heap.size) := Lib.hid HEND.out.lt
        clear HS1 HS2 HST s0 s1 s2 s3 s4 s5 hs0 hs3 hjl2 hLj2 H1 H2
        go_wp2
        go_roundw
        case rel => exact ⟨j + 1, by omega, by go_num, HEND.out, HBE.out, HGL.out⟩
        case measure => simp [intOf]; omega
    · have hjn : j = n := by omega
      have htk : (BK.nb q l).take j = BK.nb q l := List.take_of_length_le (by rw [BK.nb_len, HLN.out]; omega)
      rw [htk, show n - j = 0 by omega, List.replicate_zero, List.append_nil] at hrow
      have HROW := Lib.hid hrow
      have HBEL := Lib.hid hbel
      subst hjn
      clear htk hrow hbel hsz
      go_wp2
      go_ret
      exact ⟨g, rfl, HROW.out, Nat.le_of_eq HG.out, by rw [HG.out]; exact HBEL.out⟩
end Go.Proofs.Ytonoapgajgcjlaa
