/- BatchNumbers: numbered items are the items with rising numbers, in a new list; their size is that of all keys and values. For every items and every number. -/
import Derived.Test.YtonoapgajgcjlaaNb
import Derived.Test.YtonoapgajgcjlaaEq
import Derived.Test.YtonoapgajgcjlaaPuts
namespace Go.Proofs.Ytonoapgajgcjlaa
open Go.ChangeShapes Go.WideShapes Go.ChangeAt Go.RowKit
open SK

theorem clear_at (L : List E) (j : Nat) (h : j < L.length) : (List.replicate j E.zero ++ L.drop j)[j]'(by rw [List.length_append, List.length_replicate, List.length_drop]; omega) = L[j] := by
  rw [List.getElem_append_right (by simp)]
  simp
theorem clear_set (L : List E) (j : Nat) (h : j < L.length) : (List.replicate j E.zero ++ L.drop j).set j E.zero = List.replicate (j + 1) E.zero ++ L.drop (j + 1) := by
  rw [List.set_append_right _ _ (by simp), List.length_replicate, Nat.sub_self, List.drop_eq_getElem_cons h, List.set_cons_zero, List.replicate_succ', List.append_assoc]
  rfl

namespace lawNumbers

set_option maxRecDepth 100000 in
set_option maxHeartbeats 4000000 in
theorem walk (A : Option Addr) (n cap : Nat) (l : List E) (p : Int) (w : World) (hn : l.length = n) (hin : EntsIn w A l) (hb : n * 56 ≤ reachBytes) (hp : -9223372036854775808 ≤ p ∧ p ≤ 9223372036854775807) :
    Calls Try.prog 6 #[.slice A n cap, .int .i64 p] w fun e w' => e = .returned (.bool true) ∧ Below w.heap.size w w' := by
  have hb2 : n * 56 ≤ 140737488351232 := by unfold reachBytes at hb; exact hb
  have HL := Lib.hid (lists_in A n cap l w hn hin hb)
  have HW : Hid (∀ W, Calls Try.prog 11 #[] W fun r w' => r = .returned (.bool true) ∧ Below W.heap.size W w') := fun W => wakes_any W
  obtain ⟨M, hM⟩ : ∃ M, min p 4611686018427387904 = M := ⟨_, rfl⟩
  have hM' : min 4611686018427387904 p = M := by omega
  obtain ⟨Q, hQ⟩ : ∃ Q, max M (-4611686018427387904) = Q := ⟨_, rfl⟩
  have hQ' : max (-4611686018427387904) M = Q := by omega
  have hq : -4611686018427387904 ≤ Q ∧ Q ≤ 4611686018427387904 := by omega
  have HNU : Hid (∀ W A1 c1, EntsIn W A1 l → Calls Try.prog 14 #[.slice A1 n c1, .int .i64 Q] W fun e w' => ∃ g, e = .returned (.slice (some ⟨g, 0, none⟩) n n) ∧ RowAt w' g (BK.nb Q l) ∧ W.heap.size ≤ g ∧ Below W.heap.size W w') := fun W A1 c1 h => bnum_any A1 n c1 l Q W hn h hb2 hq
  have HSI : Hid (∀ W A1 c1, EntsIn W A1 l → Calls Try.prog 15 #[.slice A1 n c1] W fun e w' => e = .returned (.int .i64 (BK.sz l)) ∧ Below W.heap.size W w') := fun W A1 c1 h => size_any A1 n c1 l W hn h hb2
  have HIN := Lib.hid hin
  have HLN := Lib.hid hn
  have hnn : ((n : Int) == (n : Int)) = true := beq_self_eq_true _
  clear hin hb hn
  go_enter Try.func6, Try.ntmps6
  go_wp2_with fail
  refine HL.out.mono ?_
  rintro e w1 ⟨A1, c1, A2, c2, rfl, h1, -, -, -, hb1, hs1, -⟩
  have H1 := Lib.hid h1
  have HB1 := Lib.hid hb1
  have HS1 := Lib.hid hs1
  clear h1 hb1 hs1 HL
  go_wp2_with fail
  refine (HNU.out _ _ _ H1.out).mono ?_
  rintro e w2 ⟨g, rfl, hrow2, hg2, hb2'⟩
  have HR2 := Lib.hid hrow2
  have HG2 := Lib.hid hg2
  have HK2 := Lib.hid hb2'
  have HB2 : Hid (Below w.heap.size w w2) := Lib.hid (HB1.out.trans (hb2'.mono HS1.out))
  have HS2 : Hid (w.heap.size ≤ w2.heap.size) := Lib.hid (Nat.le_trans HS1.out hb2'.size)
  clear hb2' hrow2 hg2 HNU
  go_wp2_with fail
  refine (HW.out _).mono ?_
  rintro r w3 ⟨rfl, hb3⟩
  have HR3 := Lib.hid (HR2.out.below hb3)
  have HK3 : Hid (Below w1.heap.size w1 w3) := Lib.hid (HK2.out.trans (hb3.mono HK2.out.size))
  have HB3 : Hid (Below w.heap.size w w3) := Lib.hid (HB2.out.trans (hb3.mono HS2.out))
  have HS3 : Hid (w1.heap.size ≤ w3.heap.size) := Lib.hid HK3.out.size
  clear hb3 HR2
  go_wp2_with fail
  go_loopw [8, 35] (fun z i wr => ∃ j : Nat, j ≤ n ∧ i = .int .i64 j ∧ z = .int .i64 (BK.sz (l.take j)) ∧ RowAt wr g (List.replicate j E.zero ++ (BK.nb Q l).drop j) ∧ Below w1.heap.size w1 wr ∧ Below w.heap.size w wr ∧ w1.heap.size ≤ wr.heap.size) (fun _ i _ => n - (intOf i).toNat)
  case atStart => exact ⟨0, by omega, rfl, rfl, by simpa using HR3.out, HK3.out, HB3.out, HS3.out⟩
  case round =>
    obtain ⟨j, hj, rfl, rfl, hrow, hk, hbw, hsz⟩ := hrel
    by_cases hlt : j < n
    · have hjl : j < l.length := by rw [HLN.out]; omega
      have hjn : j < (BK.nb Q l).length := by rw [BK.nb_len]; exact hjl
      obtain ⟨b, off, hA, hbl, hc⟩ := (HIN.out.below hbw).at_ (by omega)
      obtain ⟨z0, z1, z2, z3, z4⟩ := hc j hjl
      obtain ⟨b', off', hA', hbl', hc'⟩ := (H1.out.below hk).at_ (by omega)
      obtain ⟨y0, y1, y2, y3, y4⟩ := hc' j hjl
      have hwf := HIN.out.wf _ (List.getElem_mem hjl)
      have hst := Lib.hid (BK.sz_take l j hjl)
      have hjr : j < (List.replicate j E.zero ++ (BK.nb Q l).drop j).length := by rw [List.length_append, List.length_replicate, List.length_drop]; omega
      have hLj : (List.replicate j E.zero ++ (BK.nb Q l).drop j)[j] = { l[j] with seq := Q + j } := (clear_at _ j hjn).trans (BK.nb_at Q l j hjl)
      have HCS := Lib.hid (clear_set (BK.nb Q l) j hjn)
      obtain ⟨e, he⟩ : ∃ e, l[j] = e := ⟨_, rfl⟩
      rw [he] at z0 z1 z2 z3 z4 y0 y1 y2 y3 y4 hwf hst hLj
      obtain ⟨Z, hZ⟩ : ∃ Z, BK.sz (l.take j) = Z := ⟨_, rfl⟩
      rw [hZ] at hst ⊢
      obtain ⟨R, hR⟩ : ∃ R, List.replicate j E.zero ++ (BK.nb Q l).drop j = R := ⟨_, rfl⟩
      simp only [hR] at hrow hjr hLj HCS
      have hkz := hwf.key
      have hvz := hwf.value
      subst hA hA'
      obtain ⟨k2, q2, g2, v2, t2⟩ := e
      simp only at z0 z1 z2 z3 z4 y0 y1 y2 y3 y4 hkz hvz hLj
      have hst2 : Hid (BK.sz (l.take (j + 1)) = wrap64 (Z + ((k2.size : Int) + (v2.size : Int)))) := Lib.hid hst.out
      have hwr1 : IntKind.i64.wrap ((k2.size : Int) + (v2.size : Int)) = (k2.size : Int) + (v2.size : Int) := IntWalk.i64_in _ ⟨by omega, by omega⟩
      have hwr2 : IntKind.i64.wrap (Q + (j : Int)) = Q + (j : Int) := IntWalk.i64_in _ ⟨by omega, by omega⟩
      have hee1 := fun W => ent_any W k2 k2 q2 q2 g2 g2 v2 v2 t2 t2
      have hee2 := fun W => ent_any W k2 k2 (Q + (j : Int)) (Q + (j : Int)) g2 g2 v2 v2 t2 t2
      have heq1 : eqB ⟨k2, q2, g2, v2, t2⟩ ⟨k2, q2, g2, v2, t2⟩ = true := (eqB_iff _ _).2 rfl
      have heq2 : eqB ⟨k2, Q + (j : Int), g2, v2, t2⟩ ⟨k2, Q + (j : Int), g2, v2, t2⟩ = true := (eqB_iff _ _).2 rfl
      simp only [heq1, Bool.not_true] at hee1
      simp only [heq2, Bool.not_true] at hee2
      have g0 : (0 : Int) ≤ (j : Int) := by omega
      have g1 : (j : Int) < (n : Int) := by omega
      have n0 : wr.cell? ⟨g, j * 5, none⟩ = some (.string k2) := (hrow.cell j 0 hjr (by omega)).trans (by rw [hLj]; rfl)
      have n1 : wr.cell? ⟨g, j * 5 + 1, none⟩ = some (.int .i64 (Q + (j : Int))) := (hrow.cell j 1 hjr (by omega)).trans (by rw [hLj]; rfl)
      have n2 : wr.cell? ⟨g, j * 5 + 2, none⟩ = some (.bool g2) := (hrow.cell j 2 hjr (by omega)).trans (by rw [hLj]; rfl)
      have n3 : wr.cell? ⟨g, j * 5 + 3, none⟩ = some (.string v2) := (hrow.cell j 3 hjr (by omega)).trans (by rw [hLj]; rfl)
      have n4 : wr.cell? ⟨g, j * 5 + 4, none⟩ = some (.int .i64 t2) := (hrow.cell j 4 hjr (by omega)).trans (by rw [hLj]; rfl)
      have hglt := hrow.lt
      obtain ⟨x, hx⟩ : ∃ x, wr.heap.size = x := ⟨_, rfl⟩
      have hrA := hrow.below ((Below.refl wr.heap.size wr).alloc (Nat.le_refl _) (.cells #[.string k2, .int .i64 (Q + (j : Int)), .bool g2, .string v2, .int .i64 t2] 40))
      have hrB := hrA.below ((Below.refl _ _).alloc (Nat.le_refl _) (.cells #[.string k2, .int .i64 q2, .bool g2, .string v2, .int .i64 t2] 40))
      have hkA := hk.alloc hsz (.cells #[.string k2, .int .i64 (Q + (j : Int)), .bool g2, .string v2, .int .i64 t2] 40)
      have hkB := hkA.alloc (by simp; omega) (.cells #[.string k2, .int .i64 q2, .bool g2, .string v2, .int .i64 t2] 40)
      have hswr : w.heap.size ≤ wr.heap.size := Nat.le_trans HS1.out hsz
      have hbA := hbw.alloc hswr (.cells #[.string k2, .int .i64 (Q + (j : Int)), .bool g2, .string v2, .int .i64 t2] 40)
      have hbB := hbA.alloc (by simp; omega) (.cells #[.string k2, .int .i64 q2, .bool g2, .string v2, .int .i64 t2] 40)
      have hx0 : ((wr.alloc (.cells #[.string k2, .int .i64 (Q + (j : Int)), .bool g2, .string v2, .int .i64 t2] 40)).alloc (.cells #[.string k2, .int .i64 q2, .bool g2, .string v2, .int .i64 t2] 40)).heap[x]? = some (.cells #[.string k2, .int .i64 (Q + (j : Int)), .bool g2, .string v2, .int .i64 t2] 40 (0, 0)) := by
        rw [← hx]
        exact (Below.heap_alloc _ _ _ (by simp)).trans (heap_alloc_new wr _)
      have hx1 : ((wr.alloc (.cells #[.string k2, .int .i64 (Q + (j : Int)), .bool g2, .string v2, .int .i64 t2] 40)).alloc (.cells #[.string k2, .int .i64 q2, .bool g2, .string v2, .int .i64 t2] 40)).heap[x + 1]? = some (.cells #[.string k2, .int .i64 q2, .bool g2, .string v2, .int .i64 t2] 40 (0, 0)) := by
        have := heap_alloc_new (wr.alloc (.cells #[.string k2, .int .i64 (Q + (j : Int)), .bool g2, .string v2, .int .i64 t2] 40)) (.cells #[.string k2, .int .i64 q2, .bool g2, .string v2, .int .i64 t2] 40)
        rw [← hx]
        simpa using this
      have hsB : ((wr.alloc (.cells #[.string k2, .int .i64 (Q + (j : Int)), .bool g2, .string v2, .int .i64 t2] 40)).alloc (.cells #[.string k2, .int .i64 q2, .bool g2, .string v2, .int .i64 t2] 40)).heap.size = x + 2 := by rw [← hx]; simp
      have hcell := fun (a : Addr) (h : a.block < wr.heap.size) => ((Below.refl wr.heap.size wr).alloc (Nat.le_refl _) (.cells #[.string k2, .int .i64 (Q + (j : Int)), .bool g2, .string v2, .int .i64 t2] 40)).cell (p := a) h
      have hcell2 := fun (a : Addr) (h : a.block < wr.heap.size) => (((Below.refl wr.heap.size wr).alloc (Nat.le_refl _) (.cells #[.string k2, .int .i64 (Q + (j : Int)), .bool g2, .string v2, .int .i64 t2] 40)).alloc (by simp) (.cells #[.string k2, .int .i64 q2, .bool g2, .string v2, .int .i64 t2] 40)).cell (p := a) h
      have r0 := (hcell ⟨b', off' + j * 5, none⟩ hbl').trans y0
      have r1 := (hcell ⟨b', off' + j * 5 + 1, none⟩ hbl').trans y1
      have r2 := (hcell ⟨b', off' + j * 5 + 2, none⟩ hbl').trans y2
      have r3 := (hcell ⟨b', off' + j * 5 + 3, none⟩ hbl').trans y3
      have r4 := (hcell ⟨b', off' + j * 5 + 4, none⟩ hbl').trans y4
      have p0 := (hcell2 ⟨b, off + j * 5, none⟩ hbl).trans z0
      have p1 := (hcell2 ⟨b, off + j * 5 + 1, none⟩ hbl).trans z1
      have p2 := (hcell2 ⟨b, off + j * 5 + 2, none⟩ hbl).trans z2
      have p3 := (hcell2 ⟨b, off + j * 5 + 3, none⟩ hbl).trans z3
      have p4 := (hcell2 ⟨b, off + j * 5 + 4, none⟩ hbl).trans z4
      clear hrow hk hbw hsz hc hc' hbl hbl' hwf he hZ hst hcell hcell2 hrA hkA hbA hswr heq1 heq2
      go_wp2_with fail
      generalize ((wr.alloc (.cells #[.string k2, .int .i64 (Q + (j : Int)), .bool g2, .string v2, .int .i64 t2] 40)).alloc (.cells #[.string k2, .int .i64 q2, .bool g2, .string v2, .int .i64 t2] 40)) = w5 at hrB hkB hbB hx0 hx1 hsB p0 p1 p2 p3 p4 ⊢
      have HRB := Lib.hid hrB
      have HKB := Lib.hid hkB
      have HBB := Lib.hid hbB
      have HSB := Lib.hid hsB
      have HGX : Hid (g < x) := Lib.hid (by omega)
      have s0 := cell_of_row _ _ 0 _ _ _ hx0
      have s1 := cell_of_row _ _ 1 _ _ _ hx0
      have s2 := cell_of_row _ _ 2 _ _ _ hx0
      have s3 := cell_of_row _ _ 3 _ _ _ hx0
      have s4 := cell_of_row _ _ 4 _ _ _ hx0
      have o0 := cell_of_row _ _ 0 _ _ _ hx1
      have o1 := cell_of_row _ _ 1 _ _ _ hx1
      have o2 := cell_of_row _ _ 2 _ _ _ hx1
      have o3 := cell_of_row _ _ 3 _ _ _ hx1
      have o4 := cell_of_row _ _ 4 _ _ _ hx1
      have of1 := frozen_of_row _ _ 1 _ _ hx1
      have HRC : Hid (∀ m, RowAt ((w5.drewN m).setCell ⟨x + 1, 1, none⟩ (.int .i64 (Q + (j : Int)))) g R) := Lib.hid (fun m => (Below.heap_setCell _ _ _ _ (by have := HGX.out; simp; omega)).trans HRB.out)
      have hxC0 : ∀ m, ((w5.drewN m).setCell ⟨x + 1, 1, none⟩ (.int .i64 (Q + (j : Int)))).heap[x]? = some (.cells #[.string k2, .int .i64 (Q + (j : Int)), .bool g2, .string v2, .int .i64 t2] 40 (0, 0)) := fun m => (Below.heap_setCell _ _ _ _ (by simp)).trans hx0
      have hxC1 : ∀ m, ((w5.drewN m).setCell ⟨x + 1, 1, none⟩ (.int .i64 (Q + (j : Int)))).heap[x + 1]? = some (.cells #[.string k2, .int .i64 (Q + (j : Int)), .bool g2, .string v2, .int .i64 t2] 40 (0, 0)) := fun m => heap_set_fr (w := w5.drewN m) hx1 1 (.int .i64 (Q + (j : Int)))
      have a0 := fun m => cell_of_row _ _ 0 _ _ _ (hxC0 m)
      have a1 := fun m => cell_of_row _ _ 1 _ _ _ (hxC0 m)
      have a2 := fun m => cell_of_row _ _ 2 _ _ _ (hxC0 m)
      have a3 := fun m => cell_of_row _ _ 3 _ _ _ (hxC0 m)
      have a4 := fun m => cell_of_row _ _ 4 _ _ _ (hxC0 m)
      have b0 := fun m => cell_of_row _ _ 0 _ _ _ (hxC1 m)
      have b1 := fun m => cell_of_row _ _ 1 _ _ _ (hxC1 m)
      have b2 := fun m => cell_of_row _ _ 2 _ _ _ (hxC1 m)
      have b3 := fun m => cell_of_row _ _ 3 _ _ _ (hxC1 m)
      have b4 := fun m => cell_of_row _ _ 4 _ _ _ (hxC1 m)
      have e0 : ∀ m, ((w5.drewN m).setCell ⟨x + 1, 1, none⟩ (.int .i64 (Q + (j : Int)))).cell? ⟨g, j * 5, none⟩ = some (.string k2) := fun m => ((HRC.out m).cell j 0 hjr (by omega)).trans (by rw [hLj]; rfl)
      have e1 : ∀ m, ((w5.drewN m).setCell ⟨x + 1, 1, none⟩ (.int .i64 (Q + (j : Int)))).cell? ⟨g, j * 5 + 1, none⟩ = some (.int .i64 (Q + (j : Int))) := fun m => ((HRC.out m).cell j 1 hjr (by omega)).trans (by rw [hLj]; rfl)
      have e2 : ∀ m, ((w5.drewN m).setCell ⟨x + 1, 1, none⟩ (.int .i64 (Q + (j : Int)))).cell? ⟨g, j * 5 + 2, none⟩ = some (.bool g2) := fun m => ((HRC.out m).cell j 2 hjr (by omega)).trans (by rw [hLj]; rfl)
      have e3 : ∀ m, ((w5.drewN m).setCell ⟨x + 1, 1, none⟩ (.int .i64 (Q + (j : Int)))).cell? ⟨g, j * 5 + 3, none⟩ = some (.string v2) := fun m => ((HRC.out m).cell j 3 hjr (by omega)).trans (by rw [hLj]; rfl)
      have e4 : ∀ m, ((w5.drewN m).setCell ⟨x + 1, 1, none⟩ (.int .i64 (Q + (j : Int)))).cell? ⟨g, j * 5 + 4, none⟩ = some (.int .i64 t2) := fun m => ((HRC.out m).cell j 4 hjr (by omega)).trans (by rw [hLj]; rfl)
      have f0 : ∀ m, ((w5.drewN m).setCell ⟨x + 1, 1, none⟩ (.int .i64 (Q + (j : Int)))).frozen? ⟨g, j * 5, none⟩ = false := fun m => (HRC.out m).frozen _
      have f1 : ∀ m, ((w5.drewN m).setCell ⟨x + 1, 1, none⟩ (.int .i64 (Q + (j : Int)))).frozen? ⟨g, j * 5 + 1, none⟩ = false := fun m => (HRC.out m).frozen _
      have f2 : ∀ m, ((w5.drewN m).setCell ⟨x + 1, 1, none⟩ (.int .i64 (Q + (j : Int)))).frozen? ⟨g, j * 5 + 2, none⟩ = false := fun m => (HRC.out m).frozen _
      have f3 : ∀ m, ((w5.drewN m).setCell ⟨x + 1, 1, none⟩ (.int .i64 (Q + (j : Int)))).frozen? ⟨g, j * 5 + 3, none⟩ = false := fun m => (HRC.out m).frozen _
      have f4 : ∀ m, ((w5.drewN m).setCell ⟨x + 1, 1, none⟩ (.int .i64 (Q + (j : Int)))).frozen? ⟨g, j * 5 + 4, none⟩ = false := fun m => (HRC.out m).frozen _
      have HRD : Hid (∀ m, RowAt (((((((w5.drewN m).setCell ⟨x + 1, 1, none⟩ (.int .i64 (Q + (j : Int)))).setCell ⟨g, j * 5, none⟩ (.string ⟨#[]⟩)).setCell ⟨g, j * 5 + 1, none⟩ (.int .i64 0)).setCell ⟨g, j * 5 + 2, none⟩ (.bool false)).setCell ⟨g, j * 5 + 3, none⟩ (.string ⟨#[]⟩)).setCell ⟨g, j * 5 + 4, none⟩ (.int .i64 0)) g (List.replicate (j + 1) E.zero ++ (BK.nb Q l).drop (j + 1))) := Lib.hid (fun m => by
        have h := (HRC.out m).put j hjr E.zero
        rw [HCS.out] at h
        exact h)
      have HKD : Hid (∀ m, Below w1.heap.size w1 (((((((w5.drewN m).setCell ⟨x + 1, 1, none⟩ (.int .i64 (Q + (j : Int)))).setCell ⟨g, j * 5, none⟩ (.string ⟨#[]⟩)).setCell ⟨g, j * 5 + 1, none⟩ (.int .i64 0)).setCell ⟨g, j * 5 + 2, none⟩ (.bool false)).setCell ⟨g, j * 5 + 3, none⟩ (.string ⟨#[]⟩)).setCell ⟨g, j * 5 + 4, none⟩ (.int .i64 0))) := Lib.hid (fun m => by
        have hle : w1.heap.size ≤ g := HG2.out
        have hle2 : w1.heap.size ≤ x + 1 := by have := HGX.out; omega
        exact ((((((below_drewN HKB.out m).setCell (p := ⟨x + 1, 1, none⟩) hle2 _).setCell (p := ⟨g, j * 5, none⟩) hle _).setCell (p := ⟨g, j * 5 + 1, none⟩) hle _).setCell (p := ⟨g, j * 5 + 2, none⟩) hle _).setCell (p := ⟨g, j * 5 + 3, none⟩) hle _).setCell (p := ⟨g, j * 5 + 4, none⟩) hle _)
      have HBD : Hid (∀ m, Below w.heap.size w (((((((w5.drewN m).setCell ⟨x + 1, 1, none⟩ (.int .i64 (Q + (j : Int)))).setCell ⟨g, j * 5, none⟩ (.string ⟨#[]⟩)).setCell ⟨g, j * 5 + 1, none⟩ (.int .i64 0)).setCell ⟨g, j * 5 + 2, none⟩ (.bool false)).setCell ⟨g, j * 5 + 3, none⟩ (.string ⟨#[]⟩)).setCell ⟨g, j * 5 + 4, none⟩ (.int .i64 0))) := Lib.hid (fun m => by
        have hle : w.heap.size ≤ g := Nat.le_trans HS1.out HG2.out
        have hle2 : w.heap.size ≤ x + 1 := by have := HGX.out; omega
        exact ((((((below_drewN HBB.out m).setCell (p := ⟨x + 1, 1, none⟩) hle2 _).setCell (p := ⟨g, j * 5, none⟩) hle _).setCell (p := ⟨g, j * 5 + 1, none⟩) hle _).setCell (p := ⟨g, j * 5 + 2, none⟩) hle _).setCell (p := ⟨g, j * 5 + 3, none⟩) hle _).setCell (p := ⟨g, j * 5 + 4, none⟩) hle _)
      have HSD : Hid (∀ m, w1.heap.size ≤ (((((((w5.drewN m).setCell ⟨x + 1, 1, none⟩ (.int .i64 (Q + (j : Int)))).setCell ⟨g, j * 5, none⟩ (.string ⟨#[]⟩)).setCell ⟨g, j * 5 + 1, none⟩ (.int .i64 0)).setCell ⟨g, j * 5 + 2, none⟩ (.bool false)).setCell ⟨g, j * 5 + 3, none⟩ (.string ⟨#[]⟩)).setCell ⟨g, j * 5 + 4, none⟩ (.int .i64 0)).heap.size) := Lib.hid (fun m => Nat.le_trans HG2.out (Nat.le_of_lt (HRD.out m).lt))
      clear hrB hkB hbB hx0 hx1 hsB hxC0 hxC1 hx hjr hLj
      go_quiet (fail)
      go_wp2
      go_roundw
      case rel => exact ⟨j + 1, by omega, by go_num, by rw [hst2.out], HRD.out _, HKD.out _, HBD.out _, HSD.out _⟩
      case measure => simp [intOf]; omega
    · have hjn : j = n := by omega
      have htk : l.take j = l := List.take_of_length_le (by rw [HLN.out]; omega)
      rw [htk]
      have HBW := Lib.hid hbw
      have HKW := Lib.hid hk
      have HSW := Lib.hid hsz
      obtain ⟨Z, hZ⟩ : ∃ Z, BK.sz l = Z := ⟨_, rfl⟩
      rw [hZ] at HSI ⊢
      have hzz : (Z == Z) = true := beq_self_eq_true _
      subst hjn
      clear htk hrow hk hbw hsz hZ
      go_wp2_with fail
      go_loopw [73] (fun i wx => ∃ k : Nat, k ≤ j ∧ i = .int .i64 k ∧ Below w1.heap.size w1 wx ∧ Below w.heap.size w wx ∧ w1.heap.size ≤ wx.heap.size) (fun i _ => j - (intOf i).toNat)
      case atStart => exact ⟨0, by omega, rfl, HKW.out, HBW.out, HSW.out⟩
      case round =>
        obtain ⟨k, hkj, rfl, hk, hbw, hsz⟩ := hrel
        by_cases hlt : k < j
        · have hjl : k < l.length := by rw [HLN.out]; omega
          obtain ⟨b, off, hA, hbl, hc⟩ := (HIN.out.below hbw).at_ (by omega)
          obtain ⟨z0, z1, z2, z3, z4⟩ := hc k hjl
          obtain ⟨b', off', hA', hbl', hc'⟩ := (H1.out.below hk).at_ (by omega)
          obtain ⟨y0, y1, y2, y3, y4⟩ := hc' k hjl
          obtain ⟨e, he⟩ : ∃ e, l[k] = e := ⟨_, rfl⟩
          rw [he] at z0 z1 z2 z3 z4 y0 y1 y2 y3 y4
          subst hA hA'
          obtain ⟨k2, q2, g2, v2, t2⟩ := e
          simp only at z0 z1 z2 z3 z4 y0 y1 y2 y3 y4
          have hee1 := fun W => ent_any W k2 k2 q2 q2 g2 g2 v2 v2 t2 t2
          have heq1 : eqB ⟨k2, q2, g2, v2, t2⟩ ⟨k2, q2, g2, v2, t2⟩ = true := (eqB_iff _ _).2 rfl
          simp only [heq1, Bool.not_true] at hee1
          have g0 : (0 : Int) ≤ (k : Int) := by omega
          have g1 : (k : Int) < (j : Int) := by omega
          have HB5 := Lib.hid hbw
          have HK5 := Lib.hid hk
          have HS5 := Lib.hid hsz
          clear hk hbw hsz hbl hbl' hc hc' he heq1
          go_wp2_with fail
          go_quiet (fail)
          go_wp2
          go_roundw
          case rel => exact ⟨k + 1, by omega, by go_num, below_drewN HK5.out _, below_drewN HB5.out _, HS5.out⟩
          case measure => simp [intOf]; omega
        · have hkj2 : k = j := by omega
          have HSZ := Lib.hid (HSI.out wr A1 c1 (H1.out.below hk))
          have HB5 := Lib.hid hbw
          have HS5 : Hid (w.heap.size ≤ wr.heap.size) := Lib.hid (Nat.le_trans HS1.out hsz)
          subst hkj2
          clear hk hbw hsz
          go_wp2_with fail
          refine HSZ.out.mono ?_
          rintro r w6 ⟨rfl, hb6⟩
          have HB6 : Hid (Below w.heap.size w w6) := Lib.hid (HB5.out.trans (hb6.mono HS5.out))
          clear hb6
          go_wp2
          go_ret
          exact ⟨rfl, HB6.out⟩

set_option maxRecDepth 100000 in
theorem contract (H : Type) (enc : TypeId × Value → H) (W : World) (base : Nat) (args : Array Value) (ds gs : List (DataW H)) (before : List MemPlace)
    (hval : ∀ (j : Nat) t v, Try.f6.params[j]? = some t → args[j]? = some v → Value.okWide Try.prog W .any base t v)
    (hW : DataW.Whole enc Try.prog Try.f6.params.toList Rows.batchNumbersSpec.vars false W args.toList ds gs before)
    (hz : (DataW.weightsEach Try.prog Try.f6.params.toList (ds ++ gs)).all (· ≤ reachBytes) = true) :
    Calls Try.prog 6 args W fun e W' => ∃ v, e = .returned v ∧ Rows.batchNumbersSpec.post enc Try.prog Try.f6 false true false false W args v W' := by
  have hW' := hW
  obtain ⟨p, q, hA0, hV, rfl, hfz, hnd⟩ := hW
  have hA : DataW.TrodAll enc Try.prog W 0 (fun _ => true) true Try.f6.params.toList args.toList ds p := hA0
  rw [Try.params6] at hA hval hz
  obtain ⟨v0, vs0, d0, ds0, p0, q0, hargs, rfl, rfl, h0, r0⟩ := trodAll_cons hA
  obtain ⟨v1, vs1, d1, ds1, p1, q1, rfl, rfl, rfl, h1, r1⟩ := trodAll_cons r0
  obtain ⟨rfl, rfl, rfl⟩ := trodAll_nil r1
  obtain rfl : args = #[v0, v1] := by cases args; simp_all
  obtain ⟨rfl, rfl⟩ := trodVars_none hV
  obtain ⟨lA, lN, lC, l, rfl, hlenl, hinl, hbl, hcapl⟩ := open_ents (hval 0 22 v0 rfl rfl) h0 (parts_sized hz (j := 0) rfl rfl)
  obtain ⟨p, rfl, rfl, rfl, wp⟩ := open_int Try.underlying2 (hval 1 2 v1 rfl rfl) h1
  have hp : -9223372036854775808 ≤ p ∧ p ≤ 9223372036854775807 := by simpa [Lit.wf, IntKind.min, IntKind.max, IntKind.signed, IntKind.bits] using wp
  refine (walk lA lN lC l p W hlenl hinl hbl hp).mono fun e W' ⟨he, hB⟩ => ?_
  subst he
  exact ⟨_, rfl, law_post Try.laidOut (by kernel_rfl) rfl rfl Try.underlying4 hW' rfl hB⟩

set_option maxRecDepth 100000 in
theorem lifted (os : Os) (started : os.Started) (H : Type) (enc : TypeId × Value → H) :
    ReturnsInHanded {} Try.checked os 6 .any (Rows.batchNumbersSpec.pre6 enc Try.prog Try.f6 Rows.batchNumbersRow.domain false) (Rows.batchNumbersSpec.post enc Try.prog Try.f6 false true false false) := by
  refine returnsInHanded_of_change_sized (C := Try.checked) Try.own started (by kernel_rfl) Try.func6
    (ChangeSpec.witness6 (enc := enc) (C := Try.checked) false ⟨#[], #[.slice none 0 0, .int .i64 0], []⟩ 8 (by kernel_rfl) (by kernel_rfl) (by kernel_rfl) (by kernel_rfl)) ?_
  intro W base args ds gs before hval hW _ hz _
  exact contract H enc W base args ds gs before hval hW hz

theorem proved : Rows.BatchNumbersSaid :=
  OpenClaim.holds_of_wide 6 Try.f6 rfl rfl rfl rfl rfl rfl rfl ⟨rfl, rfl, rfl, rfl, rfl⟩ rfl rfl rfl rfl rfl (by kernel_rfl) Try.func6 (by kernel_rfl)
    (of_decide_eq_true (by kernel_rfl)) (by unfold Func.isWrapper; first | (rw [if_pos (by decide +kernel)]; kernel_rfl) | (rw [if_neg (by decide +kernel)]; exact ⟨rfl, rfl⟩))
    (fun os started H enc _ => lifted os started H enc)
end lawNumbers
end Go.Proofs.Ytonoapgajgcjlaa
