/- The first entry that isn't in order: Ordered, of both sides. -/
import Derived.Test.YtcmnbfcceeljpaaFt
namespace Go.Proofs.Ytcmnbfcceeljpaa
open Go.RowKit
open SK

theorem add_zero' (a : Addr) : a.add 0 = a := by
  obtain ⟨b, o, x⟩ := a
  simp [Addr.add]

/-- 'l[:m]' of a slice of entries -/
theorem slice_ents (W : World) (A : Option Addr) (n cap m : Nat) (h : m ≤ cap) : (Instr.slice 23 (.slice A n cap) none (some (.int .i64 (m : Int))) none).run Try.prog W = .ok (.slice A m cap) W := by
  have hs : ∀ w, (sizeOf (Try.prog.elem 23)).run Try.prog w = .ok 5 w := fun w => by kernel_rfl
  rw [run_slice_h W 23 A n cap (by kernel_rfl) .i64 (m : Int) (by omega) (by omega), hs]
  simp only [Result.andThen, sliced, Int.toNat_natCast, Nat.sub_zero, Nat.zero_mul, add_zero', Option.map_id']
  split <;> rfl
theorem slice_rents (W : World) (A : Option Addr) (n cap m : Nat) (h : m ≤ cap) : (Instr.slice 24 (.slice A n cap) none (some (.int .i64 (m : Int))) none).run Try.prog W = .ok (.slice A m cap) W := by
  have hs : ∀ w, (sizeOf (Try.prog.elem 24)).run Try.prog w = .ok 5 w := fun w => by kernel_rfl
  rw [run_slice_h W 24 A n cap (by kernel_rfl) .i64 (m : Int) (by omega) (by omega), hs]
  simp only [Result.andThen, sliced, Int.toNat_natCast, Nat.sub_zero, Nat.zero_mul, add_zero', Option.map_id']
  split <;> rfl

set_option maxRecDepth 100000 in
set_option maxHeartbeats 1000000 in
theorem bord_any (A : Option Addr) (n cap : Nat) (l : List E) (w : World) (hn : l.length = n) (hcap : n ≤ cap) (hin : EntsIn w A l) (hb : n ≤ 140737488351232) :
    Calls Try.prog 11 #[.slice A n cap] w fun r w' => r = .returned (.tuple #[.int .i64 (BK.ord l).1, .int .i64 (BK.ord l).2]) ∧ Below w.heap.size w w' := by
  have HF : Hid (∀ j c W, (h : j < l.length) → EntsIn W A l → Calls Try.prog 20 #[.slice A j c, (l[j]).val] W fun r w' => r = .returned (.int .i64 (BK.nb (l.take j) l[j])) ∧ Below W.heap.size W w') := Lib.hid (fun j c W h hE => fits_any A j c (l.take j) l[j] W (by rw [List.length_take]; omega) (hE.take j) (hE.wf _ (List.getElem_mem h)) (by omega))
  have HSL : Hid (∀ W m, m ≤ n → (Instr.slice 23 (.slice A n cap) none (some (.int .i64 (m : Int))) none).run Try.prog W = .ok (.slice A m cap) W) := Lib.hid (fun W m h => slice_ents W A n cap m (by omega))
  have HS : Hid (∀ j (h : j < l.length), BK.ord l = BK.ordF (l.take j) (l.drop j) → BK.nb (l.take j) l[j] = 0 → BK.ord l = BK.ordF (l.take (j + 1)) (l.drop (j + 1))) := Lib.hid (fun j h => BK.ord_step h)
  have HBD : Hid (∀ j (h : j < l.length), BK.ord l = BK.ordF (l.take j) (l.drop j) → BK.nb (l.take j) l[j] ≠ 0 → BK.ord l = ((j : Int), BK.nb (l.take j) l[j])) := Lib.hid (fun j h => BK.ord_bad h)
  have HE : Hid (BK.ord l = BK.ordF (l.take l.length) (l.drop l.length) → BK.ord l = (0, 0)) := Lib.hid BK.ord_end
  have hst : BK.ord l = BK.ordF (l.take 0) (l.drop 0) := by simp [BK.ord]
  obtain ⟨R, hR⟩ : ∃ R, BK.ord l = R := ⟨_, rfl⟩
  rw [hR] at HS HBD HE hst ⊢
  have HIN := Lib.hid hin
  have HN := Lib.hid hn
  have HST := Lib.hid hst
  have HLE := Lib.hid hb
  clear hin hn hR hst hcap hb
  go_enter Try.func11, Try.ntmps11
  go_wp2
  go_loopw [9] (fun i wr => ∃ j : Nat, j ≤ n ∧ i = .int .i64 j ∧ R = BK.ordF (l.take j) (l.drop j) ∧ Below w.heap.size w wr) (fun i _ => n - (intOf i).toNat)
  case atStart => exact ⟨0, by omega, rfl, HST.out, Below.refl _ _⟩
  case round =>
    obtain ⟨j, hj, rfl, hup, hbel⟩ := hrel
    by_cases hlt : j < n
    · have hjl : j < l.length := by rw [HN.out]; omega
      have hsl := fun W => HSL.out W j (by omega)
      obtain ⟨b, off, hA, hbl, hc⟩ := (HIN.out.below hbel).at_ (by omega)
      obtain ⟨z0, z1, z2, z3, z4⟩ := hc j hjl
      have HFT := Lib.hid (fun c W hE => HF.out j c W hjl hE)
      have HS1 := Lib.hid (HS.out j hjl hup)
      have HB1 := Lib.hid (HBD.out j hjl hup)
      have HINR : Hid (∀ W, Below wr.heap.size wr W → EntsIn W A l) := Lib.hid (fun W h => (HIN.out.below hbel).below h)
      obtain ⟨e, he⟩ : ∃ e, l[j] = e := ⟨_, rfl⟩
      rw [he] at z0 z1 z2 z3 z4
      simp only [he] at HFT HS1 HB1
      obtain ⟨c1, hc1⟩ : ∃ c1, BK.nb (l.take j) e = c1 := ⟨_, rfl⟩
      simp only [hc1] at HFT HS1 HB1
      have HBEL := Lib.hid hbel
      subst hA
      obtain ⟨k, q, g, v, t⟩ := e
      simp only [E.val] at z0 z1 z2 z3 z4 HFT
      have g0 : (0 : Int) ≤ (j : Int) := by omega
      have g1 : (j : Int) < (n : Int) := by omega
      have hjw : n ≤ 140737488351232 := HLE.out

      have hrow : (wr.alloc (.cells #[.string k, .int .i64 q, .bool g, .string v, .int .i64 t] 45)).heap[wr.heap.size]? = some (.cells #[.string k, .int .i64 q, .bool g, .string v, .int .i64 t] 45 (0, 0)) := heap_alloc_new wr _
      have hal : Below wr.heap.size wr (wr.alloc (.cells #[.string k, .int .i64 q, .bool g, .string v, .int .i64 t] 45)) := (Below.refl _ _).alloc (Nat.le_refl _) _
      clear hbel hbl hc he hc1 hup
      go_wp2_with fail
      generalize wr.alloc (.cells #[.string k, .int .i64 q, .bool g, .string v, .int .i64 t] 45) = w3 at hrow hal ⊢
      obtain ⟨x, hx⟩ : ∃ x, wr.heap.size = x := ⟨_, rfl⟩
      have HX := Lib.hid hx
      rw [hx] at hrow hal ⊢
      have HAL := Lib.hid hal
      have HROW := Lib.hid hrow
      clear hx hal z0 z1 z2 z3 z4
      obtain ⟨d0, d1, d2, d3, d4⟩ : w3.cell? ⟨x, 0, none⟩ = some (.string k) ∧ w3.cell? ⟨x, 1, none⟩ = some (.int .i64 q) ∧ w3.cell? ⟨x, 2, none⟩ = some (.bool g) ∧ w3.cell? ⟨x, 3, none⟩ = some (.string v) ∧ w3.cell? ⟨x, 4, none⟩ = some (.int .i64 t) := ⟨cell_of_row _ _ _ _ _ _ hrow, cell_of_row _ _ _ _ _ _ hrow, cell_of_row _ _ _ _ _ _ hrow, cell_of_row _ _ _ _ _ _ hrow, cell_of_row _ _ _ _ _ _ hrow⟩
      clear hrow
      go_region_held3 (fun s => s.cell? ⟨x, 0, none⟩ = some (.string k) ∧ s.cell? ⟨x, 1, none⟩ = some (.int .i64 q) ∧ s.cell? ⟨x, 2, none⟩ = some (.bool g) ∧ s.cell? ⟨x, 3, none⟩ = some (.string v) ∧ s.cell? ⟨x, 4, none⟩ = some (.int .i64 t))
        (first | exact HS2.out | go_keep | fail)
        (first
          | (go_at_call 20; refine (HFT.out _ _ (HINR.out _ (by rw [HX.out]; exact Below.drew HAL.out))).mono ?_; rintro r w4 ⟨rfl, hb4⟩
             have hr4 := (hb4.block x (Array.getElem?_eq_some_iff.1 HROW.out).1).trans HROW.out
             have HS2 : Hid (w4.cell? ⟨x, 0, none⟩ = some (.string k) ∧ w4.cell? ⟨x, 1, none⟩ = some (.int .i64 q) ∧ w4.cell? ⟨x, 2, none⟩ = some (.bool g) ∧ w4.cell? ⟨x, 3, none⟩ = some (.string v) ∧ w4.cell? ⟨x, 4, none⟩ = some (.int .i64 t)) := Lib.hid ⟨cell_of_row _ _ _ _ _ _ hr4, cell_of_row _ _ _ _ _ _ hr4, cell_of_row _ _ _ _ _ _ hr4, cell_of_row _ _ _ _ _ _ hr4, cell_of_row _ _ _ _ _ _ hr4⟩
             have HB4 : Hid (Below w.heap.size w w4) := Lib.hid (HBEL.out.trans ((Below.trans (Below.drew HAL.out) (hb4.mono (by have := HAL.out.size; have := (Array.getElem?_eq_some_iff.1 HROW.out).1; simp; omega))).mono (by rw [← HX.out]; exact HBEL.out.size)))
             clear hb4 hr4)
          | fail)

      all_goals
        clear HS2
        by_cases h0 : c1 = 0
        · subst h0
          have HS2 := Lib.hid (HS1.out rfl)
          go_wp2
          go_roundw
          case rel => exact ⟨j + 1, by omega, by go_num, HS2.out, HB4.out⟩
          case measure => simp [intOf]; omega
        · have hbe : (c1 == 0) = false := by simpa using h0
          have hbn : (c1 != 0) = true := by simpa using h0
          have HRR := Lib.hid (HB1.out h0)
          clear HS1 HB1
          go_wp2
          rw [HRR.out]
          go_ret2
          exact ⟨rfl, HB4.out⟩
    · have hjn : j = n := by omega
      have HRR : Hid (R = (0, 0)) := Lib.hid (HE.out (by rw [HN.out, ← hjn]; exact hup))
      have HBEL := Lib.hid hbel
      subst hjn
      clear hup hbel
      go_wp2
      rw [HRR.out]
      go_ret2
      exact ⟨rfl, HBEL.out⟩

set_option maxRecDepth 100000 in
set_option maxHeartbeats 1000000 in
theorem rord_any (A : Option Addr) (n cap : Nat) (l : List E) (w : World) (hn : l.length = n) (hcap : n ≤ cap) (hin : EntsIn w A l) (hb : n ≤ 140737488351232) :
    Calls Try.prog 12 #[.slice A n cap] w fun r w' => r = .returned (.tuple #[.int .i64 (BK.ord l).1, .int .i64 (BK.ord l).2]) ∧ Below w.heap.size w w' := by
  have HF : Hid (∀ j c W, (h : j < l.length) → EntsIn W A l → Calls Try.prog 21 #[.slice A j c, (l[j]).val] W fun r w' => r = .returned (.int .i64 (BK.nb (l.take j) l[j])) ∧ Below W.heap.size W w') := Lib.hid (fun j c W h hE => next_any A j c (l.take j) l[j] W (by rw [List.length_take]; omega) (hE.take j) (hE.wf _ (List.getElem_mem h)) (by omega))
  have HSL : Hid (∀ W m, m ≤ n → (Instr.slice 24 (.slice A n cap) none (some (.int .i64 (m : Int))) none).run Try.prog W = .ok (.slice A m cap) W) := Lib.hid (fun W m h => slice_rents W A n cap m (by omega))
  have HS : Hid (∀ j (h : j < l.length), BK.ord l = BK.ordF (l.take j) (l.drop j) → BK.nb (l.take j) l[j] = 0 → BK.ord l = BK.ordF (l.take (j + 1)) (l.drop (j + 1))) := Lib.hid (fun j h => BK.ord_step h)
  have HBD : Hid (∀ j (h : j < l.length), BK.ord l = BK.ordF (l.take j) (l.drop j) → BK.nb (l.take j) l[j] ≠ 0 → BK.ord l = ((j : Int), BK.nb (l.take j) l[j])) := Lib.hid (fun j h => BK.ord_bad h)
  have HE : Hid (BK.ord l = BK.ordF (l.take l.length) (l.drop l.length) → BK.ord l = (0, 0)) := Lib.hid BK.ord_end
  have hst : BK.ord l = BK.ordF (l.take 0) (l.drop 0) := by simp [BK.ord]
  obtain ⟨R, hR⟩ : ∃ R, BK.ord l = R := ⟨_, rfl⟩
  rw [hR] at HS HBD HE hst ⊢
  have HIN := Lib.hid hin
  have HN := Lib.hid hn
  have HST := Lib.hid hst
  have HLE := Lib.hid hb
  clear hin hn hR hst hcap hb
  go_enter Try.func12, Try.ntmps12
  go_wp2
  go_loopw [4] (fun i wr => ∃ j : Nat, j ≤ n ∧ i = .int .i64 j ∧ R = BK.ordF (l.take j) (l.drop j) ∧ Below w.heap.size w wr) (fun i _ => n - (intOf i).toNat)
  case atStart => exact ⟨0, by omega, rfl, HST.out, Below.refl _ _⟩
  case round =>
    obtain ⟨j, hj, rfl, hup, hbel⟩ := hrel
    by_cases hlt : j < n
    · have hjl : j < l.length := by rw [HN.out]; omega
      have hsl := fun W => HSL.out W j (by omega)
      obtain ⟨b, off, hA, hbl, hc⟩ := (HIN.out.below hbel).at_ (by omega)
      obtain ⟨z0, z1, z2, z3, z4⟩ := hc j hjl
      have HFT := Lib.hid (fun c W hE => HF.out j c W hjl hE)
      have HS1 := Lib.hid (HS.out j hjl hup)
      have HB1 := Lib.hid (HBD.out j hjl hup)
      have HINR : Hid (∀ W, Below wr.heap.size wr W → EntsIn W A l) := Lib.hid (fun W h => (HIN.out.below hbel).below h)
      obtain ⟨e, he⟩ : ∃ e, l[j] = e := ⟨_, rfl⟩
      rw [he] at z0 z1 z2 z3 z4
      simp only [he] at HFT HS1 HB1
      obtain ⟨c1, hc1⟩ : ∃ c1, BK.nb (l.take j) e = c1 := ⟨_, rfl⟩
      simp only [hc1] at HFT HS1 HB1
      have HBEL := Lib.hid hbel
      subst hA
      obtain ⟨k, q, g, v, t⟩ := e
      simp only [E.val] at z0 z1 z2 z3 z4 HFT
      have g0 : (0 : Int) ≤ (j : Int) := by omega
      have g1 : (j : Int) < (n : Int) := by omega
      have hjw : n ≤ 140737488351232 := HLE.out

      have HKEEP : Hid (∀ w2, Below wr.heap.size wr w2 → w2.cell? ⟨b, off + j * 5, none⟩ = some (.string k) ∧ w2.cell? ⟨b, off + j * 5 + 1, none⟩ = some (.int .i64 q) ∧ w2.cell? ⟨b, off + j * 5 + 2, none⟩ = some (.bool g) ∧ w2.cell? ⟨b, off + j * 5 + 3, none⟩ = some (.string v) ∧ w2.cell? ⟨b, off + j * 5 + 4, none⟩ = some (.int .i64 t)) := Lib.hid (fun w2 h => by
        have hm := fun (p : Addr) (hp : p.block < wr.heap.size) => h.cell (p := p) hp
        exact ⟨(hm ⟨_, _, none⟩ hbl).trans z0, (hm ⟨_, _, none⟩ hbl).trans z1, (hm ⟨_, _, none⟩ hbl).trans z2, (hm ⟨_, _, none⟩ hbl).trans z3, (hm ⟨_, _, none⟩ hbl).trans z4⟩)
      clear hbel hbl hc he hc1 hup
      go_wp2_with fail
      go_region_held3 (fun s => s.cell? ⟨b, off + j * 5, none⟩ = some (.string k) ∧ s.cell? ⟨b, off + j * 5 + 1, none⟩ = some (.int .i64 q) ∧ s.cell? ⟨b, off + j * 5 + 2, none⟩ = some (.bool g) ∧ s.cell? ⟨b, off + j * 5 + 3, none⟩ = some (.string v) ∧ s.cell? ⟨b, off + j * 5 + 4, none⟩ = some (.int .i64 t))
        (first | exact HS2.out | go_keep | fail)
        (first
          | (go_at_call 21; refine (HFT.out _ _ (HINR.out _ (Below.drew (Below.refl _ wr)))).mono ?_; rintro r w4 ⟨rfl, hb4⟩
             have HS2 := Lib.hid (HKEEP.out _ (Below.trans (Below.drew (Below.refl _ wr)) (hb4.mono (by first | exact Nat.le_refl _ | simp | fail))))
             have HB4 : Hid (Below w.heap.size w w4) := Lib.hid (HBEL.out.trans ((Below.trans (Below.drew (Below.refl _ wr)) (hb4.mono (by first | exact Nat.le_refl _ | simp | fail))).mono HBEL.out.size))
             clear hb4)
          | fail)

      all_goals
        clear HS2
        by_cases h0 : c1 = 0
        · subst h0
          have HS2 := Lib.hid (HS1.out rfl)
          go_wp2
          go_roundw
          case rel => exact ⟨j + 1, by omega, by go_num, HS2.out, HB4.out⟩
          case measure => simp [intOf]; omega
        · have hbe : (c1 == 0) = false := by simpa using h0
          have hbn : (c1 != 0) = true := by simpa using h0
          have HRR := Lib.hid (HB1.out h0)
          clear HS1 HB1
          go_wp2
          rw [HRR.out]
          go_ret2
          exact ⟨rfl, HB4.out⟩
    · have hjn : j = n := by omega
      have HRR : Hid (R = (0, 0)) := Lib.hid (HE.out (by rw [HN.out, ← hjn]; exact hup))
      have HBEL := Lib.hid hbel
      subst hjn
      clear hup hbel
      go_wp2
      rw [HRR.out]
      go_ret2
      exact ⟨rfl, HBEL.out⟩
end Go.Proofs.Ytcmnbfcceeljpaa
