/- Texts joined by bundle.py: YTFt, YTOd, YTAl, YTPb. -/
import Derived.Test.YtjkofciohehgfaaGreatDoorZaz
import Derived.Test.YtjkofciohehgfaaGreatDoorZay

/- May an entry stand behind others: fits, and the document's Next. -/
namespace Go.Proofs.YtjkofciohehgfaaGreatDoor.L11
open Go.RowKit
open SK

namespace BK
theorem nb_bad {a : List E} {e : E} (h : good e ≠ 0) : nb a e = good e := by unfold nb; rw [if_pos h]
theorem nb_max {a : List E} {e : E} (h : good e = 0) (ht : e.til = 9223372036854775807) : nb a e = 2 := by unfold nb; rw [if_neg (by simp [h]), if_pos ht]
theorem nb_nil {e : E} (h : good e = 0) (ht : e.til ≠ 9223372036854775807) : nb [] e = 0 := by unfold nb; rw [if_neg (by simp [h]), if_neg ht]; rfl
theorem nb_snoc {a : List E} {e p : E} (h : good e = 0) (ht : e.til ≠ 9223372036854775807) : nb (a ++ [p]) e = if less p e = true then 0 else 16 := by unfold nb; rw [if_neg (by simp [h]), if_neg ht]; simp
end BK

set_option maxRecDepth 100000 in
set_option maxHeartbeats 1000000 in
theorem fits_any (A : Option Addr) (n cap : Nat) (a : List E) (e : E) (w : World) (hn : a.length = n) (hin : EntsIn w A a) (he : e.wf) (hb : n ≤ 140737488351232) :
    Calls Tryz.prog 87 #[.slice A n cap, e.val] w fun r w' => r = .returned (.int .i64 (BK.nb a e)) ∧ Below w.heap.size w w' := by
  have HG : Hid (∀ W, Calls Tryz.prog 26 #[e.val] W fun r w' => r = .returned (.int .i64 (good e)) ∧ Below W.heap.size W w') := fun W => good_any e W he
  have HL : Hid (∀ (p : E) W, Calls Tryz.prog 56 #[p.val, e.val] W fun r w' => r = .returned (.bool (less p e)) ∧ Below W.heap.size W w') := fun p W => less_any p e W
  have HB0 : Hid (good e ≠ 0 → BK.nb a e = good e) := Lib.hid BK.nb_bad
  have HB1 : Hid (good e = 0 → e.til = 9223372036854775807 → BK.nb a e = 2) := Lib.hid BK.nb_max
  have HB2 : Hid (good e = 0 → e.til ≠ 9223372036854775807 → a = [] → BK.nb a e = 0) := Lib.hid (fun h1 h2 h3 => by rw [h3]; exact BK.nb_nil h1 h2)
  have HB3 : Hid (∀ b p, good e = 0 → e.til ≠ 9223372036854775807 → a = b ++ [p] → BK.nb a e = if less p e = true then 0 else 16) := Lib.hid (fun b p h1 h2 h3 => by rw [h3]; exact BK.nb_snoc h1 h2)
  obtain ⟨G, hG⟩ : ∃ G, good e = G := ⟨_, rfl⟩
  obtain ⟨R, hR⟩ : ∃ R, BK.nb a e = R := ⟨_, rfl⟩
  obtain ⟨LL, hLL⟩ : ∃ LL : E → Bool, (fun p => less p e) = LL := ⟨_, rfl⟩
  have hLp : ∀ p, less p e = LL p := fun p => by rw [← hLL]
  simp only [hG, hR, hLp] at HG HL HB0 HB1 HB2 HB3 ⊢
  clear hG hR hLL hLp
  have HIN := Lib.hid hin
  have HN := Lib.hid hn
  obtain ⟨k, q, g, v, t⟩ := e
  simp only [E.val] at HG HL HB1 HB2 HB3 ⊢
  have hrow : (w.alloc (.cells #[.string k, .int .i64 q, .bool g, .string v, .int .i64 t] 45)).heap[w.heap.size]? = some (.cells #[.string k, .int .i64 q, .bool g, .string v, .int .i64 t] 45 (0, 0)) := heap_alloc_new w _
  have hk0 : Below w.heap.size w (w.alloc (.cells #[.string k, .int .i64 q, .bool g, .string v, .int .i64 t] 45)) := (Below.refl _ w).alloc (Nat.le_refl _) _
  have HROW := Lib.hid hrow
  have HK0 := Lib.hid hk0
  clear he hin hrow hk0
  by_cases h0 : G = 0
  · subst h0
    by_cases ht : t = 9223372036854775807
    · subst ht
      have HR : Hid (R = 2) := Lib.hid (HB1.out rfl rfl)
      go_enter Tryz.func87, Tryz.ntmps87
      go_wp2_with fail
      refine (HG.out _).mono ?_
      rintro r w1 ⟨rfl, hb1⟩
      have hr1 := (hb1.block w.heap.size (by simp)).trans HROW.out
      have c4 : w1.cell? ⟨w.heap.size, 4, none⟩ = some (.int .i64 9223372036854775807) := cell_of_row _ _ _ _ _ _ hr1
      have HBW : Hid (Below w.heap.size w w1) := Lib.hid (HK0.out.trans (hb1.mono (by simp)))
      clear hr1 hb1
      go_wp2
      go_ret
      exact ⟨by rw [HR.out]; rfl, HBW.out⟩
    · have hbe : (t == 9223372036854775807) = false := by simpa using ht
      rcases List.eq_nil_or_concat a with ha | ⟨b, p, ha⟩
      · have HR : Hid (R = 0) := Lib.hid (HB2.out rfl ht ha)
        subst ha
        subst hn
        have hd : decide ((0 : Int) < ((([] : List E).length : Nat) : Int)) = false := rfl
        go_enter Tryz.func87, Tryz.ntmps87
        go_wp2_with fail
        refine (HG.out _).mono ?_
        rintro r w1 ⟨rfl, hb1⟩
        have hr1 := (hb1.block w.heap.size (by simp)).trans HROW.out
        have c4 : w1.cell? ⟨w.heap.size, 4, none⟩ = some (.int .i64 t) := cell_of_row _ _ _ _ _ _ hr1
        have HBW : Hid (Below w.heap.size w w1) := Lib.hid (HK0.out.trans (hb1.mono (by simp)))
        clear hr1 hb1
        go_wp2_with fail
        go_quiet (fail)
        go_wp2
        go_ret
        exact ⟨by rw [HR.out]; rfl, below_drewN HBW.out _⟩
      · simp only [List.concat_eq_append] at ha
        have HR : Hid (R = if LL p = true then 0 else 16) := Lib.hid (HB3.out b p rfl ht ha)
        obtain ⟨m, hnm⟩ : ∃ m, n = m + 1 := ⟨b.length, by rw [← hn, ha]; simp⟩
        have hbm : b.length = m := by have := hn; rw [ha, List.length_append, List.length_singleton] at this; omega
        have hml : m < a.length := by omega
        have hp : a[m] = p := by subst hbm; simp [ha]
        clear HB0 HB1 HB2 HB3 ha hbm hn
        go_enter Tryz.func87, Tryz.ntmps87
        go_wp2_with fail
        refine (HG.out _).mono ?_
        rintro r w1 ⟨rfl, hb1⟩
        have hr1 := (hb1.block w.heap.size (by simp)).trans HROW.out
        have HBW : Hid (Below w.heap.size w w1) := Lib.hid (HK0.out.trans (hb1.mono (by simp)))
        obtain ⟨bb, off, hA, hbl, hc⟩ := (HIN.out.below HBW.out).at_ (by omega)
        obtain ⟨z0, z1, z2, z3, z4⟩ := hc m hml
        rw [hp] at z0 z1 z2 z3 z4
        subst hA
        have HLP := Lib.hid (fun W => HL.out p W)
        obtain ⟨LP, hLP⟩ : ∃ LP, LL p = LP := ⟨_, rfl⟩
        rw [hLP] at HLP HR
        obtain ⟨k2, q2, g2, v2, t2⟩ := p
        simp only at HLP z0 z1 z2 z3 z4
        have c0 : w1.cell? ⟨w.heap.size, 0, none⟩ = some (.string k) := cell_of_row _ _ _ _ _ _ hr1
        have c1 : w1.cell? ⟨w.heap.size, 1, none⟩ = some (.int .i64 q) := cell_of_row _ _ _ _ _ _ hr1
        have c2 : w1.cell? ⟨w.heap.size, 2, none⟩ = some (.bool g) := cell_of_row _ _ _ _ _ _ hr1
        have c3 : w1.cell? ⟨w.heap.size, 3, none⟩ = some (.string v) := cell_of_row _ _ _ _ _ _ hr1
        have c4 : w1.cell? ⟨w.heap.size, 4, none⟩ = some (.int .i64 t) := cell_of_row _ _ _ _ _ _ hr1
        have HKEEP : Hid (∀ w2, Below w1.heap.size w1 w2 → w2.cell? ⟨w.heap.size, 0, none⟩ = some (.string k) ∧ w2.cell? ⟨w.heap.size, 1, none⟩ = some (.int .i64 q) ∧ w2.cell? ⟨w.heap.size, 2, none⟩ = some (.bool g) ∧ w2.cell? ⟨w.heap.size, 3, none⟩ = some (.string v) ∧ w2.cell? ⟨w.heap.size, 4, none⟩ = some (.int .i64 t) ∧
          w2.cell? ⟨bb, off + m * 5, none⟩ = some (.string k2) ∧ w2.cell? ⟨bb, off + m * 5 + 1, none⟩ = some (.int .i64 q2) ∧ w2.cell? ⟨bb, off + m * 5 + 2, none⟩ = some (.bool g2) ∧ w2.cell? ⟨bb, off + m * 5 + 3, none⟩ = some (.string v2) ∧ w2.cell? ⟨bb, off + m * 5 + 4, none⟩ = some (.int .i64 t2)) := Lib.hid (fun w2 h => by
          have hx := (Array.getElem?_eq_some_iff.1 hr1).1
          have hm := fun (p : Addr) (hp : p.block < w1.heap.size) => h.cell (p := p) hp
          exact ⟨(hm ⟨_, 0, none⟩ hx).trans c0, (hm ⟨_, 1, none⟩ hx).trans c1, (hm ⟨_, 2, none⟩ hx).trans c2, (hm ⟨_, 3, none⟩ hx).trans c3, (hm ⟨_, 4, none⟩ hx).trans c4,
            (hm ⟨_, _, none⟩ hbl).trans z0, (hm ⟨_, _, none⟩ hbl).trans z1, (hm ⟨_, _, none⟩ hbl).trans z2, (hm ⟨_, _, none⟩ hbl).trans z3, (hm ⟨_, _, none⟩ hbl).trans z4⟩)
        have hdn : decide (0 < n) = true := decide_eq_true (by omega)
        have hd : decide ((0 : Int) < (n : Int)) = true := decide_eq_true (by omega)
        have hwr : IntKind.i64.wrap ((n : Int) - 1) = (m : Int) := by rw [IntWalk.i64_in _ ⟨by omega, by omega⟩]; omega
        have g0 : (0 : Int) ≤ (m : Int) := by omega
        have g1 : (m : Int) < (n : Int) := by omega
        clear hr1 hb1 hbl hc hp hLP HL HG HN HIN HROW HK0 hnm hml hb
        go_wp2_with fail
        go_region_held3 (fun s => s.cell? ⟨w.heap.size, 0, none⟩ = some (.string k) ∧ s.cell? ⟨w.heap.size, 1, none⟩ = some (.int .i64 q) ∧ s.cell? ⟨w.heap.size, 2, none⟩ = some (.bool g) ∧ s.cell? ⟨w.heap.size, 3, none⟩ = some (.string v) ∧ s.cell? ⟨w.heap.size, 4, none⟩ = some (.int .i64 t) ∧
            s.cell? ⟨bb, off + m * 5, none⟩ = some (.string k2) ∧ s.cell? ⟨bb, off + m * 5 + 1, none⟩ = some (.int .i64 q2) ∧ s.cell? ⟨bb, off + m * 5 + 2, none⟩ = some (.bool g2) ∧ s.cell? ⟨bb, off + m * 5 + 3, none⟩ = some (.string v2) ∧ s.cell? ⟨bb, off + m * 5 + 4, none⟩ = some (.int .i64 t2))
          (first | exact HS2.out | go_keep | fail)
          (first
            | (go_at_call 56; refine (HLP.out _).mono ?_; rintro r w2 ⟨rfl, hb2⟩
               have HS2 : Hid (w2.cell? ⟨w.heap.size, 0, none⟩ = some (.string k) ∧ w2.cell? ⟨w.heap.size, 1, none⟩ = some (.int .i64 q) ∧ w2.cell? ⟨w.heap.size, 2, none⟩ = some (.bool g) ∧ w2.cell? ⟨w.heap.size, 3, none⟩ = some (.string v) ∧ w2.cell? ⟨w.heap.size, 4, none⟩ = some (.int .i64 t) ∧
                 w2.cell? ⟨bb, off + m * 5, none⟩ = some (.string k2) ∧ w2.cell? ⟨bb, off + m * 5 + 1, none⟩ = some (.int .i64 q2) ∧ w2.cell? ⟨bb, off + m * 5 + 2, none⟩ = some (.bool g2) ∧ w2.cell? ⟨bb, off + m * 5 + 3, none⟩ = some (.string v2) ∧ w2.cell? ⟨bb, off + m * 5 + 4, none⟩ = some (.int .i64 t2)) := Lib.hid (HKEEP.out _ (Below.trans (Below.drew (Below.refl _ w1)) (hb2.mono (by first | exact Nat.le_refl _ | simp | fail))))
               have HBW2 : Hid (Below w.heap.size w w2) := Lib.hid (Below.trans (Below.drew HBW.out) (hb2.mono (by have := HBW.out.size; simp; omega)))
               clear hb2)
            | fail)
        all_goals
          clear HS2
          cases LP <;> (go_wp2; go_ret; exact ⟨by rw [HR.out]; rfl, HBW2.out⟩)
  · have HR : Hid (R = G) := Lib.hid (HB0.out h0)
    have hbe : (G == 0) = false := by simpa using h0
    have hbn : (G != 0) = true := by simpa using h0
    go_enter Tryz.func87, Tryz.ntmps87
    go_wp2_with fail
    refine (HG.out _).mono ?_
    rintro r w1 ⟨rfl, hb1⟩
    have HBW : Hid (Below w.heap.size w w1) := Lib.hid (HK0.out.trans (hb1.mono (by simp)))
    clear hb1
    go_wp2
    go_ret
    exact ⟨by rw [HR.out]; rfl, HBW.out⟩
end Go.Proofs.YtjkofciohehgfaaGreatDoor.L11


/- The first entry that isn't in order: Ordered, of both sides. -/
namespace Go.Proofs.YtjkofciohehgfaaGreatDoor.L11
open Go.RowKit
open SK

theorem add_zero' (a : Addr) : a.add 0 = a := by
  obtain ⟨b, o, x⟩ := a
  simp [Addr.add]

/-- 'l[:m]' of a slice of entries -/
theorem slice_ents (W : World) (A : Option Addr) (n cap m : Nat) (h : m ≤ cap) : (Instr.slice 33 (.slice A n cap) none (some (.int .i64 (m : Int))) none).run Tryz.prog W = .ok (.slice A m cap) W := by
  have hs : ∀ w, (sizeOf (Tryz.prog.elem 33)).run Tryz.prog w = .ok 5 w := fun w => by kernel_rfl
  rw [run_slice_h W 33 A n cap (by kernel_rfl) .i64 (m : Int) (by omega) (by omega), hs]
  simp only [Result.andThen, sliced, Int.toNat_natCast, Nat.sub_zero, Nat.zero_mul, add_zero', Option.map_id']
  split <;> rfl
set_option maxRecDepth 100000 in
set_option maxHeartbeats 1000000 in
theorem bord_any (A : Option Addr) (n cap : Nat) (l : List E) (w : World) (hn : l.length = n) (hcap : n ≤ cap) (hin : EntsIn w A l) (hb : n ≤ 140737488351232) :
    Calls Tryz.prog 44 #[.slice A n cap] w fun r w' => r = .returned (.tuple #[.int .i64 (BK.ord l).1, .int .i64 (BK.ord l).2]) ∧ Below w.heap.size w w' := by
  have HF : Hid (∀ j c W, (h : j < l.length) → EntsIn W A l → Calls Tryz.prog 87 #[.slice A j c, (l[j]).val] W fun r w' => r = .returned (.int .i64 (BK.nb (l.take j) l[j])) ∧ Below W.heap.size W w') := Lib.hid (fun j c W h hE => fits_any A j c (l.take j) l[j] W (by rw [List.length_take]; omega) (hE.take j) (hE.wf _ (List.getElem_mem h)) (by omega))
  have HSL : Hid (∀ W m, m ≤ n → (Instr.slice 33 (.slice A n cap) none (some (.int .i64 (m : Int))) none).run Tryz.prog W = .ok (.slice A m cap) W) := Lib.hid (fun W m h => slice_ents W A n cap m (by omega))
  have HS : Hid (∀ j (h : j < l.length), BK.ord l = BK.ordF (l.take j) (l.drop j) → BK.nb (l.take j) l[j] = 0 → BK.ord l = BK.ordF (l.take (j + 1)) (l.drop (j + 1))) := Lib.hid (fun j h => BK.ord_step h)
  have HBD : Hid (∀ j (h : j < l.length), BK.ord l = BK.ordF (l.take j) (l.drop j) → BK.nb (l.take j) l[j] ≠ 0 → BK.ord l = ((j : Int), BK.nb (l.take j) l[j])) := Lib.hid (fun j h => BK.ord_bad h)
  have HE : Hid (BK.ord l = BK.ordF (l.take l.length) (l.drop l.length) → BK.ord l = (0, 0)) := Lib.hid BK.ord_end
  have hst : BK.ord l = BK.ordF (l.take 0) (l.drop 0) := by simp [BK.ord]
  obtain ⟨R, hR⟩ : ∃ R, BK.ord l = R := ⟨_, rfl⟩
  rw [hR] at HS HBD HE hst ⊢
  have HIN := Lib.hid hin
  have HN := Lib.hid hn
  have HST := Lib.hid hst
  have HLE := Lib.hid hb
  clear hin hn hR hst hcap hb
  go_enter Tryz.func44, Tryz.ntmps44
  go_wp2
  go_loopw [9] (fun i wr => ∃ j : Nat, j ≤ n ∧ i = .int .i64 j ∧ R = BK.ordF (l.take j) (l.drop j) ∧ Below w.heap.size w wr) (fun i _ => n - (intOf i).toNat)
  case atStart => exact ⟨0, by omega, rfl, HST.out, Below.refl _ _⟩
  case round =>
    obtain ⟨j, hj, rfl, hup, hbel⟩ := hrel
    by_cases hlt : j < n
    · have hjl : j < l.length := by rw [HN.out]; omega
      have hsl := fun W => HSL.out W j (by omega)
      obtain ⟨b, off, hA, hbl, hc⟩ := (HIN.out.below hbel).at_ (by omega)
      obtain ⟨z0, z1, z2, z3, z4⟩ := hc j hjl
      have HFT := Lib.hid (fun c W hE => HF.out j c W hjl hE)
      have HS1 := Lib.hid (HS.out j hjl hup)
      have HB1 := Lib.hid (HBD.out j hjl hup)
      have HINR : Hid (∀ W, Below wr.heap.size wr W → EntsIn W A l) := Lib.hid (fun W h => (HIN.out.below hbel).below h)
      obtain ⟨e, he⟩ : ∃ e, l[j] = e := ⟨_, rfl⟩
      rw [he] at z0 z1 z2 z3 z4
      simp only [he] at HFT HS1 HB1
      obtain ⟨c1, hc1⟩ : ∃ c1, BK.nb (l.take j) e = c1 := ⟨_, rfl⟩
      simp only [hc1] at HFT HS1 HB1
      have HBEL := Lib.hid hbel
      subst hA
      obtain ⟨k, q, g, v, t⟩ := e
      simp only [E.val] at z0 z1 z2 z3 z4 HFT
      have g0 : (0 : Int) ≤ (j : Int) := by omega
      have g1 : (j : Int) < (n : Int) := by omega
      have hjw : n ≤ 140737488351232 := HLE.out

      have hrow : (wr.alloc (.cells #[.string k, .int .i64 q, .bool g, .string v, .int .i64 t] 45)).heap[wr.heap.size]? = some (.cells #[.string k, .int .i64 q, .bool g, .string v, .int .i64 t] 45 (0, 0)) := heap_alloc_new wr _
      have hal : Below wr.heap.size wr (wr.alloc (.cells #[.string k, .int .i64 q, .bool g, .string v, .int .i64 t] 45)) := (Below.refl _ _).alloc (Nat.le_refl _) _
      clear hbel hbl hc he hc1 hup
      go_wp2_with fail
      generalize wr.alloc (.cells #[.string k, .int .i64 q, .bool g, .string v, .int .i64 t] 45) = w3 at hrow hal ⊢
      obtain ⟨x, hx⟩ : ∃ x, wr.heap.size = x := ⟨_, rfl⟩
      have HX := Lib.hid hx
      rw [hx] at hrow hal ⊢
      have HAL := Lib.hid hal
      have HROW := Lib.hid hrow
      clear hx hal z0 z1 z2 z3 z4
      obtain ⟨d0, d1, d2, d3, d4⟩ : w3.cell? ⟨x, 0, none⟩ = some (.string k) ∧ w3.cell? ⟨x, 1, none⟩ = some (.int .i64 q) ∧ w3.cell? ⟨x, 2, none⟩ = some (.bool g) ∧ w3.cell? ⟨x, 3, none⟩ = some (.string v) ∧ w3.cell? ⟨x, 4, none⟩ = some (.int .i64 t) := ⟨cell_of_row _ _ _ _ _ _ hrow, cell_of_row _ _ _ _ _ _ hrow, cell_of_row _ _ _ _ _ _ hrow, cell_of_row _ _ _ _ _ _ hrow, cell_of_row _ _ _ _ _ _ hrow⟩
      clear hrow
      go_region_held3 (fun s => s.cell? ⟨x, 0, none⟩ = some (.string k) ∧ s.cell? ⟨x, 1, none⟩ = some (.int .i64 q) ∧ s.cell? ⟨x, 2, none⟩ = some (.bool g) ∧ s.cell? ⟨x, 3, none⟩ = some (.string v) ∧ s.cell? ⟨x, 4, none⟩ = some (.int .i64 t))
        (first | exact HS2.out | go_keep | fail)
        (first
          | (go_at_call 87; refine (HFT.out _ _ (HINR.out _ (by rw [HX.out]; exact Below.drew HAL.out))).mono ?_; rintro r w4 ⟨rfl, hb4⟩
             have hr4 := (hb4.block x (Array.getElem?_eq_some_iff.1 HROW.out).1).trans HROW.out
             have HS2 : Hid (w4.cell? ⟨x, 0, none⟩ = some (.string k) ∧ w4.cell? ⟨x, 1, none⟩ = some (.int .i64 q) ∧ w4.cell? ⟨x, 2, none⟩ = some (.bool g) ∧ w4.cell? ⟨x, 3, none⟩ = some (.string v) ∧ w4.cell? ⟨x, 4, none⟩ = some (.int .i64 t)) := Lib.hid ⟨cell_of_row _ _ _ _ _ _ hr4, cell_of_row _ _ _ _ _ _ hr4, cell_of_row _ _ _ _ _ _ hr4, cell_of_row _ _ _ _ _ _ hr4, cell_of_row _ _ _ _ _ _ hr4⟩
             have HB4 : Hid (Below w.heap.size w w4) := Lib.hid (HBEL.out.trans ((Below.trans (Below.drew HAL.out) (hb4.mono (by have := HAL.out.size; have := (Array.getElem?_eq_some_iff.1 HROW.out).1; simp; omega))).mono (by rw [← HX.out]; exact HBEL.out.size)))
             clear hb4 hr4)
          | fail)

      all_goals
        clear HS2
        by_cases h0 : c1 = 0
        · subst h0
          have HS2 := Lib.hid (HS1.out rfl)
          go_wp2
          go_roundw
          case rel => exact ⟨j + 1, by omega, by go_num, HS2.out, HB4.out⟩
          case measure => simp [intOf]; omega
        · have hbe : (c1 == 0) = false := by simpa using h0
          have hbn : (c1 != 0) = true := by simpa using h0
          have HRR := Lib.hid (HB1.out h0)
          clear HS1 HB1
          go_wp2
          rw [HRR.out]
          go_ret2
          exact ⟨rfl, HB4.out⟩
    · have hjn : j = n := by omega
      have HRR : Hid (R = (0, 0)) := Lib.hid (HE.out (by rw [HN.out, ← hjn]; exact hup))
      have HBEL := Lib.hid hbel
      subst hjn
      clear hup hbel
      go_wp2
      rw [HRR.out]
      go_ret2
      exact ⟨rfl, HBEL.out⟩

end Go.Proofs.YtjkofciohehgfaaGreatDoor.L11


/- What keys share: alike; an entry's bytes. -/
namespace Go.Proofs.YtjkofciohehgfaaGreatDoor.L11
open Go.RowKit
open SK

set_option maxRecDepth 100000 in
theorem alike_any (a b : ByteArray) (w : World) (ha : a.size ≤ 140737488355328) (_ : b.size ≤ 140737488355328) :
    Calls Tryz.prog 115 #[.string a, .string b] w fun r w' => r = .returned (.int .i64 (BK.alike a.data.toList b.data.toList)) ∧ Below w.heap.size w w' := by
  have HST : Hid (∀ i (h1 : i < a.size) (h2 : i < b.size), a.data.toList.take i = b.data.toList.take i → a[i] ≠ b[i] → BK.alike a.data.toList b.data.toList = i) := Lib.hid (fun i h1 h2 h hne => BK.alike_stop h (by rw [size_list]; exact h1) (by rw [size_list]; exact h2) hne)
  have HNX : Hid (∀ i (h1 : i < a.size) (h2 : i < b.size), a.data.toList.take i = b.data.toList.take i → a[i] = b[i] → a.data.toList.take (i + 1) = b.data.toList.take (i + 1)) := Lib.hid (fun i h1 h2 h he => BK.alike_next h (by rw [size_list]; exact h1) (by rw [size_list]; exact h2) he)
  have HEN : Hid (∀ i, i ≤ a.size → i ≤ b.size → (i = a.size ∨ i = b.size) → a.data.toList.take i = b.data.toList.take i → BK.alike a.data.toList b.data.toList = i) := Lib.hid (fun i h1 h2 hm h => BK.alike_end h (by rw [size_list]; exact h1) (by rw [size_list]; exact h2) (by rw [size_list, size_list]; exact hm))
  obtain ⟨R, hR⟩ : ∃ R, BK.alike a.data.toList b.data.toList = R := ⟨_, rfl⟩
  rw [hR] at HST HEN ⊢
  obtain ⟨m, hm⟩ : ∃ m, min a.size b.size = m := ⟨_, rfl⟩
  have hmm : min (a.size : Int) (b.size : Int) = (m : Int) := by omega
  have hma : m ≤ a.size := by omega
  have hmb : m ≤ b.size := by omega
  have HME : Hid (m = a.size ∨ m = b.size) := Lib.hid (by omega)
  clear hR hm
  go_enter Tryz.func115, Tryz.ntmps115
  go_wp2
  go_loopw [13] (fun i wr => ∃ j : Nat, j ≤ m ∧ i = .int .i64 j ∧ a.data.toList.take j = b.data.toList.take j ∧ Below w.heap.size w wr) (fun i _ => m - (intOf i).toNat)
  case atStart => exact ⟨0, by omega, rfl, by simp, Below.refl _ _⟩
  case round =>
    obtain ⟨j, hj, rfl, hup, hbel⟩ := hrel
    have HUP := Lib.hid hup
    have HBEL := Lib.hid hbel
    clear hup hbel
    by_cases hlt : j < m
    · have ja : j < a.size := by omega
      have jb : j < b.size := by omega
      have g0 : (0 : Int) ≤ (j : Int) := by omega
      have g1 : (j : Int) < (a.size : Int) := by omega
      have g2 : (j : Int) < (b.size : Int) := by omega
      by_cases he : a[j] = b[j]
      · have heq : ((a[j].toNat : Int) == (b[j].toNat : Int)) = true := by rw [he]; exact beq_self_eq_true _
        have HN := Lib.hid (HNX.out j ja jb HUP.out he)
        clear he
        go_wp2_with fail
        go_quiet (fail)
        go_wp2
        go_roundw
        case rel => exact ⟨j + 1, by omega, by go_num, HN.out, below_drewN HBEL.out _⟩
        case measure => simp [intOf]; omega
      · have heq : ((a[j].toNat : Int) == (b[j].toNat : Int)) = false := beq_eq_false_iff_ne.2 (fun h => he (UInt8.toNat_inj.1 (by omega)))
        have HR : Hid (R = j) := Lib.hid (HST.out j ja jb HUP.out he)
        clear he
        go_wp2_with fail
        go_quiet (fail)
        go_wp2
        go_ret
        exact ⟨by rw [HR.out]; rfl, below_drewN HBEL.out _⟩
    · have hjm : j = m := by omega
      have HR : Hid (R = j) := Lib.hid (HEN.out j (by omega) (by omega) (by rw [hjm]; exact HME.out) HUP.out)
      subst hjm
      go_wp2
      go_ret
      exact ⟨by rw [HR.out]; rfl, HBEL.out⟩

theorem str_tail (W : World) (s : ByteArray) (a : Nat) (h : a ≤ s.size) :
    (Instr.slice 9 (.string s) (some (.int .i64 (a : Int))) none none).run Tryz.prog W = .ok (.string (s.extract a s.size)) W := by
  have i1 : (0 : Int) ≤ (a : Int) := by omega
  have i4 : (a : Int) ≤ (s.size : Int) := by omega
  simp [Instr.slice, run_underlying Tryz.underlying9, Instr.sliceBounds, run_sliceBound, i1, i4]

theorem mk_size (l : List UInt8) : (⟨l.toArray⟩ : ByteArray).size = l.length := by show l.toArray.size = _; rw [List.size_toArray]

set_option maxRecDepth 100000 in
set_option maxHeartbeats 1000000 in
/-- an entry's bytes -/
theorem bytesOf_any (a : E) (n : Nat) (w : World) (hw : a.wf) (hg : good a = 0) (ht : a.til ≠ 9223372036854775807) (hn : n ≤ a.key.size) :
    Calls Tryz.prog 116 #[a.val, .int .i64 n] w fun e w' => e = .returned (.string ⟨(BK.entB a n).toArray⟩) ∧ Below w.heap.size w w' := by
  obtain ⟨h1, h2, h3, h4, h5⟩ := good_zero hg
  have hti := hw.til
  have hsq := hw.seq
  have hks := BK.tail_size a.key n
  have lk := BK.textB_len (a.key.extract n a.key.size) (by omega)
  have lv := BK.textB_len a.value (by omega)
  have hsl := fun W => str_tail W a.key n hn
  have HP := Lib.hid (fun W => put_any (n : Int) W (by omega) (by omega))
  have HQ := Lib.hid (fun W => put_any a.seq W (by omega) (by omega))
  have HK := Lib.hid (fun W => putText_any (a.key.extract n a.key.size) W (by omega))
  have HV := Lib.hid (fun W => putText_any a.value W (by omega))
  simp only [BK.textEnc_eq] at HK HV
  have lp := (VM.enc_len (n := (n : Int)) (by omega) (by omega)).2
  have lq := (VM.enc_len (n := a.seq) (by omega) (by omega)).2
  obtain ⟨TK, hTK⟩ : ∃ TK : ByteArray, TK = ⟨(BK.textB (a.key.extract n a.key.size)).toArray⟩ := ⟨_, rfl⟩
  obtain ⟨TV, hTV⟩ : ∃ TV : ByteArray, TV = ⟨(BK.textB a.value).toArray⟩ := ⟨_, rfl⟩
  obtain ⟨TP, hTP⟩ : ∃ TP : ByteArray, TP = ⟨(VM.enc (n : Int)).toArray⟩ := ⟨_, rfl⟩
  obtain ⟨TQ, hTQ⟩ : ∃ TQ : ByteArray, TQ = ⟨(VM.enc a.seq).toArray⟩ := ⟨_, rfl⟩
  have sk : TK.size ≤ 74 := by rw [hTK, mk_size]; omega
  have sv : TV.size ≤ 522 := by rw [hTV, mk_size]; omega
  have sp : TP.size ≤ 10 := by rw [hTP, mk_size]; omega
  have sq : TQ.size ≤ 10 := by rw [hTQ, mk_size]; omega
  rw [← hTK] at HK
  rw [← hTV] at HV
  rw [← hTP] at HP
  rw [← hTQ] at HQ
  obtain ⟨KT, hKT⟩ : ∃ KT, a.key.extract n a.key.size = KT := ⟨_, rfl⟩
  rw [hKT] at HK
  simp only [hKT] at hsl
  have k1 : ¬ 9223372036854775807 < TP.size + TK.size := by omega
  have k2 : ¬ 9223372036854775807 < TP.size + TK.size + TQ.size := by omega
  have hnn : (0 : Int) ≤ (n : Int) := by omega
  by_cases hgo : a.gone = true
  · have hgf := hgo
    have HN := Lib.hid (fun W => put_any 0 W (by omega) (by omega))
    have hn0 := (VM.enc_len (n := 0) (by omega) (by omega)).2
    obtain ⟨N, hN⟩ : ∃ N : ByteArray, N = ⟨(VM.enc 0).toArray⟩ := ⟨_, rfl⟩
    have HE : Hid ((TP ++ TK ++ TQ ++ N : ByteArray) = ⟨(BK.entB a n).toArray⟩) := Lib.hid (by
      apply ByteArray.ext
      apply Array.toList_inj.1
      rw [hTK, hTP, hTQ, hN]
      simp [BK.entB, hgo])
    have sn : N.size ≤ 10 := by rw [hN, mk_size]; omega
    have k3 : ¬ 9223372036854775807 < TP.size + TK.size + TQ.size + N.size := by omega
    rw [← hN] at HN
    clear hgo
    obtain ⟨R, hR⟩ : ∃ R : ByteArray, ⟨(BK.entB a n).toArray⟩ = R := ⟨_, rfl⟩
    rw [hR] at HE ⊢
    have htl : a.til + 1 ≤ 9223372036854775807 := by omega
    clear hR hN hTK hTV hTP hTQ lk lv lp lq hw hg ht h1 h2 h3 h4 hsq hn0 hks hKT hn
    obtain ⟨k, q, g, v, t⟩ := a
    simp only [E.val] at HK HV HN HE HQ hgf htl h5 hti hsl ⊢
    subst hgf
    have hrow : (w.alloc (.cells #[.string k, .int .i64 q, .bool true, .string v, .int .i64 t] 45)).heap[w.heap.size]? = some (.cells #[.string k, .int .i64 q, .bool true, .string v, .int .i64 t] 45 (0, 0)) := heap_alloc_new w _
    have hk0 : Below w.heap.size w (w.alloc (.cells #[.string k, .int .i64 q, .bool true, .string v, .int .i64 t] 45)) := (Below.refl _ w).alloc (Nat.le_refl _) _
    go_enter Tryz.func116, Tryz.ntmps116
    go_wp2_with fail
    generalize w.alloc (.cells #[.string k, .int .i64 q, .bool true, .string v, .int .i64 t] 45) = w0 at hrow hk0 ⊢
    obtain ⟨x, hx⟩ : ∃ x, w.heap.size = x := ⟨_, rfl⟩
    rw [hx] at hrow hk0 ⊢
    have hlt := (Array.getElem?_eq_some_iff.1 hrow).1
    have HX := Lib.hid hx
    have HR0 := Lib.hid hrow
    have HK0 := Lib.hid hk0
    have HZ0 : Hid (x < w0.heap.size) := Lib.hid hlt
    obtain ⟨e0, e1, e3, e4⟩ : w0.cell? ⟨x, 0, none⟩ = some (.string k) ∧ w0.cell? ⟨x, 1, none⟩ = some (.int .i64 q) ∧ w0.cell? ⟨x, 3, none⟩ = some (.string v) ∧ w0.cell? ⟨x, 4, none⟩ = some (.int .i64 t) := ⟨cell_of_row _ _ _ _ _ _ HR0.out, cell_of_row _ _ _ _ _ _ HR0.out, cell_of_row _ _ _ _ _ _ HR0.out, cell_of_row _ _ _ _ _ _ HR0.out⟩
    clear hrow hk0 hlt hx
    go_region_held3 (fun w' => w'.cell? ⟨x, 0, none⟩ = some (.string k) ∧ w'.cell? ⟨x, 1, none⟩ = some (.int .i64 q) ∧ w'.cell? ⟨x, 3, none⟩ = some (.string v) ∧ w'.cell? ⟨x, 4, none⟩ = some (.int .i64 t))
      (first | exact HS3.out | exact HS2.out | exact HS1.out | go_keep | fail)
      (first
        | (have hk2 := HK2.out; go_at_call 28; refine (HQ.out _).mono ?_; rintro r w3 ⟨rfl, hb⟩
           have HR3 := Lib.hid ((hb.block x (by have := HZ2.out; simp; omega)).trans HR2.out)
           have HZ3 : Hid (x < w3.heap.size) := Lib.hid (Array.getElem?_eq_some_iff.1 HR3.out).1
           have HS3 : Hid (w3.cell? ⟨x, 0, none⟩ = some (.string k) ∧ w3.cell? ⟨x, 1, none⟩ = some (.int .i64 q) ∧ w3.cell? ⟨x, 3, none⟩ = some (.string v) ∧ w3.cell? ⟨x, 4, none⟩ = some (.int .i64 t)) := Lib.hid ⟨cell_of_row _ _ _ _ _ _ HR3.out, cell_of_row _ _ _ _ _ _ HR3.out, cell_of_row _ _ _ _ _ _ HR3.out, cell_of_row _ _ _ _ _ _ HR3.out⟩
           have HK3 : Hid (Below x w w3) := Lib.hid (Below.trans HK2.out (hb.mono (by have := HZ2.out; simp; omega)))
           clear hb hk2)
        | (go_at_call 74; refine (HK.out _).mono ?_; rintro r w2 ⟨rfl, hb⟩
           have HR2 := Lib.hid ((hb.block x (by have := HZ1.out; simp; omega)).trans HR1.out)
           have HZ2 : Hid (x < w2.heap.size) := Lib.hid (Array.getElem?_eq_some_iff.1 HR2.out).1
           have HS2 : Hid (w2.cell? ⟨x, 0, none⟩ = some (.string k) ∧ w2.cell? ⟨x, 1, none⟩ = some (.int .i64 q) ∧ w2.cell? ⟨x, 3, none⟩ = some (.string v) ∧ w2.cell? ⟨x, 4, none⟩ = some (.int .i64 t)) := Lib.hid ⟨cell_of_row _ _ _ _ _ _ HR2.out, cell_of_row _ _ _ _ _ _ HR2.out, cell_of_row _ _ _ _ _ _ HR2.out, cell_of_row _ _ _ _ _ _ HR2.out⟩
           have HK2 : Hid (Below x w w2) := Lib.hid (Below.trans HK1.out (hb.mono (by have := HZ1.out; simp; omega)))
           clear hb)
        | (go_at_call 28; refine (HP.out _).mono ?_; rintro r w1 ⟨rfl, hb⟩
           have HR1 := Lib.hid ((hb.block x (by have := HZ0.out; simp; omega)).trans HR0.out)
           have HZ1 : Hid (x < w1.heap.size) := Lib.hid (Array.getElem?_eq_some_iff.1 HR1.out).1
           have HS1 : Hid (w1.cell? ⟨x, 0, none⟩ = some (.string k) ∧ w1.cell? ⟨x, 1, none⟩ = some (.int .i64 q) ∧ w1.cell? ⟨x, 3, none⟩ = some (.string v) ∧ w1.cell? ⟨x, 4, none⟩ = some (.int .i64 t)) := Lib.hid ⟨cell_of_row _ _ _ _ _ _ HR1.out, cell_of_row _ _ _ _ _ _ HR1.out, cell_of_row _ _ _ _ _ _ HR1.out, cell_of_row _ _ _ _ _ _ HR1.out⟩
           have HK1 : Hid (Below x w w1) := Lib.hid (Below.trans (Below.drew HK0.out) (hb.mono (by have := HZ0.out; simp; omega)))
           clear hb)
        | fail)
    all_goals
      clear HS1 HS2 HS3
      have c2 : w3.cell? ⟨x, 2, none⟩ = some (.bool true) := cell_of_row _ _ _ _ _ _ HR3.out
      go_wp2_with fail
      refine (HN.out _).mono ?_
      rintro r w4 ⟨rfl, hb⟩
      have HK4 : Hid (Below x w w4) := Lib.hid (HK3.out.trans (hb.mono (by have := HZ3.out; omega)))
      clear hb
      go_wp2
      go_ret
      exact ⟨by rw [HE.out]; rfl, by rw [HX.out]; exact HK4.out⟩
  · have hgf : a.gone = false := by simpa using hgo
    have HN := Lib.hid (fun W => put_any (a.til + 1) W (by omega) (by omega))
    have hn0 := (VM.enc_len (n := a.til + 1) (by omega) (by omega)).2
    obtain ⟨N, hN⟩ : ∃ N : ByteArray, N = ⟨(VM.enc (a.til + 1)).toArray⟩ := ⟨_, rfl⟩
    have HE : Hid ((TP ++ TK ++ TQ ++ N ++ TV : ByteArray) = ⟨(BK.entB a n).toArray⟩) := Lib.hid (by
      apply ByteArray.ext
      apply Array.toList_inj.1
      rw [hTK, hTP, hTQ, hN, hTV]
      simp [BK.entB, hgf])
    have sn : N.size ≤ 10 := by rw [hN, mk_size]; omega
    have k3 : ¬ 9223372036854775807 < TP.size + TK.size + TQ.size + N.size := by omega
    have k4 : ¬ 9223372036854775807 < TP.size + TK.size + TQ.size + N.size + TV.size := by omega
    rw [← hN] at HN
    clear hgo
    obtain ⟨R, hR⟩ : ∃ R : ByteArray, ⟨(BK.entB a n).toArray⟩ = R := ⟨_, rfl⟩
    rw [hR] at HE ⊢
    have htl : a.til + 1 ≤ 9223372036854775807 := by omega
    clear hR hN hTK hTV hTP hTQ lk lv lp lq hw hg ht h1 h2 h3 h4 hsq hn0 hks hKT hn
    obtain ⟨k, q, g, v, t⟩ := a
    simp only [E.val] at HK HV HN HE HQ hgf htl h5 hti hsl ⊢
    subst hgf
    have hrow : (w.alloc (.cells #[.string k, .int .i64 q, .bool false, .string v, .int .i64 t] 45)).heap[w.heap.size]? = some (.cells #[.string k, .int .i64 q, .bool false, .string v, .int .i64 t] 45 (0, 0)) := heap_alloc_new w _
    have hk0 : Below w.heap.size w (w.alloc (.cells #[.string k, .int .i64 q, .bool false, .string v, .int .i64 t] 45)) := (Below.refl _ w).alloc (Nat.le_refl _) _
    have hwr : IntKind.i64.wrap (t + 1) = t + 1 := IntWalk.i64_in _ ⟨by omega, by omega⟩
    go_enter Tryz.func116, Tryz.ntmps116
    go_wp2_with fail
    generalize w.alloc (.cells #[.string k, .int .i64 q, .bool false, .string v, .int .i64 t] 45) = w0 at hrow hk0 ⊢
    obtain ⟨x, hx⟩ : ∃ x, w.heap.size = x := ⟨_, rfl⟩
    rw [hx] at hrow hk0 ⊢
    have hlt := (Array.getElem?_eq_some_iff.1 hrow).1
    have HX := Lib.hid hx
    have HR0 := Lib.hid hrow
    have HK0 := Lib.hid hk0
    have HZ0 : Hid (x < w0.heap.size) := Lib.hid hlt
    obtain ⟨e0, e1, e3, e4⟩ : w0.cell? ⟨x, 0, none⟩ = some (.string k) ∧ w0.cell? ⟨x, 1, none⟩ = some (.int .i64 q) ∧ w0.cell? ⟨x, 3, none⟩ = some (.string v) ∧ w0.cell? ⟨x, 4, none⟩ = some (.int .i64 t) := ⟨cell_of_row _ _ _ _ _ _ HR0.out, cell_of_row _ _ _ _ _ _ HR0.out, cell_of_row _ _ _ _ _ _ HR0.out, cell_of_row _ _ _ _ _ _ HR0.out⟩
    clear hrow hk0 hlt hx
    go_region_held3 (fun w' => w'.cell? ⟨x, 0, none⟩ = some (.string k) ∧ w'.cell? ⟨x, 1, none⟩ = some (.int .i64 q) ∧ w'.cell? ⟨x, 3, none⟩ = some (.string v) ∧ w'.cell? ⟨x, 4, none⟩ = some (.int .i64 t))
      (first | exact HS3.out | exact HS2.out | exact HS1.out | go_keep | fail)
      (first
        | (have hk2 := HK2.out; go_at_call 28; refine (HQ.out _).mono ?_; rintro r w3 ⟨rfl, hb⟩
           have HR3 := Lib.hid ((hb.block x (by have := HZ2.out; simp; omega)).trans HR2.out)
           have HZ3 : Hid (x < w3.heap.size) := Lib.hid (Array.getElem?_eq_some_iff.1 HR3.out).1
           have HS3 : Hid (w3.cell? ⟨x, 0, none⟩ = some (.string k) ∧ w3.cell? ⟨x, 1, none⟩ = some (.int .i64 q) ∧ w3.cell? ⟨x, 3, none⟩ = some (.string v) ∧ w3.cell? ⟨x, 4, none⟩ = some (.int .i64 t)) := Lib.hid ⟨cell_of_row _ _ _ _ _ _ HR3.out, cell_of_row _ _ _ _ _ _ HR3.out, cell_of_row _ _ _ _ _ _ HR3.out, cell_of_row _ _ _ _ _ _ HR3.out⟩
           have HK3 : Hid (Below x w w3) := Lib.hid (Below.trans HK2.out (hb.mono (by have := HZ2.out; simp; omega)))
           clear hb hk2)
        | (go_at_call 74; refine (HK.out _).mono ?_; rintro r w2 ⟨rfl, hb⟩
           have HR2 := Lib.hid ((hb.block x (by have := HZ1.out; simp; omega)).trans HR1.out)
           have HZ2 : Hid (x < w2.heap.size) := Lib.hid (Array.getElem?_eq_some_iff.1 HR2.out).1
           have HS2 : Hid (w2.cell? ⟨x, 0, none⟩ = some (.string k) ∧ w2.cell? ⟨x, 1, none⟩ = some (.int .i64 q) ∧ w2.cell? ⟨x, 3, none⟩ = some (.string v) ∧ w2.cell? ⟨x, 4, none⟩ = some (.int .i64 t)) := Lib.hid ⟨cell_of_row _ _ _ _ _ _ HR2.out, cell_of_row _ _ _ _ _ _ HR2.out, cell_of_row _ _ _ _ _ _ HR2.out, cell_of_row _ _ _ _ _ _ HR2.out⟩
           have HK2 : Hid (Below x w w2) := Lib.hid (Below.trans HK1.out (hb.mono (by have := HZ1.out; simp; omega)))
           clear hb)
        | (go_at_call 28; refine (HP.out _).mono ?_; rintro r w1 ⟨rfl, hb⟩
           have HR1 := Lib.hid ((hb.block x (by have := HZ0.out; simp; omega)).trans HR0.out)
           have HZ1 : Hid (x < w1.heap.size) := Lib.hid (Array.getElem?_eq_some_iff.1 HR1.out).1
           have HS1 : Hid (w1.cell? ⟨x, 0, none⟩ = some (.string k) ∧ w1.cell? ⟨x, 1, none⟩ = some (.int .i64 q) ∧ w1.cell? ⟨x, 3, none⟩ = some (.string v) ∧ w1.cell? ⟨x, 4, none⟩ = some (.int .i64 t)) := Lib.hid ⟨cell_of_row _ _ _ _ _ _ HR1.out, cell_of_row _ _ _ _ _ _ HR1.out, cell_of_row _ _ _ _ _ _ HR1.out, cell_of_row _ _ _ _ _ _ HR1.out⟩
           have HK1 : Hid (Below x w w1) := Lib.hid (Below.trans (Below.drew HK0.out) (hb.mono (by have := HZ0.out; simp; omega)))
           clear hb)
        | fail)
    all_goals
      clear HS1 HS2 HS3
      have c2 : w3.cell? ⟨x, 2, none⟩ = some (.bool false) := cell_of_row _ _ _ _ _ _ HR3.out
      obtain ⟨f0, f1, f3, f4⟩ : w3.cell? ⟨x, 0, none⟩ = some (.string k) ∧ w3.cell? ⟨x, 1, none⟩ = some (.int .i64 q) ∧ w3.cell? ⟨x, 3, none⟩ = some (.string v) ∧ w3.cell? ⟨x, 4, none⟩ = some (.int .i64 t) := ⟨cell_of_row _ _ _ _ _ _ HR3.out, cell_of_row _ _ _ _ _ _ HR3.out, cell_of_row _ _ _ _ _ _ HR3.out, cell_of_row _ _ _ _ _ _ HR3.out⟩
      clear e0 e1 e3 e4
      go_wp2_with fail
      go_region_held3 (fun w' => w'.cell? ⟨x, 0, none⟩ = some (.string k) ∧ w'.cell? ⟨x, 1, none⟩ = some (.int .i64 q) ∧ w'.cell? ⟨x, 3, none⟩ = some (.string v) ∧ w'.cell? ⟨x, 4, none⟩ = some (.int .i64 t))
        (first | exact HS5.out | exact HS4.out | go_keep | fail)
        (first
          | (go_at_call 74; refine (HV.out _).mono ?_; rintro r w5 ⟨rfl, hb⟩
             have HR5 := Lib.hid ((hb.block x (by have := HZ4.out; simp; omega)).trans HR4.out)
             have HZ5 : Hid (x < w5.heap.size) := Lib.hid (Array.getElem?_eq_some_iff.1 HR5.out).1
             have HS5 : Hid (w5.cell? ⟨x, 0, none⟩ = some (.string k) ∧ w5.cell? ⟨x, 1, none⟩ = some (.int .i64 q) ∧ w5.cell? ⟨x, 3, none⟩ = some (.string v) ∧ w5.cell? ⟨x, 4, none⟩ = some (.int .i64 t)) := Lib.hid ⟨cell_of_row _ _ _ _ _ _ HR5.out, cell_of_row _ _ _ _ _ _ HR5.out, cell_of_row _ _ _ _ _ _ HR5.out, cell_of_row _ _ _ _ _ _ HR5.out⟩
             have HK5 : Hid (Below x w w5) := Lib.hid (Below.trans HK4.out (hb.mono (by have := HZ4.out; simp; omega)))
             clear hb)
          | (go_at_call 28; refine (HN.out _).mono ?_; rintro r w4 ⟨rfl, hb⟩
             have HR4 := Lib.hid ((hb.block x (by have := HZ3.out; simp; omega)).trans HR3.out)
             have HZ4 : Hid (x < w4.heap.size) := Lib.hid (Array.getElem?_eq_some_iff.1 HR4.out).1
             have HS4 : Hid (w4.cell? ⟨x, 0, none⟩ = some (.string k) ∧ w4.cell? ⟨x, 1, none⟩ = some (.int .i64 q) ∧ w4.cell? ⟨x, 3, none⟩ = some (.string v) ∧ w4.cell? ⟨x, 4, none⟩ = some (.int .i64 t)) := Lib.hid ⟨cell_of_row _ _ _ _ _ _ HR4.out, cell_of_row _ _ _ _ _ _ HR4.out, cell_of_row _ _ _ _ _ _ HR4.out, cell_of_row _ _ _ _ _ _ HR4.out⟩
             have HK4 : Hid (Below x w w4) := Lib.hid (Below.trans (Below.drew HK3.out) (hb.mono (by have := HZ3.out; simp; omega)))
             clear hb)
          | fail)
      all_goals
        clear HS4 HS5
        go_wp2
        go_ret
        exact ⟨by rw [HE.out]; rfl, by rw [HX.out]; exact HK5.out⟩
end Go.Proofs.YtjkofciohehgfaaGreatDoor.L11


/- The walk of block.Build. Made by gen_pb.py. -/
namespace Go.Proofs.YtjkofciohehgfaaGreatDoor.L11
open Go.RowKit
open SK

theorem Bld.kept {B b : Nat} {l : List UInt8} {w w' : World} (h : Bld B b l w) (hb : Below w.heap.size w w') : Bld B b l w' := by
  have hat : ∀ p, Lib.BuilderAt 70 5 B b p (Lib.byteCells l) w → Lib.BuilderAt 70 5 B b p (Lib.byteCells l) w' := fun p ⟨h1, v, h2, h3, h4⟩ =>
    ⟨h1, v, (hb.block b (Array.getElem?_eq_some_iff.1 h2).1).trans h2, own_below h3 hb, h4⟩
  rcases h with h | h
  · exact Or.inl (hat _ h)
  · exact Or.inr (hat _ h)

namespace BK
theorem lastKey_snoc (a : List E) (p : E) : lastKey (a ++ [p]) = p.key := by simp [lastKey]
theorem lastKey_take {l : List E} {j m : Nat} (hj : j < l.length) (hm : j = m + 1) : lastKey (l.take j) = l[m].key := by
  subst hm
  rw [List.take_succ_eq_append_getElem (show m < l.length by omega), lastKey_snoc]
theorem sh_zero {l : List E} {j v : Nat} (hj : j < l.length) (h : j % v = 0) (e : E) : sh v (l.take j) e = 0 := by
  unfold sh; rw [List.length_take, Nat.min_eq_left (by omega), if_pos h]
theorem sh_some {l : List E} {j m v : Nat} (hj : j < l.length) (h : j % v ≠ 0) (hm : j = m + 1) (e : E) : sh v (l.take j) e = alike l[m].key.data.toList e.key.data.toList := by
  unfold sh; rw [List.length_take, Nat.min_eq_left (by omega), if_neg h, lastKey_take hj hm]
theorem body_len {l : List E} (h : OkF [] l) (hw : ∀ e ∈ l, e.wf) (v j : Nat) : (bodyF v [] (l.take j)).length ≤ l.length * 700 := by
  have h1 := bodyF_len v [] (l.take j) fun e he => ⟨(okF_all _ _ h e (List.mem_of_mem_take he)).1, hw e (List.mem_of_mem_take he), (okF_all _ _ h e (List.mem_of_mem_take he)).2⟩
  have h2 : (l.take j).length ≤ l.length := by rw [List.length_take]; omega
  exact Nat.le_trans h1 (Nat.mul_le_mul_right 700 h2)
end BK

set_option maxRecDepth 100000 in
set_option maxHeartbeats 4000000 in
theorem build_any (A : Option Addr) (n cap : Nat) (l : List E) (v : Int) (w : World) (hn : l.length = n) (hcap : n ≤ cap) (hin : EntsIn w A l) (hb : n ≤ 140737488351232) :
    Calls Tryz.prog 93 #[.slice A n cap, .int .i64 v] w fun e w' => e = .returned (.tuple #[.string ⟨(BK.buildOut l v).1.toArray⟩, .int .i64 (BK.buildOut l v).2]) ∧ Below w.heap.size w w' := by
  have HP : Hid (BK.buildOut l v = if v < 1 ∨ 64 < v then ([], 2) else if 4096 < l.length then ([], 5) else if (BK.ord l).2 ≠ 0 then ([], (BK.ord l).2) else (BK.buildB l v.toNat, 0)) := Lib.hid rfl
  obtain ⟨R, hR⟩ : ∃ R, BK.buildOut l v = R := ⟨_, rfl⟩
  rw [hR] at HP ⊢
  clear hR
  by_cases hv0 : v < 1
  · have HR : Hid (R = ([], 2)) := Lib.hid (by rw [HP.out, if_pos (Or.inl hv0)])
    rw [HR.out]
    clear hin hn hcap hb HP
    go_enter Tryz.func93, Tryz.ntmps93
    go_wp2
    go_ret2
    exact ⟨rfl, Below.refl _ _⟩
  by_cases hv1 : 64 < v
  · have HR : Hid (R = ([], 2)) := Lib.hid (by rw [HP.out, if_pos (Or.inr hv1)])
    rw [HR.out]
    clear hin hn hcap hb HP
    go_enter Tryz.func93, Tryz.ntmps93
    go_wp2
    go_ret2
    exact ⟨rfl, Below.refl _ _⟩
  obtain ⟨V, rfl⟩ := Int.eq_ofNat_of_zero_le (show 0 ≤ v by omega)
  by_cases hlong : 4096 < n
  · have HR : Hid (R = ([], 5)) := Lib.hid (by rw [HP.out, if_neg (by omega), if_pos (by omega)])
    have hi : (4096 : Int) < (n : Int) := by omega
    rw [HR.out]
    clear hin hn hcap hb HP
    go_enter Tryz.func93, Tryz.ntmps93
    go_wp2
    go_ret2
    exact ⟨rfl, Below.refl _ _⟩
  have hi : ¬ (4096 : Int) < (n : Int) := by omega
  have HO : Hid (Calls Tryz.prog 44 #[.slice A n cap] w fun r w' => r = .returned (.tuple #[.int .i64 (BK.ord l).1, .int .i64 (BK.ord l).2]) ∧ Below w.heap.size w w') := Lib.hid (bord_any A n cap l w hn hcap hin hb)
  have HP2 : Hid (R = if (BK.ord l).2 ≠ 0 then ([], (BK.ord l).2) else (BK.buildB l V, 0)) := Lib.hid (by rw [HP.out, if_neg (by omega), if_neg (by omega), Int.toNat_natCast])
  have HOK : Hid ((BK.ord l).2 = 0 → BK.OkF [] l) := Lib.hid (fun h => BK.okF_ord [] l h)
  obtain ⟨o1, ho1⟩ : ∃ o1, (BK.ord l).1 = o1 := ⟨_, rfl⟩
  obtain ⟨o2, ho2⟩ : ∃ o2, (BK.ord l).2 = o2 := ⟨_, rfl⟩
  rw [ho1, ho2] at HO
  rw [ho2] at HP2 HOK
  clear ho1 ho2 HP
  by_cases ho : o2 ≠ 0
  · have HR : Hid (R = ([], o2)) := Lib.hid (by rw [HP2.out, if_pos ho])
    have hbe : (o2 == 0) = false := by simpa using ho
    have hbn : (o2 != 0) = true := by simpa using ho
    rw [HR.out]
    clear hin hn hcap hb HP2 HOK
    go_enter Tryz.func93, Tryz.ntmps93
    go_wp2_with fail
    refine HO.out.mono ?_
    rintro e w1 ⟨rfl, hb1⟩
    go_wp2
    go_ret2
    exact ⟨rfl, hb1⟩
  have ho0 : o2 = 0 := by simpa using ho
  subst ho0
  have HR : Hid (R = (BK.buildB l V, 0)) := Lib.hid (by rw [HP2.out, if_neg ho])
  have hok := HOK.out rfl
  have HGOOD : Hid (∀ j (h : j < l.length), good l[j] = 0 ∧ (l[j]).til ≠ 9223372036854775807) := Lib.hid (fun j h => BK.okF_all _ _ hok _ (List.getElem_mem h))
  have hen := (VM.enc_len (n := (n : Int)) (by omega) (by omega)).2
  have HN := Lib.hid (fun W => put_any (n : Int) W (by omega) (by omega))
  have HPB : Hid (BK.buildB l V = VM.enc (n : Int) ++ BK.bodyF V [] l) := Lib.hid (by unfold BK.buildB; rw [hn])
  have HPOS : Hid (BK.buildB l V ≠ []) := Lib.hid (by have := BK.buildB_pos l V (by omega); intro h; rw [h] at this; simp at this)
  have HBL : Hid (∀ j, (BK.bodyF V [] (l.take j)).length ≤ 2867200) := Lib.hid (fun j => by have := BK.body_len hok hin.wf V j; omega)
  obtain ⟨N, hN⟩ : ∃ N, VM.enc (n : Int) = N := ⟨_, rfl⟩
  rw [hN] at hen HN HPB
  have HIN := Lib.hid hin
  have HLN := Lib.hid hn
  have HEN := Lib.hid hen
  have HLG : Hid (n ≤ 4096) := Lib.hid (by omega)
  have HVV : Hid (1 ≤ V ∧ V ≤ 64) := Lib.hid (by omega)
  clear hN hin hn hen hlong HP2 HOK hok ho hcap hb
  go_enter Tryz.func93, Tryz.ntmps93
  go_wp2_with fail
  refine HO.out.mono ?_
  rintro e w00 ⟨rfl, hb00⟩
  have hb0 := bld_new w00
  have hbel0 := hb00.trans (((Below.refl w00.heap.size w00).alloc (Nat.le_refl _) (.cells #[.pointer none, .slice none 0 0] 70)).mono hb00.size)
  have hsz0 : (w00.alloc (.cells #[.pointer none, .slice none 0 0] 70)).heap.size = w00.heap.size + 1 := by simp
  have HW0 : Hid (w.heap.size ≤ w00.heap.size) := Lib.hid hb00.size
  clear hb00 HO
  go_wp2_with fail
  generalize w00.alloc (.cells #[.pointer none, .slice none 0 0] 70) = w0 at hb0 hbel0 hsz0 ⊢
  obtain ⟨B, hB⟩ : ∃ B, w00.heap.size = B := ⟨_, rfl⟩
  rw [hB] at hb0 hsz0 HW0 ⊢
  clear hB
  refine (HN.out _).mono ?_
  rintro e w1 ⟨rfl, hb1⟩
  have hB1 := hb0.kept hb1
  have hbel1 := hbel0.trans (hb1.mono (by have := HW0.out; omega))
  have hs1 := hb1.size
  clear hb0 hbel0 hb1
  go_wp2_with fail
  refine (write_any _ _ [] N _ hB1 (by have := HEN.out; simp; omega) (by omega)).mono ?_
  rintro e w2 ⟨rfl, hB2, hb2⟩
  have hbel2 := hbel1.trans (hb2.mono HW0.out)
  have hs2 := hb2.size
  have hs2' : B < w2.heap.size := by omega
  rw [List.nil_append] at hB2
  clear hbel1 hb2 hB1 hs1 hs2 hsz0
  go_wp2_with fail
  go_loopw [37] (fun i wr => ∃ j : Nat, j ≤ n ∧ i = .int .i64 j ∧ Bld B B (N ++ BK.bodyF V [] (l.take j)) wr ∧ Below w.heap.size w wr ∧ B < wr.heap.size) (fun i _ => n - (intOf i).toNat)
  case atStart => exact ⟨0, by omega, rfl, by simpa [BK.bodyF] using hB2, hbel2, hs2'⟩
  case round =>
    obtain ⟨j, hj, rfl, hbld, hbel, hsz⟩ := hrel
    by_cases hlt : j < n
    · have hjl : j < l.length := by rw [HLN.out]; omega
      obtain ⟨b, off, hA, hbl, hc⟩ := (HIN.out.below hbel).at_ (by omega)
      obtain ⟨z0, z1, z2, z3, z4⟩ := hc j hjl
      have hwf := HIN.out.wf _ (List.getElem_mem hjl)
      have hgd := HGOOD.out j hjl
      have hALL := Lib.hid (BK.body_take (l := l) (j := j) V hjl)
      have hLEN : Hid ((N ++ BK.bodyF V [] (l.take j)).length ≤ 2867210) := Lib.hid (by
        have h1 := HBL.out j
        have h3 := HEN.out
        rw [List.length_append]; omega)
      have hshl := BK.sh_le V (l.take j) l[j]
      have HBO := Lib.hid (fun W => bytesOf_any l[j] (BK.sh V (l.take j) l[j]) W hwf hgd.1 hgd.2 hshl.2.1)
      have hIL := Lib.hid (BK.entB_len (e := l[j]) hgd.1 hshl.2.1 hwf hgd.2)
      have hS0 : j % V = 0 → BK.sh V (l.take j) l[j] = 0 := fun h => BK.sh_zero hjl h _
      have hS1 : ∀ m (h : j = m + 1), j % V ≠ 0 → BK.sh V (l.take j) l[j] = BK.alike l[m].key.data.toList l[j].key.data.toList := fun m h h0 => BK.sh_some hjl h0 h _
      have hks := hwf.key
      have hks2 : ∀ m (h : j = m + 1), l[m].key.size ≤ 140737488355328 := fun m h => by have := (HIN.out.wf _ (List.getElem_mem (show m < l.length by omega))).key; omega
      have hcm : ∀ m (h : j = m + 1), wr.cell? ⟨b, off + m * 5, none⟩ = some (.string l[m].key) := fun m h => (hc m (by omega)).1
      obtain ⟨e, he⟩ : ∃ e, l[j] = e := ⟨_, rfl⟩
      rw [he] at z0 z1 z2 z3 z4 hALL HBO hIL hS0 hks
      simp only [he] at hS1
      obtain ⟨sh, hsh⟩ : ∃ sh, BK.sh V (l.take j) e = sh := ⟨_, rfl⟩
      rw [hsh] at hALL HBO hIL hS0
      simp only [hsh] at hS1
      obtain ⟨IB, hIB⟩ : ∃ IB, BK.entB e sh = IB := ⟨_, rfl⟩
      rw [hIB] at HBO hALL hIL
      have HBLD := Lib.hid hbld
      have HBEL := Lib.hid hbel
      have HSZ := Lib.hid hsz
      subst hA
      obtain ⟨k2, q2, g2, v2, t2⟩ := e
      simp only [E.val] at z0 z1 z2 z3 z4 HBO hks hS1
      have g0 : (0 : Int) ≤ (j : Int) := by omega
      have g1 : (j : Int) < (n : Int) := by omega
      have hjn : n ≤ 4096 := HLG.out
      have hV1 : 1 ≤ V := HVV.out.1
      have hV2 : V ≤ 64 := HVV.out.2
      have hVz : ((V : Int) == 0) = false := beq_eq_false_iff_ne.2 (by omega)
      have hrow : (wr.alloc (.cells #[.string k2, .int .i64 q2, .bool g2, .string v2, .int .i64 t2] 45)).heap[wr.heap.size]? = some (.cells #[.string k2, .int .i64 q2, .bool g2, .string v2, .int .i64 t2] 45 (0, 0)) := heap_alloc_new wr _
      have hal : Below wr.heap.size wr (wr.alloc (.cells #[.string k2, .int .i64 q2, .bool g2, .string v2, .int .i64 t2] 45)) := (Below.refl _ _).alloc (Nat.le_refl _) _
      clear hbld hbel hsz hc hwf he hsh hIB hgd hshl
      by_cases hm0 : j % V = 0
      · have hrem : (j : Int) % (V : Int) = 0 := by rw [← Int.natCast_emod, hm0]; rfl
        have hsz0 := hS0 hm0
        subst hsz0
        clear hS0 hS1 hks2 hcm hm0
        go_wp2_with fail
        generalize wr.alloc (.cells #[.string k2, .int .i64 q2, .bool g2, .string v2, .int .i64 t2] 45) = w3 at hrow hal ⊢
        obtain ⟨x, hx⟩ : ∃ x, wr.heap.size = x := ⟨_, rfl⟩
        rw [hx] at hrow hal ⊢
        have HX := Lib.hid hx
        have HROW := Lib.hid hrow
        have HAL := Lib.hid hal
        have HAZ : Hid (x < w3.heap.size) := Lib.hid (Array.getElem?_eq_some_iff.1 hrow).1
        clear hx hrow hal z0 z1 z2 z3 z4 hbl
        obtain ⟨d0, d1, d2, d3, d4⟩ : w3.cell? ⟨x, 0, none⟩ = some (.string k2) ∧ w3.cell? ⟨x, 1, none⟩ = some (.int .i64 q2) ∧ w3.cell? ⟨x, 2, none⟩ = some (.bool g2) ∧ w3.cell? ⟨x, 3, none⟩ = some (.string v2) ∧ w3.cell? ⟨x, 4, none⟩ = some (.int .i64 t2) := ⟨cell_of_row _ _ _ _ _ _ HROW.out, cell_of_row _ _ _ _ _ _ HROW.out, cell_of_row _ _ _ _ _ _ HROW.out, cell_of_row _ _ _ _ _ _ HROW.out, cell_of_row _ _ _ _ _ _ HROW.out⟩
        go_wp2_with fail
        refine (HBO.out _).mono ?_
        rintro e w5 ⟨rfl, hb5⟩
        have HALL5 : Hid (Below x wr w5) := Lib.hid (HAL.out.trans (hb5.mono (by have := HAZ.out; omega)))
        have HBLD5 : Hid (Bld B B (N ++ BK.bodyF V [] (l.take j)) w5) := Lib.hid (HBLD.out.kept (by rw [HX.out]; exact HALL5.out))
        have HBC5 : Hid (Below w.heap.size w w5) := Lib.hid (HBEL.out.trans (HALL5.out.mono (by have := HX.out; have := HBEL.out.size; omega)))
        have HSZ5 : Hid (B < w5.heap.size) := Lib.hid (by have := hb5.size; have := HAZ.out; have := HX.out; have := HSZ.out; omega)
        clear hb5 d0 d1 d2 d3 d4
        go_wp2_with fail
        refine (write_any _ _ _ IB _ HBLD5.out (by have := hLEN.out; have := hIL.out; omega) (by have := HSZ5.out; omega)).mono ?_
        rintro e w6 ⟨rfl, hB6, hb6⟩
        have HB6 : Hid (Bld B B (N ++ BK.bodyF V [] (l.take (j + 1))) w6) := Lib.hid (by rw [hALL.out, ← List.append_assoc]; exact hB6)
        have HBC6 : Hid (Below w.heap.size w w6) := Lib.hid (HBC5.out.trans (hb6.mono HW0.out))
        have HSZ6 : Hid (B < w6.heap.size) := Lib.hid (by have := hb6.size; have := HSZ5.out; omega)
        clear hB6 hb6
        go_wp2
        go_roundw
        case rel => exact ⟨j + 1, by omega, by go_num, HB6.out, HBC6.out, HSZ6.out⟩
        case measure => simp [intOf]; omega
      · have hrem : ((j : Int) % (V : Int) == 0) = false := beq_eq_false_iff_ne.2 (by rw [← Int.natCast_emod]; omega)
        have hrem2 : ((j : Int) % (V : Int) != 0) = true := by rw [bne, hrem]; rfl
        obtain ⟨m, hjm⟩ : ∃ m, j = m + 1 := ⟨j - 1, by have : j ≠ 0 := (fun h => hm0 (by rw [h]; exact Nat.zero_mod _)); omega⟩
        have HAK := Lib.hid (fun W => alike_any l[m].key k2 W (hks2 m hjm) (by omega))
        have hkm := hcm m hjm
        rw [← hS1 m hjm hm0] at HAK
        obtain ⟨km, hkm2⟩ : ∃ km, l[m].key = km := ⟨_, rfl⟩
        rw [hkm2] at HAK hkm
        have hwr : IntKind.i64.wrap ((j : Int) - 1) = (m : Int) := by rw [IntWalk.i64_in _ ⟨by omega, by omega⟩]; omega
        have m0 : (0 : Int) ≤ (m : Int) := by omega
        have m1 : (m : Int) < (n : Int) := by omega
        have HKM : Hid (∀ W, Below wr.heap.size wr W → W.cell? ⟨b, off + m * 5, none⟩ = some (.string km)) := Lib.hid (fun W h => (h.cell (p := ⟨b, off + m * 5, none⟩) hbl).trans hkm)
        clear hS0 hS1 hks2 hcm hm0 hkm2 hkm hjm
        go_wp2_with fail
        generalize wr.alloc (.cells #[.string k2, .int .i64 q2, .bool g2, .string v2, .int .i64 t2] 45) = w3 at hrow hal ⊢
        obtain ⟨x, hx⟩ : ∃ x, wr.heap.size = x := ⟨_, rfl⟩
        rw [hx] at hrow hal HKM ⊢
        have HX := Lib.hid hx
        have HROW := Lib.hid hrow
        have HAL := Lib.hid hal
        have HAZ : Hid (x < w3.heap.size) := Lib.hid (Array.getElem?_eq_some_iff.1 hrow).1
        clear hx hrow hal z0 z1 z2 z3 z4 hbl

        have d0 : w3.cell? ⟨x, 0, none⟩ = some (.string k2) := cell_of_row _ _ _ _ _ _ HROW.out
        have dm : w3.cell? ⟨b, off + m * 5, none⟩ = some (.string km) := HKM.out _ HAL.out
        go_region_held3 (fun s => s.cell? ⟨x, 0, none⟩ = some (.string k2) ∧ s.cell? ⟨b, off + m * 5, none⟩ = some (.string km))
          (first | exact HS2.out | go_keep | fail)
          (first
            | (go_at_call 115; refine (HAK.out _).mono ?_; rintro r w4 ⟨rfl, hb4⟩
               have HROW4 := Lib.hid ((hb4.block x (by have := HAZ.out; simp; omega)).trans HROW.out)
               have HAZ4 : Hid (x < w4.heap.size) := Lib.hid (Array.getElem?_eq_some_iff.1 HROW4.out).1
               have HAL4 : Hid (Below x wr w4) := Lib.hid (Below.trans (Below.drew HAL.out) (hb4.mono (by have := HAZ.out; simp; omega)))
               have HS2 : Hid (w4.cell? ⟨x, 0, none⟩ = some (.string k2) ∧ w4.cell? ⟨b, off + m * 5, none⟩ = some (.string km)) := Lib.hid ⟨cell_of_row _ _ _ _ _ _ HROW4.out, HKM.out _ HAL4.out⟩
               clear hb4)
            | fail)
        all_goals
          clear HS2 d0 dm
          obtain ⟨d0, d1, d2, d3, d4⟩ : w4.cell? ⟨x, 0, none⟩ = some (.string k2) ∧ w4.cell? ⟨x, 1, none⟩ = some (.int .i64 q2) ∧ w4.cell? ⟨x, 2, none⟩ = some (.bool g2) ∧ w4.cell? ⟨x, 3, none⟩ = some (.string v2) ∧ w4.cell? ⟨x, 4, none⟩ = some (.int .i64 t2) := ⟨cell_of_row _ _ _ _ _ _ HROW4.out, cell_of_row _ _ _ _ _ _ HROW4.out, cell_of_row _ _ _ _ _ _ HROW4.out, cell_of_row _ _ _ _ _ _ HROW4.out, cell_of_row _ _ _ _ _ _ HROW4.out⟩
          go_wp2_with fail
          refine (HBO.out _).mono ?_
          rintro e w5 ⟨rfl, hb5⟩
          have HALL5 : Hid (Below x wr w5) := Lib.hid (HAL4.out.trans (hb5.mono (by have := HAZ4.out; omega)))
          have HBLD5 : Hid (Bld B B (N ++ BK.bodyF V [] (l.take j)) w5) := Lib.hid (HBLD.out.kept (by rw [HX.out]; exact HALL5.out))
          have HBC5 : Hid (Below w.heap.size w w5) := Lib.hid (HBEL.out.trans (HALL5.out.mono (by have := HX.out; have := HBEL.out.size; omega)))
          have HSZ5 : Hid (B < w5.heap.size) := Lib.hid (by have := hb5.size; have := HAZ4.out; have := HX.out; have := HSZ.out; omega)
          clear hb5 d0 d1 d2 d3 d4
          go_wp2_with fail
          refine (write_any _ _ _ IB _ HBLD5.out (by have := hLEN.out; have := hIL.out; omega) (by have := HSZ5.out; omega)).mono ?_
          rintro e w6 ⟨rfl, hB6, hb6⟩
          have HB6 : Hid (Bld B B (N ++ BK.bodyF V [] (l.take (j + 1))) w6) := Lib.hid (by rw [hALL.out, ← List.append_assoc]; exact hB6)
          have HBC6 : Hid (Below w.heap.size w w6) := Lib.hid (HBC5.out.trans (hb6.mono HW0.out))
          have HSZ6 : Hid (B < w6.heap.size) := Lib.hid (by have := hb6.size; have := HSZ5.out; omega)
          clear hB6 hb6
          go_wp2
          go_roundw
          case rel => exact ⟨j + 1, by omega, by go_num, HB6.out, HBC6.out, HSZ6.out⟩
          case measure => simp [intOf]; omega
    · have hjn : j = n := by omega
      have hlj : l.take j = l := List.take_of_length_le (by rw [HLN.out]; omega)
      rw [hlj, ← HPB.out] at hbld
      have HS := Lib.hid (bstring_any B B (BK.buildB l V) wr hbld HPOS.out)
      obtain ⟨PB, hPB⟩ : ∃ PB, BK.buildB l V = PB := ⟨_, rfl⟩
      rw [hPB] at HR HS
      have HBEL := Lib.hid hbel
      have HLE := HW0
      subst hjn
      clear hlj hbld hbel hsz hPB
      go_wp2_with fail
      refine HS.out.mono ?_
      rintro e w7 ⟨rfl, hb7⟩
      have HBC7 : Hid (Below w.heap.size w w7) := Lib.hid (HBEL.out.trans (hb7.mono HLE.out))
      clear hb7
      go_wp2
      rw [HR.out]
      go_ret2
      exact ⟨rfl, HBC7.out⟩
end Go.Proofs.YtjkofciohehgfaaGreatDoor.L11


