/- Of one key's entries: what somebody may need. -/
import Derived.Test.YtfbhdggmefacjaaCa
import Derived.Deep.QuietTactic
import Derived.Carry
namespace Go.Proofs.Ytfbhdggmefacjaa
open Go.RowKit
open SK VB

theorem getD_at {α : Type} (l : List α) (d : α) {i : Nat} (h : i < l.length) : l.getD i d = l[i] := by simp [h]

namespace VB
def sq (r : List SK.E) (i : Nat) : Int := (r.getD i SK.E.zero).seq
/-- does a snap come upon the i-th one? -/
def come (r : List SK.E) (xs : List Int) (i : Nat) : Bool := xs.any (fun s => decide (sq r i ≤ s) && decide (s < sq r (i - 1)))
/-- the places that are needed -/
def ndd (r : List SK.E) (xs : List Int) (i : Nat) : Bool := decide (i < r.length) && (decide (i = 0) || come r xs i)
theorem come_at {r : List SK.E} {xs : List Int} (hr : Rises xs) {i k : Nat} (hk : k ≤ xs.length) (h0 : ∀ m, k = m + 1 → xs.getD m 0 < sq r i) (h1 : k < xs.length → sq r i ≤ xs.getD k 0) :
    come r xs i = (decide (k < xs.length) && decide (xs.getD k 0 < sq r (i - 1))) := by
  unfold come
  rw [Bool.eq_iff_iff]
  simp only [List.any_eq_true, Bool.and_eq_true, decide_eq_true_eq]
  constructor
  · rintro ⟨s, hs, h2, h3⟩
    obtain ⟨m, hm, rfl⟩ := List.getElem_of_mem hs
    have hkm : k ≤ m := by
      by_cases e : k ≤ m
      · exact e
      · exfalso
        have h4 := h0 (k - 1) (by omega)
        rw [getD_at _ _ (by omega)] at h4
        have := hr.le (i := m) (j := k - 1) (by omega) (by omega)
        omega
    refine ⟨by omega, ?_⟩
    rw [getD_at _ _ (by omega)]
    have := hr.le hkm hm
    omega
  · rintro ⟨h2, h3⟩
    have h4 := h1 h2
    rw [getD_at _ _ h2] at h3 h4
    exact ⟨_, List.getElem_mem h2, h4, h3⟩
end VB

set_option maxRecDepth 100000 in
set_option maxHeartbeats 4000000 in
theorem needed_any (A B : Option Addr) (n c m d : Nat) (r : List SK.E) (xs : List Int) (w : World) (hn : r.length = n) (hm : xs.length = m) (h0 : 0 < n) (h6 : n ≤ 1000000) (hm6 : m ≤ 1000000) (hz : EntsIn w A r) (hx : I64In w B xs) (hr : Rises xs) :
    Calls Try.prog 33 #[.slice A n c, .slice B m d] w fun e w' => e = .returned (.map (some w.heap.size)) ∧ OwnS w' w.heap.size n (ndd r xs) ∧ Below w.heap.size w w' := by
  have HZ := Lib.hid hz
  have HX := Lib.hid hx
  have HN := Lib.hid hn
  have HM := Lib.hid hm
  have HC : Hid (∀ (i k : Nat), k ≤ m → (∀ t, k = t + 1 → xs.getD t 0 < sq r i) → (k < m → sq r i ≤ xs.getD k 0) → come r xs i = (decide (k < m) && decide (xs.getD k 0 < sq r (i - 1)))) := Lib.hid fun i k h1 h2 h3 => by
    rw [← hm] at h1 h3 ⊢
    exact come_at hr h1 h2 h3
  have HBS : Hid (∀ W, Below w.heap.size w W → ∀ x, Calls Try.prog 42 #[.slice B m d, .int .i64 x] W fun e w' => ∃ (i : Nat) (f : Bool), e = .returned (.tuple #[.int .i64 i, .bool f]) ∧ i ≤ m ∧ (∀ t, i = t + 1 → xs.getD t 0 < x) ∧ (i < m → x ≤ xs.getD i 0) ∧ Below W.heap.size W w') := Lib.hid fun W hb x => bsearch_any B m d xs x W hm (hx.below hb) hm6
  have hmade := OwnS.made w
  obtain ⟨w1, hins, hs1, hg1⟩ := hmade.put (i := 0) (by omega) (by omega)
  have hins' : (Instr.mapUpdate 70 (.map (some w.heap.size)) (.int .i64 0) (.agg #[])).run Try.prog (w.alloc (.map #[] 0)) = .ok () w1 := hins
  have HS1 : Hid (OwnS w1 w.heap.size 1 (fun i => decide (i < 1) && ndd r xs i)) := Lib.hid (hs1.congr fun i _ => by
    cases i with
    | zero => simp [ndd, hn, h0]
    | succ i => simp)
  have HB1 : Hid (Below w.heap.size w w1) := Lib.hid (((Below.refl _ w).alloc (Nat.le_refl _) _).grown hg1 (by simp) (fun k e => by cases e; omega))
  have hmm : (Instr.makeMap 70 none).run Try.prog w = .ok (.map (some w.heap.size)) (w.alloc (.map #[] 0)) := run_makeMap _ _
  clear hz hx hn hm hr hmade hs1 hg1 hins
  go_enter Try.func33, Try.ntmps33
  go_wp2_with fail
  obtain ⟨y, hy⟩ : ∃ y, w.heap.size = y := ⟨_, rfl⟩
  have HY := Lib.hid hy
  rw [hy] at HS1 HB1 ⊢
  clear hy hins'
  go_loopw [6] (fun i wr => ∃ j : Nat, 1 ≤ j ∧ j ≤ n ∧ i = .int .i64 j ∧ Below y w wr ∧ OwnS wr y j (fun i => decide (i < j) && ndd r xs i)) (fun i _ => n - (intOf i).toNat)
  case atStart => exact ⟨1, by omega, by omega, rfl, HB1.out, HS1.out⟩
  case round =>
    obtain ⟨j, hj1, hj, rfl, hbel, hset⟩ := hrel
    have HB := Lib.hid hbel
    have HS := Lib.hid hset
    by_cases hlt : j < n
    · have hjl : j < r.length := by rw [HN.out]; exact hlt
      have hbel' : Below w.heap.size w wr := by rw [HY.out]; exact hbel
      obtain ⟨b, off, hA, hbl, hc⟩ := (HZ.out.below hbel').at_ (by omega)
      have z1 := (hc j hjl).2.1
      have hq1 : (r[j]).seq = sq r j := by unfold sq; rw [getD_at _ _ hjl]
      have z2 := (hc (j - 1) (by omega)).2.1
      have hq2 : (r[j - 1]'(by omega)).seq = sq r (j - 1) := by unfold sq; rw [getD_at _ _ (by omega)]
      rw [hq1] at z1
      rw [hq2] at z2
      have HBJ := Lib.hid (HBS.out wr hbel' (sq r j))
      have HCJ := Lib.hid (HC.out j)
      have hnd : ndd r xs j = come r xs j := by unfold ndd; rw [decide_eq_true hjl, decide_eq_false (by omega : ¬ j = 0)]; simp
      have HND := Lib.hid hnd
      obtain ⟨s1, hs1⟩ : ∃ s, sq r j = s := ⟨_, rfl⟩
      obtain ⟨s2, hs2⟩ : ∃ s, sq r (j - 1) = s := ⟨_, rfl⟩
      rw [hs1] at z1 HBJ HCJ
      rw [hs2] at z2 HCJ
      have g0 : (0 : Int) ≤ (j : Int) := by omega
      have g1 : (j : Int) < (n : Int) := by omega
      have g2 : (j : Int) - 1 = ((j - 1 : Nat) : Int) := by omega
      have g3 : (0 : Int) ≤ ((j - 1 : Nat) : Int) := by omega
      have g4 : ((j - 1 : Nat) : Int) < (n : Int) := by omega
      have hyl : y < wr.heap.size := hset.lt
      subst hA
      clear hc hq1 hq2 hs1 hs2 hnd hbel hbel' hset hjl
      go_wp2_with fail
      refine HBJ.out.mono ?_
      rintro e w2 ⟨k, f, rfl, hk, hk0, hk1, hb2⟩
      have HCK := Lib.hid (HCJ.out k hk hk0 hk1)
      have z1' := (hb2.cell (p := ⟨b, off + j * 5 + 1, none⟩) hbl).trans z1
      have z2' := (hb2.cell (p := ⟨b, off + (j - 1) * 5 + 1, none⟩) hbl).trans z2
      have hs2 := hb2.size
      have HB2 : Hid (Below y w w2) := Lib.hid (HB.out.trans (hb2.mono (by omega)))
      have HS2 : Hid (OwnS w2 y j (fun i => decide (i < j) && ndd r xs i)) := Lib.hid (HS.out.below hb2)
      have hbl2 : b < w2.heap.size := by omega
      clear hk0 hk1 hb2 z1 z2 HBJ HCJ HS HB
      have hfin : ∀ W, Below w2.heap.size w2 W → come r xs j = true → ∃ W', (Instr.mapUpdate 70 (.map (some y)) (.int .i64 (j : Int)) (.agg #[])).run Try.prog W = .ok () W' ∧ OwnS W' y (j + 1) (fun i => decide (i < j + 1) && ndd r xs i) ∧ Below y w W' := fun W hb hco => by
        obtain ⟨W', h1, h2, h3⟩ := (HS2.out.below hb).put (i := j) (by omega) (by omega)
        refine ⟨W', h1, h2.congr fun i hi => ?_, (HB2.out.trans (hb.mono (by omega))).grown h3 (by have := hb.size; omega) (fun k e => by cases e; exact Nat.le_refl _)⟩
        by_cases e : i = j
        · subst e
          rw [HND.out, hco]
          simp
        · have h4 : decide (i < j + 1) = decide (i < j) := by
            rw [Bool.eq_iff_iff, decide_eq_true_eq, decide_eq_true_eq]
            omega
          rw [h4]
          simp [e]
      have HFIN := Lib.hid hfin
      have HNO : Hid (come r xs j = false → ∀ W, Below w2.heap.size w2 W → OwnS W y (j + 1) (fun i => decide (i < j + 1) && ndd r xs i) ∧ Below y w W) := Lib.hid fun hco W hb => by
        refine ⟨?_, HB2.out.trans (hb.mono (by omega))⟩
        obtain ⟨D, h1, h2⟩ := HS2.out.below hb
        refine ⟨D, h1.mono (by omega), fun i hi => ?_⟩
        rw [h2 i hi]
        by_cases e : i = j
        · subst e
          rw [HND.out, hco]
          simp
        · have h4 : decide (i < j + 1) = decide (i < j) := by
            rw [Bool.eq_iff_iff, decide_eq_true_eq, decide_eq_true_eq]
            omega
          rw [h4]
      clear hfin
      by_cases hkm : k < m
      · have hxl : k < xs.length := by rw [HM.out]; exact hkm
        have hI : I64In w2 B xs := HX.out.below (by rw [HY.out]; exact HB2.out)
        obtain ⟨b3, off3, hB3, hbl3, hc3⟩ := hI.at_ (by omega)
        have y0 := hc3 k hxl
        rw [← getD_at xs 0 hxl] at y0
        have hck := HCK.out
        rw [decide_eq_true hkm, Bool.true_and] at hck
        obtain ⟨s3, hs3⟩ : ∃ s, xs.getD k 0 = s := ⟨_, rfl⟩
        rw [hs3] at y0 hck
        have HCO := Lib.hid hck
        have k0 : (0 : Int) ≤ (k : Int) := by omega
        have k1 : (k : Int) < (m : Int) := by omega
        subst hB3
        clear hI hc3 hs3 hxl hck
        cases hlt3 : decide (s3 < s2)
        · go_wp2_with fail
          go_quiet (fail)
          have HE := Lib.hid (HNO.out (by rw [HCO.out, hlt3]) _ (below_drewN (Below.refl w2.heap.size w2) nq))
          go_wp2
          go_roundw
          case rel => exact ⟨j + 1, by omega, by omega, by go_num, HE.out.2, HE.out.1⟩
          case measure => simp [intOf]; omega
        · go_wp2_with fail
          go_quiet (fail)
          obtain ⟨w4, hu, ho4, hb4⟩ := HFIN.out _ (below_drewN (Below.refl w2.heap.size w2) nq) (by rw [HCO.out, hlt3])
          have HO4 := Lib.hid ho4
          have HB4 := Lib.hid hb4
          clear ho4 hb4
          go_wp2
          go_roundw
          case rel => exact ⟨j + 1, by omega, by omega, by go_num, HB4.out, HO4.out⟩
          case measure => simp [intOf]; omega
      · have hck := HCK.out
        rw [decide_eq_false hkm, Bool.false_and] at hck
        have HCO := Lib.hid hck
        have k1 : ¬ (k : Int) < (m : Int) := by omega
        clear hck
        go_wp2_with fail
        go_quiet (fail)
        have HE := Lib.hid (HNO.out HCO.out _ (below_drewN (Below.refl w2.heap.size w2) nq))
        go_wp2
        go_roundw
        case rel => exact ⟨j + 1, by omega, by omega, by go_num, HE.out.2, HE.out.1⟩
        case measure => simp [intOf]; omega
    · have hjn : j = n := by omega
      subst hjn
      have HR : Hid (OwnS wr y j (ndd r xs)) := Lib.hid (hset.congr fun i _ => by
        unfold ndd
        rw [HN.out]
        cases decide (i < j) <;> simp)
      clear hset hbel
      go_wp2
      go_ret
      rw [HY.out]
      exact ⟨rfl, HR.out, HB.out⟩
end Go.Proofs.Ytfbhdggmefacjaa
