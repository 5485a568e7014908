/- New: an empty list whose towers are as high as coins say. -/
import Derived.Test.YtgnlhnfjanoahaaSx
namespace Go.Proofs.Ytgnlhnfjanoahaa
open Go.RowKit
open SK

/-- coins that come in: nil and empty ones too -/
structure CoinsIn (w : World) (A : Option Addr) (cs : List Int) : Prop where
  fits : ∀ c ∈ cs, -9223372036854775808 ≤ c ∧ c ≤ 9223372036854775807
  at_ : 0 < cs.length → ∃ b off, A = some ⟨b, off, none⟩ ∧ b < w.heap.size ∧ ∀ j, (h : j < cs.length) → w.cell? ⟨b, off + j, none⟩ = some (.int .i64 cs[j])

theorem CoinsIn.below {w w' : World} {A : Option Addr} {cs : List Int} (h : CoinsIn w A cs) (hb : Below w.heap.size w w') : CoinsIn w' A cs :=
  ⟨h.fits, fun hn => by
    obtain ⟨b, off, hA, hlt, hc⟩ := h.at_ hn
    exact ⟨b, off, hA, Nat.lt_of_lt_of_le hlt hb.size, fun j hj => (hb.cell (p := ⟨b, off + j, none⟩) hlt).trans (hc j hj)⟩⟩

structure NewRel (w : World) (cs : List Int) (k : Nat) (wr : World) : Prop where
  below : Below w.heap.size w wr
  size : w.heap.size + 2 ≤ wr.heap.size
  head : wr.heap[w.heap.size + 1]? = some (.cells (hcells w.heap.size cs.length (fun _ => none) 0 0) 67 (0, 0))
  row : ∃ hc, wr.heap[w.heap.size]? = some (.cells hc 5 (0, 0)) ∧ hc.size = cs.length ∧ ∀ j, (h : j < cs.length) → j < k → hc[j]? = some (.int .u8 (coin cs[j]))

theorem NewRel.step {w : World} {cs : List Int} {k : Nat} {wr : World} (h : NewRel w cs k wr) (hk : k < cs.length) : NewRel w cs (k + 1) (wr.setCell ⟨w.heap.size, k, none⟩ (.int .u8 (coin cs[k]))) := by
  obtain ⟨hc, h1, h2, h3⟩ := h.row
  refine ⟨h.below.setCell (p := ⟨w.heap.size, k, none⟩) (Nat.le_refl _) _, by rw [setCell_size]; exact h.size, (Below.heap_setCell _ _ _ _ (by show w.heap.size + 1 ≠ w.heap.size; omega)).trans h.head, hc.setIfInBounds k (.int .u8 (coin cs[k])), heap_set_fr h1 k _, by simpa using h2, fun j hj hjk => ?_⟩
  rw [Array.getElem?_setIfInBounds]
  by_cases e : k = j
  · subst e
    rw [if_pos rfl, if_pos (by omega)]
  · rw [if_neg e]
    exact h3 j hj (by omega)

theorem NewRel.drew {w : World} {cs : List Int} {k : Nat} {wr : World} (h : NewRel w cs k wr) : NewRel w cs k wr.drew := ⟨h.below.drew, h.size, h.head, h.row⟩

set_option maxRecDepth 100000 in
set_option maxHeartbeats 1000000 in
theorem new_any (A : Option Addr) (n c : Nat) (cs : List Int) (w : World) (hn : cs.length = n) (hin : CoinsIn w A cs) (hmax : n ≤ 140737488351232) :
    Calls Try.prog 9 #[.slice A n c] w fun e w' => e = .returned (.pointer (some ⟨w.heap.size + 1, 0, none⟩)) ∧ Rep w.heap.size w' (w.heap.size + 1) w.heap.size cs [] St.new ∧ Below w.heap.size w w' ∧ w.heap.size + 2 ≤ w'.heap.size := by
  have hmk := make_bytes w n (by omega)
  have hz : (byteWorld w n).heap.size = w.heap.size + 1 := by simp [byteWorld]
  have HIN := Lib.hid hin
  have HN := Lib.hid hn
  have HS : Hid (NewRel w cs 0 ((byteWorld w n).alloc (.cells (hcells w.heap.size n (fun _ => none) 0 0) 67))) := Lib.hid (by
    have hb : Below w.heap.size w (byteWorld w n) := (Below.refl _ w).alloc (Nat.le_refl _) _
    refine ⟨hb.alloc (by omega) _, by simp [hz], ?_, madeCells #[.int .u8 0] n, ?_, by rw [size_madeCells, hn]; try simp, fun j _ h => by omega⟩
    · have := heap_alloc_new (byteWorld w n) (.cells (hcells w.heap.size n (fun _ => none) 0 0) 67)
      rw [hz] at this
      rw [hn]
      exact this
    · rw [Below.heap_alloc _ _ _ (by omega)]
      exact byteWorld_row w n)
  unfold hcells at HS
  simp only [pv, Option.map_none, Int.natCast_zero] at HS
  have HZ := Lib.hid hz
  clear hin hn hz
  go_enter Try.func9, Try.ntmps9
  go_wp2_with fail
  rw [HZ.out]
  generalize (byteWorld w n).alloc (.cells #[.slice (some ⟨w.heap.size, 0, none⟩) n n, .pointer none, .pointer none, .pointer none, .pointer none, .pointer none, .pointer none, .pointer none, .pointer none, .int .i64 0, .int .i64 0] 67) = W1 at HS ⊢
  clear hmk
  go_loopw [13] (fun i wr => ∃ k : Nat, k ≤ n ∧ i = .int .i64 k ∧ NewRel w cs k wr) (fun i _ => n - (intOf i).toNat)
  case atStart => exact ⟨0, by omega, rfl, HS.out⟩
  case round =>
    obtain ⟨k, hk, rfl, hr⟩ := hrel
    have HR := Lib.hid hr
    by_cases hlt : k < n
    · have hkl : k < cs.length := by rw [HN.out]; exact hlt
      obtain ⟨b, off, hA, hbl, hc⟩ := HIN.out.at_ (by omega)
      have zc : wr.cell? ⟨b, off + k, none⟩ = some (.int .i64 cs[k]) := (hr.below.cell (p := ⟨b, off + k, none⟩) hbl).trans (hc k hkl)
      have z0 : wr.cell? ⟨w.heap.size + 1, 0, none⟩ = some (.slice (some ⟨w.heap.size, 0, none⟩) n n) := by
        rw [← HN.out]
        exact cell_of_row _ _ _ _ _ _ hr.head
      obtain ⟨hc', h1, h2, -⟩ := hr.row
      have zt : wr.cell? ⟨w.heap.size, k, none⟩ = some (hc'[k]'(by omega)) := by
        rw [cell_of_row _ _ _ _ _ _ h1]
        exact Array.getElem?_eq_getElem _
      have ft : wr.frozen? ⟨w.heap.size, k, none⟩ = false := frozen_of_row _ _ _ _ _ h1
      have hst := hr.step hkl
      have hfit := HIN.out.fits _ (List.getElem_mem hkl)
      obtain ⟨tv, htv⟩ : ∃ y, hc'[k]'(by omega) = y := ⟨_, rfl⟩
      obtain ⟨cc, hcc⟩ : ∃ y, cs[k] = y := ⟨_, rfl⟩
      rw [htv] at zt
      rw [hcc] at zc hst hfit
      have hcr := coin_range cc
      have HH : Hid (∀ W, Calls Try.prog 23 #[.int .i64 cc] W fun e w' => e = .returned (.int .i64 (coin cc)) ∧ W = w') := fun W => height_any cc W hfit
      obtain ⟨cv, hcv⟩ : ∃ y, coin cc = y := ⟨_, rfl⟩
      rw [hcv] at hst hcr HH
      have hwr : IntKind.u8.wrap cv = cv := by simp [IntKind.wrap, IntKind.signed, IntKind.bits]; omega
      have HST := Lib.hid hst
      have k0 : (0 : Int) ≤ (k : Int) := by omega
      have k1 : (k : Int) < (n : Int) := by omega
      subst hA
      clear hr hc h1 h2 htv hcc hcv hst hfit
      go_wp2_with fail
      go_region_with (
        go_at_call 23
        refine (HH.out _).mono ?_
        rintro e w' ⟨rfl, rfl⟩)
      all_goals
        have HD := Lib.hid HST.out.drew
        clear HST z0 zt ft zc HH
        generalize World.drew _ = w9 at HD ⊢
        go_wp2
        go_roundw
        case rel => exact ⟨k + 1, by omega, by go_num, HD.out⟩
        case measure => simp [intOf]; omega
    · have hkn : k = n := by omega
      subst hkn
      have HRP : Hid (Rep w.heap.size wr (w.heap.size + 1) w.heap.size cs [] St.new) := Lib.hid (by
        obtain ⟨hc', h1, h2, h3⟩ := hr.row
        refine ⟨hr.head, ⟨hc', h1, h2, fun j hj => h3 j hj (by rw [← HN.out]; exact hj)⟩, trivial, rfl, by simp, by simp [blks], fun y hy => ?_⟩
        have := hr.size
        simp [blks] at hy
        omega)
      clear hr
      go_wp2
      go_ret
      exact ⟨rfl, HRP.out, HR.out.below, HR.out.size⟩
end Go.Proofs.Ytgnlhnfjanoahaa
