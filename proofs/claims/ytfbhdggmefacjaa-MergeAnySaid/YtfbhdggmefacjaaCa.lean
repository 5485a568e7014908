/- A set of small numbers (map[int]struct{}); a list of numbers that is read; BinarySearch. -/
import Derived.Test.YtfbhdggmefacjaaVa
import Derived.Maps.OwnOps
import Derived.Maps.OwnSet
import Derived.Maps.Views
namespace Go.Proofs.Ytfbhdggmefacjaa
open Go.RowKit Go.Maps
open SK VB

theorem setKey : Keyed Try.prog 3 := int_keyed Try.underlying3
theorem zeroUnit (w : World) : (zeroValue 73).run Try.prog w = .ok (.agg #[]) w := by kernel_rfl
theorem nat_wf {i : Nat} (h : i ≤ 1000000) : (Lit.int .i64 (i : Int)).wf = true := by
  simp [Lit.wf, IntKind.min, IntKind.max, IntKind.signed, IntKind.bits]
  omega
theorem nat_key {i : Nat} (h : i ≤ 1000000) : keyOf Try.prog 3 (.int .i64 (i : Int)) = some (.int .i64 (i : Int)) := keyOf_int_mk Try.underlying3 (nat_wf h)

/-- a set of small numbers, made by the call -/
structure OwnS (w : World) (b n : Nat) (S : Nat → Bool) : Prop where
  ex : ∃ D : DataW Unit, w.ownsMap Try.prog 3 unitElem b n D ∧ ∀ i : Nat, i ≤ 1000000 → has D (.int .i64 (i : Int)) = S i

theorem OwnS.congr {w : World} {b n : Nat} {S S' : Nat → Bool} (h : OwnS w b n S) (hS : ∀ i, i ≤ 1000000 → S' i = S i) : OwnS w b n S' := by
  obtain ⟨D, h1, h2⟩ := h
  exact ⟨D, h1, fun i hi => by rw [h2 i hi, hS i hi]⟩
theorem OwnS.lt {w : World} {b n : Nat} {S : Nat → Bool} (h : OwnS w b n S) : b < w.heap.size := by
  obtain ⟨D, h1, -⟩ := h
  exact h1.lt
theorem OwnS.kept {w w' : World} {b n : Nat} {S : Nat → Bool} {row : Option Nat} (h : OwnS w b n S) (hg : w.grownBy w' row) (hne : some b ≠ row) : OwnS w' b n S := by
  obtain ⟨D, h1, h2⟩ := h
  exact ⟨D, h1.kept hg hne, h2⟩
theorem OwnS.below {w w' : World} {b n : Nat} {S : Nat → Bool} (h : OwnS w b n S) (hb : Below w.heap.size w w') : OwnS w' b n S :=
  h.kept (row := none) ⟨hb.os, hb.tape, hb.output, hb.size, fun k hk _ => hb.block k hk⟩ (by simp)
theorem OwnS.look {w : World} {b n : Nat} {S : Nat → Bool} (h : OwnS w b n S) {i : Nat} (hi : i ≤ 1000000) :
    (Instr.lookup 70 (.map (some b)) (.int .i64 (i : Int)) true).run Try.prog w = .ok (.tuple #[.agg #[], .bool (S i)]) w := by
  obtain ⟨D, h1, h2⟩ := h
  obtain ⟨v, ps, hrun, hv⟩ := h1.look_ok setKey Try.underlying70 (zeroUnit w) (zd := .agg []) (zp := []) unitElem_mk (nat_key hi)
  obtain ⟨rfl, -⟩ := unitElem_inv hv
  rw [hrun, h2 i hi]
theorem OwnS.put {w : World} {b n : Nat} {S : Nat → Bool} (h : OwnS w b n S) {i : Nat} (hi : i ≤ 1000000) (hn : n ≤ 1000000) :
    ∃ w', (Instr.mapUpdate 70 (.map (some b)) (.int .i64 (i : Int)) (.agg #[])).run Try.prog w = .ok () w' ∧ OwnS w' b (n + 1) (fun j => S j || decide (j = i)) ∧ w.grownBy w' (some b) := by
  obtain ⟨D, h1, h2⟩ := h
  obtain ⟨w', hrun, h3, h4⟩ := h1.update setKey Try.underlying70 (by unfold maxLen; omega) (nat_key hi) (d := .agg []) (ps := []) unitElem_mk
  refine ⟨w', hrun, ⟨_, h3, fun j hj => ?_⟩, h4⟩
  by_cases e : j = i
  · subst e
    rw [has_put_same h1.isMap (setKey.key (nat_key hi))]
    simp
  · rw [has_put_other (by simp; omega), h2 j hj]
    simp [e]
theorem OwnS.del {w : World} {b n : Nat} {S : Nat → Bool} (h : OwnS w b n S) {i : Nat} (hi : i ≤ 1000000) (ty : TypeId) :
    ∃ w', (Builtin.delete_ #[70, 3] ty #[.map (some b), .int .i64 (i : Int)]).run Try.prog w = .ok (.tuple #[]) w' ∧ OwnS w' b n (fun j => S j && !decide (j = i)) ∧ w.grownBy w' (some b) := by
  obtain ⟨D, h1, h2⟩ := h
  obtain ⟨w', hrun, h3, h4⟩ := h1.drop setKey Try.underlying70 (nat_key hi) ty
  refine ⟨w', hrun, ⟨_, h3, fun j hj => ?_⟩, h4.grown⟩
  by_cases e : j = i
  · subst e
    rw [has_del_same]
    simp
  · rw [has_del_other (by simp; omega), h2 j hj]
    simp [e]
theorem OwnS.made (w : World) : OwnS (w.alloc (.map #[] 0)) w.heap.size 0 (fun _ => false) := ⟨_, World.ownsMap_made w _ _ _, fun _ _ => rfl⟩

/-! ### numbers that are read -/
structure I64In (w : World) (A : Option Addr) (xs : List Int) : Prop where
  at_ : 0 < xs.length → ∃ b off, A = some ⟨b, off, none⟩ ∧ b < w.heap.size ∧ ∀ j, (h : j < xs.length) → w.cell? ⟨b, off + j, none⟩ = some (.int .i64 xs[j])
theorem I64In.below {w w' : World} {A : Option Addr} {xs : List Int} (h : I64In w A xs) (hb : Below w.heap.size w w') : I64In w' A xs :=
  ⟨fun hn => by
    obtain ⟨b, off, hA, hlt, hc⟩ := h.at_ hn
    exact ⟨b, off, hA, Nat.lt_of_lt_of_le hlt hb.size, fun j hj => (hb.cell (p := ⟨b, off + j, none⟩) hlt).trans (hc j hj)⟩⟩

def Rises (xs : List Int) : Prop := xs.Pairwise (· ≤ ·)
theorem Rises.le {xs : List Int} (h : Rises xs) {i j : Nat} (hij : i ≤ j) (hj : j < xs.length) : xs[i]'(by omega) ≤ xs[j] := by
  by_cases e : i = j
  · subst e; exact Int.le_refl _
  · exact List.pairwise_iff_getElem.1 h i j (by omega) hj (by omega)

set_option maxRecDepth 100000 in
theorem cless_any (a b : Int) (w : World) : Calls Try.prog 52 #[.int .i64 a, .int .i64 b] w fun e w' => e = .returned (.bool (decide (a < b))) ∧ Below w.heap.size w w' := by
  have HN : Hid (∀ x W, Calls Try.prog 63 #[.int .i64 x] W fun e w' => e = .returned (.bool false) ∧ Below W.heap.size W w') := Lib.hid fun x W => by
    have hx : (x != x) = false := by simp
    go_enter Try.func63, Try.ntmps63
    go_wp2
    go_ret
    exact ⟨by simp, Below.refl _ _⟩
  go_enter Try.func52, Try.ntmps52
  go_wp2_with fail
  refine (HN.out _ _).mono ?_
  rintro e w1 ⟨rfl, hb1⟩
  have HB := Lib.hid hb1
  clear hb1
  go_wp2
  go_ret
  exact ⟨rfl, HB.out⟩

set_option maxRecDepth 100000 in
set_option maxHeartbeats 2000000 in
theorem bsearch_any (A : Option Addr) (n c : Nat) (xs : List Int) (x : Int) (w : World) (hn : xs.length = n) (hz : I64In w A xs) (h6 : n ≤ 1000000) :
    Calls Try.prog 42 #[.slice A n c, .int .i64 x] w fun e w' => ∃ (i : Nat) (f : Bool), e = .returned (.tuple #[.int .i64 i, .bool f]) ∧ i ≤ n ∧ (∀ m, i = m + 1 → xs.getD m 0 < x) ∧ (i < n → x ≤ xs.getD i 0) ∧ Below w.heap.size w w' := by
  have HZ := Lib.hid hz
  have HN := Lib.hid hn
  have HL := Lib.hid (fun a W => cless_any a x W)
  clear hz hn
  have HQ : Hid (∀ y W, Calls Try.prog 57 #[.int .i64 y] W fun e w' => e = .returned (.bool false) ∧ Below W.heap.size W w') := Lib.hid fun y W => by
    have hx : (y != y) = false := by simp
    go_enter Try.func57, Try.ntmps57
    go_wp2
    go_ret
    exact ⟨by simp, Below.refl _ _⟩
  go_enter Try.func42, Try.ntmps42
  go_wp2_with fail
  go_loopw [7, 8] (fun a b wr => ∃ i j : Nat, i ≤ j ∧ j ≤ n ∧ a = .int .i64 i ∧ b = .int .i64 j ∧ Hid (∀ m, i = m + 1 → xs.getD m 0 < x) ∧ Hid (j < n → x ≤ xs.getD j 0) ∧ Below w.heap.size w wr) (fun a b _ => (intOf b).toNat - (intOf a).toNat)
  case atStart => exact ⟨0, n, by omega, by omega, rfl, rfl, Lib.hid (fun m h => by omega), Lib.hid (fun h => by omega), Below.refl _ _⟩
  case round =>
    obtain ⟨i, j, hij, hj, rfl, rfl, hu0, hu1, hB⟩ := hrel
    have HB := Lib.hid hB
    by_cases hlt : i < j
    · have hd : (((i : Int) + (j : Int)) / 2) = (((i + j) / 2 : Nat) : Int) := by omega
      have hwr : IntKind.i64.wrap ((i : Int) + (j : Int)) = (i : Int) + (j : Int) := IntWalk.i64_in _ ⟨by omega, by omega⟩
      obtain ⟨h, hh⟩ : ∃ h, (i + j) / 2 = h := ⟨_, rfl⟩
      have h1 : i ≤ h := by omega
      have h2 : h < j := by omega
      rw [hh] at hd
      have hhl : h < xs.length := by rw [HN.out]; omega
      obtain ⟨b, off, hA, hbl, hc⟩ := (HZ.out.below hB).at_ (by omega)
      have z0 := hc h hhl
      have hgd : xs.getD h 0 = xs[h] := by simp [hhl]
      obtain ⟨s, hs⟩ : ∃ s, xs[h] = s := ⟨_, rfl⟩
      rw [hs] at z0 hgd
      have HGD := Lib.hid hgd
      have g0 : (0 : Int) ≤ (h : Int) := by omega
      have g1 : (h : Int) < (n : Int) := by omega
      have HLS := Lib.hid (HL.out s)
      subst hA
      clear hB hh hc hs hgd hhl
      go_wp2_with fail
      refine (HLS.out _).mono ?_
      rintro e w1 ⟨rfl, hB1⟩
      have HB1 := Lib.hid (HB.out.trans (hB1.mono HB.out.size))
      clear hB1 z0
      cases hu : decide (s < x)
      · have HU : Hid (h < n → x ≤ xs.getD h 0) := Lib.hid (fun _ => by rw [HGD.out]; have := of_decide_eq_false hu; omega)
        go_wp2
        go_roundw
        case rel => exact ⟨i, h, h1, by omega, rfl, rfl, hu0, HU, HB1.out⟩
        case measure => simp [intOf]; omega
      · have HU : Hid (∀ m, h + 1 = m + 1 → xs.getD m 0 < x) := Lib.hid (fun m hm => by rw [show m = h by omega, HGD.out]; exact of_decide_eq_true hu)
        go_wp2
        go_roundw
        case rel => exact ⟨h + 1, j, by omega, hj, by go_num, rfl, HU, hu1, HB1.out⟩
        case measure => simp [intOf]; omega
    · have hij : i = j := by omega
      subst hij
      by_cases hin : i < n
      · have hil : i < xs.length := by rw [HN.out]; exact hin
        obtain ⟨b, off, hA, hbl, hc⟩ := (HZ.out.below hB).at_ (by omega)
        have z0 := hc i hil
        obtain ⟨s, hs⟩ : ∃ s, xs[i] = s := ⟨_, rfl⟩
        rw [hs] at z0
        have g0 : (0 : Int) ≤ (i : Int) := by omega
        have g1 : (i : Int) < (n : Int) := by omega
        subst hA
        clear hB hc hs hil
        cases he : (s == x)
        · go_wp2_with (refine (HQ.out _ _).mono ?_; rintro e w1 ⟨rfl, hB1⟩; have HB1 := Lib.hid (HB.out.trans (hB1.mono HB.out.size)); clear hB1)
          go_ret2
          exact ⟨i, _, rfl, hj, hu0.out, hu1.out, HB1.out⟩
        · go_wp2
          go_ret2
          exact ⟨i, _, rfl, hj, hu0.out, hu1.out, HB.out⟩
      · clear hB
        go_wp2
        go_ret2
        exact ⟨i, _, rfl, hj, hu0.out, hu1.out, HB.out⟩
end Go.Proofs.Ytfbhdggmefacjaa
