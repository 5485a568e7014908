/- block.Find: the newest entry of a key up to a number. -/
import Derived.Test.YtcmnbfcceeljpaaSe
namespace Go.Proofs.Ytcmnbfcceeljpaa
open Go.RowKit
open SK

theorem cf_enter {P : Program} {f : FuncId} {fn : Func} (hf : P.funcs[f]? = some fn) (hname : (fn.name == "runtime.NumGoroutine") = false) (hb : fn.body.isSome = true) (args : Array Value) (w : World) : (callFunc f args).run P w = .ok (.enter f args) w := by
  have h1 : fn.name ≠ "runtime.NumGoroutine" := by simpa using hname
  obtain ⟨c, hc⟩ := Option.isSome_iff_exists.1 hb
  simp [callFunc, hf, h1, hc]

namespace BK
/-- where the search ends: those ahead stand ahead, the others don't -/
theorem search_rest {l : List E} {e : E} {i : Nat} (hs : Sorted l) (hi : i ≤ l.length) (h0 : ∀ m (hm : m < l.length), i = m + 1 → less l[m] e = true) (h1 : ∀ (h : i < l.length), less l[i] e = false) : rest e l = l.drop i := by
  have hsp := List.pairwise_iff_getElem.1 hs
  have hp : ∀ x ∈ l.take i, less x e = true := by
    intro x hx
    obtain ⟨k, hk, rfl⟩ := List.getElem_of_mem hx
    rw [List.length_take] at hk
    rw [List.getElem_take]
    obtain ⟨m, hm⟩ : ∃ m, i = m + 1 := ⟨i - 1, by omega⟩
    have hm1 := h0 m (by omega) hm
    by_cases hkm : k = m
    · subst hkm; exact hm1
    · exact less_trans (hsp k m (by omega) (by omega) (by omega)) hm1
  have hq : ∀ x ∈ l.drop i, less x e = false := by
    intro x hx
    obtain ⟨k, hk, rfl⟩ := List.getElem_of_mem hx
    rw [List.length_drop] at hk
    rw [List.getElem_drop]
    have hi1 := h1 (by omega)
    cases k with
    | zero => simpa using hi1
    | succ k =>
      cases hl : less (l[i + (k + 1)]'(by omega)) e with
      | false => rfl
      | true =>
        have := less_trans (hsp i (i + (k + 1)) (by omega) (by omega) (by omega)) hl
        rw [hi1] at this; cases this
  have := (split_unique hp hq).2
  rwa [List.take_append_drop] at this
theorem find_here {l : List E} {k : ByteArray} {q : Int} {i : Nat} (hs : Sorted l) (hi : i < l.length) (hr : rest (askE k q) l = l.drop i) : SK.get l k q = if l[i].key = k then (l[i], true) else (E.zero, false) := by
  rw [get_rest hs, hr, List.drop_eq_getElem_cons hi]
theorem find_end {l : List E} {k : ByteArray} {q : Int} (hs : Sorted l) (hr : rest (askE k q) l = []) : SK.get l k q = (E.zero, false) := by
  rw [get_rest hs, hr]
end BK

set_option maxRecDepth 100000 in
set_option maxHeartbeats 1000000 in
/-- the closure: does an entry not stand ahead of what is sought? -/
theorem find1_any (w : World) (a b : Nat) (A : Option Addr) (n c : Nat) (l : List E) (j : Nat) (k : ByteArray) (q : Int) (hn : l.length = n) (hb4 : n ≤ 4096)
    (ha : w.heap[a]? = some (.cells #[.slice A n c] 23 (0, 0))) (hb : w.heap[b]? = some (.cells #[.string k, .int .i64 q, .bool false, .string ⟨#[]⟩, .int .i64 0] 45 (0, 0))) (hin : EntsIn w A l) (hj : j < n) (hjl : j < l.length) :
    Calls Try.prog 35 #[.int .i64 j, .pointer (some ⟨a, 0, none⟩), .pointer (some ⟨b, 0, none⟩)] w fun e w' => e = .returned (.bool (!less l[j] (askE k q))) ∧ Below w.heap.size w w' := by
  obtain ⟨bb, off, hA, hbl, hc⟩ := hin.at_ (by omega)
  obtain ⟨z0, z1, z2, z3, z4⟩ := hc j hjl
  have HL : Hid (∀ W, Calls Try.prog 36 #[(l[j]).val, (askE k q).val] W fun r w' => r = .returned (.bool (less l[j] (askE k q))) ∧ Below W.heap.size W w') := fun W => less_any _ _ W
  obtain ⟨LL, hLL⟩ : ∃ LL, less l[j] (askE k q) = LL := ⟨_, rfl⟩
  obtain ⟨e, he⟩ : ∃ e, l[j] = e := ⟨_, rfl⟩
  rw [hLL] at HL ⊢
  rw [he] at HL z0 z1 z2 z3 z4
  subst hA
  obtain ⟨k2, q2, g2, v2, t2⟩ := e
  simp only [E.val, askE] at HL z0 z1 z2 z3 z4
  have ca : w.cell? ⟨a, 0, none⟩ = some (.slice (some ⟨bb, off, none⟩) n c) := cell_of_row _ _ _ _ _ _ ha
  have d0 : w.cell? ⟨b, 0, none⟩ = some (.string k) := cell_of_row _ _ _ _ _ _ hb
  have d1 : w.cell? ⟨b, 1, none⟩ = some (.int .i64 q) := cell_of_row _ _ _ _ _ _ hb
  have d2 : w.cell? ⟨b, 2, none⟩ = some (.bool false) := cell_of_row _ _ _ _ _ _ hb
  have d3 : w.cell? ⟨b, 3, none⟩ = some (.string ⟨#[]⟩) := cell_of_row _ _ _ _ _ _ hb
  have d4 : w.cell? ⟨b, 4, none⟩ = some (.int .i64 0) := cell_of_row _ _ _ _ _ _ hb
  have HKEEP : Hid (∀ W, Below w.heap.size w W → W.cell? ⟨a, 0, none⟩ = some (.slice (some ⟨bb, off, none⟩) n c) ∧ W.cell? ⟨b, 0, none⟩ = some (.string k) ∧ W.cell? ⟨b, 1, none⟩ = some (.int .i64 q) ∧ W.cell? ⟨b, 2, none⟩ = some (.bool false) ∧ W.cell? ⟨b, 3, none⟩ = some (.string ⟨#[]⟩) ∧ W.cell? ⟨b, 4, none⟩ = some (.int .i64 0) ∧ W.cell? ⟨bb, off + j * 5, none⟩ = some (.string k2) ∧ W.cell? ⟨bb, off + j * 5 + 1, none⟩ = some (.int .i64 q2) ∧ W.cell? ⟨bb, off + j * 5 + 2, none⟩ = some (.bool g2) ∧ W.cell? ⟨bb, off + j * 5 + 3, none⟩ = some (.string v2) ∧ W.cell? ⟨bb, off + j * 5 + 4, none⟩ = some (.int .i64 t2)) := Lib.hid (fun W h => by
    have hm := fun (p : Addr) (hp : p.block < w.heap.size) => h.cell (p := p) hp
    have hal := (Array.getElem?_eq_some_iff.1 ha).1
    have hbl2 := (Array.getElem?_eq_some_iff.1 hb).1
    exact ⟨(hm ⟨_, _, none⟩ hal).trans ca, (hm ⟨_, _, none⟩ hbl2).trans d0, (hm ⟨_, _, none⟩ hbl2).trans d1, (hm ⟨_, _, none⟩ hbl2).trans d2, (hm ⟨_, _, none⟩ hbl2).trans d3, (hm ⟨_, _, none⟩ hbl2).trans d4,
      (hm ⟨_, _, none⟩ hbl).trans z0, (hm ⟨_, _, none⟩ hbl).trans z1, (hm ⟨_, _, none⟩ hbl).trans z2, (hm ⟨_, _, none⟩ hbl).trans z3, (hm ⟨_, _, none⟩ hbl).trans z4⟩)
  have g0 : (0 : Int) ≤ (j : Int) := by omega
  have g1 : (j : Int) < (n : Int) := by omega
  clear ha hb hin hc hbl he hLL hn hjl hj
  go_enter Try.func35, Try.ntmps35
  go_wp2_with fail
  go_region_held3 (fun W => W.cell? ⟨a, 0, none⟩ = some (.slice (some ⟨bb, off, none⟩) n c) ∧ W.cell? ⟨b, 0, none⟩ = some (.string k) ∧ W.cell? ⟨b, 1, none⟩ = some (.int .i64 q) ∧ W.cell? ⟨b, 2, none⟩ = some (.bool false) ∧ W.cell? ⟨b, 3, none⟩ = some (.string ⟨#[]⟩) ∧ W.cell? ⟨b, 4, none⟩ = some (.int .i64 0) ∧ W.cell? ⟨bb, off + j * 5, none⟩ = some (.string k2) ∧ W.cell? ⟨bb, off + j * 5 + 1, none⟩ = some (.int .i64 q2) ∧ W.cell? ⟨bb, off + j * 5 + 2, none⟩ = some (.bool g2) ∧ W.cell? ⟨bb, off + j * 5 + 3, none⟩ = some (.string v2) ∧ W.cell? ⟨bb, off + j * 5 + 4, none⟩ = some (.int .i64 t2))
    (first | exact HS2.out | go_keep | fail)
    (first
      | (go_at_call 36; refine (HL.out _).mono ?_; rintro r w2 ⟨rfl, hb2⟩
         have HBW2 : Hid (Below w.heap.size w w2) := Lib.hid (Below.trans (Below.drew (Below.refl _ w)) (hb2.mono (by first | exact Nat.le_refl _ | simp | fail)))
         have HS2 := Lib.hid (HKEEP.out _ HBW2.out)
         clear hb2)
      | fail)
  all_goals
    clear HS2
    go_wp2
    go_ret
    exact ⟨rfl, HBW2.out⟩
end Go.Proofs.Ytcmnbfcceeljpaa
