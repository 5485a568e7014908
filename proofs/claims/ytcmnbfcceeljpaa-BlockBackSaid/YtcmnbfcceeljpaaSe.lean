/- The walk of the document's Get (of layer 6); sort.Search over any closure. -/
import Derived.Test.YtcmnbfcceeljpaaRp
namespace Go.Proofs.Ytcmnbfcceeljpaa
open Go.RowKit
open SK

theorem find_none {p : E → Bool} {l : List E} (h : ∀ i, (hi : i < l.length) → p l[i] = false) : l.find? p = none := by
  rw [List.find?_eq_none]
  intro x hx
  obtain ⟨i, hi, rfl⟩ := List.getElem_of_mem hx
  simp [h i hi]
theorem find_at {p : E → Bool} {l : List E} {j : Nat} (hj : j < l.length) (h : ∀ i, (hi : i < j) → p (l[i]'(by omega)) = false) (hp : p l[j] = true) : l.find? p = some l[j] := by
  have hs : l = l.take j ++ l[j] :: l.drop (j + 1) := by rw [← List.drop_eq_getElem_cons, List.take_append_drop]
  have h1 : (l.take j).find? p = none := find_none fun i hi => by
    rw [List.length_take] at hi
    rw [List.getElem_take]
    exact h i (by omega)
  have h2 : (l.take j ++ l[j] :: l.drop (j + 1)).find? p = some l[j] := by rw [List.find?_append, h1, Option.none_or, List.find?_cons, hp]
  rw [← hs] at h2
  exact h2


set_option maxRecDepth 100000 in
set_option maxHeartbeats 2000000 in
theorem rget06_any {w : World} {r : Nat} {v0 v2 : Value} {LA : Option Addr} {n lc : Nat} {L : List E} (hhead : w.heap[r]? = some (.cells #[v0, .slice LA n lc, v2] 54 (0, 0))) (hin : EntsIn w LA L) (hn : L.length = n) (k : ByteArray) (q : Int) (hlen : n ≤ 1000000) :
    Calls Try.prog 19 #[.pointer (some ⟨r, 0, none⟩), .string k, .int .i64 q] w fun e w' => e = .returned (.tuple #[(get L k q).1.val, .bool (get L k q).2]) ∧ Below w.heap.size w w' := by
  have hbel := (Below.refl w.heap.size w).alloc (Nat.le_refl _) (.cells #[.string ⟨#[]⟩, .int .i64 0, .bool false, .string ⟨#[]⟩, .int .i64 0] 44)
  have hrow := heap_alloc_new w (.cells #[.string ⟨#[]⟩, .int .i64 0, .bool false, .string ⟨#[]⟩, .int .i64 0] 44)
  have HEAD := Lib.hid ((hbel.block r (Array.getElem?_eq_some_iff.1 hhead).1).trans hhead)
  have HIN := Lib.hid (hin.below hbel)
  have HN := Lib.hid hn
  have HBEL := Lib.hid hbel
  have HROW := Lib.hid hrow
  clear hhead hin hbel hrow hn
  go_enter Try.func19, Try.ntmps19
  go_wp2_with fail
  obtain ⟨x, hx⟩ : ∃ x, w.heap.size = x := ⟨_, rfl⟩
  have HX := Lib.hid hx
  generalize w.alloc (.cells #[.string ⟨#[]⟩, .int .i64 0, .bool false, .string ⟨#[]⟩, .int .i64 0] 44) = W0 at HEAD HIN HBEL HROW ⊢
  rw [hx] at HBEL HROW ⊢
  clear hx
  go_loopw [8] (fun i wr => ∃ j : Nat, j ≤ n ∧ i = .int .i64 j ∧ wr = W0 ∧ ∀ m, (hm : m < L.length) → m < j → decide (L[m].key = k ∧ L[m].seq ≤ q) = false) (fun i _ => n - (intOf i).toNat)
  case atStart => exact ⟨0, by omega, rfl, rfl, fun m _ h => by omega⟩
  case round =>
    obtain ⟨j, hj, rfl, rfl, hbef⟩ := hrel
    have c1 : wr.cell? ⟨r, 1, none⟩ = some (.slice LA n lc) := cell_of_row _ _ _ _ _ _ HEAD.out
    have n0 : wr.cell? ⟨x, 0, none⟩ = some (.string ⟨#[]⟩) := cell_of_row _ _ _ _ _ _ HROW.out
    have f0 : wr.frozen? ⟨x, 0, none⟩ = false := frozen_of_row _ _ _ _ _ HROW.out
    have n1 : wr.cell? ⟨x, 1, none⟩ = some (.int .i64 0) := cell_of_row _ _ _ _ _ _ HROW.out
    have f1 : wr.frozen? ⟨x, 1, none⟩ = false := frozen_of_row _ _ _ _ _ HROW.out
    have n2 : wr.cell? ⟨x, 2, none⟩ = some (.bool false) := cell_of_row _ _ _ _ _ _ HROW.out
    have f2 : wr.frozen? ⟨x, 2, none⟩ = false := frozen_of_row _ _ _ _ _ HROW.out
    have n3 : wr.cell? ⟨x, 3, none⟩ = some (.string ⟨#[]⟩) := cell_of_row _ _ _ _ _ _ HROW.out
    have f3 : wr.frozen? ⟨x, 3, none⟩ = false := frozen_of_row _ _ _ _ _ HROW.out
    have n4 : wr.cell? ⟨x, 4, none⟩ = some (.int .i64 0) := cell_of_row _ _ _ _ _ _ HROW.out
    have f4 : wr.frozen? ⟨x, 4, none⟩ = false := frozen_of_row _ _ _ _ _ HROW.out
    have HEND : Hid (∀ u0 u1 u2 u3 u4, Below w.heap.size w (((((wr.setCell ⟨x, 0, none⟩ u0).setCell ⟨x, 1, none⟩ u1).setCell ⟨x, 2, none⟩ u2).setCell ⟨x, 3, none⟩ u3).setCell ⟨x, 4, none⟩ u4)) := fun u0 u1 u2 u3 u4 => by
      rw [HX.out]
      exact (((((HBEL.out.setCell (p := ⟨x, 0, none⟩) (Nat.le_refl _) u0).setCell (p := ⟨x, 1, none⟩) (Nat.le_refl _) u1).setCell (p := ⟨x, 2, none⟩) (Nat.le_refl _) u2).setCell (p := ⟨x, 3, none⟩) (Nat.le_refl _) u3).setCell (p := ⟨x, 4, none⟩) (Nat.le_refl _) u4)
    by_cases hlt : j < n
    · have hjl : j < L.length := by rw [HN.out]; exact hlt
      obtain ⟨b, off, hA, hbl, hc⟩ := HIN.out.at_ (by omega)
      obtain ⟨z0, z1, z2, z3, z4⟩ := hc j hjl
      have hfind := fun hp => find_at (p := fun x => decide (x.key = k ∧ x.seq ≤ q)) hjl (fun i hi => hbef i (by omega) hi) hp
      obtain ⟨e, he⟩ : ∃ e, L[j] = e := ⟨_, rfl⟩
      rw [he] at z0 z1 z2 z3 z4 hfind
      have hg0 : (e.key = k ∧ e.seq ≤ q) → get L k q = (e, true) := fun hp => by
        have := hfind (decide_eq_true hp)
        unfold SK.get
        rw [this]
      have hnx : ¬ (e.key = k ∧ e.seq ≤ q) → ∀ m, (hm : m < L.length) → m < j + 1 → decide (L[m].key = k ∧ L[m].seq ≤ q) = false := fun hp m hm hmj => by
        by_cases hmj' : m < j
        · exact hbef m hm hmj'
        · obtain rfl : m = j := by omega
          rw [he]
          exact decide_eq_false hp
      have HG0 := Lib.hid hg0
      have HNX := Lib.hid hnx
      have hte := text_eq e.key k
      subst hA
      clear hc hfind hg0 hnx he hbef hbl
      obtain ⟨k2, q2, g2, v2, t2⟩ := e
      simp only at z0 z1 z2 z3 z4 hte HG0 HNX
      have g0 : (0 : Int) ≤ (j : Int) := by omega
      have g1 : (j : Int) < (n : Int) := by omega
      by_cases hk : k2 = k
      · have hkk : (k2.toList == k.toList) = true := by rw [hte]; exact decide_eq_true hk
        by_cases hq : q2 ≤ q
        · have HG := Lib.hid (HG0.out ⟨hk, hq⟩)
          clear hte hk HG0 HNX
          go_wp2
          rw [HG.out]
          exact bodyPost_ret (v := .tuple #[.agg #[.string k2, .int .i64 q2, .bool g2, .string v2, .int .i64 t2], .bool true]) (by simp [results, Try.results19, go_sem, *]) rfl ⟨rfl, HEND.out _ _ _ _ _⟩
        · have HN2 := Lib.hid (HNX.out (fun h => hq h.2))
          clear hte hk HG0 HNX n0 f0 n1 f1 n2 f2 n3 f3 n4 f4
          go_wp2
          go_roundw
          case rel => exact ⟨j + 1, by omega, by go_num, trivial, HN2.out⟩
          case measure => simp [intOf]; omega
      · have hkk : (k2.toList == k.toList) = false := by rw [hte]; exact decide_eq_false hk
        have HN2 := Lib.hid (HNX.out (fun h => hk h.1))
        clear hte hk HG0 HNX n0 f0 n1 f1 n2 f2 n3 f3 n4 f4
        go_wp2
        go_roundw
        case rel => exact ⟨j + 1, by omega, by go_num, trivial, HN2.out⟩
        case measure => simp [intOf]; omega
    · have hjn : j = n := by omega
      have HG : Hid (get L k q = (E.zero, false)) := Lib.hid (by
        have := find_none (p := fun x => decide (x.key = k ∧ x.seq ≤ q)) (l := L) (fun i hi => hbef i hi (by rw [HN.out] at hi; omega))
        unfold SK.get
        rw [this])
      subst hjn
      clear hbef
      go_wp2
      rw [HG.out]
      exact bodyPost_ret (v := .tuple #[.agg #[.string ⟨#[]⟩, .int .i64 0, .bool false, .string ⟨#[]⟩, .int .i64 0], .bool false]) (by simp [results, Try.results19, go_sem, *]) rfl ⟨rfl, HEND.out _ _ _ _ _⟩

set_option maxRecDepth 100000 in
/-- sort.Search over any closure that answers a bool and leaves what is below -/
theorem search_any (n : Nat) (w : World) (hlen : n ≤ 1000000) (fn : FuncId) (caps : Array Value) (u : Nat → Bool)
    (hcf : ∀ W q, (callFunc fn (#[.int .i64 q] ++ caps)).run Try.prog W = .ok (.enter fn (#[.int .i64 q] ++ caps)) W)
    (hcall : ∀ W, Below w.heap.size w W → ∀ p, p < n → Calls Try.prog fn (#[.int .i64 (p : Nat)] ++ caps) W fun e W' => e = .returned (.bool (u p)) ∧ Below W.heap.size W W') :
    Calls Try.prog 34 #[.int .i64 n, .func (.func fn) #[] caps] w fun e w' => ∃ i : Nat, e = .returned (.int .i64 i) ∧ i ≤ n ∧ (∀ m, i = m + 1 → u m = false) ∧ (i < n → u i = true) ∧ Below w.heap.size w w' := by
  have HCF := Lib.hid hcf
  have HC := Lib.hid hcall
  clear hcf hcall
  go_enter Try.func34, Try.ntmps34
  go_wp2_with fail
  go_loopw [5, 6] (fun a b wr => ∃ i j : Nat, i ≤ j ∧ j ≤ n ∧ a = .int .i64 i ∧ b = .int .i64 j ∧ Hid (∀ m, i = m + 1 → u m = false) ∧ Hid (j < n → u j = true) ∧ Below w.heap.size w wr) (fun a b _ => (intOf b).toNat - (intOf a).toNat)
  case atStart => exact ⟨0, n, by omega, by omega, rfl, rfl, Lib.hid (fun m h => by omega), Lib.hid (fun h => by omega), Below.refl _ _⟩
  case round =>
    obtain ⟨i, j, hij, hj, rfl, rfl, hu0, hu1, hB⟩ := hrel
    by_cases hlt : i < j
    · have hd : (((i : Int) + (j : Int)) / 2) = (((i + j) / 2 : Nat) : Int) := by omega
      have hwr : IntKind.i64.wrap ((i : Int) + (j : Int)) = (i : Int) + (j : Int) := IntWalk.i64_in _ ⟨by omega, by omega⟩
      obtain ⟨h, hh⟩ : ∃ h, (i + j) / 2 = h := ⟨_, rfl⟩
      have h1 : i ≤ h := by omega
      have h2 : h < j := by omega
      rw [hh] at hd
      have HCC := Lib.hid (HC.out wr hB h (by omega))
      have hcf := HCF.out
      have HB := Lib.hid hB
      clear hB hh
      go_wp2_with fail
      refine HCC.out.mono ?_
      rintro e w1 ⟨rfl, hB1⟩
      have HB1 := Lib.hid (HB.out.trans (hB1.mono HB.out.size))
      clear hB1
      cases hu : u h
      · have HU : Hid (∀ m, h + 1 = m + 1 → u m = false) := Lib.hid (fun m hm => by rw [show m = h by omega]; exact hu)
        go_wp2
        go_roundw
        case rel => exact ⟨h + 1, j, by omega, hj, by go_num, rfl, HU, hu1, HB1.out⟩
        case measure => simp [intOf]; omega
      · have HU : Hid (h < n → u h = true) := Lib.hid (fun _ => hu)
        go_wp2
        go_roundw
        case rel => exact ⟨i, h, h1, by omega, rfl, rfl, hu0, HU, HB1.out⟩
        case measure => simp [intOf]; omega
    · have hij : i = j := by omega
      subst hij
      have HB := Lib.hid hB
      clear hB
      go_wp2
      go_ret
      exact ⟨i, rfl, hj, hu0.out, hu1.out, HB.out⟩
end Go.Proofs.Ytcmnbfcceeljpaa
