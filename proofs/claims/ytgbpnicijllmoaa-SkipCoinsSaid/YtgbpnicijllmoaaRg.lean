/- The document's Get and From. -/
import Derived.Test.YtgbpnicijllmoaaRs
namespace Go.Proofs.Ytgbpnicijllmoaa
open Go.RowKit
open SK

def ecs (l : List E) : List Value := l.flatMap E.cells
theorem ecs_len (l : List E) : (ecs l).length = l.length * 5 := by
  induction l with
  | nil => rfl
  | cons p r ih => show (p.cells ++ ecs r).length = _; rw [List.length_append, ih, List.length_cons]; simp [E.cells]; omega
theorem ecs_snoc (l : List E) (p : E) : ecs (l ++ [p]) = ecs l ++ p.cells := by simp [ecs]
theorem ecs_at : ∀ (l : List E) (j : Nat) (h : j < l.length) (i : Nat), i < 5 → (ecs l)[j * 5 + i]? = (l[j]).cells[i]?
  | p :: r, 0, _, i, hi => by
    show (p.cells ++ ecs r)[0 * 5 + i]? = _
    rw [List.getElem?_append_left (by simp [E.cells]; omega)]
    simp
  | p :: r, j + 1, h, i, hi => by
    have := ecs_at r j (by simpa using h) i hi
    show (p.cells ++ ecs r)[(j + 1) * 5 + i]? = _
    rw [List.getElem?_append_right (by simp [E.cells]; omega)]
    simp only [List.getElem_cons_succ]
    rw [← this]
    congr 1
    simp [E.cells]
    omega

theorem own_ents {w : World} {base : Nat} {e : TypeId} {v : Value} {n : Nat} {l : List E} (hw : ∀ x ∈ l, x.wf) (hn : l.length = n) (h : w.ownsRow base e 5 v n (ecs l)) :
    ∃ A c, v = .slice A n c ∧ EntsIn w A l ∧ ∀ x ∈ fb A, base ≤ x ∧ x < w.heap.size := by
  subst hn
  have h' := h
  rcases h.2 with ⟨rfl, h0⟩ | ⟨g, cap, cur, rfl, hbg, hg, _, _, _, _⟩
  · exact ⟨none, 0, by rw [h0], ⟨hw, fun hn => by omega⟩, by simp [fb]⟩
  · have hlt := (Array.getElem?_eq_some_iff.1 hg).1
    refine ⟨some ⟨g, 0, none⟩, cap, rfl, ⟨hw, fun _ => ⟨g, 0, rfl, hlt, fun j hj => ?_⟩⟩, by simp [fb]; exact ⟨hbg, hlt⟩⟩
    have hcell : ∀ i x, i < 5 → (l[j]).cells[i]? = some x → w.cell? ⟨g, 0 + j * 5 + i, none⟩ = some x := by
      intro i x hi hx
      have hc := h'.cells (g := g) rfl (j * 5 + i) x (by rw [ecs_at l j hj i hi]; exact hx)
      rw [addr_add0] at hc
      rw [Nat.zero_add]
      exact hc
    exact ⟨hcell 0 _ (by omega) rfl, hcell 1 _ (by omega) rfl, hcell 2 _ (by omega) rfl, hcell 3 _ (by omega) rfl, hcell 4 _ (by omega) rfl⟩

theorem info_rent : (Try.prog.info? 41).map (fun i => (i.zero, i.size, i.bytes)) = some (some (.agg #[.string ⟨#[]⟩, .int .i64 0, .bool false, .string ⟨#[]⟩, .int .i64 0]), 5, 56) := by kernel_rfl

theorem five_cells (w : World) (a b c d e : Value) (t : TypeId) : ∀ j u, [a, b, c, d, e][j]? = some u → (w.alloc (.cells #[a, b, c, d, e] t)).cell? ((⟨w.heap.size, 0, none⟩ : Addr).add j) = some u := by
  intro j u hj
  rw [addr_add0, cell_of_row _ _ _ _ _ _ (heap_alloc_new w _)]
  simpa using hj

theorem find_none {p : E → Bool} {l : List E} (h : ∀ i, (hi : i < l.length) → p l[i] = false) : l.find? p = none := by
  rw [List.find?_eq_none]
  intro x hx
  obtain ⟨i, hi, rfl⟩ := List.getElem_of_mem hx
  simp [h i hi]
theorem find_at {p : E → Bool} {l : List E} {j : Nat} (hj : j < l.length) (h : ∀ i, (hi : i < j) → p (l[i]'(by omega)) = false) (hp : p l[j] = true) : l.find? p = some l[j] := by
  have hs : l = l.take j ++ l[j] :: l.drop (j + 1) := by rw [← List.drop_eq_getElem_cons, List.take_append_drop]
  have h1 : (l.take j).find? p = none := find_none fun i hi => by
    rw [List.length_take] at hi
    rw [List.getElem_take]
    exact h i (by omega)
  have h2 : (l.take j ++ l[j] :: l.drop (j + 1)).find? p = some l[j] := by rw [List.find?_append, h1, Option.none_or, List.find?_cons, hp]
  rw [← hs] at h2
  exact h2

set_option maxRecDepth 100000 in
set_option maxHeartbeats 2000000 in
theorem rget_any {B : Nat} {w : World} {r : Nat} {cs : List Int} {CA : Option Addr} {cc : Nat} {LA : Option Addr} {lc : Nat} {s : St} (h : RRep B w r cs CA cc LA lc s) (k : ByteArray) (q : Int) (hlen : s.l.length ≤ 1000000) :
    Calls Try.prog 14 #[.pointer (some ⟨r, 0, none⟩), .string k, .int .i64 q] w fun e w' => e = .returned (.tuple #[(get s.l k q).1.val, .bool (get s.l k q).2]) ∧ Below w.heap.size w w' := by
  have hbel := (Below.refl w.heap.size w).alloc (Nat.le_refl _) (.cells #[.string ⟨#[]⟩, .int .i64 0, .bool false, .string ⟨#[]⟩, .int .i64 0] 41)
  have h1 := h.below hbel
  have hrow := heap_alloc_new w (.cells #[.string ⟨#[]⟩, .int .i64 0, .bool false, .string ⟨#[]⟩, .int .i64 0] 41)
  obtain ⟨n, hn⟩ : ∃ n, s.l.length = n := ⟨_, rfl⟩
  have hh := h1.head
  rw [hn] at hh hlen
  have HEAD := Lib.hid hh
  have HIN := Lib.hid h1.ents
  have HN := Lib.hid hn
  have HBEL := Lib.hid hbel
  have HROW := Lib.hid hrow
  obtain ⟨L, hL⟩ : ∃ L, s.l = L := ⟨_, rfl⟩
  rw [hL] at HIN HN ⊢
  clear h h1 hh hbel hrow hn hL
  go_enter Try.func14, Try.ntmps14
  go_wp2_with fail
  obtain ⟨x, hx⟩ : ∃ x, w.heap.size = x := ⟨_, rfl⟩
  have HX := Lib.hid hx
  generalize w.alloc (.cells #[.string ⟨#[]⟩, .int .i64 0, .bool false, .string ⟨#[]⟩, .int .i64 0] 41) = W0 at HEAD HIN HBEL HROW ⊢
  rw [hx] at HBEL HROW ⊢
  clear hx
  go_loopw [8] (fun i wr => ∃ j : Nat, j ≤ n ∧ i = .int .i64 j ∧ wr = W0 ∧ ∀ m, (hm : m < L.length) → m < j → decide (L[m].key = k ∧ L[m].seq ≤ q) = false) (fun i _ => n - (intOf i).toNat)
  case atStart => exact ⟨0, by omega, rfl, rfl, fun m _ h => by omega⟩
  case round =>
    obtain ⟨j, hj, rfl, rfl, hbef⟩ := hrel
    have c1 : wr.cell? ⟨r, 1, none⟩ = some (.slice LA n lc) := cell_of_row _ _ _ _ _ _ HEAD.out
    have n0 : wr.cell? ⟨x, 0, none⟩ = some (.string ⟨#[]⟩) := cell_of_row _ _ _ _ _ _ HROW.out
    have f0 : wr.frozen? ⟨x, 0, none⟩ = false := frozen_of_row _ _ _ _ _ HROW.out
    have n1 : wr.cell? ⟨x, 1, none⟩ = some (.int .i64 0) := cell_of_row _ _ _ _ _ _ HROW.out
    have f1 : wr.frozen? ⟨x, 1, none⟩ = false := frozen_of_row _ _ _ _ _ HROW.out
    have n2 : wr.cell? ⟨x, 2, none⟩ = some (.bool false) := cell_of_row _ _ _ _ _ _ HROW.out
    have f2 : wr.frozen? ⟨x, 2, none⟩ = false := frozen_of_row _ _ _ _ _ HROW.out
    have n3 : wr.cell? ⟨x, 3, none⟩ = some (.string ⟨#[]⟩) := cell_of_row _ _ _ _ _ _ HROW.out
    have f3 : wr.frozen? ⟨x, 3, none⟩ = false := frozen_of_row _ _ _ _ _ HROW.out
    have n4 : wr.cell? ⟨x, 4, none⟩ = some (.int .i64 0) := cell_of_row _ _ _ _ _ _ HROW.out
    have f4 : wr.frozen? ⟨x, 4, none⟩ = false := frozen_of_row _ _ _ _ _ HROW.out
    have HEND : Hid (∀ u0 u1 u2 u3 u4, Below w.heap.size w (((((wr.setCell ⟨x, 0, none⟩ u0).setCell ⟨x, 1, none⟩ u1).setCell ⟨x, 2, none⟩ u2).setCell ⟨x, 3, none⟩ u3).setCell ⟨x, 4, none⟩ u4)) := fun u0 u1 u2 u3 u4 => by
      rw [HX.out]
      exact (((((HBEL.out.setCell (p := ⟨x, 0, none⟩) (Nat.le_refl _) u0).setCell (p := ⟨x, 1, none⟩) (Nat.le_refl _) u1).setCell (p := ⟨x, 2, none⟩) (Nat.le_refl _) u2).setCell (p := ⟨x, 3, none⟩) (Nat.le_refl _) u3).setCell (p := ⟨x, 4, none⟩) (Nat.le_refl _) u4)
    by_cases hlt : j < n
    · have hjl : j < L.length := by rw [HN.out]; exact hlt
      obtain ⟨b, off, hA, hbl, hc⟩ := HIN.out.at_ (by omega)
      obtain ⟨z0, z1, z2, z3, z4⟩ := hc j hjl
      have hfind := fun hp => find_at (p := fun x => decide (x.key = k ∧ x.seq ≤ q)) hjl (fun i hi => hbef i (by omega) hi) hp
      obtain ⟨e, he⟩ : ∃ e, L[j] = e := ⟨_, rfl⟩
      rw [he] at z0 z1 z2 z3 z4 hfind
      have hg0 : (e.key = k ∧ e.seq ≤ q) → get L k q = (e, true) := fun hp => by
        have := hfind (decide_eq_true hp)
        unfold SK.get
        rw [this]
      have hnx : ¬ (e.key = k ∧ e.seq ≤ q) → ∀ m, (hm : m < L.length) → m < j + 1 → decide (L[m].key = k ∧ L[m].seq ≤ q) = false := fun hp m hm hmj => by
        by_cases hmj' : m < j
        · exact hbef m hm hmj'
        · obtain rfl : m = j := by omega
          rw [he]
          exact decide_eq_false hp
      have HG0 := Lib.hid hg0
      have HNX := Lib.hid hnx
      have hte := text_eq e.key k
      subst hA
      clear hc hfind hg0 hnx he hbef hbl
      obtain ⟨k2, q2, g2, v2, t2⟩ := e
      simp only at z0 z1 z2 z3 z4 hte HG0 HNX
      have g0 : (0 : Int) ≤ (j : Int) := by omega
      have g1 : (j : Int) < (n : Int) := by omega
      by_cases hk : k2 = k
      · have hkk : (k2.toList == k.toList) = true := by rw [hte]; exact decide_eq_true hk
        by_cases hq : q2 ≤ q
        · have HG := Lib.hid (HG0.out ⟨hk, hq⟩)
          clear hte hk HG0 HNX
          go_wp2
          rw [HG.out]
          exact bodyPost_ret (v := .tuple #[.agg #[.string k2, .int .i64 q2, .bool g2, .string v2, .int .i64 t2], .bool true]) (by simp [results, Try.results14, go_sem, *]) rfl ⟨rfl, HEND.out _ _ _ _ _⟩
        · have HN2 := Lib.hid (HNX.out (fun h => hq h.2))
          clear hte hk HG0 HNX n0 f0 n1 f1 n2 f2 n3 f3 n4 f4
          go_wp2
          go_roundw
          case rel => exact ⟨j + 1, by omega, by go_num, trivial, HN2.out⟩
          case measure => simp [intOf]; omega
      · have hkk : (k2.toList == k.toList) = false := by rw [hte]; exact decide_eq_false hk
        have HN2 := Lib.hid (HNX.out (fun h => hk h.1))
        clear hte hk HG0 HNX n0 f0 n1 f1 n2 f2 n3 f3 n4 f4
        go_wp2
        go_roundw
        case rel => exact ⟨j + 1, by omega, by go_num, trivial, HN2.out⟩
        case measure => simp [intOf]; omega
    · have hjn : j = n := by omega
      have HG : Hid (get L k q = (E.zero, false)) := Lib.hid (by
        have := find_none (p := fun x => decide (x.key = k ∧ x.seq ≤ q)) (l := L) (fun i hi => hbef i hi (by rw [HN.out] at hi; omega))
        unfold SK.get
        rw [this])
      subst hjn
      clear hbef
      go_wp2
      rw [HG.out]
      exact bodyPost_ret (v := .tuple #[.agg #[.string ⟨#[]⟩, .int .i64 0, .bool false, .string ⟨#[]⟩, .int .i64 0], .bool false]) (by simp [results, Try.results14, go_sem, *]) rfl ⟨rfl, HEND.out _ _ _ _ _⟩
end Go.Proofs.Ytgbpnicijllmoaa
