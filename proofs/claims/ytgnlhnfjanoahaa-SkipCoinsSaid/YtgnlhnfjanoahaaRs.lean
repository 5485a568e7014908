/- The document's list in memory; Cost, Get. -/
import Derived.Test.YtgnlhnfjanoahaaOp
import Derived.OwnWalk
namespace Go.Proofs.Ytgnlhnfjanoahaa
open Go.RowKit
open SK

def fb (A : Option Addr) : List Nat := match A with | some a => [a.block] | none => []

structure RRep (B : Nat) (w : World) (r : Nat) (cs : List Int) (CA : Option Addr) (cc : Nat) (LA : Option Addr) (lc : Nat) (s : St) : Prop where
  head : w.heap[r]? = some (.cells #[.slice CA cs.length cc, .slice LA s.l.length lc, .int .i64 s.size] 48 (0, 0))
  coins : CoinsIn w CA cs
  ents : EntsIn w LA s.l
  lo : B ≤ r
  ca : ∀ x ∈ fb CA, B ≤ x ∧ x ≠ r
  la : ∀ x ∈ fb LA, B ≤ x ∧ x ≠ r

def foot (r : Nat) (CA LA : Option Addr) : List Nat := r :: (fb CA ++ fb LA)

theorem CoinsIn.same {w w' : World} {A : Option Addr} {cs : List Int} (h : CoinsIn w A cs) (hs : ∀ x ∈ fb A, w'.heap[x]? = w.heap[x]?) (hz : w.heap.size ≤ w'.heap.size) : CoinsIn w' A cs :=
  ⟨h.fits, fun hn => by
    obtain ⟨b, off, hA, hlt, hc⟩ := h.at_ hn
    refine ⟨b, off, hA, Nat.lt_of_lt_of_le hlt hz, fun j hj => ?_⟩
    rw [← hc j hj]
    exact World.cell?_of_block (hs b (by rw [hA]; simp [fb]))⟩
theorem EntsIn.same {w w' : World} {A : Option Addr} {l : List E} (h : EntsIn w A l) (hs : ∀ x ∈ fb A, w'.heap[x]? = w.heap[x]?) (hz : w.heap.size ≤ w'.heap.size) : EntsIn w' A l :=
  ⟨h.wf, fun hn => by
    obtain ⟨b, off, hA, hlt, hc⟩ := h.at_ hn
    have hb := hs b (by rw [hA]; simp [fb])
    refine ⟨b, off, hA, Nat.lt_of_lt_of_le hlt hz, fun j hj => ?_⟩
    obtain ⟨c0, c1, c2, c3, c4⟩ := hc j hj
    exact ⟨(World.cell?_of_block (a := ⟨b, _, none⟩) hb).trans c0, (World.cell?_of_block (a := ⟨b, _, none⟩) hb).trans c1, (World.cell?_of_block (a := ⟨b, _, none⟩) hb).trans c2, (World.cell?_of_block (a := ⟨b, _, none⟩) hb).trans c3, (World.cell?_of_block (a := ⟨b, _, none⟩) hb).trans c4⟩⟩

section
variable {B : Nat} {w : World} {r : Nat} {cs : List Int} {CA : Option Addr} {cc : Nat} {LA : Option Addr} {lc : Nat} {s : St}
theorem RRep.same (h : RRep B w r cs CA cc LA lc s) {w' : World} (hs : ∀ x ∈ foot r CA LA, w'.heap[x]? = w.heap[x]?) (hz : w.heap.size ≤ w'.heap.size) : RRep B w' r cs CA cc LA lc s :=
  ⟨(hs r (by simp [foot])).trans h.head, h.coins.same (fun x hx => hs x (by simp [foot, hx])) hz, h.ents.same (fun x hx => hs x (by simp [foot, hx])) hz, h.lo, h.ca, h.la⟩
theorem RRep.below (h : RRep B w r cs CA cc LA lc s) {w' : World} (hb : Below w.heap.size w w') : RRep B w' r cs CA cc LA lc s :=
  ⟨(hb.block r (Array.getElem?_eq_some_iff.1 h.head).1).trans h.head, h.coins.below hb, h.ents.below hb, h.lo, h.ca, h.la⟩
theorem RRep.lt (h : RRep B w r cs CA cc LA lc s) : r < w.heap.size := (Array.getElem?_eq_some_iff.1 h.head).1
end

set_option maxRecDepth 100000 in
set_option maxHeartbeats 1000000 in
theorem rcost_any {B : Nat} {w : World} {r : Nat} {cs : List Int} {CA : Option Addr} {cc : Nat} {LA : Option Addr} {lc : Nat} {s : St} (h : RRep B w r cs CA cc LA lc s) (e : E) (he : e.wf) (hlen : s.l.length ≤ 1000000) (hcl : cs.length ≤ 140737488351232) :
    Calls Try.prog 14 #[.pointer (some ⟨r, 0, none⟩), e.val] w fun v w' => v = .returned (.int .i64 (cost cs s.l.length e)) ∧ Below w.heap.size w w' := by
  obtain ⟨k, q, g, v, t⟩ := e
  have hk := he.key
  have hv := he.value
  simp only at hk hv
  have hrow := heap_alloc_new w (.cells #[.string k, .int .i64 q, .bool g, .string v, .int .i64 t] 37)
  have hbel := (Below.refl w.heap.size w).alloc (Nat.le_refl _) (.cells #[.string k, .int .i64 q, .bool g, .string v, .int .i64 t] 37)
  have h1 := h.below hbel
  simp only [E.val]
  unfold cost
  have c0 : (w.alloc (.cells #[.string k, .int .i64 q, .bool g, .string v, .int .i64 t] 37)).cell? ⟨r, 0, none⟩ = some (.slice CA cs.length cc) := cell_of_row _ _ _ _ _ _ h1.head
  have c1 : (w.alloc (.cells #[.string k, .int .i64 q, .bool g, .string v, .int .i64 t] 37)).cell? ⟨r, 1, none⟩ = some (.slice LA s.l.length lc) := cell_of_row _ _ _ _ _ _ h1.head
  obtain ⟨x, hx⟩ : ∃ x, w.heap.size = x := ⟨_, rfl⟩
  have HX := Lib.hid hx
  have b0 : (w.alloc (.cells #[.string k, .int .i64 q, .bool g, .string v, .int .i64 t] 37)).cell? ⟨x, 0, none⟩ = some (.string k) := by rw [← hx]; exact cell_of_row _ _ _ _ _ _ hrow
  have b3 : (w.alloc (.cells #[.string k, .int .i64 q, .bool g, .string v, .int .i64 t] 37)).cell? ⟨x, 3, none⟩ = some (.string v) := by rw [← hx]; exact cell_of_row _ _ _ _ _ _ hrow
  have HBEL := Lib.hid hbel
  obtain ⟨n, hn⟩ : ∃ n, s.l.length = n := ⟨_, rfl⟩
  obtain ⟨m, hm⟩ : ∃ m, cs.length = m := ⟨_, rfl⟩
  rw [hn] at c1 hlen ⊢
  rw [hm] at c0 hcl
  by_cases hm0 : m = 0
  · have hh : height cs n = 1 := by unfold height; rw [if_pos (by omega)]
    rw [hh]
    have hw1 : IntKind.i64.wrap (48 + (k.size : Int)) = 48 + (k.size : Int) := wrap_in _ (by omega)
    have hw2 : IntKind.i64.wrap (48 + (k.size : Int) + (v.size : Int)) = 48 + (k.size : Int) + (v.size : Int) := wrap_in _ (by omega)
    have hfin : (40 : Int) + 8 * ((1 : Nat) : Int) + (k.size : Int) + (v.size : Int) = 48 + (k.size : Int) + (v.size : Int) := by omega
    rw [hfin]
    subst hm0
    clear h h1 hrow hbel hn hm hh he hfin
    go_enter Try.func14, Try.ntmps14
    go_wp2
    go_ret
    exact ⟨rfl, HBEL.out⟩
  · have hlt : n % m < m := Nat.mod_lt _ (by omega)
    obtain ⟨b, off, hA, hbl, hc⟩ := h1.coins.at_ (by omega)
    have zc := hc (n % m) (by omega)
    have hfit := h1.coins.fits _ (List.getElem_mem (show n % m < cs.length by omega))
    have hcr := coin_range (cs[n % m]'(by omega))
    have hh : (height cs n : Int) = coin (cs[n % m]'(by omega)) := by
      have hg : cs.getD (n % cs.length) 0 = cs[n % m]'(by omega) := by
        subst hm
        rw [List.getD_eq_getElem?_getD, List.getElem?_eq_getElem hlt]
        rfl
      unfold height
      rw [if_neg (by omega), hg]
      omega
    rw [hh]
    obtain ⟨c, hc'⟩ : ∃ c, cs[n % m]'(by omega) = c := ⟨_, rfl⟩
    rw [hc'] at zc hcr hfit ⊢
    obtain ⟨j, hj⟩ : ∃ j, n % m = j := ⟨_, rfl⟩
    rw [hj] at hlt zc
    have hri : (n : Int) % (m : Int) = (j : Int) := by rw [← hj]; rfl
    have hrt : (n : Int).tmod (m : Int) = (j : Int) := by rw [Int.tmod_eq_emod_of_nonneg (by omega)]; exact hri
    have hm1 : ((m : Int) == 0) = false := beq_eq_false_iff_ne.2 (by omega)
    have hm2 : ¬ (m : Int) = 0 := by omega
    have hm3 : (0 : Int) < (m : Int) := by omega
    have hm4 : 0 < m := by omega
    have hr0 : (0 : Int) ≤ (j : Int) := by omega
    have hr1 : (j : Int) < (m : Int) := by omega
    subst hA
    have HD : Hid (∀ nd, Below x w ((w.alloc (.cells #[.string k, .int .i64 q, .bool g, .string v, .int .i64 t] 37)).drewN nd)) := fun nd => by rw [← HX.out]; exact below_drewN HBEL.out nd
    clear h h1 hrow hbel hn hm hh he hc' hj hc
    obtain ⟨C, hC⟩ : ∃ C, coin c = C := ⟨_, rfl⟩
    rw [hC] at hcr ⊢
    have hw0 : IntKind.i64.wrap (8 * C) = 8 * C := wrap_in _ (by omega)
    have hw1 : IntKind.i64.wrap (40 + 8 * C) = 40 + 8 * C := wrap_in _ (by omega)
    have hw2 : IntKind.i64.wrap (40 + 8 * C + (k.size : Int)) = 40 + 8 * C + (k.size : Int) := wrap_in _ (by omega)
    have hw3 : IntKind.i64.wrap (40 + 8 * C + (k.size : Int) + (v.size : Int)) = 40 + 8 * C + (k.size : Int) + (v.size : Int) := wrap_in _ (by omega)
    unfold coin at hC
    by_cases hneg : c < 0
    · rw [if_pos hneg] at hC
      have hs1 : -1 - c = -(c + 1) := by omega
      have hm : (-1 - c).tmod 8 = C - 1 := by rw [hs1, Int.tmod_eq_emod_of_nonneg (by omega)]; omega
      have hm' : -(c + 1).tmod 8 = C - 1 := by rw [← Int.neg_tmod, Int.tmod_eq_emod_of_nonneg (by omega)]; omega
      have he1 : (1 : Int) + (-1 - c) % 8 = C := by rw [hs1]; exact hC
      have he2 : (-1 - c) % 8 = C - 1 := by omega
      clear hC
      go_enter Try.func14, Try.ntmps14
      go_wp2_with fail
      go_quiet (fail)
      go_wp2
      go_ret
      exact ⟨by rw [show (40 : Int) + 8 * C = 40 + 8 * (1 + (C - 1)) by omega]; rfl, by rw [HX.out]; exact HD.out _⟩
    · rw [if_neg hneg] at hC
      have hm : c.tmod 8 = C - 1 := by rw [Int.tmod_eq_emod_of_nonneg (by omega)]; omega
      have he2 : c % 8 = C - 1 := by omega
      clear hC
      go_enter Try.func14, Try.ntmps14
      go_wp2_with fail
      go_quiet (fail)
      go_wp2
      go_ret
      exact ⟨by rw [show (40 : Int) + 8 * C = 40 + 8 * (1 + (C - 1)) by omega]; rfl, by rw [HX.out]; exact HD.out _⟩

end Go.Proofs.Ytgnlhnfjanoahaa
