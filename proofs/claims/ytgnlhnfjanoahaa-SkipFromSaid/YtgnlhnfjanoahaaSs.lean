/- A list in memory; Len, Size, next, nextHeight, Cost. -/
import Derived.Test.YtgnlhnfjanoahaaSr
import Derived.Outline
namespace Go.Proofs.Ytgnlhnfjanoahaa
open Go.RowKit
open SK

theorem wrap_in (n : Int) (h : -9223372036854775808 ≤ n ∧ n ≤ 9223372036854775807) : IntKind.i64.wrap n = n := by
  simp [IntKind.wrap, IntKind.signed, IntKind.bits]; omega

def hcells (hb n : Nat) (g : Nat → Option Nat) (c : Nat) (z : Int) : Array Value :=
  #[.slice (some ⟨hb, 0, none⟩) n n, pv (g 0), pv (g 1), pv (g 2), pv (g 3), pv (g 4), pv (g 5), pv (g 6), pv (g 7), .int .i64 c, .int .i64 z]

theorem hcells_floor (hb n : Nat) (g : Nat → Option Nat) (c : Nat) (z : Int) (f : Nat) (hf : f < 8) : (hcells hb n g c z)[1 + f]? = some (pv (g f)) := by
  match f, hf with
  | 0, _ => rfl
  | 1, _ => rfl
  | 2, _ => rfl
  | 3, _ => rfl
  | 4, _ => rfl
  | 5, _ => rfl
  | 6, _ => rfl
  | 7, _ => rfl

/-- a list that lies at block a (its heights at hb): all of it from block B on -/
structure Rep (B : Nat) (w : World) (a hb : Nat) (cs : List Int) (l : List ND) (s : St) : Prop where
  head : w.heap[a]? = some (.cells (hcells hb cs.length (fun f => nx f l) s.l.length s.size) 67 (0, 0))
  coins : ∃ hc, w.heap[hb]? = some (.cells hc 5 (0, 0)) ∧ hc.size = cs.length ∧ ∀ j, (h : j < cs.length) → hc[j]? = some (.int .u8 (coin cs[j]))
  chain : Chain w l
  ents : l.map (·.e) = s.l
  full : ∀ d ∈ l, d.h = d.c ∧ 1 ≤ d.h ∧ d.h ≤ 8
  nodup : (a :: hb :: blks l).Nodup
  lo : ∀ x ∈ a :: hb :: blks l, B ≤ x ∧ x < w.heap.size

section
variable {B : Nat} {w : World} {a hb : Nat} {cs : List Int} {l : List ND} {s : St}
theorem Rep.same (h : Rep B w a hb cs l s) {w' : World} (hs : ∀ x ∈ a :: hb :: blks l, w'.heap[x]? = w.heap[x]?) (hz : w.heap.size ≤ w'.heap.size) : Rep B w' a hb cs l s := by
  obtain ⟨hc, h1, h2, h3⟩ := h.coins
  exact ⟨(hs a (by simp)).trans h.head, ⟨hc, (hs hb (by simp)).trans h1, h2, h3⟩, h.chain.stays fun x hx => hs x (by simp [hx]), h.ents, h.full, h.nodup, fun x hx => ⟨(h.lo x hx).1, Nat.lt_of_lt_of_le (h.lo x hx).2 hz⟩⟩
theorem Rep.below (h : Rep B w a hb cs l s) {w' : World} (hb' : Below w.heap.size w w') : Rep B w' a hb cs l s :=
  h.same (fun x hx => hb'.block x (h.lo x hx).2) hb'.size
theorem Rep.below' (h : Rep B w a hb cs l s) {w' : World} {N : Nat} (hN : ∀ x ∈ a :: hb :: blks l, x < N) (hb' : Below N w w') : Rep B w' a hb cs l s :=
  h.same (fun x hx => hb'.block x (hN x hx)) hb'.size
theorem Rep.drew (h : Rep B w a hb cs l s) : Rep B w.drew a hb cs l s := h.same (fun _ _ => rfl) (Nat.le_refl _)
theorem Rep.len (h : Rep B w a hb cs l s) : l.length = s.l.length := by rw [← h.ents]; simp
theorem Rep.cells (h : Rep B w a hb cs l s) (j : Nat) : w.cell? ⟨a, j, none⟩ = (hcells hb cs.length (fun f => nx f l) s.l.length s.size)[j]? := cell_of_row _ _ _ _ _ _ h.head
theorem Rep.frozen (h : Rep B w a hb cs l s) (j : Nat) : w.frozen? ⟨a, j, none⟩ = false := frozen_of_row _ _ _ _ _ h.head
theorem Rep.lt (h : Rep B w a hb cs l s) : a < w.heap.size := (h.lo a (by simp)).2
end

theorem len_any {B : Nat} {w : World} {a hb : Nat} {cs : List Int} {l : List ND} {s : St} (h : Rep B w a hb cs l s) :
    Calls Try.prog 12 #[.pointer (some ⟨a, 0, none⟩)] w fun e w' => e = .returned (.int .i64 s.l.length) ∧ w = w' := by
  have z : w.cell? ⟨a, 9, none⟩ = some (.int .i64 s.l.length) := h.cells 9
  obtain ⟨n, hn⟩ : ∃ n, s.l.length = n := ⟨_, rfl⟩
  rw [hn] at z ⊢
  clear h hn
  go_enter Try.func12, Try.ntmps12
  go_wp2
  go_ret
  exact ⟨rfl, rfl⟩
theorem size_any {B : Nat} {w : World} {a hb : Nat} {cs : List Int} {l : List ND} {s : St} (h : Rep B w a hb cs l s) :
    Calls Try.prog 17 #[.pointer (some ⟨a, 0, none⟩)] w fun e w' => e = .returned (.int .i64 s.size) ∧ w = w' := by
  have z : w.cell? ⟨a, 10, none⟩ = some (.int .i64 s.size) := h.cells 10
  clear h
  go_enter Try.func17, Try.ntmps17
  go_wp2
  go_ret
  exact ⟨rfl, rfl⟩
theorem len_nil (w : World) : Calls Try.prog 12 #[.pointer none] w fun e w' => e = .returned (.int .i64 0) ∧ w = w' := by
  go_enter Try.func12, Try.ntmps12
  go_wp2
  go_ret
  exact ⟨rfl, rfl⟩
theorem size_nil (w : World) : Calls Try.prog 17 #[.pointer none] w fun e w' => e = .returned (.int .i64 0) ∧ w = w' := by
  go_enter Try.func17, Try.ntmps17
  go_wp2
  go_ret
  exact ⟨rfl, rfl⟩

theorem arr_slice (W : World) (a : Nat) : (Instr.sliceAt 65 (.pointer (some ⟨a, 1, none⟩)) none none none).run Try.prog W = .ok (.slice (some ⟨a, 1, none⟩) 8 8) W := by
  have hal : Try.prog.arrayLen 65 = 8 := by kernel_rfl
  have hs : ∀ w, (sizeOf (Try.prog.elem 65)).run Try.prog w = .ok 1 w := fun w => by kernel_rfl
  rw [run_sliceAt_array_all W 65 ⟨a, 1, none⟩ (by kernel_rfl), hs, hal]
  simp [Result.andThen, slicedAt, Addr.add]

theorem next_any (a : Nat) (q : Option ND) (w : World) (h : ∀ d, q = some d → w.heap[d.b]? = some (.cells (ncells d) 62 (0, 0))) :
    Calls Try.prog 26 #[.pointer (some ⟨a, 0, none⟩), pv (q.map (·.b))] w fun e w' => e = .returned (towerV a q) ∧ w = w' := by
  cases q with
  | none =>
    have hsl := arr_slice w a
    simp only [Option.map_none, pv, towerV, towerB, towerO, towerN]
    clear h
    go_enter Try.func26, Try.ntmps26
    go_wp2
    go_ret
    exact ⟨rfl, rfl⟩
  | some d =>
    have hd := h d rfl
    have z : w.cell? ⟨d.b, 5, none⟩ = some (.slice (some ⟨d.t, 0, none⟩) d.c d.c) := cell_of_row _ _ _ _ _ _ hd
    simp only [Option.map_some, pv, towerV, towerB, towerO, towerN]
    clear h hd
    go_enter Try.func26, Try.ntmps26
    go_wp2
    go_ret
    exact ⟨rfl, rfl⟩

theorem nextHeight_at {w : World} {a hb : Nat} {cs : List Int} {n : Nat} (z0 : w.cell? ⟨a, 0, none⟩ = some (.slice (some ⟨hb, 0, none⟩) cs.length cs.length)) (z9 : w.cell? ⟨a, 9, none⟩ = some (.int .i64 n))
    (coins : ∃ hc, w.heap[hb]? = some (.cells hc 5 (0, 0)) ∧ hc.size = cs.length ∧ ∀ j, (h : j < cs.length) → hc[j]? = some (.int .u8 (coin cs[j]))) :
    Calls Try.prog 28 #[.pointer (some ⟨a, 0, none⟩)] w fun e w' => e = .returned (.int .i64 (height cs n)) ∧ Below w.heap.size w w' := by
  obtain ⟨hc, h1, h2, h3⟩ := coins
  obtain ⟨m, hm⟩ : ∃ m, cs.length = m := ⟨_, rfl⟩
  rw [hm] at z0
  by_cases hm0 : m = 0
  · have hh : height cs n = 1 := by unfold height; rw [if_pos (by omega)]
    rw [hh]
    subst hm0
    clear h1 h2 h3 hm hh
    go_enter Try.func28, Try.ntmps28
    go_wp2
    go_ret
    exact ⟨rfl, Below.refl _ _⟩
  · have hlt : n % m < m := Nat.mod_lt _ (by omega)
    have hcoin := h3 (n % m) (by omega)
    have hcr := coin_range (cs[n % m]'(by omega))
    have hh : (height cs n : Int) = coin (cs[n % m]'(by omega)) := by
      have hg : cs.getD (n % cs.length) 0 = cs[n % m]'(by omega) := by
        subst hm
        rw [List.getD_eq_getElem?_getD, List.getElem?_eq_getElem hlt]
        rfl
      unfold height
      rw [if_neg (by omega), hg]
      omega
    rw [hh]
    obtain ⟨c, hc'⟩ : ∃ c, coin (cs[n % m]'(by omega)) = c := ⟨_, rfl⟩
    rw [hc'] at hcoin hcr ⊢
    obtain ⟨r, hr⟩ : ∃ r, n % m = r := ⟨_, rfl⟩
    rw [hr] at hlt hcoin
    have hri : (n : Int) % (m : Int) = (r : Int) := by rw [← hr]; rfl
    have hrt : (n : Int).tmod (m : Int) = (r : Int) := by rw [Int.tmod_eq_emod_of_nonneg (by omega)]; exact hri
    have zc : w.cell? ⟨hb, r, none⟩ = some (.int .u8 c) := (cell_of_row _ _ _ _ _ _ h1).trans hcoin
    have hm1 : ((m : Int) == 0) = false := beq_eq_false_iff_ne.2 (by omega)
    have hm2 : ¬ (m : Int) = 0 := by omega
    have hr0 : (0 : Int) ≤ (r : Int) := by omega
    have hr1 : (r : Int) < (m : Int) := by omega
    have hwr : IntKind.i64.wrap c = c := by simp [IntKind.wrap, IntKind.signed, IntKind.bits]; omega
    have HD : Hid (∀ q, Below w.heap.size w (w.drewN q)) := fun q => below_drewN (Below.refl _ _) q
    clear h1 h2 h3 hm hh hc' hr hcoin hlt hm0
    go_enter Try.func28, Try.ntmps28
    go_wp2_with fail
    go_quiet (fail)
    go_wp2
    go_ret
    exact ⟨rfl, HD.out _⟩

theorem nextHeight_any {B : Nat} {w : World} {a hb : Nat} {cs : List Int} {l : List ND} {s : St} (h : Rep B w a hb cs l s) :
    Calls Try.prog 28 #[.pointer (some ⟨a, 0, none⟩)] w fun e w' => e = .returned (.int .i64 (height cs s.l.length)) ∧ Below w.heap.size w w' :=
  nextHeight_at (h.cells 0) (h.cells 9) h.coins

theorem cost_nil (e : E) (w : World) : Calls Try.prog 13 #[.pointer none, e.val] w fun r w' => r = .returned (.int .i64 0) ∧ Below w.heap.size w w' := by
  obtain ⟨k, q, g, v, t⟩ := e
  simp only [E.val]
  go_enter Try.func13, Try.ntmps13
  go_wp2
  go_ret
  exact ⟨rfl, (Below.refl _ _).alloc (Nat.le_refl _) _⟩

set_option maxRecDepth 100000 in
theorem cost_any {B : Nat} {w : World} {a hb : Nat} {cs : List Int} {l : List ND} {s : St} (h : Rep B w a hb cs l s) (e : E) (he : e.wf) :
    Calls Try.prog 13 #[.pointer (some ⟨a, 0, none⟩), e.val] w fun r w' => r = .returned (.int .i64 (cost cs s.l.length e)) ∧ Below w.heap.size w w' := by
  obtain ⟨k, q, g, v, t⟩ := e
  have hk := he.key
  have hv := he.value
  simp only at hk hv
  have hh := height_range cs s.l.length
  have HN : Hid (∀ W, Below w.heap.size w W → Calls Try.prog 28 #[.pointer (some ⟨a, 0, none⟩)] W fun e w' => e = .returned (.int .i64 (height cs s.l.length)) ∧ Below W.heap.size W w') := fun W hB => nextHeight_any (h.below hB)
  unfold cost
  obtain ⟨H, hH⟩ : ∃ H, height cs s.l.length = H := ⟨_, rfl⟩
  rw [hH] at hh HN ⊢
  simp only [E.val]
  have hrow := heap_alloc_new w (.cells #[.string k, .int .i64 q, .bool g, .string v, .int .i64 t] 36)
  have hbel := (Below.refl w.heap.size w).alloc (Nat.le_refl _) (.cells #[.string k, .int .i64 q, .bool g, .string v, .int .i64 t] 36)
  have hsz : (w.alloc (.cells #[.string k, .int .i64 q, .bool g, .string v, .int .i64 t] 36)).heap.size = w.heap.size + 1 := by simp
  clear h he hH
  go_enter Try.func13, Try.ntmps13
  go_wp2_with fail
  generalize w.alloc (.cells #[.string k, .int .i64 q, .bool g, .string v, .int .i64 t] 36) = W0 at hrow hbel hsz ⊢
  obtain ⟨x, hx⟩ : ∃ x, w.heap.size = x := ⟨_, rfl⟩
  rw [hx] at hrow HN hbel hsz ⊢
  have z0 : W0.cell? ⟨x, 0, none⟩ = some (.string k) := cell_of_row _ _ _ _ _ _ hrow
  have z3 : W0.cell? ⟨x, 3, none⟩ = some (.string v) := cell_of_row _ _ _ _ _ _ hrow
  have HBL := Lib.hid hbel
  have HSZ := Lib.hid hsz
  have HX := Lib.hid hx
  clear hrow hbel hsz hx
  go_region_held3 (fun w' => w'.cell? ⟨x, 0, none⟩ = some (.string k) ∧ w'.cell? ⟨x, 3, none⟩ = some (.string v))
    (first | go_keep | exact ⟨d0, d3⟩ | fail)
    (first
      | (go_at_call 28
         refine (HN.out _ (below_drewN HBL.out 1)).mono ?_
         rintro e w1 ⟨rfl, hb⟩
         have d0 : w1.cell? ⟨x, 0, none⟩ = some (.string k) := (hb.cell (p := ⟨x, 0, none⟩) (by have := HSZ.out; simp; omega)).trans z0
         have d3 : w1.cell? ⟨x, 3, none⟩ = some (.string v) := (hb.cell (p := ⟨x, 3, none⟩) (by have := HSZ.out; simp; omega)).trans z3
         have HC1 : Hid (Below x w w1) := Lib.hid (HBL.out.trans (Below.trans ((Below.refl x W0).drew) (hb.mono (by have := HSZ.out; simp; omega))))
         clear hb)
      | fail)
  all_goals
    rw [wrap_in (8 * (H : Int)) (by omega), wrap_in (40 + 8 * (H : Int)) (by omega), wrap_in (40 + 8 * (H : Int) + k.size) (by omega), wrap_in (40 + 8 * (H : Int) + k.size + v.size) (by omega)]
    go_wp2
    go_ret
    rw [HX.out]
    exact ⟨rfl, HC1.out⟩
end Go.Proofs.Ytgnlhnfjanoahaa
