/- Texts joined by bundle.py: YSSt, YSSu. -/
import Derived.Test.YtjkofciohehgfaaGreatDoorZbh
import Derived.Deep.LoopGhost

/- ahead: of each floor the last node that stands ahead of an entry. -/
namespace Go.Proofs.YtjkofciohehgfaaGreatDoor.L6
open Go.RowKit
open SK

def arr8 (g : Nat → Value) : Array Value := #[g 0, g 1, g 2, g 3, g 4, g 5, g 6, g 7]
theorem arr8_set (g : Nat → Value) (i : Nat) (hi : i < 8) (v : Value) : (arr8 g).setIfInBounds i v = arr8 (fun f => if f = i then v else g f) := by
  match i, hi with
  | 0, _ => rfl
  | 1, _ => rfl
  | 2, _ => rfl
  | 3, _ => rfl
  | 4, _ => rfl
  | 5, _ => rfl
  | 6, _ => rfl
  | 7, _ => rfl
theorem arr8_at (g : Nat → Value) (i : Nat) (hi : i < 8) : (arr8 g)[i]? = some (g i) := by
  match i, hi with
  | 0, _ => rfl
  | 1, _ => rfl
  | 2, _ => rfl
  | 3, _ => rfl
  | 4, _ => rfl
  | 5, _ => rfl
  | 6, _ => rfl
  | 7, _ => rfl

def atV (q : List ND) : Value := pv (q.getLast?.map (·.b))
def aheadV (pre : List ND) : Value := .agg (arr8 fun f => pv ((lst f pre).map (·.b)))

/-- the array while floors from i on are done -/
structure AW (W1 : World) (y : Nat) (pre : List ND) (i : Nat) (wr : World) : Prop where
  below : Below y W1 wr
  lt : y < wr.heap.size
  arr : wr.heap[y]? = some (.cells (arr8 fun f => if i ≤ f then pv ((lst f pre).map (·.b)) else pv none) 90 (0, 0))

theorem AW.below_to {W1 : World} {y : Nat} {pre : List ND} {i : Nat} {wr w' : World} (h : AW W1 y pre i wr) (hb : Below wr.heap.size wr w') : AW W1 y pre i w' :=
  ⟨h.below.trans (hb.mono (Nat.le_of_lt h.lt)), Nat.lt_of_lt_of_le h.lt hb.size, (hb.block y h.lt).trans h.arr⟩
theorem AW.store {W1 : World} {y : Nat} {pre : List ND} {j : Nat} {wr : World} (h : AW W1 y pre (j + 1) wr) (hj : j < 8) {v : Value} (hv : v = pv ((lst j pre).map (·.b))) : AW W1 y pre j (wr.setCell ⟨y, j, none⟩ v) := by
  refine ⟨h.below.setCell (p := ⟨y, j, none⟩) (Nat.le_refl _) _, by rw [setCell_size]; exact h.lt, ?_⟩
  rw [heap_set_fr h.arr, arr8_set _ _ hj]
  congr 2
  congr 1
  funext f
  by_cases e : f = j
  · subst e; simp [hv]
  · rw [if_neg e]
    by_cases e2 : j + 1 ≤ f
    · rw [if_pos e2, if_pos (by omega)]
    · rw [if_neg e2, if_neg (by omega)]

theorem lst_last {j : Nat} {q : List ND} (h : ∀ d, q.getLast? = some d → j < d.h) : lst j q = q.getLast? := by
  rcases List.eq_nil_or_concat q with rfl | ⟨p, d, rfl⟩
  · rfl
  · rw [List.concat_eq_append] at h ⊢
    rw [lst_snoc (h d (by simp))]
    simp

/-- what the inner loop finds -/
theorem find_cases {e : E} {j : Nat} {r post : List ND} (hr : ∀ d ∈ r, less d.e e = true) (hpost : ∀ d ∈ post, less d.e e = false) :
    (nx j (r ++ post) = none ∧ ∀ x ∈ r, ¬ j < x.h) ∨
    (∃ p d s, r ++ post = p ++ d :: s ∧ nx j (r ++ post) = some d.b ∧ less d.e e = false ∧ ∀ x ∈ r, ¬ j < x.h) ∨
    (∃ p d s, r = p ++ d :: s ∧ nx j (r ++ post) = some d.b ∧ less d.e e = true ∧ j < d.h) := by
  rcases nx_cases j (r ++ post) with ⟨h1, h2⟩ | ⟨p, d, s, h1, h2, h3, h4⟩
  · exact .inl ⟨h1, fun x hx => h2 x (by simp [hx])⟩
  · rcases List.append_eq_append_iff.1 h1 with ⟨c, hp, hs⟩ | ⟨c, hp, hs⟩
    · right; left
      refine ⟨p, d, s, h1, h2, hpost d (by rw [hs]; simp), fun x hx => h4 x (by rw [hp]; simp [hx])⟩
    · cases c with
      | nil =>
        right; left
        simp only [List.nil_append] at hs
        refine ⟨p, d, s, h1, h2, hpost d (by rw [← hs]; simp), fun x hx => h4 x (by rw [hp] at hx; simpa using hx)⟩
      | cons x c =>
        right; right
        simp only [List.cons_append, List.cons.injEq] at hs
        obtain ⟨rfl, -⟩ := hs
        exact ⟨p, d, c, hp, h2, hr d (by rw [hp]; simp), h3⟩

theorem Rep.tower {B : Nat} {w : World} {a hb : Nat} {cs : List Int} {l : List ND} {s : St} (h : Rep B w a hb cs l s) (q r : List ND) (hl : l = q ++ r) (j : Nat) (hj : ∀ d, q.getLast? = some d → j < d.h) (hj8 : j < 8) :
    w.cell? ⟨towerB a q.getLast?, towerO q.getLast? + j, none⟩ = some (pv (nx j r)) ∧ j < towerN q.getLast? ∧ w.frozen? ⟨towerB a q.getLast?, towerO q.getLast? + j, none⟩ = false := by
  rcases List.eq_nil_or_concat q with rfl | ⟨p, d, rfl⟩
  · simp only [List.nil_append] at hl
    subst hl
    exact ⟨(h.cells (1 + j)).trans (hcells_floor _ _ _ _ _ j hj8), hj8, h.frozen _⟩
  · rw [List.concat_eq_append] at hl hj ⊢
    simp only [List.getLast?_append, List.getLast?_singleton, Option.some_or] at hj ⊢
    have hc := h.chain
    rw [hl, List.append_assoc] at hc
    obtain ⟨cs', h1, h2, h3⟩ := (Chain.at_ hc).tower
    have := (Chain.at_ hc).le
    have hjd := hj d rfl
    refine ⟨?_, by simp only [towerN]; omega, frozen_of_row _ _ _ _ _ h1⟩
    simp only [towerB, towerO, Nat.zero_add]
    exact (cell_of_row _ _ _ _ _ _ h1).trans (h3 j hjd)

theorem Rep.node {B : Nat} {w : World} {a hb : Nat} {cs : List Int} {l : List ND} {s : St} (h : Rep B w a hb cs l s) {d : ND} (hd : d ∈ l) : w.heap[d.b]? = some (.cells (ncells d) 100 (0, 0)) := by
  obtain ⟨p, r, hl⟩ := List.append_of_mem hd
  have hc := h.chain
  rw [hl] at hc
  exact (Chain.at_ hc).node

set_option maxRecDepth 100000 in
set_option maxHeartbeats 4000000 in
theorem ahead_any {B : Nat} {w : World} {a hb : Nat} {cs : List Int} {l : List ND} {s : St} (h : Rep B w a hb cs l s) (e : E) (pre post : List ND) (hl : l = pre ++ post) (hpre : ∀ d ∈ pre, less d.e e = true) (hpost : ∀ d ∈ post, less d.e e = false) :
    Calls Tryz.prog 54 #[.pointer (some ⟨a, 0, none⟩), e.val] w fun r w' => r = .returned (aheadV pre) ∧ Below w.heap.size w w' := by
  have HL : Hid (∀ W d, less d e = true → Calls Tryz.prog 56 #[d.val, e.val] W fun r w' => r = .returned (.bool true) ∧ Below W.heap.size W w') := fun W d hd => by have := less_any d e W; rw [hd] at this; exact this
  have HL0 : Hid (∀ W d, less d e = false → Calls Tryz.prog 56 #[d.val, e.val] W fun r w' => r = .returned (.bool false) ∧ Below W.heap.size W w') := fun W d hd => by have := less_any d e W; rw [hd] at this; exact this
  have HPRE := Lib.hid hpre
  have HPOST := Lib.hid hpost
  have HREP := Lib.hid h
  have HLL := Lib.hid hl
  have HFC : Hid (∀ j q r, pre = q ++ r → (nx j (r ++ post) = none ∧ ∀ x ∈ r, ¬ j < x.h) ∨ (∃ p d s, r ++ post = p ++ d :: s ∧ nx j (r ++ post) = some d.b ∧ less d.e e = false ∧ ∀ x ∈ r, ¬ j < x.h) ∨ (∃ p d s, r = p ++ d :: s ∧ nx j (r ++ post) = some d.b ∧ less d.e e = true ∧ j < d.h)) :=
    fun j q r hpq => find_cases (fun d hd => hpre d (by rw [hpq]; simp [hd])) hpost
  have HLTX : Hid (∀ x ∈ a :: hb :: blks l, x < w.heap.size) := fun x hx => (h.lo x hx).2
  clear hpre hpost hl h
  obtain ⟨k, qe, g, v, t⟩ := e
  have hrow : ((((w.alloc (.cells #[.string k, .int .i64 qe, .bool g, .string v, .int .i64 t] 45)).alloc (.cells #[.pointer none, .pointer none, .pointer none, .pointer none, .pointer none, .pointer none, .pointer none, .pointer none] 90)).alloc (.cells #[.pointer none, .pointer none, .pointer none, .pointer none, .pointer none, .pointer none, .pointer none, .pointer none] 90)) : World).heap[w.heap.size]? = some (.cells #[.string k, .int .i64 qe, .bool g, .string v, .int .i64 t] 45 (0, 0)) := by
    rw [Below.heap_alloc _ _ _ (by simp; omega), Below.heap_alloc _ _ _ (by simp)]; exact heap_alloc_new w _
  have hres : ((((w.alloc (.cells #[.string k, .int .i64 qe, .bool g, .string v, .int .i64 t] 45)).alloc (.cells #[.pointer none, .pointer none, .pointer none, .pointer none, .pointer none, .pointer none, .pointer none, .pointer none] 90)).alloc (.cells #[.pointer none, .pointer none, .pointer none, .pointer none, .pointer none, .pointer none, .pointer none, .pointer none] 90)) : World).heap[w.heap.size + 1]? = some (.cells (arr8 fun _ => .pointer none) 90 (0, 0)) := by
    rw [Below.heap_alloc _ _ _ (by simp)]
    have := heap_alloc_new (w.alloc (.cells #[.string k, .int .i64 qe, .bool g, .string v, .int .i64 t] 45)) (.cells #[.pointer none, .pointer none, .pointer none, .pointer none, .pointer none, .pointer none, .pointer none, .pointer none] 90)
    simpa [arr8] using this
  have hbel : Below w.heap.size w (((w.alloc (.cells #[.string k, .int .i64 qe, .bool g, .string v, .int .i64 t] 45)).alloc (.cells #[.pointer none, .pointer none, .pointer none, .pointer none, .pointer none, .pointer none, .pointer none, .pointer none] 90)).alloc (.cells #[.pointer none, .pointer none, .pointer none, .pointer none, .pointer none, .pointer none, .pointer none, .pointer none] 90)) :=
    (((Below.refl _ w).alloc (Nat.le_refl _) _).alloc (by simp) _).alloc (by simp; omega) _
  have harr : AW (((w.alloc (.cells #[.string k, .int .i64 qe, .bool g, .string v, .int .i64 t] 45)).alloc (.cells #[.pointer none, .pointer none, .pointer none, .pointer none, .pointer none, .pointer none, .pointer none, .pointer none] 90)).alloc (.cells #[.pointer none, .pointer none, .pointer none, .pointer none, .pointer none, .pointer none, .pointer none, .pointer none] 90)) (w.heap.size + 2) pre 8 (((w.alloc (.cells #[.string k, .int .i64 qe, .bool g, .string v, .int .i64 t] 45)).alloc (.cells #[.pointer none, .pointer none, .pointer none, .pointer none, .pointer none, .pointer none, .pointer none, .pointer none] 90)).alloc (.cells #[.pointer none, .pointer none, .pointer none, .pointer none, .pointer none, .pointer none, .pointer none, .pointer none] 90)) := by
    refine ⟨Below.refl _ _, by simp, ?_⟩
    have := heap_alloc_new ((w.alloc (.cells #[.string k, .int .i64 qe, .bool g, .string v, .int .i64 t] 45)).alloc (.cells #[.pointer none, .pointer none, .pointer none, .pointer none, .pointer none, .pointer none, .pointer none, .pointer none] 90)) (.cells #[.pointer none, .pointer none, .pointer none, .pointer none, .pointer none, .pointer none, .pointer none, .pointer none] 90)
    simpa [arr8, pv] using this
  have HROW := Lib.hid hrow
  have HRES := Lib.hid hres
  have HBEL := Lib.hid hbel
  have HARR := Lib.hid harr
  clear hrow hres hbel harr
  simp only [E.val] at HL HL0 ⊢
  go_enter Tryz.func54, Tryz.ntmps54
  go_wp2_with fail
  generalize (((w.alloc (.cells #[.string k, .int .i64 qe, .bool g, .string v, .int .i64 t] 45)).alloc (.cells #[.pointer none, .pointer none, .pointer none, .pointer none, .pointer none, .pointer none, .pointer none, .pointer none] 90)).alloc (.cells #[.pointer none, .pointer none, .pointer none, .pointer none, .pointer none, .pointer none, .pointer none, .pointer none] 90)) = W1 at HROW HRES HBEL HARR ⊢
  obtain ⟨x, hx⟩ : ∃ x, w.heap.size = x := ⟨_, rfl⟩
  have HX := Lib.hid hx
  rw [hx] at HROW HRES HARR HBEL HLTX ⊢
  clear hx
  obtain ⟨y, hy⟩ : ∃ y, x + 1 + 1 = y := ⟨_, rfl⟩
  have HY := Lib.hid hy
  rw [show x + 2 = y from hy] at HARR
  rw [hy]
  clear hy
  go_loopw [6, 7] (fun at_ fl wr => ∃ (i : Nat) (q : List ND), i ≤ 8 ∧ fl = .int .i64 ((i : Int) - 1) ∧ (∃ r, pre = q ++ r) ∧ at_ = atV q ∧ (∀ d, q.getLast? = some d → i ≤ d.h) ∧ AW W1 (y) pre i wr) (fun _ fl _ => (intOf fl + 1).toNat)
  case atStart => exact ⟨8, [], by omega, rfl, ⟨pre, rfl⟩, rfl, by simp, HARR.out⟩
  case round =>
    obtain ⟨i, q0, hi, rfl, hpq, rfl, hq, haw⟩ := hrel
    have HPQ := Lib.hid hpq
    have HQ := Lib.hid hq
    have HAW := Lib.hid haw
    clear hpq hq haw
    by_cases hi0 : i = 0
    · subst hi0
      obtain ⟨p0, hp0⟩ : ∃ p, ((lst 0 pre).map (fun d : ND => d.b)).map (fun b => (⟨b, 0, none⟩ : Addr)) = p := ⟨_, rfl⟩
      have z0 : wr.cell? ⟨y, 0, none⟩ = some (.pointer p0) := by
        rw [cell_of_row _ _ _ _ _ _ HAW.out.arr, arr8_at _ _ (by decide), if_pos (by omega), ← hp0]; rfl
      obtain ⟨p1, hp1⟩ : ∃ p, ((lst 1 pre).map (fun d : ND => d.b)).map (fun b => (⟨b, 0, none⟩ : Addr)) = p := ⟨_, rfl⟩
      have z1 : wr.cell? ⟨y, 1, none⟩ = some (.pointer p1) := by
        rw [cell_of_row _ _ _ _ _ _ HAW.out.arr, arr8_at _ _ (by decide), if_pos (by omega), ← hp1]; rfl
      obtain ⟨p2, hp2⟩ : ∃ p, ((lst 2 pre).map (fun d : ND => d.b)).map (fun b => (⟨b, 0, none⟩ : Addr)) = p := ⟨_, rfl⟩
      have z2 : wr.cell? ⟨y, 2, none⟩ = some (.pointer p2) := by
        rw [cell_of_row _ _ _ _ _ _ HAW.out.arr, arr8_at _ _ (by decide), if_pos (by omega), ← hp2]; rfl
      obtain ⟨p3, hp3⟩ : ∃ p, ((lst 3 pre).map (fun d : ND => d.b)).map (fun b => (⟨b, 0, none⟩ : Addr)) = p := ⟨_, rfl⟩
      have z3 : wr.cell? ⟨y, 3, none⟩ = some (.pointer p3) := by
        rw [cell_of_row _ _ _ _ _ _ HAW.out.arr, arr8_at _ _ (by decide), if_pos (by omega), ← hp3]; rfl
      obtain ⟨p4, hp4⟩ : ∃ p, ((lst 4 pre).map (fun d : ND => d.b)).map (fun b => (⟨b, 0, none⟩ : Addr)) = p := ⟨_, rfl⟩
      have z4 : wr.cell? ⟨y, 4, none⟩ = some (.pointer p4) := by
        rw [cell_of_row _ _ _ _ _ _ HAW.out.arr, arr8_at _ _ (by decide), if_pos (by omega), ← hp4]; rfl
      obtain ⟨p5, hp5⟩ : ∃ p, ((lst 5 pre).map (fun d : ND => d.b)).map (fun b => (⟨b, 0, none⟩ : Addr)) = p := ⟨_, rfl⟩
      have z5 : wr.cell? ⟨y, 5, none⟩ = some (.pointer p5) := by
        rw [cell_of_row _ _ _ _ _ _ HAW.out.arr, arr8_at _ _ (by decide), if_pos (by omega), ← hp5]; rfl
      obtain ⟨p6, hp6⟩ : ∃ p, ((lst 6 pre).map (fun d : ND => d.b)).map (fun b => (⟨b, 0, none⟩ : Addr)) = p := ⟨_, rfl⟩
      have z6 : wr.cell? ⟨y, 6, none⟩ = some (.pointer p6) := by
        rw [cell_of_row _ _ _ _ _ _ HAW.out.arr, arr8_at _ _ (by decide), if_pos (by omega), ← hp6]; rfl
      obtain ⟨p7, hp7⟩ : ∃ p, ((lst 7 pre).map (fun d : ND => d.b)).map (fun b => (⟨b, 0, none⟩ : Addr)) = p := ⟨_, rfl⟩
      have z7 : wr.cell? ⟨y, 7, none⟩ = some (.pointer p7) := by
        rw [cell_of_row _ _ _ _ _ _ HAW.out.arr, arr8_at _ _ (by decide), if_pos (by omega), ← hp7]; rfl
      have hrs : wr.heap[x + 1]? = some (.cells (arr8 fun _ => .pointer none) 90 (0, 0)) := (HAW.out.below.block (x + 1) (by have := HY.out; omega)).trans HRES.out
      have y0 : wr.cell? ⟨x + 1, 0, none⟩ = some (.pointer none) := by rw [cell_of_row _ _ _ _ _ _ hrs, arr8_at _ _ (by decide)]
      have f0 : wr.frozen? ⟨x + 1, 0, none⟩ = false := frozen_of_row _ _ _ _ _ hrs
      have y1 : wr.cell? ⟨x + 1, 1, none⟩ = some (.pointer none) := by rw [cell_of_row _ _ _ _ _ _ hrs, arr8_at _ _ (by decide)]
      have f1 : wr.frozen? ⟨x + 1, 1, none⟩ = false := frozen_of_row _ _ _ _ _ hrs
      have y2 : wr.cell? ⟨x + 1, 2, none⟩ = some (.pointer none) := by rw [cell_of_row _ _ _ _ _ _ hrs, arr8_at _ _ (by decide)]
      have f2 : wr.frozen? ⟨x + 1, 2, none⟩ = false := frozen_of_row _ _ _ _ _ hrs
      have y3 : wr.cell? ⟨x + 1, 3, none⟩ = some (.pointer none) := by rw [cell_of_row _ _ _ _ _ _ hrs, arr8_at _ _ (by decide)]
      have f3 : wr.frozen? ⟨x + 1, 3, none⟩ = false := frozen_of_row _ _ _ _ _ hrs
      have y4 : wr.cell? ⟨x + 1, 4, none⟩ = some (.pointer none) := by rw [cell_of_row _ _ _ _ _ _ hrs, arr8_at _ _ (by decide)]
      have f4 : wr.frozen? ⟨x + 1, 4, none⟩ = false := frozen_of_row _ _ _ _ _ hrs
      have y5 : wr.cell? ⟨x + 1, 5, none⟩ = some (.pointer none) := by rw [cell_of_row _ _ _ _ _ _ hrs, arr8_at _ _ (by decide)]
      have f5 : wr.frozen? ⟨x + 1, 5, none⟩ = false := frozen_of_row _ _ _ _ _ hrs
      have y6 : wr.cell? ⟨x + 1, 6, none⟩ = some (.pointer none) := by rw [cell_of_row _ _ _ _ _ _ hrs, arr8_at _ _ (by decide)]
      have f6 : wr.frozen? ⟨x + 1, 6, none⟩ = false := frozen_of_row _ _ _ _ _ hrs
      have y7 : wr.cell? ⟨x + 1, 7, none⟩ = some (.pointer none) := by rw [cell_of_row _ _ _ _ _ _ hrs, arr8_at _ _ (by decide)]
      have f7 : wr.frozen? ⟨x + 1, 7, none⟩ = false := frozen_of_row _ _ _ _ _ hrs
      have HEND : Hid (∀ v0 v1 v2 v3 v4 v5 v6 v7, Below w.heap.size w ((((((((wr.setCell ⟨x + 1, 0, none⟩ v0).setCell ⟨x + 1, 1, none⟩ v1).setCell ⟨x + 1, 2, none⟩ v2).setCell ⟨x + 1, 3, none⟩ v3).setCell ⟨x + 1, 4, none⟩ v4).setCell ⟨x + 1, 5, none⟩ v5).setCell ⟨x + 1, 6, none⟩ v6).setCell ⟨x + 1, 7, none⟩ v7)) := fun v0 v1 v2 v3 v4 v5 v6 v7 => by
        rw [HX.out]
        exact (((((((((HBEL.out.trans (HAW.out.below.mono (by have := HY.out; omega))).setCell (p := ⟨x + 1, 0, none⟩) (by simp) v0).setCell (p := ⟨x + 1, 1, none⟩) (by simp) v1).setCell (p := ⟨x + 1, 2, none⟩) (by simp) v2).setCell (p := ⟨x + 1, 3, none⟩) (by simp) v3).setCell (p := ⟨x + 1, 4, none⟩) (by simp) v4).setCell (p := ⟨x + 1, 5, none⟩) (by simp) v5).setCell (p := ⟨x + 1, 6, none⟩) (by simp) v6).setCell (p := ⟨x + 1, 7, none⟩) (by simp) v7)
      have HV : Hid (aheadV pre = .agg #[.pointer p0, .pointer p1, .pointer p2, .pointer p3, .pointer p4, .pointer p5, .pointer p6, .pointer p7]) := by
        unfold Hid aheadV arr8 pv
        dsimp only
        rw [hp0, hp1, hp2, hp3, hp4, hp5, hp6, hp7]
      clear hrs hp0 hp1 hp2 hp3 hp4 hp5 hp6 hp7 HAW HARR HRES HROW HBEL
      go_wp2
      exact bodyPost_ret (v := .agg #[.pointer p0, .pointer p1, .pointer p2, .pointer p3, .pointer p4, .pointer p5, .pointer p6, .pointer p7]) (by simp [results, Tryz.results54, go_sem, *]) rfl ⟨by rw [HV.out], HEND.out _ _ _ _ _ _ _ _⟩
    · obtain ⟨j, rfl⟩ : ∃ j, i = j + 1 := ⟨i - 1, by omega⟩
      have hfl : ((j + 1 : Nat) : Int) - 1 = (j : Int) := by omega
      rw [hfl]
      obtain ⟨r0, hr0⟩ := HPQ.out
      have hrw : Rep B wr a hb cs l s := HREP.out.below' HLTX.out (HBEL.out.trans (HAW.out.below.mono (by have := HY.out; omega)))
      obtain ⟨ht, htn, -⟩ := hrw.tower q0 (r0 ++ post) (by rw [HLL.out, hr0, List.append_assoc]) j (fun d hd => HQ.out d hd) (by omega)
      have hnx := next_any a q0.getLast? wr (fun d hd => hrw.node (by rw [HLL.out, hr0]; exact List.mem_append_left _ (List.mem_append_left _ (List.mem_of_getLast? hd))))
      have HNX : Hid (Calls Tryz.prog 55 #[.pointer (some ⟨a, 0, none⟩), atV q0] wr fun e w' => e = .returned (towerV a q0.getLast?) ∧ wr = w') := hnx
      clear hnx
      unfold towerV at HNX
      obtain ⟨tb, htb⟩ : ∃ y, towerB a q0.getLast? = y := ⟨_, rfl⟩
      obtain ⟨to, hto⟩ : ∃ y, towerO q0.getLast? = y := ⟨_, rfl⟩
      obtain ⟨tn, htn'⟩ : ∃ y, towerN q0.getLast? = y := ⟨_, rfl⟩
      rw [htb, hto, htn'] at HNX
      rw [htb, hto] at ht
      rw [htn'] at htn
      have HR0 := Lib.hid hr0
      have j0 : (0 : Int) ≤ (j : Int) := by omega
      have j1 : (j : Int) < (tn : Int) := by omega
      obtain ⟨pn, hpn⟩ : ∃ pn, (nx j (r0 ++ post)).map (fun b => (⟨b, 0, none⟩ : Addr)) = pn := ⟨_, rfl⟩
      have hpv : pv (nx j (r0 ++ post)) = .pointer pn := by rw [← hpn]; rfl
      rw [hpv] at ht
      have HPN := Lib.hid hpv
      have hj8 : j < 8 := by omega
      have HJ8 := Lib.hid hj8
      clear hrw htb hto htn' htn hr0 hpn hpv hfl hi0 hi hj8
      go_wp2_with fail
      refine HNX.out.mono ?_
      rintro e w' ⟨rfl, rfl⟩
      clear HNX
      go_wp2_with fail
      go_loopg [6, 8] r0.length (fun n at_ nn wi => ∃ (q r : List ND), r.length ≤ n ∧ pre = q ++ r ∧ at_ = atV q ∧ (∀ d, q.getLast? = some d → j < d.h) ∧ nn = pv (nx j (r ++ post)) ∧ AW W1 (y) pre (j + 1) wi)
      case atStart => exact ⟨q0, r0, Nat.le_refl _, HR0.out, rfl, fun d hd => HQ.out d hd, HPN.out.symm, HAW.out⟩
      case round =>
        obtain ⟨q, r, hlen, hpq, rfl, hq, rfl, haw⟩ := hrel
        have HPQ2 := Lib.hid hpq
        have HQ2 := Lib.hid hq
        have HAW2 := Lib.hid haw
        have HLEN := Lib.hid hlen
        have hj8 := HJ8.out
        clear hq haw HAW HQ HR0 HPN ht j1 hlen
        rcases HFC.out j q r hpq with ⟨hn, hno⟩ | ⟨p, d, s', hl1, hn, hles, hno⟩ | ⟨p, d, s', hl1, hn, hles, hjd⟩
        · have HNO := Lib.hid hno
          rw [hn]
          simp only [pv, Option.map_none]
          clear hn hno hpq
          go_wp2_with fail
          go_quiet (fail)
          have HAW3 := Lib.hid (HAW2.out.below_to (below_drewN (Below.refl _ _) nq))
          have HLST : Hid (atV q = pv ((lst j pre).map (·.b))) := by
            unfold Hid atV
            rw [HPQ2.out, lst_app HNO.out, lst_last HQ2.out]
          have HST := Lib.hid (AW.store HAW3.out (by omega) HLST.out)
          have zst := HAW3.out.arr
          have zc : (wr.drewN nq).cell? ⟨y, j, none⟩ = some (pv none) := by
            rw [cell_of_row _ _ _ _ _ _ zst, arr8_at _ _ (by omega), if_neg (by omega)]
          have zf : (wr.drewN nq).frozen? ⟨y, j, none⟩ = false := frozen_of_row _ _ _ _ _ zst
          obtain ⟨pa, hpa⟩ : ∃ pa, (Option.map (fun d : ND => d.b) q.getLast?).map (fun b => (⟨b, 0, none⟩ : Addr)) = pa := ⟨_, rfl⟩
          have hav : atV q = .pointer pa := by rw [← hpa]; rfl
          have HAV := Lib.hid hav
          rw [hav] at HST ⊢
          simp only [pv, Option.map_none] at zc
          have j8 : (j : Int) < 8 := by omega
          clear zst hpa hav HLST HAW3
          go_wp2
          go_roundw
          case rel => exact ⟨j, q, by omega, by go_num, ⟨r, HPQ2.out⟩, HAV.out.symm, fun d hd => Nat.le_of_lt (HQ2.out d hd), HST.out⟩
          case measure => simp [intOf]
        · have HNO := Lib.hid hno
          have hrw : Rep B wr a hb cs l s := HREP.out.below' HLTX.out (HBEL.out.trans (HAW2.out.below.mono (by have := HY.out; omega)))
          have hnd := hrw.node (d := d) (by rw [HLL.out, hpq]; rw [List.append_assoc, hl1]; simp)
          have hbox : wr.heap[x]? = some (.cells #[.string k, .int .i64 qe, .bool g, .string v, .int .i64 t] 45 (0, 0)) := (HAW2.out.below.block x (by have := HY.out; omega)).trans HROW.out
          have hdlt : d.b < wr.heap.size := (Array.getElem?_eq_some_iff.1 hnd).1
          have hxlt : x < wr.heap.size := (Array.getElem?_eq_some_iff.1 hbox).1
          rw [hn]
          simp only [pv, Option.map_some]
          obtain ⟨b, hb'⟩ : ∃ b, d.b = b := ⟨_, rfl⟩
          obtain ⟨de, hde⟩ : ∃ de, d.e = de := ⟨_, rfl⟩
          obtain ⟨tw, htw⟩ : ∃ tw, d.t = tw := ⟨_, rfl⟩
          obtain ⟨dc, hdc⟩ : ∃ dc, d.c = dc := ⟨_, rfl⟩
          unfold ncells at hnd
          rw [hde] at hles hnd
          rw [hb'] at hnd hdlt ⊢
          rw [htw, hdc] at hnd
          have HLS := Lib.hid (HL0.out · de hles)
          obtain ⟨k2, q2, g2, v2, t2⟩ := de
          simp only at hnd HLS
          have z0 : wr.cell? ⟨b, 0, none⟩ = some (.string k2) := cell_of_row _ _ _ _ _ _ hnd
          have z1 : wr.cell? ⟨b, 1, none⟩ = some (.int .i64 q2) := cell_of_row _ _ _ _ _ _ hnd
          have z2 : wr.cell? ⟨b, 2, none⟩ = some (.bool g2) := cell_of_row _ _ _ _ _ _ hnd
          have z3 : wr.cell? ⟨b, 3, none⟩ = some (.string v2) := cell_of_row _ _ _ _ _ _ hnd
          have z4 : wr.cell? ⟨b, 4, none⟩ = some (.int .i64 t2) := cell_of_row _ _ _ _ _ _ hnd
          have z5 : wr.cell? ⟨b, 5, none⟩ = some (.slice (some ⟨tw, 0, none⟩) dc dc) := cell_of_row _ _ _ _ _ _ hnd
          have y0 : wr.cell? ⟨x, 0, none⟩ = some (.string k) := cell_of_row _ _ _ _ _ _ hbox
          have y1 : wr.cell? ⟨x, 1, none⟩ = some (.int .i64 qe) := cell_of_row _ _ _ _ _ _ hbox
          have y2 : wr.cell? ⟨x, 2, none⟩ = some (.bool g) := cell_of_row _ _ _ _ _ _ hbox
          have y3 : wr.cell? ⟨x, 3, none⟩ = some (.string v) := cell_of_row _ _ _ _ _ _ hbox
          have y4 : wr.cell? ⟨x, 4, none⟩ = some (.int .i64 t) := cell_of_row _ _ _ _ _ _ hbox
          clear hrw hnd hbox hn hno hpq hl1 hles hb' hde htw hdc z5
          go_wp2_with fail
          go_region_held3 (fun w' => w'.cell? ⟨b, 0, none⟩ = some (.string k2) ∧ w'.cell? ⟨b, 1, none⟩ = some (.int .i64 q2) ∧ w'.cell? ⟨b, 2, none⟩ = some (.bool g2) ∧ w'.cell? ⟨b, 3, none⟩ = some (.string v2) ∧ w'.cell? ⟨b, 4, none⟩ = some (.int .i64 t2) ∧ w'.cell? ⟨x, 0, none⟩ = some (.string k) ∧ w'.cell? ⟨x, 1, none⟩ = some (.int .i64 qe) ∧ w'.cell? ⟨x, 2, none⟩ = some (.bool g) ∧ w'.cell? ⟨x, 3, none⟩ = some (.string v) ∧ w'.cell? ⟨x, 4, none⟩ = some (.int .i64 t))
            (first | go_keep | exact HS3.out | fail)
            (first
              | (go_at_call 56
                 refine (HLS.out _).mono ?_
                 rintro e w3 ⟨rfl, hbb⟩
                 have HBB := Lib.hid hbb
                 have HS3 : Hid (w3.cell? ⟨b, 0, none⟩ = some (.string k2) ∧ w3.cell? ⟨b, 1, none⟩ = some (.int .i64 q2) ∧ w3.cell? ⟨b, 2, none⟩ = some (.bool g2) ∧ w3.cell? ⟨b, 3, none⟩ = some (.string v2) ∧ w3.cell? ⟨b, 4, none⟩ = some (.int .i64 t2) ∧ w3.cell? ⟨x, 0, none⟩ = some (.string k) ∧ w3.cell? ⟨x, 1, none⟩ = some (.int .i64 qe) ∧ w3.cell? ⟨x, 2, none⟩ = some (.bool g) ∧ w3.cell? ⟨x, 3, none⟩ = some (.string v) ∧ w3.cell? ⟨x, 4, none⟩ = some (.int .i64 t)) := Lib.hid ⟨(hbb.cell (p := ⟨b, 0, none⟩) (by simp; omega)).trans z0, (hbb.cell (p := ⟨b, 1, none⟩) (by simp; omega)).trans z1, (hbb.cell (p := ⟨b, 2, none⟩) (by simp; omega)).trans z2, (hbb.cell (p := ⟨b, 3, none⟩) (by simp; omega)).trans z3, (hbb.cell (p := ⟨b, 4, none⟩) (by simp; omega)).trans z4, (hbb.cell (p := ⟨x, 0, none⟩) (by simp; omega)).trans y0, (hbb.cell (p := ⟨x, 1, none⟩) (by simp; omega)).trans y1, (hbb.cell (p := ⟨x, 2, none⟩) (by simp; omega)).trans y2, (hbb.cell (p := ⟨x, 3, none⟩) (by simp; omega)).trans y3, (hbb.cell (p := ⟨x, 4, none⟩) (by simp; omega)).trans y4⟩
                 clear hbb)
              | fail)
          all_goals
            have HAW3 := Lib.hid (HAW2.out.below_to (Below.trans (below_drewN (Below.refl _ _) 1) HBB.out))
            have HLST : Hid (atV q = pv ((lst j pre).map (·.b))) := by
              unfold Hid atV
              rw [HPQ2.out, lst_app HNO.out, lst_last HQ2.out]
            have HST := Lib.hid (AW.store HAW3.out (by omega) HLST.out)
            have zst := HAW3.out.arr
            have zc : w3.cell? ⟨y, j, none⟩ = some (pv none) := by
              rw [cell_of_row _ _ _ _ _ _ zst, arr8_at _ _ (by omega), if_neg (by omega)]
            have zf : w3.frozen? ⟨y, j, none⟩ = false := frozen_of_row _ _ _ _ _ zst
            obtain ⟨pa, hpa⟩ : ∃ pa, (Option.map (fun d : ND => d.b) q.getLast?).map (fun b => (⟨b, 0, none⟩ : Addr)) = pa := ⟨_, rfl⟩
            have hav : atV q = .pointer pa := by rw [← hpa]; rfl
            have HAV := Lib.hid hav
            rw [hav] at HST ⊢
            simp only [pv, Option.map_none] at zc
            have j8 : (j : Int) < 8 := by omega
            clear zst hpa hav HLST HAW3
            go_wp2
            go_roundw
            case rel => exact ⟨j, q, by omega, by go_num, ⟨r, HPQ2.out⟩, HAV.out.symm, fun d hd => Nat.le_of_lt (HQ2.out d hd), HST.out⟩
            case measure => simp [intOf]
        ·
          have hrwT : Rep B wr a hb cs l s := HREP.out.below' HLTX.out (HBEL.out.trans (HAW2.out.below.mono (by have := HY.out; omega)))
          have hlT : l = (q ++ p ++ [d]) ++ (s' ++ post) := by rw [HLL.out, hpq, hl1]; simp
          obtain ⟨htow, htn, -⟩ := hrwT.tower (q ++ p ++ [d]) (s' ++ post) hlT j (fun d' hd => by simp at hd; rw [← hd]; exact hjd) hj8
          have HLQ : Hid (pre = (q ++ p ++ [d]) ++ s') := Lib.hid (by rw [hpq, hl1]; simp)
          have HJD := Lib.hid hjd
          have HLEN2 : Hid (s'.length < r.length) := Lib.hid (by rw [hl1]; simp; omega)
          have HAT : Hid (atV (q ++ p ++ [d]) = pv (some d.b)) := Lib.hid (by unfold atV; simp)
          simp only [List.getLast?_append, List.getLast?_singleton, Option.some_or, towerB, towerO, towerN, Nat.zero_add] at htow htn
          obtain ⟨pn, hpn⟩ : ∃ pn, (nx j (s' ++ post)).map (fun b => (⟨b, 0, none⟩ : Addr)) = pn := ⟨_, rfl⟩
          have hpv : pv (nx j (s' ++ post)) = .pointer pn := by rw [← hpn]; rfl
          rw [hpv] at htow
          have HPN := Lib.hid hpv
          clear hrwT hlT hpn hpv
          have hrw : Rep B wr a hb cs l s := HREP.out.below' HLTX.out (HBEL.out.trans (HAW2.out.below.mono (by have := HY.out; omega)))
          have hnd := hrw.node (d := d) (by rw [HLL.out, hpq]; rw [hl1]; simp)
          have hbox : wr.heap[x]? = some (.cells #[.string k, .int .i64 qe, .bool g, .string v, .int .i64 t] 45 (0, 0)) := (HAW2.out.below.block x (by have := HY.out; omega)).trans HROW.out
          have hdlt : d.b < wr.heap.size := (Array.getElem?_eq_some_iff.1 hnd).1
          have hxlt : x < wr.heap.size := (Array.getElem?_eq_some_iff.1 hbox).1
          rw [hn]
          simp only [pv, Option.map_some]
          obtain ⟨b, hb'⟩ : ∃ b, d.b = b := ⟨_, rfl⟩
          obtain ⟨de, hde⟩ : ∃ de, d.e = de := ⟨_, rfl⟩
          obtain ⟨tw, htw⟩ : ∃ tw, d.t = tw := ⟨_, rfl⟩
          obtain ⟨dc, hdc⟩ : ∃ dc, d.c = dc := ⟨_, rfl⟩
          unfold ncells at hnd
          rw [hde] at hles hnd
          rw [hb'] at hnd hdlt ⊢
          rw [htw, hdc] at hnd
          rw [htw] at htow
          rw [hdc] at htn
          rw [hb'] at HAT
          have HLS := Lib.hid (HL.out · de hles)
          obtain ⟨k2, q2, g2, v2, t2⟩ := de
          simp only at hnd HLS
          have z0 : wr.cell? ⟨b, 0, none⟩ = some (.string k2) := cell_of_row _ _ _ _ _ _ hnd
          have z1 : wr.cell? ⟨b, 1, none⟩ = some (.int .i64 q2) := cell_of_row _ _ _ _ _ _ hnd
          have z2 : wr.cell? ⟨b, 2, none⟩ = some (.bool g2) := cell_of_row _ _ _ _ _ _ hnd
          have z3 : wr.cell? ⟨b, 3, none⟩ = some (.string v2) := cell_of_row _ _ _ _ _ _ hnd
          have z4 : wr.cell? ⟨b, 4, none⟩ = some (.int .i64 t2) := cell_of_row _ _ _ _ _ _ hnd
          have z5 : wr.cell? ⟨b, 5, none⟩ = some (.slice (some ⟨tw, 0, none⟩) dc dc) := cell_of_row _ _ _ _ _ _ hnd
          have y0 : wr.cell? ⟨x, 0, none⟩ = some (.string k) := cell_of_row _ _ _ _ _ _ hbox
          have y1 : wr.cell? ⟨x, 1, none⟩ = some (.int .i64 qe) := cell_of_row _ _ _ _ _ _ hbox
          have y2 : wr.cell? ⟨x, 2, none⟩ = some (.bool g) := cell_of_row _ _ _ _ _ _ hbox
          have y3 : wr.cell? ⟨x, 3, none⟩ = some (.string v) := cell_of_row _ _ _ _ _ _ hbox
          have y4 : wr.cell? ⟨x, 4, none⟩ = some (.int .i64 t) := cell_of_row _ _ _ _ _ _ hbox
          have htlt : tw < wr.heap.size := block_lt_of_cell htow
          have j1 : (j : Int) < (dc : Int) := by omega
          clear hrw hnd hbox hn hpq hl1 hles hb' hde htw hdc hjd
          go_wp2_with fail
          go_region_held3 (fun w' => w'.cell? ⟨b, 0, none⟩ = some (.string k2) ∧ w'.cell? ⟨b, 1, none⟩ = some (.int .i64 q2) ∧ w'.cell? ⟨b, 2, none⟩ = some (.bool g2) ∧ w'.cell? ⟨b, 3, none⟩ = some (.string v2) ∧ w'.cell? ⟨b, 4, none⟩ = some (.int .i64 t2) ∧ w'.cell? ⟨x, 0, none⟩ = some (.string k) ∧ w'.cell? ⟨x, 1, none⟩ = some (.int .i64 qe) ∧ w'.cell? ⟨x, 2, none⟩ = some (.bool g) ∧ w'.cell? ⟨x, 3, none⟩ = some (.string v) ∧ w'.cell? ⟨x, 4, none⟩ = some (.int .i64 t))
            (first | go_keep | exact HS3.out | fail)
            (first
              | (go_at_call 56
                 refine (HLS.out _).mono ?_
                 rintro e w3 ⟨rfl, hbb⟩
                 have HBB := Lib.hid hbb
                 have HS3 : Hid (w3.cell? ⟨b, 0, none⟩ = some (.string k2) ∧ w3.cell? ⟨b, 1, none⟩ = some (.int .i64 q2) ∧ w3.cell? ⟨b, 2, none⟩ = some (.bool g2) ∧ w3.cell? ⟨b, 3, none⟩ = some (.string v2) ∧ w3.cell? ⟨b, 4, none⟩ = some (.int .i64 t2) ∧ w3.cell? ⟨x, 0, none⟩ = some (.string k) ∧ w3.cell? ⟨x, 1, none⟩ = some (.int .i64 qe) ∧ w3.cell? ⟨x, 2, none⟩ = some (.bool g) ∧ w3.cell? ⟨x, 3, none⟩ = some (.string v) ∧ w3.cell? ⟨x, 4, none⟩ = some (.int .i64 t)) := Lib.hid ⟨(hbb.cell (p := ⟨b, 0, none⟩) (by simp; omega)).trans z0, (hbb.cell (p := ⟨b, 1, none⟩) (by simp; omega)).trans z1, (hbb.cell (p := ⟨b, 2, none⟩) (by simp; omega)).trans z2, (hbb.cell (p := ⟨b, 3, none⟩) (by simp; omega)).trans z3, (hbb.cell (p := ⟨b, 4, none⟩) (by simp; omega)).trans z4, (hbb.cell (p := ⟨x, 0, none⟩) (by simp; omega)).trans y0, (hbb.cell (p := ⟨x, 1, none⟩) (by simp; omega)).trans y1, (hbb.cell (p := ⟨x, 2, none⟩) (by simp; omega)).trans y2, (hbb.cell (p := ⟨x, 3, none⟩) (by simp; omega)).trans y3, (hbb.cell (p := ⟨x, 4, none⟩) (by simp; omega)).trans y4⟩
                 clear hbb)
              | fail)
          all_goals
            have HAW3 := Lib.hid (HAW2.out.below_to (Below.trans (below_drewN (Below.refl _ _) 1) HBB.out))
            have c5 : w3.cell? ⟨b, 5, none⟩ = some (.slice (some ⟨tw, 0, none⟩) dc dc) := (HBB.out.cell (p := ⟨b, 5, none⟩) (by simp; omega)).trans z5
            have ct : w3.cell? ⟨tw, j, none⟩ = some (.pointer pn) := (HBB.out.cell (p := ⟨tw, j, none⟩) (by simp; omega)).trans htow
            clear z0 z1 z2 z3 z4 z5 y0 y1 y2 y3 y4 htow HS3
            go_wp2
            go_roundg s'.length
            case rel => exact ⟨q ++ p ++ [d], s', Nat.le_refl _, HLQ.out, HAT.out.symm, fun d' hd => by simp at hd; rw [← hd]; exact HJD.out, HPN.out.symm, HAW3.out⟩
            case measure => exact Nat.lt_of_lt_of_le HLEN2.out HLEN.out
end Go.Proofs.YtjkofciohehgfaaGreatDoor.L6


/- find; link. -/
namespace Go.Proofs.YtjkofciohehgfaaGreatDoor.L6
open Go.RowKit
open SK

theorem nx0_head {l : List ND} (h : ∀ d ∈ l, 1 ≤ d.h) : nx 0 l = l.head?.map (·.b) := by
  cases l with
  | nil => rfl
  | cons d l =>
    have := h d (by simp)
    simp only [nx, List.head?_cons, Option.map_some]
    rw [if_pos (by omega)]

theorem lst0_last {l : List ND} (h : ∀ d ∈ l, 1 ≤ d.h) : lst 0 l = l.getLast? :=
  lst_last fun d hd => h d (List.mem_of_getLast? hd)

end Go.Proofs.YtjkofciohehgfaaGreatDoor.L6


