/- What a loss of power does to a file. -/
import Derived.Test.YtgknkldhjejjmaaDoorDkI
namespace Go.Proofs.YtgknkldhjejjmaaDoor
open Go.RowKit Go.Maps
open DM

/-- numbers that stay readable whatever a disk does -/
def Stays (B : Nat) (w : World) (A : Option Addr) (l : List Int) : Prop :=
  0 < l.length → ∃ b off, A = some ⟨b, off, none⟩ ∧ ∀ w', Moves B w w' → ∀ j, (h : j < l.length) → w'.cell? ⟨b, off + j, none⟩ = some (.int .i64 l[j])
theorem Stays.moved {B : Nat} {w w' : World} {A : Option Addr} {l : List Int} (h : Stays B w A l) (hm : Moves B w w') : Stays B w' A l := fun h0 => by
  obtain ⟨b, off, hA, hc⟩ := h h0
  exact ⟨b, off, hA, fun w'' hm' j hj => hc w'' (hm.trans hm') j hj⟩

theorem rem_st (n : Int) (b : Nat) (w : World) (hn : fits n) (hb : 0 < b) (hb2 : b ≤ 4611686018427387904) :
    Calls Tryd.prog 39 #[.int .i64 n, .int .i64 b] w fun e w' => e = .returned (.int .i64 (rest n b)) ∧ w' = w :=
  (rem_any n b w hn hb hb2).mono fun _ _ ⟨h1, h2⟩ => ⟨h1, h2.symm⟩

theorem slice_full (W : World) (A : Option Addr) (n cap m : Nat) (h : m ≤ cap) : (Instr.slice 51 (.slice A n cap) none (some (.int .i64 (m : Int))) (some (.int .i64 (m : Int)))).run Tryd.prog W = .ok (.slice A m m) W := by
  have hs : ∀ w, (sizeOf (Tryd.prog.elem 51)).run Tryd.prog w = .ok 1 w := fun w => by kernel_rfl
  rw [run_slice_hm W 51 A n cap (by kernel_rfl) .i64 .i64 (m : Int) (m : Int) (by omega) (by omega) (by omega), hs]
  simp only [Result.andThen, sliced, Int.toNat_natCast, Nat.sub_zero, Nat.zero_mul, add_zero', Option.map_id']
  split <;> rfl

/-- what a loss of power leaves of a file -/
def FLoseOut (B : Nat) (w : World) (g : Gh) (n : Nat) (f : F) (e : Ending) (w' : World) : Prop :=
  e = .returned (.tuple #[]) ∧ w.grownBy w' (some (g.blk n)) ∧ ∃ v, v.ownBlock = (g.row n).ownBlock ∧ FileAt B w' { g with row := fun m => if m = n then v else g.row m } n f

theorem flose_end {B : Nat} {w : World} {g : Gh} {n : Nat} {f : F} (hf : FileAt B w g n f) {A : Option Addr} {c K : Nat} (hr : g.row n = .slice A f.data.length c) (hK : K ≤ f.data.length) (W : World)
    (h1 : W.heap = (w.setCell ⟨g.blk n, 2, none⟩ (.int .i64 K)).heap) (h2 : W.os = w.os) (h3 : W.tape = w.tape) (h4 : W.output = w.output) :
    FLoseOut B w g n ⟨f.data.take K, K⟩ (.returned (.tuple #[])) (W.setCell ⟨g.blk n, 1, none⟩ (.slice A K K)) := by
  have hbr : ∀ c : Array Value, Obj.cells #[.int .i64 n, g.row n, .int .i64 f.sync] 70 (0, 0) ≠ .cells c 5 (0, 0) := fun c e => by injection e with _ e; exact absurd e (by decide)
  have hg1 : w.grownBy W (some (g.blk n)) := ⟨h2, h3, h4, by rw [h1]; simp [World.setCell], fun k _ hk => by rw [h1]; exact Below.heap_setCell _ _ _ _ (fun e => hk (by rw [e]))⟩
  have hg2 : w.grownBy (W.setCell ⟨g.blk n, 1, none⟩ (.slice A K K)) (some (g.blk n)) := hg1.trans (grownBy_setCell W ⟨g.blk n, 1, none⟩ _)
  have hb1 : W.heap[g.blk n]? = some (.cells (#[.int .i64 n, g.row n, .int .i64 f.sync].setIfInBounds 2 (.int .i64 K)) 70 (0, 0)) := by rw [h1]; exact heap_set_fr hf.2.1 2 _
  have hrow := hf.2.2.kept hg2 (hf.2.2.ne hf.2.1 hbr)
  have hob : (Value.slice A K K).ownBlock = (g.row n).ownBlock := by rw [hr]; cases A <;> rfl
  refine ⟨rfl, hg2, .slice A K K, hob, hf.1, ?_, ?_⟩
  · simp only [if_true]
    rw [heap_set_fr hb1 1]
    rfl
  · simp only [if_true]
    rcases hrow with ⟨e1, e2⟩ | ⟨r, cap, cur, e1, hr2, hr3, hr4, hr5, hr6, hr7⟩
    · have hl0 : f.data.length = 0 := by rw [e2]; rfl
      rw [hr] at e1
      injection e1 with eA _ _
      have hK0 : K = 0 := by omega
      subst hK0 eA
      exact .inl ⟨rfl, by rw [e2]; rfl⟩
    · rw [hr] at e1
      injection e1 with eA _ _
      subst eA
      have htl : (f.data.take K).length = K := by rw [List.length_take]; omega
      refine .inr ⟨r, K, cur, by rw [htl], hr2, hr3, by omega, by omega, by omega, ?_⟩
      rw [htl]
      have : Lib.byteCells (f.data.take K) = (Lib.byteCells f.data).take K := by simp [Lib.byteCells]
      rw [this, ← hr7, List.take_take, Nat.min_eq_left hK]

set_option maxRecDepth 100000 in
set_option maxHeartbeats 1000000 in
theorem flose_any {B : Nat} {w : World} {g : Gh} {n : Nat} {f : F} (hf : FileAt B w g n f) (hok : f.sync ≤ f.data.length ∧ f.data.length ≤ 1048576) (A : Option Addr) (cap : Nat) (l : List Int) (hl : l.length ≤ 4611686018427387904) (hst : Stays B w A l) (hfit : ∀ x ∈ l, fits x) (hn : n ≤ 4611686018427387904) :
    Calls Tryd.prog 64 #[.pointer (some ⟨g.blk n, 0, none⟩), .slice A l.length cap] w (FLoseOut B w g n (loseF l n f)) := by
  obtain ⟨A', c, hrow⟩ := row_slice hf
  have hlc : f.data.length ≤ c := by
    rcases hf.2.2 with ⟨e, h0⟩ | ⟨r, c', _, e, _, _, h4, _⟩
    · rw [h0]; exact Nat.zero_le _
    · rw [hrow] at e
      injection e with _ _ e
      omega
  obtain ⟨x, hx⟩ : ∃ x, l.getD (n % l.length) 0 = x := ⟨_, rfl⟩
  have hxf : fits x := by
    rw [← hx, List.getD_eq_getElem?_getD]
    cases h : l[n % l.length]? with
    | none => simp [fits]
    | some y => exact hfit y (List.mem_of_getElem? h)
  have hrl := rest_lt x (b := f.data.length - f.sync + 1) (by omega)
  obtain ⟨R, hR⟩ : ∃ R, rest x (f.data.length - f.sync + 1) = R := ⟨_, rfl⟩
  obtain ⟨K, hK⟩ : ∃ K, f.sync + R = K := ⟨_, rfl⟩
  have hlf : loseF l n f = ⟨f.data.take K, K⟩ := by unfold loseF; rw [hx, hR, hK]
  rw [hlf]
  rw [hR] at hrl
  have HEND := Lib.hid (flose_end hf hrow (K := K) (by omega))
  have HRM : Hid (∀ W, Calls Tryd.prog 39 #[.int .i64 x, .int .i64 ((f.data.length - f.sync + 1 : Nat) : Int)] W fun e w' => e = .returned (.int .i64 R) ∧ w' = W) := fun W => by
    rw [← hR]; exact rem_st x _ W hxf (by omega) (by omega)
  have hsl := fun W => slice_full W A' f.data.length c K (by omega)
  have c0 : w.cell? ⟨g.blk n, 0, none⟩ = some (.int .i64 n) := cell_of_row _ _ _ _ _ _ hf.2.1
  have c1 : w.cell? ⟨g.blk n, 1, none⟩ = some (.slice A' f.data.length c) := by rw [← hrow]; exact cell_of_row _ _ _ _ _ _ hf.2.1
  have c2 : w.cell? ⟨g.blk n, 2, none⟩ = some (.int .i64 f.sync) := cell_of_row _ _ _ _ _ _ hf.2.1
  have f1 : w.frozen? ⟨g.blk n, 1, none⟩ = false := frozen_of_row _ _ _ _ _ hf.2.1
  have f2 : w.frozen? ⟨g.blk n, 2, none⟩ = false := frozen_of_row _ _ _ _ _ hf.2.1
  have HX := Lib.hid hx
  obtain ⟨bk, hbk⟩ : ∃ bk, g.blk n = bk := ⟨_, rfl⟩
  obtain ⟨L, hL⟩ : ∃ L, f.data.length = L := ⟨_, rfl⟩
  obtain ⟨S, hS⟩ : ∃ S, f.sync = S := ⟨_, rfl⟩
  rw [hbk] at HEND c0 c1 c2 f1 f2
  rw [hL] at hok hlc hrl HRM hsl c1
  rw [hS] at hok hrl hK HRM c2
  rw [hbk]
  have hRK := Lib.hid hK
  obtain ⟨M, hM⟩ : ∃ M, L - S + 1 = M := ⟨_, rfl⟩
  rw [hM] at HRM
  have v0 : IntKind.i64.wrap ((L : Int) - (S : Int)) = (L : Int) - (S : Int) := wrapN _ (by omega) (by omega)
  have v1 : (L : Int) - (S : Int) + 1 = (M : Int) := by omega
  have v1' : IntKind.i64.wrap (M : Int) = (M : Int) := wrapN _ (by omega) (by omega)
  have v2' : IntKind.i64.wrap (K : Int) = (K : Int) := wrapN _ (by omega) (by omega)
  have v2 : (S : Int) + (R : Int) = (K : Int) := by omega
  have hK1 : K ≤ 1048576 := by omega
  clear hf hx hR hK hlf hbk hL hS hfit hrow hM
  have hll : (l.length : Int) ≤ 4611686018427387904 := by omega
  by_cases h0 : l.length = 0
  · have hx0 : x = 0 := by
      rw [← HX.out, List.eq_nil_of_length_eq_zero h0]
      rfl
    subst hx0
    have g0 : decide ((0 : Int) < (l.length : Int)) = false := decide_eq_false (by omega)
    clear HX hst
    go_enter Tryd.func64, Tryd.ntmps64
    go_wp2_with fail
    refine wp_region_still_tail 20 (by kernel_rfl) (by kernel_rfl) ?_
    simp only [List.take_succ_cons, List.take_zero, List.drop_succ_cons, List.drop_zero]
    have HEND2 : Hid (∀ W : World, W.heap = ({ w with drawn := w.drawn + 1 } : World).heap → W.os = w.os → W.tape = w.tape → W.output = w.output → ∀ V : World, V = { W.setCell ⟨bk, 2, none⟩ (.int .i64 K) with drawn := (W.setCell ⟨bk, 2, none⟩ (.int .i64 K)).drawn + 1 } → FLoseOut B w g n ⟨f.data.take K, K⟩ (.returned (.tuple #[])) (V.setCell ⟨bk, 1, none⟩ (.slice A' K K))) := fun W e1 e2 e3 e4 V hV => by
      subst hV
      exact HEND.out _ (by simp only [World.setCell]; rw [e1]) e2 e3 e4
    have z1 : ({ w with drawn := w.drawn + 1 } : World).cell? ⟨bk, 1, none⟩ = some (.slice A' L c) := c1
    have z2 : ({ w with drawn := w.drawn + 1 } : World).cell? ⟨bk, 2, none⟩ = some (.int .i64 S) := c2
    have y1 : ({ w with drawn := w.drawn + 1 } : World).frozen? ⟨bk, 1, none⟩ = false := f1
    have y2 : ({ w with drawn := w.drawn + 1 } : World).frozen? ⟨bk, 2, none⟩ = false := f2
    have HEND3 := Lib.hid (HEND2.out { w with drawn := w.drawn + 1 } rfl rfl rfl rfl)
    generalize ({ w with drawn := w.drawn + 1 } : World) = w1 at HEND3 z1 z2 y1 y2 ⊢
    clear HEND HEND2 c0 c1 c2 f1 f2
    repeat still_step
    still_call (HRM.out _)
    repeat still_step
    refine wpStill_nil ?_
    go_wp2_with fail
    refine wp_region_still_tail 16 (by kernel_rfl) (by kernel_rfl) ?_
    simp only [List.take_succ_cons, List.take_zero, List.drop_succ_cons, List.drop_zero]
    have HE := Lib.hid (HEND3.out _ rfl)
    have q1 : ({ w1.setCell ⟨bk, 2, none⟩ (.int .i64 K) with drawn := (w1.setCell ⟨bk, 2, none⟩ (.int .i64 K)).drawn + 1 } : World).cell? ⟨bk, 1, none⟩ = some (.slice A' L c) := by
      show (w1.setCell ⟨bk, 2, none⟩ (.int .i64 K)).cell? ⟨bk, 1, none⟩ = _
      rw [← z1]; go_simp
    have q2 : ({ w1.setCell ⟨bk, 2, none⟩ (.int .i64 K) with drawn := (w1.setCell ⟨bk, 2, none⟩ (.int .i64 K)).drawn + 1 } : World).cell? ⟨bk, 2, none⟩ = some (.int .i64 K) := by
      show (w1.setCell ⟨bk, 2, none⟩ (.int .i64 K)).cell? ⟨bk, 2, none⟩ = _
      go_simp
    have q3 : ({ w1.setCell ⟨bk, 2, none⟩ (.int .i64 K) with drawn := (w1.setCell ⟨bk, 2, none⟩ (.int .i64 K)).drawn + 1 } : World).frozen? ⟨bk, 1, none⟩ = false := by
      show (w1.setCell ⟨bk, 2, none⟩ (.int .i64 K)).frozen? ⟨bk, 1, none⟩ = _
      rw [World.frozen?_setCell]; exact y1
    generalize ({ w1.setCell ⟨bk, 2, none⟩ (.int .i64 K) with drawn := (w1.setCell ⟨bk, 2, none⟩ (.int .i64 K)).drawn + 1 } : World) = w2 at HE q1 q2 q3 ⊢
    clear HEND3 z1 z2 y1 y2
    repeat still_step
    refine wpStill_nil ?_
    go_wp2
    go_end0
    exact HE.out
  · obtain ⟨b, off, hA, hc⟩ := hst (by omega)
    have hmod : n % l.length < l.length := Nat.mod_lt _ (by omega)
    have hcx := hc w (Moves.refl B w) (n % l.length) hmod
    have hgx : l[n % l.length] = x := by
      rw [← HX.out, List.getD_eq_getElem?_getD, List.getElem?_eq_getElem hmod]
      rfl
    rw [hgx] at hcx
    obtain ⟨i, hi⟩ : ∃ i, n % l.length = i := ⟨_, rfl⟩
    rw [hi] at hcx hmod
    have hrem : (n : Int) % (l.length : Int) = (i : Int) := by rw [← hi, Int.natCast_emod]
    have g0 : (1 : Int) ≤ (l.length : Int) := by omega
    have i0 : (0 : Int) ≤ (i : Int) := by omega
    have i1 : (i : Int) < (l.length : Int) := by omega
    subst hA
    clear HX hst hc hgx hi
    go_enter Tryd.func64, Tryd.ntmps64
    go_wp2_with fail
    refine wp_region_still_tail 20 (by kernel_rfl) (by kernel_rfl) ?_
    simp only [List.take_succ_cons, List.take_zero, List.drop_succ_cons, List.drop_zero]
    have HEND2 : Hid (∀ W : World, W.heap = ({ w with drawn := w.drawn + 1 } : World).heap → W.os = w.os → W.tape = w.tape → W.output = w.output → ∀ V : World, V = { W.setCell ⟨bk, 2, none⟩ (.int .i64 K) with drawn := (W.setCell ⟨bk, 2, none⟩ (.int .i64 K)).drawn + 1 } → FLoseOut B w g n ⟨f.data.take K, K⟩ (.returned (.tuple #[])) (V.setCell ⟨bk, 1, none⟩ (.slice A' K K))) := fun W e1 e2 e3 e4 V hV => by
      subst hV
      exact HEND.out _ (by simp only [World.setCell]; rw [e1]) e2 e3 e4
    have z1 : ({ w with drawn := w.drawn + 1 } : World).cell? ⟨bk, 1, none⟩ = some (.slice A' L c) := c1
    have z2 : ({ w with drawn := w.drawn + 1 } : World).cell? ⟨bk, 2, none⟩ = some (.int .i64 S) := c2
    have y1 : ({ w with drawn := w.drawn + 1 } : World).frozen? ⟨bk, 1, none⟩ = false := f1
    have y2 : ({ w with drawn := w.drawn + 1 } : World).frozen? ⟨bk, 2, none⟩ = false := f2
    have HEND3 := Lib.hid (HEND2.out { w with drawn := w.drawn + 1 } rfl rfl rfl rfl)
    generalize ({ w with drawn := w.drawn + 1 } : World) = w1 at HEND3 z1 z2 y1 y2 ⊢
    clear HEND HEND2 c0 c1 c2 f1 f2
    repeat still_step
    still_call (HRM.out _)
    repeat still_step
    refine wpStill_nil ?_
    go_wp2_with fail
    refine wp_region_still_tail 16 (by kernel_rfl) (by kernel_rfl) ?_
    simp only [List.take_succ_cons, List.take_zero, List.drop_succ_cons, List.drop_zero]
    have HE := Lib.hid (HEND3.out _ rfl)
    have q1 : ({ w1.setCell ⟨bk, 2, none⟩ (.int .i64 K) with drawn := (w1.setCell ⟨bk, 2, none⟩ (.int .i64 K)).drawn + 1 } : World).cell? ⟨bk, 1, none⟩ = some (.slice A' L c) := by
      show (w1.setCell ⟨bk, 2, none⟩ (.int .i64 K)).cell? ⟨bk, 1, none⟩ = _
      rw [← z1]; go_simp
    have q2 : ({ w1.setCell ⟨bk, 2, none⟩ (.int .i64 K) with drawn := (w1.setCell ⟨bk, 2, none⟩ (.int .i64 K)).drawn + 1 } : World).cell? ⟨bk, 2, none⟩ = some (.int .i64 K) := by
      show (w1.setCell ⟨bk, 2, none⟩ (.int .i64 K)).cell? ⟨bk, 2, none⟩ = _
      go_simp
    have q3 : ({ w1.setCell ⟨bk, 2, none⟩ (.int .i64 K) with drawn := (w1.setCell ⟨bk, 2, none⟩ (.int .i64 K)).drawn + 1 } : World).frozen? ⟨bk, 1, none⟩ = false := by
      show (w1.setCell ⟨bk, 2, none⟩ (.int .i64 K)).frozen? ⟨bk, 1, none⟩ = _
      rw [World.frozen?_setCell]; exact y1
    generalize ({ w1.setCell ⟨bk, 2, none⟩ (.int .i64 K) with drawn := (w1.setCell ⟨bk, 2, none⟩ (.int .i64 K)).drawn + 1 } : World) = w2 at HE q1 q2 q3 ⊢
    clear HEND3 z1 z2 y1 y2
    repeat still_step
    refine wpStill_nil ?_
    go_wp2
    go_end0
    exact HE.out
end Go.Proofs.YtgknkldhjejjmaaDoor
