/- The reference: New, Trap, Used. Made by gen_rfe.py. -/
import Derived.Test.YtadokmihabfbjaaRfD
import Derived.StillTailTactics
namespace Go.Proofs.Ytadokmihabfbjaa
open Go.RowKit Go.Maps
open DM

theorem grown_refl (w : World) (r : Option Nat) : w.grownBy w r := ⟨rfl, rfl, rfl, Nat.le_refl _, fun _ _ _ => rfl⟩
theorem grown_set {a b : World} {r : Nat} (h : a.grownBy b (some r)) (j : Nat) (u : Value) : a.grownBy (b.setCell ⟨r, j, none⟩ u) (some r) := World.grownBy.trans h (grownBy_setCell _ _ _)

/-- what a call of the reference leaves that answers a number -/
def ROut (B : Nat) (w : World) (r : Nat) (x : Int × RS) (e : Ending) (w' : World) : Prop := e = .returned (.int .i64 x.1) ∧ (∃ g, RRep B w' r x.2 g) ∧ MovesR B w w'
/-- .. that answers nothing -/
def RVoid (B : Nat) (w : World) (r : Nat) (t : RS) (e : Ending) (w' : World) : Prop := e = .returned (.tuple #[]) ∧ (∃ g, RRep B w' r t g) ∧ MovesR B w w'

def RS.new (room : Int) : RS := ⟨max room 0, [], [], [], [], false, 0, 0, [], 0⟩

theorem rnew_rep (w : World) (B : Nat) (hB : B ≤ w.heap.size) (room x : Int) (hx : x = max room 0) : RRep B (w.alloc (.cells #[.int .i64 x, .slice none 0 0, .slice none 0 0, .slice none 0 0, .slice none 0 0, .bool false, .int .i64 0, .int .i64 0, .slice none 0 0, .int .i64 0] 53)) w.heap.size (RS.new room) ⟨.slice none 0 0, .slice none 0 0, .slice none 0 0, .slice none 0 0, .slice none 0 0, []⟩ := by
  subst hx
  refine ⟨⟨World.ownsRow_nil _ _ _ _, World.ownsRow_nil _ _ _ _, World.ownsRow_nil _ _ _ _, World.ownsRow_nil _ _ _ _, fun i hi => by simp [RS.new] at hi, World.ownsRow_nil _ _ _ _⟩, heap_alloc_new w _, hB⟩

theorem rnew_any (room : Int) (w : World) (B : Nat) (hB : B ≤ w.heap.size) : Calls Try.prog 6 #[.int .i64 room] w fun e w' => ∃ r, e = .returned (.pointer (some ⟨r, 0, none⟩)) ∧ (∃ g, RRep B w' r (RS.new room) g) ∧ Below w.heap.size w w' := by
  have HN := Lib.hid (fun x hx => rnew_rep w B hB room x hx)
  by_cases h : room < 0
  · clear hB
    go_enter Try.func6, Try.ntmps6
    go_wp2
    go_ret
    exact ⟨_, rfl, ⟨_, HN.out 0 (by omega)⟩, (Below.refl _ _).alloc (Nat.le_refl _) _⟩
  · clear hB
    go_enter Try.func6, Try.ntmps6
    go_wp2
    go_ret
    exact ⟨_, rfl, ⟨_, HN.out room (by omega)⟩, (Below.refl _ _).alloc (Nat.le_refl _) _⟩

theorem rrep_eq {B : Nat} {w : World} {r : Nat} {t t' : RS} {g : RV} {C : Array Value} (h : RHalf B w r t.files t.names t.lasts t.queue t.cutBytes g C) (hC : C = rC t' g) (hf : t'.files = t.files) (hn : t'.names = t.names) (hl : t'.lasts = t.lasts) (hq : t'.queue = t.queue) (hc : t'.cutBytes = t.cutBytes) : RRep B w r t' g := by
  subst hC
  unfold RRep
  rw [hf, hn, hl, hq, hc]
  exact h

theorem trap_bit {a : Nat} (h : 0 < a) : ((a - 1 : Nat) : Int) = (a : Int) - 1 := by omega

set_option maxHeartbeats 1000000 in
theorem trap_zz {B : Nat} {w : World} {r : Nat} {t : RS} {g : RV} (h : RRep B w r t g) (_hB : B ≤ w.heap.size) (hc : t.cutLeft = 0) (hb' : t.brk = 0) (_bc : t.cutLeft ≤ 9223372036854775807) (_bb : t.brk ≤ 9223372036854775807) :
    Calls Try.prog 56 #[.pointer (some ⟨r, 0, none⟩)] w (fun e w' => e = .returned (.int .i64 t.trap.1) ∧ RRep B w' r t.trap.2 g ∧ MovesR B w w' ∧ w.grownBy w' (some r)) := by
  have hv : t.trap.1 = 0 := by
    show (if t.cutLeft = 1 then (1 : Int) else if t.brk = 1 then 2 else 0) = 0
    rw [if_neg (by omega), if_neg (by omega)]
  rw [hv]
  have c6 := h.cells 6
  have c9 := h.cells 9
  have f6 := h.frozen 6
  have f9 := h.frozen 9
  have HS := Lib.hid (fun (u1 u2 : Int) (h1 : u1 = ((t.cutLeft - 1 : Nat) : Int)) (h2 : u2 = ((t.brk - 1 : Nat) : Int)) => (rrep_eq (h) (t' := t.trap.2) (by simp [rC, RS.trap]; omega) rfl rfl rfl rfl rfl : RRep B w r t.trap.2 g))
  have HM := Lib.hid (fun (u1 u2 : Int) => (⟨MovesR.refl B w, grown_refl w (some r)⟩ : MovesR B w w ∧ w.grownBy w (some r)))
  simp only [rC] at c6 c9
  change w.cell? ⟨r, 6, none⟩ = some (.int .i64 t.cutLeft) at c6
  change w.cell? ⟨r, 9, none⟩ = some (.int .i64 t.brk) at c9
  obtain ⟨a, ha⟩ : ∃ a, t.cutLeft = a := ⟨_, rfl⟩
  obtain ⟨b, hb⟩ : ∃ b, t.brk = b := ⟨_, rfl⟩
  rw [ha] at c6 HS _bc hc
  rw [hb] at c9 HS _bb hb'
  clear h hv ha hb
  have q1 : ((a : Int) == 1) = false := by rw [beq_eq_false_iff_ne]; omega
  have q2 : ¬ (0 : Int) < (a : Int) := by omega
  have q3 : ((b : Int) == 1) = false := by rw [beq_eq_false_iff_ne]; omega
  have q4 : ¬ (0 : Int) < (b : Int) := by omega
  go_enter Try.func56, Try.ntmps56
  go_wp2
  go_ret
  exact ⟨rfl, HS.out ((a - 1 : Nat) : Int) ((b - 1 : Nat) : Int) (by omega) (by omega), HM.out 0 0⟩

set_option maxHeartbeats 1000000 in
theorem trap_zo {B : Nat} {w : World} {r : Nat} {t : RS} {g : RV} (h : RRep B w r t g) (_hB : B ≤ w.heap.size) (hc : t.cutLeft = 0) (hb' : t.brk = 1) (_bc : t.cutLeft ≤ 9223372036854775807) (_bb : t.brk ≤ 9223372036854775807) :
    Calls Try.prog 56 #[.pointer (some ⟨r, 0, none⟩)] w (fun e w' => e = .returned (.int .i64 t.trap.1) ∧ RRep B w' r t.trap.2 g ∧ MovesR B w w' ∧ w.grownBy w' (some r)) := by
  have hv : t.trap.1 = 2 := by
    show (if t.cutLeft = 1 then (1 : Int) else if t.brk = 1 then 2 else 0) = 2
    rw [if_neg (by omega), if_pos (by omega)]
  rw [hv]
  have c6 := h.cells 6
  have c9 := h.cells 9
  have f6 := h.frozen 6
  have f9 := h.frozen 9
  have HS := Lib.hid (fun (u1 u2 : Int) (h1 : u1 = ((t.cutLeft - 1 : Nat) : Int)) (h2 : u2 = ((t.brk - 1 : Nat) : Int)) => (rrep_eq ((h).set 9 (.int .i64 u2)) (t' := t.trap.2) (by simp [rC, RS.trap]; omega) rfl rfl rfl rfl rfl : RRep B (w.setCell ⟨r, 9, none⟩ (.int .i64 u2)) r t.trap.2 g))
  have HM := Lib.hid (fun (u1 u2 : Int) => (⟨(MovesR.refl B w).set (by first | exact _hB | (rw [setCell_size]; exact _hB)) (h) 9 _, grown_set (grown_refl w (some r)) 9 _⟩ : MovesR B w (w.setCell ⟨r, 9, none⟩ (.int .i64 u2)) ∧ w.grownBy (w.setCell ⟨r, 9, none⟩ (.int .i64 u2)) (some r)))
  simp only [rC] at c6 c9
  change w.cell? ⟨r, 6, none⟩ = some (.int .i64 t.cutLeft) at c6
  change w.cell? ⟨r, 9, none⟩ = some (.int .i64 t.brk) at c9
  obtain ⟨a, ha⟩ : ∃ a, t.cutLeft = a := ⟨_, rfl⟩
  obtain ⟨b, hb⟩ : ∃ b, t.brk = b := ⟨_, rfl⟩
  rw [ha] at c6 HS _bc hc
  rw [hb] at c9 HS _bb hb'
  clear h hv ha hb
  have q1 : ((a : Int) == 1) = false := by rw [beq_eq_false_iff_ne]; omega
  have q2 : ¬ (0 : Int) < (a : Int) := by omega
  have q3 : ((b : Int) == 1) = true := by rw [beq_iff_eq]; omega
  have q4 : (0 : Int) < (b : Int) := by omega
  go_enter Try.func56, Try.ntmps56
  go_wp2
  go_ret
  exact ⟨rfl, HS.out ((a - 1 : Nat) : Int) _ (by omega) (by omega), HM.out 0 _⟩

set_option maxHeartbeats 1000000 in
theorem trap_zm {B : Nat} {w : World} {r : Nat} {t : RS} {g : RV} (h : RRep B w r t g) (_hB : B ≤ w.heap.size) (hc : t.cutLeft = 0) (hb' : 1 < t.brk) (_bc : t.cutLeft ≤ 9223372036854775807) (_bb : t.brk ≤ 9223372036854775807) :
    Calls Try.prog 56 #[.pointer (some ⟨r, 0, none⟩)] w (fun e w' => e = .returned (.int .i64 t.trap.1) ∧ RRep B w' r t.trap.2 g ∧ MovesR B w w' ∧ w.grownBy w' (some r)) := by
  have hv : t.trap.1 = 0 := by
    show (if t.cutLeft = 1 then (1 : Int) else if t.brk = 1 then 2 else 0) = 0
    rw [if_neg (by omega), if_neg (by omega)]
  rw [hv]
  have c6 := h.cells 6
  have c9 := h.cells 9
  have f6 := h.frozen 6
  have f9 := h.frozen 9
  have HS := Lib.hid (fun (u1 u2 : Int) (h1 : u1 = ((t.cutLeft - 1 : Nat) : Int)) (h2 : u2 = ((t.brk - 1 : Nat) : Int)) => (rrep_eq ((h).set 9 (.int .i64 u2)) (t' := t.trap.2) (by simp [rC, RS.trap]; omega) rfl rfl rfl rfl rfl : RRep B (w.setCell ⟨r, 9, none⟩ (.int .i64 u2)) r t.trap.2 g))
  have HM := Lib.hid (fun (u1 u2 : Int) => (⟨(MovesR.refl B w).set (by first | exact _hB | (rw [setCell_size]; exact _hB)) (h) 9 _, grown_set (grown_refl w (some r)) 9 _⟩ : MovesR B w (w.setCell ⟨r, 9, none⟩ (.int .i64 u2)) ∧ w.grownBy (w.setCell ⟨r, 9, none⟩ (.int .i64 u2)) (some r)))
  simp only [rC] at c6 c9
  change w.cell? ⟨r, 6, none⟩ = some (.int .i64 t.cutLeft) at c6
  change w.cell? ⟨r, 9, none⟩ = some (.int .i64 t.brk) at c9
  obtain ⟨a, ha⟩ : ∃ a, t.cutLeft = a := ⟨_, rfl⟩
  obtain ⟨b, hb⟩ : ∃ b, t.brk = b := ⟨_, rfl⟩
  rw [ha] at c6 HS _bc hc
  rw [hb] at c9 HS _bb hb'
  clear h hv ha hb
  have q1 : ((a : Int) == 1) = false := by rw [beq_eq_false_iff_ne]; omega
  have q2 : ¬ (0 : Int) < (a : Int) := by omega
  have q3 : ((b : Int) == 1) = false := by rw [beq_eq_false_iff_ne]; omega
  have q4 : (0 : Int) < (b : Int) := by omega
  go_enter Try.func56, Try.ntmps56
  go_wp2
  go_ret
  exact ⟨rfl, HS.out ((a - 1 : Nat) : Int) _ (by omega) (by omega), HM.out 0 _⟩

set_option maxHeartbeats 1000000 in
theorem trap_oz {B : Nat} {w : World} {r : Nat} {t : RS} {g : RV} (h : RRep B w r t g) (_hB : B ≤ w.heap.size) (hc : t.cutLeft = 1) (hb' : t.brk = 0) (_bc : t.cutLeft ≤ 9223372036854775807) (_bb : t.brk ≤ 9223372036854775807) :
    Calls Try.prog 56 #[.pointer (some ⟨r, 0, none⟩)] w (fun e w' => e = .returned (.int .i64 t.trap.1) ∧ RRep B w' r t.trap.2 g ∧ MovesR B w w' ∧ w.grownBy w' (some r)) := by
  have hv : t.trap.1 = 1 := by
    show (if t.cutLeft = 1 then (1 : Int) else if t.brk = 1 then 2 else 0) = 1
    rw [if_pos (by omega)]
  rw [hv]
  have c6 := h.cells 6
  have c9 := h.cells 9
  have f6 := h.frozen 6
  have f9 := h.frozen 9
  have HS := Lib.hid (fun (u1 u2 : Int) (h1 : u1 = ((t.cutLeft - 1 : Nat) : Int)) (h2 : u2 = ((t.brk - 1 : Nat) : Int)) => (rrep_eq ((h).set 6 (.int .i64 u1)) (t' := t.trap.2) (by simp [rC, RS.trap]; omega) rfl rfl rfl rfl rfl : RRep B (w.setCell ⟨r, 6, none⟩ (.int .i64 u1)) r t.trap.2 g))
  have HM := Lib.hid (fun (u1 u2 : Int) => (⟨(MovesR.refl B w).set (by first | exact _hB | (rw [setCell_size]; exact _hB)) (h) 6 _, grown_set (grown_refl w (some r)) 6 _⟩ : MovesR B w (w.setCell ⟨r, 6, none⟩ (.int .i64 u1)) ∧ w.grownBy (w.setCell ⟨r, 6, none⟩ (.int .i64 u1)) (some r)))
  simp only [rC] at c6 c9
  change w.cell? ⟨r, 6, none⟩ = some (.int .i64 t.cutLeft) at c6
  change w.cell? ⟨r, 9, none⟩ = some (.int .i64 t.brk) at c9
  obtain ⟨a, ha⟩ : ∃ a, t.cutLeft = a := ⟨_, rfl⟩
  obtain ⟨b, hb⟩ : ∃ b, t.brk = b := ⟨_, rfl⟩
  rw [ha] at c6 HS _bc hc
  rw [hb] at c9 HS _bb hb'
  clear h hv ha hb
  have q1 : ((a : Int) == 1) = true := by rw [beq_iff_eq]; omega
  have q2 : (0 : Int) < (a : Int) := by omega
  have q3 : ((b : Int) == 1) = false := by rw [beq_eq_false_iff_ne]; omega
  have q4 : ¬ (0 : Int) < (b : Int) := by omega
  go_enter Try.func56, Try.ntmps56
  go_wp2
  go_ret
  exact ⟨rfl, HS.out _ ((b - 1 : Nat) : Int) (by omega) (by omega), HM.out _ 0⟩

set_option maxHeartbeats 1000000 in
theorem trap_oo {B : Nat} {w : World} {r : Nat} {t : RS} {g : RV} (h : RRep B w r t g) (_hB : B ≤ w.heap.size) (hc : t.cutLeft = 1) (hb' : t.brk = 1) (_bc : t.cutLeft ≤ 9223372036854775807) (_bb : t.brk ≤ 9223372036854775807) :
    Calls Try.prog 56 #[.pointer (some ⟨r, 0, none⟩)] w (fun e w' => e = .returned (.int .i64 t.trap.1) ∧ RRep B w' r t.trap.2 g ∧ MovesR B w w' ∧ w.grownBy w' (some r)) := by
  have hv : t.trap.1 = 1 := by
    show (if t.cutLeft = 1 then (1 : Int) else if t.brk = 1 then 2 else 0) = 1
    rw [if_pos (by omega)]
  rw [hv]
  have c6 := h.cells 6
  have c9 := h.cells 9
  have f6 := h.frozen 6
  have f9 := h.frozen 9
  have HS := Lib.hid (fun (u1 u2 : Int) (h1 : u1 = ((t.cutLeft - 1 : Nat) : Int)) (h2 : u2 = ((t.brk - 1 : Nat) : Int)) => (rrep_eq (((h).set 6 (.int .i64 u1)).set 9 (.int .i64 u2)) (t' := t.trap.2) (by simp [rC, RS.trap]; omega) rfl rfl rfl rfl rfl : RRep B ((w.setCell ⟨r, 6, none⟩ (.int .i64 u1)).setCell ⟨r, 9, none⟩ (.int .i64 u2)) r t.trap.2 g))
  have HM := Lib.hid (fun (u1 u2 : Int) => (⟨((MovesR.refl B w).set (by first | exact _hB | (rw [setCell_size]; exact _hB)) (h) 6 _).set (by first | exact _hB | (rw [setCell_size]; exact _hB)) ((h).set 6 (.int .i64 u1)) 9 _, grown_set (grown_set (grown_refl w (some r)) 6 _) 9 _⟩ : MovesR B w ((w.setCell ⟨r, 6, none⟩ (.int .i64 u1)).setCell ⟨r, 9, none⟩ (.int .i64 u2)) ∧ w.grownBy ((w.setCell ⟨r, 6, none⟩ (.int .i64 u1)).setCell ⟨r, 9, none⟩ (.int .i64 u2)) (some r)))
  simp only [rC] at c6 c9
  change w.cell? ⟨r, 6, none⟩ = some (.int .i64 t.cutLeft) at c6
  change w.cell? ⟨r, 9, none⟩ = some (.int .i64 t.brk) at c9
  obtain ⟨a, ha⟩ : ∃ a, t.cutLeft = a := ⟨_, rfl⟩
  obtain ⟨b, hb⟩ : ∃ b, t.brk = b := ⟨_, rfl⟩
  rw [ha] at c6 HS _bc hc
  rw [hb] at c9 HS _bb hb'
  clear h hv ha hb
  have q1 : ((a : Int) == 1) = true := by rw [beq_iff_eq]; omega
  have q2 : (0 : Int) < (a : Int) := by omega
  have q3 : ((b : Int) == 1) = true := by rw [beq_iff_eq]; omega
  have q4 : (0 : Int) < (b : Int) := by omega
  go_enter Try.func56, Try.ntmps56
  go_wp2
  go_ret
  exact ⟨rfl, HS.out _ _ (by omega) (by omega), HM.out _ _⟩

set_option maxHeartbeats 1000000 in
theorem trap_om {B : Nat} {w : World} {r : Nat} {t : RS} {g : RV} (h : RRep B w r t g) (_hB : B ≤ w.heap.size) (hc : t.cutLeft = 1) (hb' : 1 < t.brk) (_bc : t.cutLeft ≤ 9223372036854775807) (_bb : t.brk ≤ 9223372036854775807) :
    Calls Try.prog 56 #[.pointer (some ⟨r, 0, none⟩)] w (fun e w' => e = .returned (.int .i64 t.trap.1) ∧ RRep B w' r t.trap.2 g ∧ MovesR B w w' ∧ w.grownBy w' (some r)) := by
  have hv : t.trap.1 = 1 := by
    show (if t.cutLeft = 1 then (1 : Int) else if t.brk = 1 then 2 else 0) = 1
    rw [if_pos (by omega)]
  rw [hv]
  have c6 := h.cells 6
  have c9 := h.cells 9
  have f6 := h.frozen 6
  have f9 := h.frozen 9
  have HS := Lib.hid (fun (u1 u2 : Int) (h1 : u1 = ((t.cutLeft - 1 : Nat) : Int)) (h2 : u2 = ((t.brk - 1 : Nat) : Int)) => (rrep_eq (((h).set 6 (.int .i64 u1)).set 9 (.int .i64 u2)) (t' := t.trap.2) (by simp [rC, RS.trap]; omega) rfl rfl rfl rfl rfl : RRep B ((w.setCell ⟨r, 6, none⟩ (.int .i64 u1)).setCell ⟨r, 9, none⟩ (.int .i64 u2)) r t.trap.2 g))
  have HM := Lib.hid (fun (u1 u2 : Int) => (⟨((MovesR.refl B w).set (by first | exact _hB | (rw [setCell_size]; exact _hB)) (h) 6 _).set (by first | exact _hB | (rw [setCell_size]; exact _hB)) ((h).set 6 (.int .i64 u1)) 9 _, grown_set (grown_set (grown_refl w (some r)) 6 _) 9 _⟩ : MovesR B w ((w.setCell ⟨r, 6, none⟩ (.int .i64 u1)).setCell ⟨r, 9, none⟩ (.int .i64 u2)) ∧ w.grownBy ((w.setCell ⟨r, 6, none⟩ (.int .i64 u1)).setCell ⟨r, 9, none⟩ (.int .i64 u2)) (some r)))
  simp only [rC] at c6 c9
  change w.cell? ⟨r, 6, none⟩ = some (.int .i64 t.cutLeft) at c6
  change w.cell? ⟨r, 9, none⟩ = some (.int .i64 t.brk) at c9
  obtain ⟨a, ha⟩ : ∃ a, t.cutLeft = a := ⟨_, rfl⟩
  obtain ⟨b, hb⟩ : ∃ b, t.brk = b := ⟨_, rfl⟩
  rw [ha] at c6 HS _bc hc
  rw [hb] at c9 HS _bb hb'
  clear h hv ha hb
  have q1 : ((a : Int) == 1) = true := by rw [beq_iff_eq]; omega
  have q2 : (0 : Int) < (a : Int) := by omega
  have q3 : ((b : Int) == 1) = false := by rw [beq_eq_false_iff_ne]; omega
  have q4 : (0 : Int) < (b : Int) := by omega
  go_enter Try.func56, Try.ntmps56
  go_wp2
  go_ret
  exact ⟨rfl, HS.out _ _ (by omega) (by omega), HM.out _ _⟩

set_option maxHeartbeats 1000000 in
theorem trap_mz {B : Nat} {w : World} {r : Nat} {t : RS} {g : RV} (h : RRep B w r t g) (_hB : B ≤ w.heap.size) (hc : 1 < t.cutLeft) (hb' : t.brk = 0) (_bc : t.cutLeft ≤ 9223372036854775807) (_bb : t.brk ≤ 9223372036854775807) :
    Calls Try.prog 56 #[.pointer (some ⟨r, 0, none⟩)] w (fun e w' => e = .returned (.int .i64 t.trap.1) ∧ RRep B w' r t.trap.2 g ∧ MovesR B w w' ∧ w.grownBy w' (some r)) := by
  have hv : t.trap.1 = 0 := by
    show (if t.cutLeft = 1 then (1 : Int) else if t.brk = 1 then 2 else 0) = 0
    rw [if_neg (by omega), if_neg (by omega)]
  rw [hv]
  have c6 := h.cells 6
  have c9 := h.cells 9
  have f6 := h.frozen 6
  have f9 := h.frozen 9
  have HS := Lib.hid (fun (u1 u2 : Int) (h1 : u1 = ((t.cutLeft - 1 : Nat) : Int)) (h2 : u2 = ((t.brk - 1 : Nat) : Int)) => (rrep_eq ((h).set 6 (.int .i64 u1)) (t' := t.trap.2) (by simp [rC, RS.trap]; omega) rfl rfl rfl rfl rfl : RRep B (w.setCell ⟨r, 6, none⟩ (.int .i64 u1)) r t.trap.2 g))
  have HM := Lib.hid (fun (u1 u2 : Int) => (⟨(MovesR.refl B w).set (by first | exact _hB | (rw [setCell_size]; exact _hB)) (h) 6 _, grown_set (grown_refl w (some r)) 6 _⟩ : MovesR B w (w.setCell ⟨r, 6, none⟩ (.int .i64 u1)) ∧ w.grownBy (w.setCell ⟨r, 6, none⟩ (.int .i64 u1)) (some r)))
  simp only [rC] at c6 c9
  change w.cell? ⟨r, 6, none⟩ = some (.int .i64 t.cutLeft) at c6
  change w.cell? ⟨r, 9, none⟩ = some (.int .i64 t.brk) at c9
  obtain ⟨a, ha⟩ : ∃ a, t.cutLeft = a := ⟨_, rfl⟩
  obtain ⟨b, hb⟩ : ∃ b, t.brk = b := ⟨_, rfl⟩
  rw [ha] at c6 HS _bc hc
  rw [hb] at c9 HS _bb hb'
  clear h hv ha hb
  have q1 : ((a : Int) == 1) = false := by rw [beq_eq_false_iff_ne]; omega
  have q2 : (0 : Int) < (a : Int) := by omega
  have q3 : ((b : Int) == 1) = false := by rw [beq_eq_false_iff_ne]; omega
  have q4 : ¬ (0 : Int) < (b : Int) := by omega
  go_enter Try.func56, Try.ntmps56
  go_wp2
  go_ret
  exact ⟨rfl, HS.out _ ((b - 1 : Nat) : Int) (by omega) (by omega), HM.out _ 0⟩

set_option maxHeartbeats 1000000 in
theorem trap_mo {B : Nat} {w : World} {r : Nat} {t : RS} {g : RV} (h : RRep B w r t g) (_hB : B ≤ w.heap.size) (hc : 1 < t.cutLeft) (hb' : t.brk = 1) (_bc : t.cutLeft ≤ 9223372036854775807) (_bb : t.brk ≤ 9223372036854775807) :
    Calls Try.prog 56 #[.pointer (some ⟨r, 0, none⟩)] w (fun e w' => e = .returned (.int .i64 t.trap.1) ∧ RRep B w' r t.trap.2 g ∧ MovesR B w w' ∧ w.grownBy w' (some r)) := by
  have hv : t.trap.1 = 2 := by
    show (if t.cutLeft = 1 then (1 : Int) else if t.brk = 1 then 2 else 0) = 2
    rw [if_neg (by omega), if_pos (by omega)]
  rw [hv]
  have c6 := h.cells 6
  have c9 := h.cells 9
  have f6 := h.frozen 6
  have f9 := h.frozen 9
  have HS := Lib.hid (fun (u1 u2 : Int) (h1 : u1 = ((t.cutLeft - 1 : Nat) : Int)) (h2 : u2 = ((t.brk - 1 : Nat) : Int)) => (rrep_eq (((h).set 6 (.int .i64 u1)).set 9 (.int .i64 u2)) (t' := t.trap.2) (by simp [rC, RS.trap]; omega) rfl rfl rfl rfl rfl : RRep B ((w.setCell ⟨r, 6, none⟩ (.int .i64 u1)).setCell ⟨r, 9, none⟩ (.int .i64 u2)) r t.trap.2 g))
  have HM := Lib.hid (fun (u1 u2 : Int) => (⟨((MovesR.refl B w).set (by first | exact _hB | (rw [setCell_size]; exact _hB)) (h) 6 _).set (by first | exact _hB | (rw [setCell_size]; exact _hB)) ((h).set 6 (.int .i64 u1)) 9 _, grown_set (grown_set (grown_refl w (some r)) 6 _) 9 _⟩ : MovesR B w ((w.setCell ⟨r, 6, none⟩ (.int .i64 u1)).setCell ⟨r, 9, none⟩ (.int .i64 u2)) ∧ w.grownBy ((w.setCell ⟨r, 6, none⟩ (.int .i64 u1)).setCell ⟨r, 9, none⟩ (.int .i64 u2)) (some r)))
  simp only [rC] at c6 c9
  change w.cell? ⟨r, 6, none⟩ = some (.int .i64 t.cutLeft) at c6
  change w.cell? ⟨r, 9, none⟩ = some (.int .i64 t.brk) at c9
  obtain ⟨a, ha⟩ : ∃ a, t.cutLeft = a := ⟨_, rfl⟩
  obtain ⟨b, hb⟩ : ∃ b, t.brk = b := ⟨_, rfl⟩
  rw [ha] at c6 HS _bc hc
  rw [hb] at c9 HS _bb hb'
  clear h hv ha hb
  have q1 : ((a : Int) == 1) = false := by rw [beq_eq_false_iff_ne]; omega
  have q2 : (0 : Int) < (a : Int) := by omega
  have q3 : ((b : Int) == 1) = true := by rw [beq_iff_eq]; omega
  have q4 : (0 : Int) < (b : Int) := by omega
  go_enter Try.func56, Try.ntmps56
  go_wp2
  go_ret
  exact ⟨rfl, HS.out _ _ (by omega) (by omega), HM.out _ _⟩

set_option maxHeartbeats 1000000 in
theorem trap_mm {B : Nat} {w : World} {r : Nat} {t : RS} {g : RV} (h : RRep B w r t g) (_hB : B ≤ w.heap.size) (hc : 1 < t.cutLeft) (hb' : 1 < t.brk) (_bc : t.cutLeft ≤ 9223372036854775807) (_bb : t.brk ≤ 9223372036854775807) :
    Calls Try.prog 56 #[.pointer (some ⟨r, 0, none⟩)] w (fun e w' => e = .returned (.int .i64 t.trap.1) ∧ RRep B w' r t.trap.2 g ∧ MovesR B w w' ∧ w.grownBy w' (some r)) := by
  have hv : t.trap.1 = 0 := by
    show (if t.cutLeft = 1 then (1 : Int) else if t.brk = 1 then 2 else 0) = 0
    rw [if_neg (by omega), if_neg (by omega)]
  rw [hv]
  have c6 := h.cells 6
  have c9 := h.cells 9
  have f6 := h.frozen 6
  have f9 := h.frozen 9
  have HS := Lib.hid (fun (u1 u2 : Int) (h1 : u1 = ((t.cutLeft - 1 : Nat) : Int)) (h2 : u2 = ((t.brk - 1 : Nat) : Int)) => (rrep_eq (((h).set 6 (.int .i64 u1)).set 9 (.int .i64 u2)) (t' := t.trap.2) (by simp [rC, RS.trap]; omega) rfl rfl rfl rfl rfl : RRep B ((w.setCell ⟨r, 6, none⟩ (.int .i64 u1)).setCell ⟨r, 9, none⟩ (.int .i64 u2)) r t.trap.2 g))
  have HM := Lib.hid (fun (u1 u2 : Int) => (⟨((MovesR.refl B w).set (by first | exact _hB | (rw [setCell_size]; exact _hB)) (h) 6 _).set (by first | exact _hB | (rw [setCell_size]; exact _hB)) ((h).set 6 (.int .i64 u1)) 9 _, grown_set (grown_set (grown_refl w (some r)) 6 _) 9 _⟩ : MovesR B w ((w.setCell ⟨r, 6, none⟩ (.int .i64 u1)).setCell ⟨r, 9, none⟩ (.int .i64 u2)) ∧ w.grownBy ((w.setCell ⟨r, 6, none⟩ (.int .i64 u1)).setCell ⟨r, 9, none⟩ (.int .i64 u2)) (some r)))
  simp only [rC] at c6 c9
  change w.cell? ⟨r, 6, none⟩ = some (.int .i64 t.cutLeft) at c6
  change w.cell? ⟨r, 9, none⟩ = some (.int .i64 t.brk) at c9
  obtain ⟨a, ha⟩ : ∃ a, t.cutLeft = a := ⟨_, rfl⟩
  obtain ⟨b, hb⟩ : ∃ b, t.brk = b := ⟨_, rfl⟩
  rw [ha] at c6 HS _bc hc
  rw [hb] at c9 HS _bb hb'
  clear h hv ha hb
  have q1 : ((a : Int) == 1) = false := by rw [beq_eq_false_iff_ne]; omega
  have q2 : (0 : Int) < (a : Int) := by omega
  have q3 : ((b : Int) == 1) = false := by rw [beq_eq_false_iff_ne]; omega
  have q4 : (0 : Int) < (b : Int) := by omega
  go_enter Try.func56, Try.ntmps56
  go_wp2
  go_ret
  exact ⟨rfl, HS.out _ _ (by omega) (by omega), HM.out _ _⟩

theorem trap_any {B : Nat} {w : World} {r : Nat} {t : RS} {g : RV} (h : RRep B w r t g) (hB : B ≤ w.heap.size) (bc : t.cutLeft ≤ 9223372036854775807) (bb : t.brk ≤ 9223372036854775807) :
    Calls Try.prog 56 #[.pointer (some ⟨r, 0, none⟩)] w (fun e w' => e = .returned (.int .i64 t.trap.1) ∧ RRep B w' r t.trap.2 g ∧ MovesR B w w' ∧ w.grownBy w' (some r)) := by
  rcases (show t.cutLeft = 0 ∨ t.cutLeft = 1 ∨ 1 < t.cutLeft by omega) with hc | hc | hc
  · rcases (show t.brk = 0 ∨ t.brk = 1 ∨ 1 < t.brk by omega) with hb | hb | hb
    · exact trap_zz h hB hc hb bc bb
    · exact trap_zo h hB hc hb bc bb
    · exact trap_zm h hB hc hb bc bb
  · rcases (show t.brk = 0 ∨ t.brk = 1 ∨ 1 < t.brk by omega) with hb | hb | hb
    · exact trap_oz h hB hc hb bc bb
    · exact trap_oo h hB hc hb bc bb
    · exact trap_om h hB hc hb bc bb
  · rcases (show t.brk = 0 ∨ t.brk = 1 ∨ 1 < t.brk by omega) with hb | hb | hb
    · exact trap_mz h hB hc hb bc bb
    · exact trap_mo h hB hc hb bc bb
    · exact trap_mm h hB hc hb bc bb
end Go.Proofs.Ytadokmihabfbjaa
