/- Reading, whole: a fault is caught. -/
import Derived.Test.YtcmnbfcceeljpaaRt
import Derived.Defers
import Derived.Recover
namespace Go.Proofs.Ytcmnbfcceeljpaa
open Go.RowKit
open SK

theorem fault_nil (c : Int) (w : World) : (binOp .eql 20 (.iface 92 (.int .i64 c)) .nilIface).run Try.prog w = .ok (.bool false) w := by
  have h : ∀ d : Nat, (Op.equalIn (d + 1) 20 (.iface 92 (.int .i64 c)) .nilIface).run Try.prog w = .ok false w := fun d => by
    simp [Op.equalIn, run_underlying Try.underlying20]
  simp only [binOp]
  simp [Op.equal, Op.maxDepth, h 9999]

theorem fault_is (c : Int) (w : World) : (Instr.typeAssert (.iface 92 (.int .i64 c)) 20 92 true).run Try.prog w = .ok (.tuple #[.int .i64 c, .bool true]) w := by
  have hu := run_underlying (w := w) Try.underlying92
  simp [Instr.typeAssert, hu]

/-- the deferred closure, of a frame that a fault leaves -/
theorem catch_fault (p : Addr) (c : Int) (w : World) (hc : w.cell? p = some (.int .i64 0)) (hz : w.frozen? p = false) :
    CallsD Try.prog 43 #[.pointer (some p)] (.panicking (fault c)) w fun e u' w' =>
      e = .returned (.tuple #[]) ∧ u' = .panicking [{ v := .iface 92 (.int .i64 c), recovered := true }] ∧ w' = w.setCell p (.int .i64 c) := by
  unfold fault
  have heq := fault_nil c
  have hta := fault_is c
  refine callsD_of_wpS Try.func43 rfl fun c₀ cs hu => ?_
  apply wpS_seq
  apply wpS_region
  simp [wpOpsS, go_sem, recoverD, hu, Try.ntmps43, Exit.thenS]
  apply wpS_seq
  apply wpS_seq
  apply wpS_region
  simp [wpOpsS, go_sem, Exit.thenS, heq]
  refine wpS_cond (t := false) (by simp [Act.eval, Array.replicate]) ?_
  simp only [Bool.false_eq_true, if_false]
  refine wpS_of_wp (wp_skip ?_)
  apply wpS_seq
  apply wpS_region
  simp [wpOpsS, go_sem, Exit.thenS, hta]
  apply wpS_seq
  apply wpS_seq
  apply wpS_region
  simp [wpOpsS, go_sem, Exit.thenS]
  refine wpS_cond (t := false) (by simp [Act.eval, Array.replicate]) ?_
  simp only [Bool.false_eq_true, if_false]
  refine wpS_of_wp (wp_skip ?_)
  apply wpS_region
  simp [wpOpsS, go_sem, hc, hz, bodyPostS, results, Try.results43]

theorem catch_idle (p : Addr) (w : World) :
    CallsD Try.prog 43 #[.pointer (some p)] .returning w fun e u' w' => e = .returned (.tuple #[]) ∧ u' = .returning ∧ w' = w := by
  have heq : ∀ w, (binOp .eql 20 .nilIface .nilIface).run Try.prog w = .ok (.bool true) w := fun w => by kernel_rfl
  refine callsD_of_wpS Try.func43 rfl fun c₀ cs hu => ?_
  apply wpS_seq
  apply wpS_region
  simp [wpOpsS, go_sem, recoverD, hu, Try.ntmps43, Exit.thenS]
  apply wpS_seq
  apply wpS_seq
  apply wpS_region
  simp [wpOpsS, go_sem, Exit.thenS, heq]
  refine wpS_cond (t := true) (by simp [Act.eval, Array.replicate]) ?_
  simp only [if_true]
  refine wpS_of_wp (wp_ret ?_)
  cases c₀
  simp_all [bodyPostS, results, Try.results43, Exit.thenS]

/-- what the reading closure comes to: the items lie in its variable, or a fault leaves it -/
def ReadOut (w : World) (b : Nat) (x : Except Int (List E)) (e : Ending) (w' : World) : Prop :=
  w.grownBy w' (some b) ∧ match x with
    | .ok es => e = .returned (.tuple #[]) ∧ ∃ A c, w'.heap[b]? = some (.cells #[.slice A es.length c] 23 (0, 0)) ∧ EntsIn w' A es ∧ ∀ x ∈ fb A, w.heap.size ≤ x ∧ x < w'.heap.size
    | .error c => e = .panicked (fault c) ∧ w'.heap[b]? = w.heap[b]?

theorem grown_fresh' {w w1 w' : World} (h : w.grownBy w1 none) (k : w1.grownBy w' (some w.heap.size)) : w.grownBy w' none :=
  ⟨k.os.trans h.os, k.tape.trans h.tape, k.output.trans h.output, Nat.le_trans h.size k.size, fun x hx _ => (k.block x (by have := h.size; omega) (by simp; omega)).trans (h.block x hx (by simp))⟩

set_option maxRecDepth 100000 in
set_option maxHeartbeats 1000000 in
theorem read_any (w : World) (a b : Nat) (s : ByteArray) (ha : w.heap[a]? = some (.cells #[.string s] 9 (0, 0))) (hb : w.heap[b]? = some (.cells #[.slice none 0 0] 23 (0, 0))) (hs : s.size ≤ 281474976710656) :
    Calls Try.prog 30 #[.pointer (some ⟨a, 0, none⟩), .pointer (some ⟨b, 0, none⟩)] w fun e w' => ReadOut w b (BK.getOut s.data.toList) e w' := by
  have hbl : b < w.heap.size := (Array.getElem?_eq_some_iff.1 hb).1
  have ca : w.cell? ⟨a, 0, none⟩ = some (.string s) := cell_of_row _ _ _ _ _ _ ha
  have hg0 := grown_alloc w (.cells #[.string s, .int .i64 0] 75) none
  have hr0 : RdAt (w.alloc (.cells #[.string s, .int .i64 0] 75)) w.heap.size s 0 := heap_alloc_new w _
  have HI := Lib.hid (entries_any _ w.heap.size s hr0 hs)
  have HG0 := Lib.hid hg0
  have HB := Lib.hid hb
  have HBL := Lib.hid hbl
  clear ha hb hg0 hr0 hbl
  cases hx : BK.getOut s.data.toList with
  | error c =>
    rw [hx] at HI
    clear hx
    go_enter Try.func30, Try.ntmps30
    go_wp2_with fail
    refine HI.out.mono ?_
    rintro e w1 ⟨hg, rfl⟩
    have hn := grown_fresh' HG0.out hg
    exact ⟨rfl, grown_r hn, rfl, hn.block b HBL.out (by simp)⟩
  | ok es =>
    rw [hx] at HI
    clear hx
    go_enter Try.func30, Try.ntmps30
    go_wp2_with fail
    refine HI.out.mono ?_
    rintro e w1 ⟨hg, A, c, rfl, hen, hfb⟩
    have hn := grown_fresh' HG0.out hg
    have hb1 := (hn.block b HBL.out (by simp)).trans HB.out
    have hfb' : ∀ x ∈ fb A, w.heap.size ≤ x ∧ x < w1.heap.size := fun x hx => by have := hfb x hx; simp at this; omega
    have HRES : Hid (ReadOut w b (.ok es) (.returned (.tuple #[])) (w1.setCell ⟨b, 0, none⟩ (.slice A es.length c))) := Lib.hid
      ⟨grown_set (grown_r hn) 0 _, rfl, A, c, heap_set_fr hb1 0 _, hen.grown (grownBy_setCell _ _ _) (fun x hx => by have := (hfb' x hx).1; have := HBL.out; simp; omega), fun x hx => by rw [setCell_size]; exact hfb' x hx⟩
    have c1 : w1.cell? ⟨b, 0, none⟩ = some (.slice none 0 0) := cell_of_row _ _ _ _ _ _ hb1
    have f1 : w1.frozen? ⟨b, 0, none⟩ = false := frozen_of_row _ _ _ _ _ hb1
    clear hg hen hfb hfb' hn hb1 HI
    go_wp2
    go_end0
    exact HRES.out

set_option maxRecDepth 100000 in
set_option maxHeartbeats 1000000 in
/-- caught, of the reading closure -/
theorem caught_any (w : World) (a b : Nat) (s : ByteArray) (ha : w.heap[a]? = some (.cells #[.string s] 9 (0, 0))) (hb : w.heap[b]? = some (.cells #[.slice none 0 0] 23 (0, 0))) (hs : s.size ≤ 281474976710656) :
    Calls Try.prog 29 #[.func (.func 30) #[] #[.pointer (some ⟨a, 0, none⟩), .pointer (some ⟨b, 0, none⟩)]] w fun e w' =>
      w.grownBy w' (some b) ∧ match BK.getOut s.data.toList with
        | .ok es => e = .returned (.int .i64 0) ∧ ∃ A c, w'.heap[b]? = some (.cells #[.slice A es.length c] 23 (0, 0)) ∧ EntsIn w' A es ∧ ∀ x ∈ fb A, w.heap.size ≤ x ∧ x < w'.heap.size
        | .error c => e = .returned (.int .i64 c) ∧ w'.heap[b]? = w.heap[b]? := by
  have hmf : ∀ (fn : Fn) (first cap : Array Value) (w : World), (Instr.makeFunc fn first cap).run Try.prog w = .ok (.func fn first cap) w := fun _ _ _ _ => rfl
  have hbl : b < w.heap.size := (Array.getElem?_eq_some_iff.1 hb).1
  have hal : a < w.heap.size := (Array.getElem?_eq_some_iff.1 ha).1
  have HR := Lib.hid (read_any (w.alloc (.cells #[.int .i64 0] 27)) a b s ((Below.heap_alloc _ _ _ hal).trans ha) ((Below.heap_alloc _ _ _ hbl).trans hb) hs)
  have HNEW := Lib.hid (heap_alloc_new w (.cells #[.int .i64 0] 27))
  have HG0 := Lib.hid (grown_alloc w (.cells #[.int .i64 0] 27) (some b))
  have HOLD := Lib.hid (Below.heap_alloc w (.cells #[.int .i64 0] 27) b hbl)
  have HBL := Lib.hid hbl
  clear ha hb hal hbl
  cases hx : BK.getOut s.data.toList with
  | error c =>
    rw [hx] at HR
    clear hx
    go_enter_defers Try.func29, Try.ntmps29
    go_wp2_with fail
    refine HR.out.mono ?_
    rintro e w1 ⟨hg, rfl, hbk⟩
    obtain ⟨x, hx⟩ : ∃ x, w.heap.size = x := ⟨_, rfl⟩
    have hrow : w1.heap[x]? = some (.cells #[.int .i64 0] 27 (0, 0)) := by
      rw [← hx]
      exact (hg.block w.heap.size (by simp) (by have := HBL.out; simp; omega)).trans HNEW.out
    have hrd : (w1.setCell ⟨x, 0, none⟩ (.int .i64 c)).cell? ⟨x, 0, none⟩ = some (.int .i64 c) := cell_of_row _ _ _ _ _ _ (heap_set_fr hrow 0 (.int .i64 c))
    have hgr : w.grownBy (w1.setCell ⟨x, 0, none⟩ (.int .i64 c)) (some b) := grown_new (grown_trans HG0.out hg) _ _ _ (by omega)
    have hbb : (w1.setCell ⟨x, 0, none⟩ (.int .i64 c)).heap[b]? = w.heap[b]? := (Below.heap_setCell _ _ _ _ (by have := HBL.out; simp; omega)).trans (hbk.trans HOLD.out)
    rw [hx]
    refine leaves_cons (f := 43) (args := #[.pointer (some ⟨x, 0, none⟩)]) (by simp) (by simp [go_sem]) ?_
    refine (catch_fault ⟨x, 0, none⟩ c _ (cell_of_row _ _ _ _ _ _ hrow) (frozen_of_row _ _ _ _ _ hrow)).mono ?_
    rintro e u' w'' ⟨rfl, rfl, rfl⟩
    generalize w1.setCell ⟨x, 0, none⟩ (.int .i64 c) = w2 at hrd hgr hbb ⊢
    simp [Leaves, settle, results, Try.results29, go_sem, hrd, hgr, hbb]
  | ok es =>
    rw [hx] at HR
    clear hx
    go_enter_defers Try.func29, Try.ntmps29
    go_wp2_with fail
    refine HR.out.mono ?_
    rintro e w1 ⟨hg, rfl, A, cp, hbk, hen, hfb⟩
    obtain ⟨x, hx⟩ : ∃ x, w.heap.size = x := ⟨_, rfl⟩
    have hrow : w1.heap[x]? = some (.cells #[.int .i64 0] 27 (0, 0)) := by
      rw [← hx]
      exact (hg.block w.heap.size (by simp) (by have := HBL.out; simp; omega)).trans HNEW.out
    have hc : w1.cell? ⟨x, 0, none⟩ = some (.int .i64 0) := cell_of_row _ _ _ _ _ _ hrow
    have hf : w1.frozen? ⟨x, 0, none⟩ = false := frozen_of_row _ _ _ _ _ hrow
    have hrd : (w1.setCell ⟨x, 0, none⟩ (.int .i64 0)).cell? ⟨x, 0, none⟩ = some (.int .i64 0) := cell_of_row _ _ _ _ _ _ (heap_set_fr hrow 0 (.int .i64 0))
    have hgr : w.grownBy (w1.setCell ⟨x, 0, none⟩ (.int .i64 0)) (some b) := grown_new (grown_trans HG0.out hg) _ _ _ (by omega)
    have hfb' : ∀ x ∈ fb A, w.heap.size + 1 ≤ x ∧ x < w1.heap.size := fun x hx => by have := hfb x hx; simp at this; omega
    have hbb : (w1.setCell ⟨x, 0, none⟩ (.int .i64 0)).heap[b]? = some (.cells #[.slice A es.length cp] 23 (0, 0)) := (Below.heap_setCell _ _ _ _ (by have := HBL.out; simp; omega)).trans hbk
    have HALL : Hid (w.grownBy (w1.setCell ⟨x, 0, none⟩ (.int .i64 0)) (some b) ∧ ∃ A c, (w1.setCell ⟨x, 0, none⟩ (.int .i64 0)).heap[b]? = some (.cells #[.slice A es.length c] 23 (0, 0)) ∧ EntsIn (w1.setCell ⟨x, 0, none⟩ (.int .i64 0)) A es ∧ ∀ y ∈ fb A, w.heap.size ≤ y ∧ y < (w1.setCell ⟨x, 0, none⟩ (.int .i64 0)).heap.size) := Lib.hid
      ⟨hgr, A, cp, hbb, hen.grown (grownBy_setCell _ _ _) (fun y hy => by have := (hfb' y hy).1; simp; omega), fun y hy => by rw [setCell_size]; have := hfb' y hy; omega⟩
    have HRD := Lib.hid hrd
    rw [hx]
    clear hg hbk hen hfb hfb' hgr hbb hrow hrd
    go_wp2
    refine leaves_cons (f := 43) (args := #[.pointer (some ⟨x, 0, none⟩)]) (by simp) (by simp [go_sem]) ?_
    refine (catch_idle ⟨x, 0, none⟩ _).mono ?_
    rintro e u' w'' ⟨rfl, rfl, rfl⟩
    have hrd := HRD.out
    have hall := HALL.out
    generalize w1.setCell ⟨x, 0, none⟩ (.int .i64 0) = w2 at hrd hall ⊢
    simp only [Leaves, settle]
    exact ⟨_, by simp [results, Try.results29, go_sem, hrd], hall.1, rfl, hall.2⟩
end Go.Proofs.Ytcmnbfcceeljpaa
