/- Texts joined by bundle.py: YTTa, YTTb, YTTd, YTTe, YTUb, YTTf, YTTg, YTTj, YTUc, YTUd, YTUe, YTUf, YTUg, YTUh. -/
import Derived.Test.YtjkofciohehgfaaGreatDoorZbe
import Derived.Test.YtjkofciohehgfaaGreatDoorZba
import Derived.Test.YtjkofciohehgfaaGreatDoorZaz
import Derived.Deep.CutRange
import Derived.Test.YtjkofciohehgfaaGreatDoorZay
import Derived.Defers
import Derived.Recover
import Derived.Laws.BitsAllLaws
import Derived.BigQuiet
import Derived.Test.YtjkofciohehgfaaGreatDoorZbf
import Derived.Test.YtjkofciohehgfaaGreatDoorZbd
import Derived.StillTailTactics
import Derived.Lib.SliceRun
import Derived.Maps.AppendAt

/- leave, must, caught; the source that a text is; a piece of it. -/
namespace Go.Proofs.YtjkofciohehgfaaGreatDoor.L11
open Go.RowKit
open SK

/-- the panic by which reading, or writing, is left -/
def tfault (c : Int) : List PanicEntry := [{ v := .iface 139 (.int .i64 c), recovered := false }]

theorem tleave_ok (w : World) : Calls Tryz.prog 90 #[.int .i64 0] w fun e w' => e = .returned (.tuple #[]) ∧ w = w' := by
  go_enter Tryz.func90, Tryz.ntmps90
  go_wp2
  go_end0
  exact ⟨rfl, rfl⟩

theorem tleave_bad (c : Int) (w : World) (hc : c ≠ 0) : Calls Tryz.prog 90 #[.int .i64 c] w fun e w' => e = .panicked (tfault c) ∧ w = w' := by
  have h1 : (c == 0) = false := by simpa using hc
  have h2 : (c != 0) = true := by simpa using hc
  go_enter Tryz.func90, Tryz.ntmps90
  go_wp2
  exact ⟨rfl, rfl, rfl⟩

theorem tfault_nil (c : Int) (w : World) : (binOp .eql 20 (.iface 139 (.int .i64 c)) .nilIface).run Tryz.prog w = .ok (.bool false) w := by
  have h : ∀ d : Nat, (Op.equalIn (d + 1) 20 (.iface 139 (.int .i64 c)) .nilIface).run Tryz.prog w = .ok false w := fun d => by
    simp [Op.equalIn, run_underlying Tryz.underlying20]
  simp only [binOp]
  simp [Op.equal, Op.maxDepth, h 9999]

theorem tfault_is (c : Int) (w : World) : (Instr.typeAssert (.iface 139 (.int .i64 c)) 20 139 true).run Tryz.prog w = .ok (.tuple #[.int .i64 c, .bool true]) w := by
  have hu := run_underlying (w := w) Tryz.underlying139
  simp [Instr.typeAssert, hu]

/-- the deferred closure, of a frame that a fault leaves -/
theorem tcatch_fault (p : Addr) (c : Int) (w : World) (hc : w.cell? p = some (.int .i64 0)) (hz : w.frozen? p = false) :
    CallsD Tryz.prog 88 #[.pointer (some p)] (.panicking (tfault c)) w fun e u' w' =>
      e = .returned (.tuple #[]) ∧ u' = .panicking [{ v := .iface 139 (.int .i64 c), recovered := true }] ∧ w' = w.setCell p (.int .i64 c) := by
  unfold tfault
  have heq := tfault_nil c
  have hta := tfault_is c
  refine callsD_of_wpS Tryz.func88 rfl fun c₀ cs hu => ?_
  apply wpS_seq
  apply wpS_region
  simp [wpOpsS, go_sem, recoverD, hu, Tryz.ntmps88, Exit.thenS]
  apply wpS_seq
  apply wpS_seq
  apply wpS_region
  simp [wpOpsS, go_sem, Exit.thenS, heq]
  refine wpS_cond (t := false) (by simp [Act.eval, Array.replicate]) ?_
  simp only [Bool.false_eq_true, if_false]
  refine wpS_of_wp (wp_skip ?_)
  apply wpS_seq
  apply wpS_region
  simp [wpOpsS, go_sem, Exit.thenS, hta]
  apply wpS_seq
  apply wpS_seq
  apply wpS_region
  simp [wpOpsS, go_sem, Exit.thenS]
  refine wpS_cond (t := false) (by simp [Act.eval, Array.replicate]) ?_
  simp only [Bool.false_eq_true, if_false]
  refine wpS_of_wp (wp_skip ?_)
  apply wpS_region
  simp [wpOpsS, go_sem, hc, hz, bodyPostS, results, Tryz.results88]

theorem tcatch_idle (p : Addr) (w : World) :
    CallsD Tryz.prog 88 #[.pointer (some p)] .returning w fun e u' w' => e = .returned (.tuple #[]) ∧ u' = .returning ∧ w' = w := by
  have heq : ∀ w, (binOp .eql 20 .nilIface .nilIface).run Tryz.prog w = .ok (.bool true) w := fun w => by kernel_rfl
  refine callsD_of_wpS Tryz.func88 rfl fun c₀ cs hu => ?_
  apply wpS_seq
  apply wpS_region
  simp [wpOpsS, go_sem, recoverD, hu, Tryz.ntmps88, Exit.thenS]
  apply wpS_seq
  apply wpS_seq
  apply wpS_region
  simp [wpOpsS, go_sem, Exit.thenS, heq]
  refine wpS_cond (t := true) (by simp [Act.eval, Array.replicate]) ?_
  simp only [if_true]
  refine wpS_of_wp (wp_ret ?_)
  cases c₀
  simp_all [bodyPostS, results, Tryz.results88, Exit.thenS]

theorem set_same {w : World} {b j : Nat} {u : Value} (h : w.cell? ⟨b, j, none⟩ = some u) : w.setCell ⟨b, j, none⟩ u = w := by
  obtain ⟨cs, ty, fr, hb, hj⟩ : ∃ cs ty fr, w.heap[b]? = some (.cells cs ty fr) ∧ cs[j]? = some u := by
    unfold World.cell? at h
    cases hh : w.heap[b]? with
    | none => simp [hh] at h
    | some o =>
      cases o with
      | cells cs ty fr => exact ⟨cs, ty, fr, rfl, by simpa [hh] using h⟩
      | _ => simp [hh] at h
  obtain ⟨heap, tape, drawn, os, output⟩ := w
  simp only [World.setCell, World.mk.injEq, and_true]
  simp only at hb
  apply Array.ext_getElem?
  intro i
  rw [Array.getElem?_modify]
  split
  · rename_i hi
    subst hi
    rw [hb]
    simp only [Option.map_some, Option.isSome_none, Bool.false_eq_true, if_false, Option.some.injEq, Obj.cells.injEq, and_true]
    apply Array.ext_getElem?
    intro i
    rw [Array.getElem?_setIfInBounds]
    split
    · rename_i hi
      subst hi
      rw [hj]
      split
      · rfl
      · rename_i hlt
        rw [Array.getElem?_eq_some_iff] at hj
        exact absurd hj.1 hlt
    · rfl
  · rfl


/-- the box of an error in w -/
def NoErr (w : World) (x : Nat) : Prop := w.heap[x]? = some (.cells #[.int .i64 0] 28 (0, 0))

set_option maxRecDepth 100000 in
set_option maxHeartbeats 1000000 in
/-- caught, of any closure that ends well -/
theorem tcaught_ok (w : World) (fn : FuncId) (caps : Array Value) (Q : World → Prop) (hcf : ∀ W, (callFunc fn caps).run Tryz.prog W = .ok (.enter fn caps) W)
    (h : Calls Tryz.prog fn caps (w.alloc (.cells #[.int .i64 0] 28)) fun e w' => e = .returned (.tuple #[]) ∧ NoErr w' w.heap.size ∧ Q w') :
    Calls Tryz.prog 45 #[.func (.func fn) #[] caps] w fun e w' => e = .returned (.int .i64 0) ∧ Q w' := by
  have hmf : ∀ (fn : Fn) (first cap : Array Value) (w : World), (Instr.makeFunc fn first cap).run Tryz.prog w = .ok (.func fn first cap) w := fun _ _ _ _ => rfl
  have HH := Lib.hid h
  clear h
  go_enter_defers Tryz.func45, Tryz.ntmps45
  go_wp2_with fail
  refine HH.out.mono ?_
  rintro e w1 ⟨rfl, hrow, hQ⟩
  obtain ⟨x, hx⟩ : ∃ x, w.heap.size = x := ⟨_, rfl⟩
  rw [hx] at hrow ⊢
  have hc : w1.cell? ⟨x, 0, none⟩ = some (.int .i64 0) := cell_of_row _ _ _ _ _ _ hrow
  have hf : w1.frozen? ⟨x, 0, none⟩ = false := frozen_of_row _ _ _ _ _ hrow
  have hrd : (w1.setCell ⟨x, 0, none⟩ (.int .i64 0)).cell? ⟨x, 0, none⟩ = some (.int .i64 0) := cell_of_row _ _ _ _ _ _ (heap_set_fr hrow 0 (.int .i64 0))
  have HRD := Lib.hid hrd
  have HQ : Hid (Q (w1.setCell ⟨x, 0, none⟩ (.int .i64 0))) := Lib.hid (by rw [set_same hc]; exact hQ)
  clear hrow hrd hQ
  go_wp2
  refine leaves_cons (f := 88) (args := #[.pointer (some ⟨x, 0, none⟩)]) (by simp) (by simp [go_sem]) ?_
  refine (tcatch_idle ⟨x, 0, none⟩ _).mono ?_
  rintro e u' w'' ⟨rfl, rfl, rfl⟩
  have hrd := HRD.out
  have hQ := HQ.out
  generalize w1.setCell ⟨x, 0, none⟩ (.int .i64 0) = w2 at hrd hQ ⊢
  simp only [Leaves, settle]
  exact ⟨_, by simp [results, Tryz.results45, go_sem, hrd], rfl, hQ⟩

set_option maxRecDepth 100000 in
set_option maxHeartbeats 1000000 in
/-- caught, of any closure that a fault leaves -/
theorem tcaught_bad (w : World) (fn : FuncId) (caps : Array Value) (c : Int) (Q : World → Prop) (hcf : ∀ W, (callFunc fn caps).run Tryz.prog W = .ok (.enter fn caps) W)
    (h : Calls Tryz.prog fn caps (w.alloc (.cells #[.int .i64 0] 28)) fun e w' => e = .panicked (tfault c) ∧ NoErr w' w.heap.size ∧ Q (w'.setCell ⟨w.heap.size, 0, none⟩ (.int .i64 c))) :
    Calls Tryz.prog 45 #[.func (.func fn) #[] caps] w fun e w' => e = .returned (.int .i64 c) ∧ Q w' := by
  have hmf : ∀ (fn : Fn) (first cap : Array Value) (w : World), (Instr.makeFunc fn first cap).run Tryz.prog w = .ok (.func fn first cap) w := fun _ _ _ _ => rfl
  have HH := Lib.hid h
  clear h
  go_enter_defers Tryz.func45, Tryz.ntmps45
  go_wp2_with fail
  refine HH.out.mono ?_
  rintro e w1 ⟨rfl, hrow, hQ⟩
  obtain ⟨x, hx⟩ : ∃ x, w.heap.size = x := ⟨_, rfl⟩
  rw [hx] at hrow hQ ⊢
  have hrd : (w1.setCell ⟨x, 0, none⟩ (.int .i64 c)).cell? ⟨x, 0, none⟩ = some (.int .i64 c) := cell_of_row _ _ _ _ _ _ (heap_set_fr hrow 0 (.int .i64 c))
  refine leaves_cons (f := 88) (args := #[.pointer (some ⟨x, 0, none⟩)]) (by simp) (by simp [go_sem]) ?_
  refine (tcatch_fault ⟨x, 0, none⟩ c _ (cell_of_row _ _ _ _ _ _ hrow) (frozen_of_row _ _ _ _ _ hrow)).mono ?_
  rintro e u' w'' ⟨rfl, rfl, rfl⟩
  generalize w1.setCell ⟨x, 0, none⟩ (.int .i64 c) = w2 at hrd hQ ⊢
  simp [Leaves, settle, results, Tryz.results45, go_sem, hrd, hQ]

/-! ### a piece of a text -/

/-! ### the source -/

end Go.Proofs.YtjkofciohehgfaaGreatDoor.L11


/- A table in memory, its spans; the body of a frame. -/
namespace Go.Proofs.YtjkofciohehgfaaGreatDoor.L11
open Go.RowKit
open SK
open TB (Bs Sp)

/-! ### spans -/

def TB.Sp.cells (s : TB.Sp) : List Value := [.string s.last, .int .i64 s.at_, .int .i64 s.n]
/-- sizes that a machine has -/
def TB.Sp.wf (s : TB.Sp) : Prop := s.last.size ≤ 65535 ∧ s.at_ ≤ 281474976710656 ∧ s.n ≤ 281474976710656

/-- spans that lie in memory -/
structure SpsIn (w : World) (A : Option Addr) (ss : List Sp) : Prop where
  wf : ∀ s ∈ ss, s.wf
  at_ : 0 < ss.length → ∃ b off, A = some ⟨b, off, none⟩ ∧ b < w.heap.size ∧ ∀ j, (h : j < ss.length) →
    w.cell? ⟨b, off + j * 3, none⟩ = some (.string ss[j].last) ∧ w.cell? ⟨b, off + j * 3 + 1, none⟩ = some (.int .i64 ss[j].at_) ∧ w.cell? ⟨b, off + j * 3 + 2, none⟩ = some (.int .i64 ss[j].n)

theorem SpsIn.grown {w w' : World} {A : Option Addr} {ss : List Sp} {r : Option Nat} (h : SpsIn w A ss) (hg : w.grownBy w' r) (hr : ∀ x ∈ fb A, some x ≠ r) : SpsIn w' A ss :=
  ⟨h.wf, fun hn => by
    obtain ⟨b, off, rfl, hlt, hc⟩ := h.at_ hn
    have hb : w'.heap[b]? = w.heap[b]? := hg.block b hlt (hr b (by simp [fb]))
    have hcell : ∀ o, w'.cell? ⟨b, o, none⟩ = w.cell? ⟨b, o, none⟩ := fun o => by simp only [World.cell?, hb]
    refine ⟨b, off, rfl, Nat.lt_of_lt_of_le hlt hg.size, fun j hj => ?_⟩
    obtain ⟨c0, c1, c2⟩ := hc j hj
    exact ⟨(hcell _).trans c0, (hcell _).trans c1, (hcell _).trans c2⟩⟩
theorem SpsIn.below {w w' : World} {A : Option Addr} {ss : List Sp} (h : SpsIn w A ss) (hb : Below w.heap.size w w') : SpsIn w' A ss := h.grown (r := none) (grown_below hb) (by simp)

def scs (l : List Sp) : List Value := l.flatMap TB.Sp.cells
theorem scs_snoc (l : List Sp) (p : Sp) : scs (l ++ [p]) = scs l ++ p.cells := by simp [scs]
theorem scs_at : ∀ (l : List Sp) (j : Nat) (h : j < l.length) (i : Nat), i < 3 → (scs l)[j * 3 + i]? = (l[j]).cells[i]?
  | p :: r, 0, _, i, hi => by
    show (p.cells ++ scs r)[0 * 3 + i]? = _
    rw [List.getElem?_append_left (by simp [TB.Sp.cells]; omega)]
    simp
  | p :: r, j + 1, h, i, hi => by
    have := scs_at r j (by simpa using h) i hi
    show (p.cells ++ scs r)[(j + 1) * 3 + i]? = _
    rw [List.getElem?_append_right (by simp [TB.Sp.cells]; omega)]
    simp only [List.getElem_cons_succ]
    rw [← this]
    congr 1
    simp [TB.Sp.cells]
    omega

theorem own_sps {w : World} {base : Nat} {e : TypeId} {v : Value} {n : Nat} {l : List Sp} (hw : ∀ x ∈ l, x.wf) (hn : l.length = n) (h : w.ownsRow base e 3 v n (scs l)) :
    ∃ A c, v = .slice A n c ∧ SpsIn w A l ∧ (∀ x ∈ fb A, base ≤ x ∧ x < w.heap.size) ∧ n ≤ c := by
  subst hn
  have h' := h
  rcases h.2 with ⟨rfl, h0⟩ | ⟨g, cap, cur, rfl, hbg, hg, hnc, _, _, _⟩
  · exact ⟨none, 0, by rw [h0], ⟨hw, fun hn => by omega⟩, by simp [fb], by omega⟩
  · have hlt := (Array.getElem?_eq_some_iff.1 hg).1
    refine ⟨some ⟨g, 0, none⟩, cap, rfl, ⟨hw, fun _ => ⟨g, 0, rfl, hlt, fun j hj => ?_⟩⟩, by simp [fb]; exact ⟨hbg, hlt⟩, hnc⟩
    have hcell : ∀ i x, i < 3 → (l[j]).cells[i]? = some x → w.cell? ⟨g, 0 + j * 3 + i, none⟩ = some x := by
      intro i x hi hx
      have hc := h'.cells (g := g) rfl (j * 3 + i) x (by rw [scs_at l j hj i hi]; exact hx)
      rw [addr_add0] at hc
      rw [Nat.zero_add]
      exact hc
    exact ⟨hcell 0 _ (by omega) rfl, hcell 1 _ (by omega) rfl, hcell 2 _ (by omega) rfl⟩

/-! ### a table -/

/-! ### a body -/

end Go.Proofs.YtjkofciohehgfaaGreatDoor.L11


/- The closures by which an index is read: a number, a text. -/
namespace Go.Proofs.YtjkofciohehgfaaGreatDoor.L11
open Go.RowKit
open SK
open TB (Bs Sp)

/-- the bytes in box x, the place in box y -/
structure Rd2 (w : World) (x y : Nat) (s : ByteArray) (p : Nat) : Prop where
  b0 : w.heap[x]? = some (.cells #[.string s] 9 (0, 0))
  b1 : w.heap[y]? = some (.cells #[.int .i64 p] 3 (0, 0))
  ne : x ≠ y

section
variable {w w' : World} {x y p : Nat} {s : ByteArray}
theorem Rd2.lt0 (h : Rd2 w x y s p) : x < w.heap.size := (Array.getElem?_eq_some_iff.1 h.b0).1
theorem Rd2.lt1 (h : Rd2 w x y s p) : y < w.heap.size := (Array.getElem?_eq_some_iff.1 h.b1).1
theorem Rd2.below (h : Rd2 w x y s p) (hb : Below w.heap.size w w') : Rd2 w' x y s p := ⟨(hb.block x h.lt0).trans h.b0, (hb.block y h.lt1).trans h.b1, h.ne⟩
end

end Go.Proofs.YtjkofciohehgfaaGreatDoor.L11


/- The index: its blocks. Made by gen_te.py. -/
namespace Go.Proofs.YtjkofciohehgfaaGreatDoor.L11
open Go.RowKit
open SK
open TB (Bs Sp)

theorem info_span : (Tryz.prog.info? 142).map (fun i => (i.zero, i.size, i.bytes)) = some (some (.agg #[.string ⟨#[]⟩, .int .i64 0, .int .i64 0]), 3, 32) := by kernel_rfl

theorem heap_new2 (w : World) (o p : Obj) : ((w.alloc o).alloc p).heap[w.heap.size + 1]? = some p := by
  have := heap_alloc_new (w.alloc o) p
  simpa using this

theorem below_via {B y : Nat} {w w1 w' : World} (h : Below B w w1) (hg : w1.grownBy w' (some y)) (hB : B ≤ w1.heap.size) (hy : B ≤ y) : Below B w w' :=
  ⟨hg.os.trans h.os, hg.tape.trans h.tape, hg.output.trans h.output, Nat.le_trans h.size hg.size, fun k hk => (hg.block k (by omega) (by simp; omega)).trans (h.block k hk)⟩

end Go.Proofs.YtjkofciohehgfaaGreatDoor.L11


/- The closure that puts a frame behind the others. -/
namespace Go.Proofs.YtjkofciohehgfaaGreatDoor.L11
open Go.RowKit
open SK
open TB (Bs Sp)

theorem below_seq' {B C : Nat} {w w1 w2 : World} (h : Below C w w1) (k : Below w1.heap.size w1 w2) (hB : B ≤ C) (hC : C ≤ w1.heap.size) : Below B w w2 :=
  (h.trans ⟨k.os, k.tape, k.output, k.size, fun j hj => k.block j (by omega)⟩).mono hB

/-- what putting a body comes to -/
def PutT (B b : Nat) (l p : Bs) (w : World) (c : Int) (e : Ending) (w' : World) : Prop :=
  Below B w w' ∧ if c ≠ 0 then e = .panicked (tfault c) else if 65535 < p.length then e = .panicked (tfault 5)
    else e = .returned (.agg #[.string ⟨#[]⟩, .int .i64 l.length, .int .i64 (8 + p.length : Nat)]) ∧ Bld B b (l ++ TB.fr p) w' ∧ ApartB w w'

set_option maxRecDepth 100000 in
set_option maxHeartbeats 2000000 in
theorem tput_any (B b : Nat) (l p : Bs) (c : Int) (w : World) (h : Bld B b l w) (hl : l.length + (8 + p.length) ≤ 100000000) (hB : B ≤ w.heap.size) :
    Calls Tryz.prog 89 #[.string ⟨p.toArray⟩, .int .i64 c, .pointer (some ⟨b, 0, none⟩)] w fun e w' => PutT B b l p w c e w' := by
  have HPUT := Lib.hid (fun W => F3.put_any ⟨p.toArray⟩ W (by rw [mk_size]; omega))
  obtain ⟨z, hz⟩ : ∃ z, w.heap.size = z := ⟨_, rfl⟩
  have HR0 : Hid ((w.alloc (.cells #[.string ⟨#[]⟩, .int .i64 0, .int .i64 0] 142)).heap[z]? = some (.cells #[.string ⟨#[]⟩, .int .i64 0, .int .i64 0] 142 (0, 0))) := Lib.hid (by rw [← hz]; exact heap_alloc_new w _)
  have HW0 : Hid (Below w.heap.size w (w.alloc (.cells #[.string ⟨#[]⟩, .int .i64 0, .int .i64 0] 142))) := Lib.hid ((Below.refl _ _).alloc (Nat.le_refl _) _)
  have HS0 : Hid ((w.alloc (.cells #[.string ⟨#[]⟩, .int .i64 0, .int .i64 0] 142)).heap.size = z + 1) := Lib.hid (by simp; omega)
  have HH := Lib.hid h
  have HBZ : Hid (B ≤ z) := Lib.hid (by omega)
  unfold PutT
  by_cases hc : c = 0
  · subst hc
    simp only [ne_eq, not_true_eq_false, if_false]
    by_cases hp : 65535 < p.length
    · simp only [if_pos hp]
      have HP2 : Hid (∀ W, Calls Tryz.prog 32 #[.string ⟨p.toArray⟩] W fun e w' => e = .returned (.tuple #[.string ⟨#[]⟩, .int .i64 5]) ∧ Below W.heap.size W w') := Lib.hid fun W => (HPUT.out W).mono fun e w' hq => ⟨by have := hq.1; unfold F3.putOut at this; rw [if_pos (by rw [mk_size]; exact hp)] at this; exact this, hq.2⟩
      clear h HPUT
      go_enter Tryz.func89, Tryz.ntmps89
      go_wp2_with fail
      refine (tleave_ok _).mono ?_
      rintro e w1 ⟨rfl, rfl⟩
      go_wp2_with fail
      refine (HP2.out _).mono ?_
      rintro e w1 ⟨rfl, hb1⟩
      go_wp2_with fail
      refine (tleave_bad 5 _ (by decide)).mono ?_
      rintro e w2 ⟨rfl, rfl⟩
      exact ⟨rfl, (below_seq' (HW0.out) hb1 (by omega) (by have := HS0.out; omega)), rfl⟩
    · simp only [if_neg hp]
      have HP2 : Hid (∀ W, Calls Tryz.prog 32 #[.string ⟨p.toArray⟩] W fun e w' => e = .returned (.tuple #[.string ⟨(TB.fr p).toArray⟩, .int .i64 0]) ∧ Below W.heap.size W w') := Lib.hid fun W => (HPUT.out W).mono fun e w' hq => ⟨by have := hq.1; unfold F3.putOut at this; rw [if_neg (by rw [mk_size]; exact hp)] at this; simpa [TB.fr] using this, hq.2⟩
      have hfl := TB.fr_len p
      have hfs : (⟨(TB.fr p).toArray⟩ : ByteArray).size = 8 + p.length := by rw [mk_size, hfl]
      have HWR : Hid (∀ W, Bld B b l W → B ≤ W.heap.size → Calls Tryz.prog 27 #[.pointer (some ⟨b, 0, none⟩), .string ⟨(TB.fr p).toArray⟩] W fun e w' => (∃ k, e = .returned (.tuple #[.int .i64 k, .nilIface])) ∧ Bld B b (l ++ TB.fr p) w' ∧ Below B W w' ∧ ApartB W w') := Lib.hid fun W h1 h2 => (writeA_any B b l (TB.fr p) W h1 (by rw [hfl]; omega) h2).mono fun e w' hq => ⟨⟨_, hq.1⟩, hq.2⟩
      obtain ⟨F, hF⟩ : ∃ F : ByteArray, (⟨(TB.fr p).toArray⟩ : ByteArray) = F := ⟨_, rfl⟩
      rw [hF] at hfs HP2 HWR
      have HFS := Lib.hid hfs
      clear h HPUT hF hfl hfs
      go_enter Tryz.func89, Tryz.ntmps89
      go_wp2_with fail
      generalize w.alloc (.cells #[.string ⟨#[]⟩, .int .i64 0, .int .i64 0] 142) = w0 at HR0 HW0 HS0 ⊢
      refine (tleave_ok _).mono ?_
      rintro e w1 ⟨rfl, rfl⟩
      go_wp2_with fail
      refine (HP2.out _).mono ?_
      rintro e w1 ⟨rfl, hb1⟩
      have HR1 := Lib.hid ((hb1.block z (by have := HS0.out; omega)).trans HR0.out)
      have HW1 : Hid (Below w.heap.size w w1) := Lib.hid (below_seq' HW0.out hb1 (Nat.le_refl _) (by have := HS0.out; omega))
      have HS1 : Hid (z + 1 ≤ w1.heap.size) := Lib.hid (by have := hb1.size; have := HS0.out; omega)
      have HB1 : Hid (Bld B b l w1) := Lib.hid (HH.out.kept HW1.out)
      clear hb1 HW0 HR0 HS0
      go_wp2_with fail
      refine (tleave_ok _).mono ?_
      rintro e w2 ⟨rfl, rfl⟩
      go_wp2_with fail
      refine (len_any B b l _ HB1.out).mono ?_
      rintro e w2 ⟨rfl, rfl⟩
      go_wp2_with fail
      refine (HWR.out _ HB1.out (by have := HS1.out; have := HBZ.out; omega)).mono ?_
      rintro e w2 ⟨⟨k, rfl⟩, hbl, hb2, ha2⟩
      have hr2 : w2.heap[z]? = some (.cells #[.string ⟨#[]⟩, .int .i64 0, .int .i64 0] 142 (0, 0)) := ha2 z _ _ _ HR1.out (by decide) (by decide)
      have hc := fun o => cell_of_row w2 z o _ _ _ hr2
      have c0 : w2.cell? ⟨z, 0, none⟩ = some (.string ⟨#[]⟩) := hc 0
      have c1 : w2.cell? ⟨z, 1, none⟩ = some (.int .i64 0) := hc 1
      have c2 : w2.cell? ⟨z, 2, none⟩ = some (.int .i64 0) := hc 2
      have f1 : ∀ o, w2.frozen? ⟨z, o, none⟩ = false := fun o => frozen_of_row _ _ _ _ _ hr2
      have HFS' := HFS.out
      have HBL2 := Lib.hid hbl
      have HBB2 := Lib.hid (HW1.out.mono hB |>.trans hb2)
      have HAP2 := Lib.hid (ApartB.trans (ApartB.below HW1.out) ha2)
      have HR2 := Lib.hid hr2
      clear hc hbl hb2 ha2 hr2 HWR HP2
      go_wp2
      have hr3 : (((w2.setCell ⟨z, 0, none⟩ (.string ⟨#[]⟩)).setCell ⟨z, 1, none⟩ (.int .i64 l.length)).setCell ⟨z, 2, none⟩ (.int .i64 (8 + (p.length : Int)))).heap[z]? = some (.cells #[.string ⟨#[]⟩, .int .i64 l.length, .int .i64 (8 + (p.length : Int))] 142 (0, 0)) :=
        heap_set_fr (heap_set_fr (heap_set_fr HR2.out 0 (.string ⟨#[]⟩)) 1 (.int .i64 l.length)) 2 (.int .i64 (8 + (p.length : Int)))
      have hg3 : w2.grownBy (((w2.setCell ⟨z, 0, none⟩ (.string ⟨#[]⟩)).setCell ⟨z, 1, none⟩ (.int .i64 l.length)).setCell ⟨z, 2, none⟩ (.int .i64 (8 + (p.length : Int)))) (some z) := grown_set (grown_set (grown_set (grown_refl _ _) _ _) _ _) _ _
      generalize ((w2.setCell ⟨z, 0, none⟩ (.string ⟨#[]⟩)).setCell ⟨z, 1, none⟩ (.int .i64 l.length)).setCell ⟨z, 2, none⟩ (.int .i64 (8 + (p.length : Int))) = w3 at hr3 hg3 ⊢
      have hown : w2.ownsRow B 142 3 (.slice (some ⟨z, 0, none⟩) 1 1) 1 [.string ⟨#[]⟩, .int .i64 0, .int .i64 0] := ⟨rfl, .inr ⟨z, 1, _, rfl, HBZ.out, HR2.out, Nat.le_refl _, by decide, rfl, rfl⟩⟩
      have hbl3 : Bld B b (l ++ TB.fr p) w3 := bld_grown HBL2.out hown hg3 (by decide) (by decide)
      have hbb3 : Below B w w3 := below_via HBB2.out hg3 (by have := HBB2.out.size; omega) HBZ.out
      have hap3 : ApartB w w3 := fun i cs t fr hi h1 h2 => (hg3.block i (Array.getElem?_eq_some_iff.1 (HAP2.out i cs t fr hi h1 h2)).1 (by
        intro he
        simp only [Option.some.injEq] at he
        have := (Array.getElem?_eq_some_iff.1 hi).1
        omega)).trans (HAP2.out i cs t fr hi h1 h2)
      have hc3 := fun o => cell_of_row w3 z o _ _ _ hr3
      refine bodyPost_ret (v := .agg #[.string ⟨#[]⟩, .int .i64 l.length, .int .i64 (8 + (p.length : Int))]) (by simp [results, Tryz.results89, go_sem, hc3]) rfl ⟨hbb3, ?_, hbl3, hap3⟩
      simp
  · simp only [ne_eq, hc, not_false_eq_true, if_true]
    clear h HPUT
    go_enter Tryz.func89, Tryz.ntmps89
    go_wp2_with fail
    refine (tleave_bad c _ hc).mono ?_
    rintro e w1 ⟨rfl, rfl⟩
    exact ⟨rfl, HW0.out.mono hB, rfl⟩
end Go.Proofs.YtjkofciohehgfaaGreatDoor.L11


/- A table is read: filter and blocks. -/
namespace Go.Proofs.YtjkofciohehgfaaGreatDoor.L11
open Go.RowKit
open SK
open TB (Bs Sp)

theorem below_seq {B : Nat} {w w1 w2 : World} (h : Below B w w1) (k : Below w1.heap.size w1 w2) (hB : B ≤ w1.heap.size) : Below B w w2 :=
  h.trans ⟨k.os, k.tape, k.output, k.size, fun j hj => k.block j (by omega)⟩

section
variable {w w' : World} {t x : Nat} {s f : ByteArray}
end

end Go.Proofs.YtjkofciohehgfaaGreatDoor.L11


/- Open. -/
namespace Go.Proofs.YtjkofciohehgfaaGreatDoor.L11
open Go.RowKit
open SK
open TB (Bs Sp)

theorem cf_any {f : FuncId} {fn : Func} (hf : Tryz.prog.funcs[f]? = some fn) (hname : (fn.name == "runtime.NumGoroutine") = false) (hb : fn.body.isSome = true) (args : Array Value) (w : World) : (callFunc f args).run Tryz.prog w = .ok (.enter f args) w := by
  have h1 : fn.name ≠ "runtime.NumGoroutine" := by simpa using hname
  obtain ⟨c, hc⟩ := Option.isSome_iff_exists.1 hb
  simp [callFunc, hf, h1, hc]

theorem heap_new3 (w : World) (o p q : Obj) : (((w.alloc o).alloc p).alloc q).heap[w.heap.size]? = some o ∧ (((w.alloc o).alloc p).alloc q).heap[w.heap.size + 1]? = some p ∧ (((w.alloc o).alloc p).alloc q).heap[w.heap.size + 2]? = some q := by
  refine ⟨?_, ?_, ?_⟩
  · exact (Below.heap_alloc _ _ _ (by simp; omega)).trans ((Below.heap_alloc _ _ _ (by simp)).trans (heap_alloc_new w _))
  · exact (Below.heap_alloc _ _ _ (by simp)).trans (heap_new2 w _ _)
  · have := heap_alloc_new ((w.alloc o).alloc p) q
    simpa using this

theorem noErr_grown {w w' : World} {r : Nat} (hg : (w.alloc (.cells #[.int .i64 0] 28)).grownBy w' (some r)) (hr : r ≠ w.heap.size) : NoErr w' w.heap.size :=
  (hg.block w.heap.size (by simp) (by simp; omega)).trans (heap_alloc_new w _)

end Go.Proofs.YtjkofciohehgfaaGreatDoor.L11


/- behind, entries of a table. -/
namespace Go.Proofs.YtjkofciohehgfaaGreatDoor.L11
open Go.RowKit
open SK
open TB (Bs Sp)

/-- entries that were read: all good -/
def Fine (l : List E) : Prop := ∀ e ∈ l, e.wf ∧ good e = 0 ∧ e.til ≠ 9223372036854775807

end Go.Proofs.YtjkofciohehgfaaGreatDoor.L11


/- How many entries a block takes; a place's bytes. -/
namespace Go.Proofs.YtjkofciohehgfaaGreatDoor.L11
open Go.RowKit
open SK
open TB (Bs Sp)

set_option maxRecDepth 100000 in
set_option maxHeartbeats 2000000 in
theorem taken_any (A : Option Addr) (n cap S : Nat) (l : List E) (w : World) (hn : l.length = n) (hin : EntsIn w A l) (hf : Fine l) (hS : 1 ≤ S) (hS2 : S ≤ 4096) :
    Calls Tryz.prog 92 #[.slice A n cap, .int .i64 S] w fun e w' => e = .returned (.int .i64 (TB.taken S l : Nat)) ∧ Below w.heap.size w w' := by
  have HIN := Lib.hid hin
  have HN := Lib.hid hn
  have HF := Lib.hid hf
  obtain ⟨X, hX⟩ : ∃ X, TB.taken S l = X := ⟨_, rfl⟩
  have HX0 : Hid (X = TB.tk S 0 0 (l.drop 0)) := Lib.hid (by rw [← hX]; rfl)
  rw [hX]
  clear hX hin hn hf
  go_enter Tryz.func92, Tryz.ntmps92
  go_wp2
  go_loopw [5, 10] (fun h i wr => ∃ (j H : Nat), j ≤ n ∧ j ≤ 2048 ∧ i = .int .i64 j ∧ h = .int .i64 H ∧ X = TB.tk S j H (l.drop j) ∧ H ≤ j * 576 ∧ Below w.heap.size w wr) (fun _ i _ => n - (intOf i).toNat)
  case atStart => exact ⟨0, 0, by omega, by omega, rfl, rfl, HX0.out, by omega, Below.refl _ _⟩
  case round =>
    obtain ⟨j, H, hj, hj2, rfl, rfl, hx, hH, hb⟩ := hrel
    by_cases hlt : j < n
    · have hjl : j < l.length := by rw [HN.out]; exact hlt
      obtain ⟨bb, off, hA, hbl, hc⟩ := (HIN.out.below hb).at_ (by omega)
      obtain ⟨z0, z1, z2, z3, z4⟩ := hc j hjl
      have hg := good_zero (HF.out _ (List.getElem_mem hjl)).2.1
      rw [List.drop_eq_getElem_cons hjl] at hx
      simp only [TB.tk] at hx
      obtain ⟨y, hy⟩ : ∃ y, l[j] = y := ⟨_, rfl⟩
      rw [hy] at z0 z1 z2 z3 z4 hg hx
      subst hA
      have HXX := Lib.hid hx
      have HB := Lib.hid hb
      obtain ⟨-, hk, hv, -⟩ := hg
      have HSZ : Hid (w.heap.size ≤ wr.heap.size) := Lib.hid hb.size
      clear hx hb hc hbl hy
      obtain ⟨k2, r2, g2, v2, t2⟩ := y
      simp only at z0 z1 z2 z3 z4 hk hv HXX
      by_cases h48 : j = 2048
      · subst h48
        have hF : X = 2048 := by rw [HXX.out, if_pos (Or.inl rfl)]
        clear HXX HX0
        subst hF
        go_wp2
        go_ret
        exact ⟨rfl, HB.out.alloc HSZ.out _⟩
      · have d1 : ((j : Int) == 2048) = false := beq_eq_false_iff_ne.2 (by omega)
        by_cases hsh : S ≤ H
        · have d2 : decide ((S : Int) ≤ (H : Int)) = true := decide_eq_true (by omega)
          have d2' : decide (S ≤ H) = true := decide_eq_true hsh
          have hF : X = j := by rw [HXX.out, if_pos (Or.inr hsh)]
          clear HXX HX0
          subst hF
          go_wp2
          go_ret
          exact ⟨rfl, HB.out.alloc HSZ.out _⟩
        · have d2 : decide ((S : Int) ≤ (H : Int)) = false := decide_eq_false (by omega)
          have d2' : decide (S ≤ H) = false := decide_eq_false hsh
          have HF2 : Hid (X = TB.tk S (j + 1) (H + (k2.size + v2.size)) (l.drop (j + 1))) := Lib.hid (by rw [HXX.out, if_neg (by omega)])
          have hw1 : IntKind.i64.wrap ((k2.size : Int) + (v2.size : Int)) = (k2.size : Int) + (v2.size : Int) := IntWalk.i64_in _ ⟨by omega, by omega⟩
          have hw2 : IntKind.i64.wrap ((H : Int) + ((k2.size : Int) + (v2.size : Int))) = (H : Int) + ((k2.size : Int) + (v2.size : Int)) := IntWalk.i64_in _ ⟨by omega, by omega⟩
          clear HXX
          go_wp2
          go_roundw
          case rel => exact ⟨j + 1, H + (k2.size + v2.size), by omega, by omega, by go_num, by go_num, HF2.out, by omega, HB.out.alloc HSZ.out _⟩
          case measure => simp [intOf]; omega
    · have hjn : j = n := by omega
      have hF : X = n := by rw [hx, List.drop_eq_nil_of_le (by rw [HN.out]; omega), hjn]; rfl
      have HB := Lib.hid hb
      clear hx HX0 hb
      subst hF
      go_wp2
      go_ret
      exact ⟨rfl, HB.out⟩

/-! ### a place -/

def bcell (c : UInt8) : Value := .int .u8 (c.toNat : Int)
def rowP (n j : Nat) : Array Value := ((List.replicate (8 - j) (0 : UInt8) ++ TB.be j n).map bcell).toArray

theorem rowP_set (n j : Nat) (h : j < 8) : (rowP n j).setIfInBounds (7 - j) (bcell (n / 256 ^ j % 256).toUInt8) = rowP n (j + 1) := by
  unfold rowP
  rw [List.setIfInBounds_toArray, ← List.map_set]
  congr 2
  have hr : List.replicate (8 - j) (0 : UInt8) = List.replicate (7 - j) 0 ++ [0] := by
    rw [show 8 - j = (7 - j) + 1 by omega, List.replicate_succ']
  rw [hr, List.append_assoc, List.set_append_right _ _ (by simp), show 8 - (j + 1) = 7 - j by omega]
  simp [TB.be]

theorem rowP_at (n j : Nat) (h : j < 8) : (rowP n j)[7 - j]? = some (.int .u8 0) := by
  unfold rowP
  rw [List.getElem?_toArray, List.getElem?_map, List.getElem?_append_left (by rw [List.length_replicate]; omega), List.getElem?_replicate, if_pos (by omega)]
  rfl
theorem place_byte (n j : Nat) : (Value.int .u8 ((n : Int) / 2 ^ (8 * j) % 256)) = bcell (n / 256 ^ j % 256).toUInt8 := by
  unfold bcell
  rw [byte_toNat _ (Nat.mod_lt _ (by decide)), show (256 : Nat) ^ j = 2 ^ (8 * j) by rw [Nat.pow_mul]]
  congr 1

theorem rowP_string (W : World) (g : Nat) (t : TypeId) (n : Nat) (h : W.heap[g]? = some (.cells (rowP n 8) t (0, 0))) :
    (convert 68 9 (.slice (some ⟨g, 0, none⟩) 8 8)).run Tryz.prog W = .ok (.string ⟨(TB.be 8 n).toArray⟩) W := by
  refine Lib.run_convert_whole W 68 5 9 Tryz.underlying68 Tryz.underlying5 Tryz.underlying9 g 0 ⟨(TB.be 8 n).toArray⟩ (fun i hi => ?_) 8
  have hi' : i < (TB.be 8 n).length := by simpa [ByteArray.size] using hi
  rw [Nat.zero_add, cell_of_row _ _ _ _ _ _ h]
  unfold rowP
  simp [bcell, hi']
  rfl

set_option maxRecDepth 100000 in
set_option maxHeartbeats 1000000 in
theorem placeBytes_any (n : Nat) (w : World) (hn : n ≤ 281474976710656) :
    Calls Tryz.prog 97 #[.int .i64 n] w fun e w' => e = .returned (.string ⟨(TB.be 8 n).toArray⟩) ∧ Below w.heap.size w w' := by
  obtain ⟨x, hx⟩ : ∃ x, w.heap.size = x := ⟨_, rfl⟩
  have HR0 : Hid ((w.alloc (.cells #[.int .u8 0, .int .u8 0, .int .u8 0, .int .u8 0, .int .u8 0, .int .u8 0, .int .u8 0, .int .u8 0] 125)).heap[x]? = some (.cells (rowP n 0) 125 (0, 0))) := Lib.hid (by rw [← hx]; exact heap_alloc_new w _)
  have HB0 : Hid (Below x w (w.alloc (.cells #[.int .u8 0, .int .u8 0, .int .u8 0, .int .u8 0, .int .u8 0, .int .u8 0, .int .u8 0, .int .u8 0] 125))) := Lib.hid ((Below.refl _ _).alloc (by omega) _)
  have hwn : IntKind.u64.wrap (n : Int) = (n : Int) := by rw [IntKind.wrap_u64]; omega
  simp only [hx]
  go_enter Tryz.func97, Tryz.ntmps97
  go_wp2_with fail
  go_loopw [5] (fun i wr => ∃ j : Nat, j ≤ 8 ∧ i = .int .i64 j ∧ wr.heap[x]? = some (.cells (rowP n j) 125 (0, 0)) ∧ Below x w wr) (fun i _ => 8 - (intOf i).toNat)
  case atStart => exact ⟨0, by omega, rfl, HR0.out, HB0.out⟩
  case round =>
    obtain ⟨j, hj, rfl, hrow, hb⟩ := hrel
    by_cases hlt : j < 8
    · have hcl : wr.cell? ⟨x, 7 - j, none⟩ = some (.int .u8 0) := by
        rw [cell_of_row _ _ _ _ _ _ hrow]
        exact rowP_at n j hlt
      have hfr : wr.frozen? ⟨x, 7 - j, none⟩ = false := frozen_of_row _ _ _ _ _ hrow
      have HROW := Lib.hid hrow
      have HB := Lib.hid hb
      obtain ⟨m, hm⟩ : ∃ m, 7 - j = m := ⟨_, rfl⟩
      rw [hm] at hcl hfr
      have hwj : IntKind.i64.wrap (7 - (j : Int)) = (m : Int) := by rw [IntWalk.i64_in _ ⟨by omega, by omega⟩]; omega
      have g0 : (0 : Int) ≤ (m : Int) := by omega
      have g1 : (m : Int) < 8 := by omega
      have hmul : IntKind.i64.wrap (8 * (j : Int)) = 8 * (j : Int) := IntWalk.i64_in _ ⟨by omega, by omega⟩
      have HM := Lib.hid hm
      clear hrow hb hm
      have HSET : Hid ((wr.setCell ⟨x, m, none⟩ (.int .u8 ((n : Int) / 2 ^ (8 * j) % 256))).heap[x]? = some (.cells (rowP n (j + 1)) 125 (0, 0))) := Lib.hid (by
        rw [place_byte, ← rowP_set n j hlt, HM.out]
        exact heap_set_fr HROW.out m _)
      have HB2 : Hid (Below x w (wr.setCell ⟨x, m, none⟩ (.int .u8 ((n : Int) / 2 ^ (8 * j) % 256)))) := Lib.hid (HB.out.setCell (p := ⟨x, m, none⟩) (Nat.le_refl _) _)
      go_wp2
      go_roundw
      case rel => exact ⟨j + 1, by omega, by go_num, HSET.out, HB2.out⟩
      case measure => simp [intOf]; omega
    · obtain rfl : j = 8 := by omega
      have hst := rowP_string wr x _ n hrow
      have hsl := F3.arr_slice8 wr x
      have HB := Lib.hid hb
      clear hb
      go_wp2
      go_ret
      exact ⟨rfl, HB.out⟩
end Go.Proofs.YtjkofciohehgfaaGreatDoor.L11


/- The index of blocks, as bytes. -/
namespace Go.Proofs.YtjkofciohehgfaaGreatDoor.L11
open Go.RowKit
open SK
open TB (Bs Sp)

theorem spB_eq (s : Sp) : BK.textB s.last ++ encAll [(s.at_ : Int), (s.n : Int)] = TB.spB s := by simp [TB.spB, encAll]
theorem flat_take (ss : List Sp) (j : Nat) (h : j < ss.length) : (ss.take (j + 1)).flatMap TB.spB = (ss.take j).flatMap TB.spB ++ TB.spB ss[j] := by
  rw [List.take_succ_eq_append_getElem h, List.flatMap_append]
  simp only [List.flatMap_cons, List.flatMap_nil, List.append_nil]
theorem spB_len {s : Sp} (hw : s.wf) (h : s.last.size ≤ 64) : (TB.spB s).length ≤ 94 := by
  obtain ⟨-, h1, h2⟩ := hw
  have l1 := BK.textB_len s.last (by omega)
  have l2 := (VM.enc_len (n := (s.at_ : Int)) (by omega) (by omega)).2
  have l3 := (VM.enc_len (n := (s.n : Int)) (by omega) (by omega)).2
  unfold TB.spB
  rw [List.length_append, List.length_append]
  omega
theorem flat_len (ss : List Sp) (hw : ∀ s ∈ ss, s.wf ∧ s.last.size ≤ 64) : (ss.flatMap TB.spB).length ≤ ss.length * 94 := by
  induction ss with
  | nil => simp
  | cons s r ih =>
    have h1 := spB_len (hw s (by simp)).1 (hw s (by simp)).2
    have h2 := ih fun x hx => hw x (by simp [hx])
    rw [List.flatMap_cons, List.length_append, List.length_cons]
    omega

theorem ints_two (w : World) (a b : Int) (ha : -9223372036854775808 ≤ a ∧ a ≤ 9223372036854775807) (hb : -9223372036854775808 ≤ b ∧ b ≤ 9223372036854775807) (t : TypeId) (W : World) (g : Nat) (h : W.heap[g]? = some (.cells #[.int .i64 a, .int .i64 b] t (0, 0))) (hg : g < W.heap.size) (_ : w = w) : IntsIn W W.heap.size (some ⟨g, 0, none⟩) [a, b] := by
  refine ⟨fun z hz => ?_, fun _ => ⟨g, 0, rfl, hg, fun j hj => ?_⟩⟩
  · simp only [List.mem_cons, List.not_mem_nil, or_false] at hz
    rcases hz with rfl | rfl
    · exact ha
    · exact hb
  · rw [Nat.zero_add, cell_of_row _ _ _ _ _ _ h]
    simp only [List.length_cons, List.length_nil] at hj
    have hj2 : j = 0 ∨ j = 1 := by omega
    rcases hj2 with rfl | rfl <;> rfl

set_option maxRecDepth 100000 in
set_option maxHeartbeats 4000000 in
theorem indexOf_any (A : Option Addr) (n cap : Nat) (ss : List Sp) (w : World) (hn : ss.length = n) (hin : SpsIn w A ss) (hk : ∀ s ∈ ss, s.last.size ≤ 64) (hb : n ≤ 65536) :
    Calls Tryz.prog 94 #[.slice A n cap] w fun e w' => e = .returned (.string ⟨(TB.idx ss).toArray⟩) ∧ Below w.heap.size w w' := by
  have HIN := Lib.hid hin
  have HN := Lib.hid hn
  have HK := Lib.hid hk
  obtain ⟨N, hNN⟩ : ∃ N, VM.enc (n : Int) = N := ⟨_, rfl⟩
  have hnl := VM.enc_len (n := (n : Int)) (by omega) (by omega)
  have HP := Lib.hid (fun W => put_any (n : Int) W (by omega) (by omega))
  rw [hNN] at HP hnl
  have HID : Hid (TB.idx ss = N ++ (ss.take n).flatMap TB.spB) := Lib.hid (by unfold TB.idx; rw [hn, hNN, List.take_of_length_le (by omega)])
  have HNL := Lib.hid hnl
  obtain ⟨X, hX⟩ : ∃ X, TB.idx ss = X := ⟨_, rfl⟩
  rw [hX] at HID ⊢
  obtain ⟨B, hBB⟩ : ∃ B, w.heap.size = B := ⟨_, rfl⟩
  have HB0 : Hid (Bld B B [] (w.alloc (.cells #[.pointer none, .slice none 0 0] 70))) := Lib.hid (by rw [← hBB]; exact bld_new w)
  have HW0 : Hid (Below B w (w.alloc (.cells #[.pointer none, .slice none 0 0] 70))) := Lib.hid ((Below.refl _ _).alloc (by omega) _)
  have HS0 : Hid ((w.alloc (.cells #[.pointer none, .slice none 0 0] 70)).heap.size = B + 1) := Lib.hid (by simp; omega)
  simp only [hBB]
  clear hX hNN hnl hin hn hk
  go_enter Tryz.func94, Tryz.ntmps94
  go_wp2_with fail
  generalize w.alloc (.cells #[.pointer none, .slice none 0 0] 70) = w0 at HB0 HW0 HS0 ⊢
  refine (HP.out _).mono ?_
  rintro e w1 ⟨rfl, hb1⟩
  have HB1 := Lib.hid (HB0.out.kept hb1)
  have HW1 := Lib.hid (below_seq HW0.out hb1 (by have := HS0.out; omega))
  have HS1 : Hid (B + 1 ≤ w1.heap.size) := Lib.hid (by have := hb1.size; have := HS0.out; omega)
  clear hb1 HB0 HW0 HS0
  go_wp2_with fail
  refine (writeA_any B B [] N w1 HB1.out (by have := HNL.out; simp; omega) (by have := HS1.out; omega)).mono ?_
  rintro e w2 ⟨rfl, hbl, hb2, -⟩
  rw [List.nil_append] at hbl
  have HB2 := Lib.hid hbl
  have HW2 := Lib.hid (HW1.out.trans hb2)
  have HS2 : Hid (B + 1 ≤ w2.heap.size) := Lib.hid (by have := hb2.size; have := HS1.out; omega)
  clear hbl hb2 HB1 HW1 HS1
  go_wp2_with fail
  go_loopw [12] (fun i wr => ∃ j : Nat, j ≤ n ∧ i = .int .i64 j ∧ Bld B B (N ++ (ss.take j).flatMap TB.spB) wr ∧ Below B w wr ∧ B + 1 ≤ wr.heap.size) (fun i _ => n - (intOf i).toNat)
  case atStart => exact ⟨0, by omega, rfl, by simpa using HB2.out, HW2.out, HS2.out⟩
  case round =>
    obtain ⟨j, hj, rfl, hbld, hbel, hsz⟩ := hrel
    by_cases hlt : j < n
    · have hjs : j < ss.length := by rw [HN.out]; exact hlt
      obtain ⟨bb, off, hA, hbl, hc⟩ := (HIN.out.below (by rw [hBB]; exact hbel)).at_ (by omega)
      obtain ⟨z0, z1, z2⟩ := hc j hjs
      have HFT := Lib.hid (flat_take ss j hjs)
      have HLN : Hid (((ss.take j).flatMap TB.spB).length ≤ j * 94) := Lib.hid (by
        have h1 := flat_len (ss.take j) fun x hx => ⟨HIN.out.wf x (List.mem_of_mem_take hx), HK.out x (List.mem_of_mem_take hx)⟩
        have h2 : (ss.take j).length ≤ j := List.length_take_le _ _
        omega)
      have hwf := HIN.out.wf ss[j] (List.getElem_mem hjs)
      have hks := HK.out ss[j] (List.getElem_mem hjs)
      obtain ⟨y, hy⟩ : ∃ y, ss[j] = y := ⟨_, rfl⟩
      rw [hy] at z0 z1 z2 HFT hwf hks
      have HSE := Lib.hid (spB_eq y)
      have HSL := Lib.hid (spB_len hwf hks)
      obtain ⟨-, hw1, hw2⟩ := hwf
      subst hA
      have HBLD := Lib.hid hbld
      have HBEL := Lib.hid hbel
      have HSZ := Lib.hid hsz
      clear hbld hbel hsz hc hbl hy
      obtain ⟨ky, ay, ny⟩ := y
      simp only at z0 z1 z2 hks hw1 hw2
      generalize hG : N ++ (ss.take j).flatMap TB.spB = G at HBLD
      have HGL : Hid (G.length ≤ 10 + j * 94) := Lib.hid (by rw [← hG, List.length_append]; have := HNL.out; have := HLN.out; omega)
      have HGN : Hid (N ++ (ss.take (j + 1)).flatMap TB.spB = G ++ TB.spB ⟨ky, ay, ny⟩) := Lib.hid (by rw [HFT.out, ← hG, List.append_assoc])
      have HPT := Lib.hid (fun W => putText_any ky W (by omega))
      rw [BK.textEnc_eq] at HPT
      have hseL : (BK.textB ky).length + (encAll [(ay : Int), (ny : Int)]).length ≤ 94 := by have := HSL.out; rw [← HSE.out, List.length_append] at this; exact this
      have HSEL := Lib.hid hseL
      obtain ⟨z, hz⟩ : ∃ z, wr.heap.size = z := ⟨_, rfl⟩
      have HR0 : Hid ((wr.alloc (.cells #[.string ky, .int .i64 ay, .int .i64 ny] 142)).heap[z]? = some (.cells #[.string ky, .int .i64 ay, .int .i64 ny] 142 (0, 0))) := Lib.hid (by rw [← hz]; exact heap_alloc_new wr _)
      have HB0 : Hid (Bld B B G (wr.alloc (.cells #[.string ky, .int .i64 ay, .int .i64 ny] 142))) := Lib.hid (HBLD.out.kept ((Below.refl _ _).alloc (Nat.le_refl _) _))
      have HW0 : Hid (Below B w (wr.alloc (.cells #[.string ky, .int .i64 ay, .int .i64 ny] 142))) := Lib.hid (HBEL.out.alloc (by have := HSZ.out; omega) _)
      have HS0 : Hid ((wr.alloc (.cells #[.string ky, .int .i64 ay, .int .i64 ny] 142)).heap.size = z + 1) := Lib.hid (by simp; omega)
      have HZB : Hid (B + 1 ≤ z) := Lib.hid (by have := HSZ.out; omega)
      have e0 : (wr.alloc (.cells #[.string ky, .int .i64 ay, .int .i64 ny] 142)).cell? ⟨z, 0, none⟩ = some (.string ky) := cell_of_row _ _ _ _ _ _ HR0.out
      clear hG HBLD HBEL HSZ hseL
      go_wp2_with fail
      generalize wr.alloc (.cells #[.string ky, .int .i64 ay, .int .i64 ny] 142) = w3 at HR0 HB0 HW0 HS0 e0 ⊢
      refine (HPT.out _).mono ?_
      rintro e w4 ⟨rfl, hb4⟩
      have HB4 := Lib.hid (HB0.out.kept hb4)
      have HW4 := Lib.hid (below_seq HW0.out hb4 (by have := HS0.out; have := HZB.out; omega))
      have HR4 := Lib.hid ((hb4.block z (by have := HS0.out; omega)).trans HR0.out)
      have HS4 : Hid (z + 1 ≤ w4.heap.size) := Lib.hid (by have := hb4.size; have := HS0.out; omega)
      clear hb4 HB0 HW0 HR0 HS0 e0 z0 z1 z2
      go_wp2_with fail
      refine (writeA_any B B G (BK.textB ky) w4 HB4.out (by have := HGL.out; have := HSEL.out; omega) (by have := HS4.out; have := HZB.out; omega)).mono ?_
      rintro e w5 ⟨rfl, hbl5, hb5, ha5⟩
      have HB5 := Lib.hid hbl5
      have HW5 := Lib.hid (HW4.out.trans hb5)
      have hr5 := ha5 z _ _ _ HR4.out (by decide) (by decide)
      have HS5 : Hid (z + 1 ≤ w5.heap.size) := Lib.hid (by have := hb5.size; have := HS4.out; omega)
      have e1 : w5.cell? ⟨z, 1, none⟩ = some (.int .i64 ay) := cell_of_row _ _ _ _ _ _ hr5
      have e2 : w5.cell? ⟨z, 2, none⟩ = some (.int .i64 ny) := cell_of_row _ _ _ _ _ _ hr5
      have HIT : Hid (IntsIn (w5.alloc (.cells #[.int .i64 ay, .int .i64 ny] 2)) (w5.alloc (.cells #[.int .i64 ay, .int .i64 ny] 2)).heap.size (some ⟨w5.heap.size, 0, none⟩) [(ay : Int), (ny : Int)]) := Lib.hid (ints_two w5 _ _ ⟨by omega, by omega⟩ ⟨by omega, by omega⟩ _ _ _ (heap_alloc_new w5 _) (by simp) rfl)
      have HB6 : Hid (Bld B B (G ++ BK.textB ky) (w5.alloc (.cells #[.int .i64 ay, .int .i64 ny] 2))) := Lib.hid (HB5.out.kept ((Below.refl _ _).alloc (Nat.le_refl _) _))
      have HW6 : Hid (Below B w (w5.alloc (.cells #[.int .i64 ay, .int .i64 ny] 2))) := Lib.hid (HW5.out.alloc (by have := HS5.out; have := HZB.out; omega) _)
      have HS6 : Hid (z + 1 ≤ (w5.alloc (.cells #[.int .i64 ay, .int .i64 ny] 2)).heap.size) := Lib.hid (by have := HS5.out; simp; omega)
      clear hbl5 hb5 ha5 hr5 HB4 HW4 HR4 HS4
      go_wp2_with fail
      generalize hw6 : w5.alloc (.cells #[.int .i64 ay, .int .i64 ny] 2) = w6 at HIT HB6 HW6 HS6 ⊢
      refine (putAll_any (some ⟨w5.heap.size, 0, none⟩) 2 2 [(ay : Int), (ny : Int)] w6 rfl HIT.out (by omega)).mono ?_
      rintro e w7 ⟨rfl, hb7⟩
      have HB7 := Lib.hid (HB6.out.kept hb7)
      have HW7 := Lib.hid (below_seq HW6.out hb7 (by have := HS6.out; have := HZB.out; omega))
      have HS7 : Hid (z + 1 ≤ w7.heap.size) := Lib.hid (by have := hb7.size; have := HS6.out; omega)
      clear hb7 HB6 HW6 HS6 HIT hw6 e1 e2
      go_wp2_with fail
      refine (writeA_any B B (G ++ BK.textB ky) (encAll [(ay : Int), (ny : Int)]) w7 HB7.out (by have := HGL.out; have := HSEL.out; rw [List.length_append]; omega) (by have := HS7.out; have := HZB.out; omega)).mono ?_
      rintro e w8 ⟨rfl, hbl8, hb8, -⟩
      rw [List.append_assoc, HSE.out] at hbl8
      have HB8 := Lib.hid hbl8
      have HW8 := Lib.hid (HW7.out.trans hb8)
      have HS8 : Hid (B + 1 ≤ w8.heap.size) := Lib.hid (by have := hb8.size; have := HS7.out; have := HZB.out; omega)
      clear hbl8 hb8 HB7 HW7 HS7
      go_wp2
      go_roundw
      case rel => exact ⟨j + 1, by omega, by go_num, by rw [HGN.out]; exact HB8.out, HW8.out, HS8.out⟩
      case measure => simp [intOf]; omega
    · obtain rfl : j = n := by omega
      rw [← HID.out] at hbld
      have HST := Lib.hid (bstring_any B B X wr hbld (by rw [HID.out]; intro h; have := HNL.out.1; rw [List.append_eq_nil_iff] at h; rw [h.1] at this; simp at this))
      have HBEL := Lib.hid hbel
      clear hbld hbel hsz
      go_wp2_with fail
      refine HST.out.mono ?_
      rintro e w9 ⟨rfl, hb9⟩
      go_wp2
      go_ret
      exact ⟨rfl, HBEL.out.trans hb9⟩
end Go.Proofs.YtjkofciohehgfaaGreatDoor.L11


/- slices.Compact of texts; the keys of entries, each once. -/
namespace Go.Proofs.YtjkofciohehgfaaGreatDoor.L11
open Go.RowKit
open SK
open TB (Bs Sp)

theorem dedF_snoc : ∀ (l : List ByteArray) (p : Option ByteArray) (x : ByteArray), TB.dedF p (l ++ [x]) = TB.dedF p l ++ (if (match l.getLast? with | some y => some y | none => p) = some x then [] else [x])
  | [], p, x => by
    by_cases h : p = some x <;> simp [TB.dedF, h]
  | y :: r, p, x => by
    have h1 := dedF_snoc r p x
    have h2 := dedF_snoc r (some y) x
    simp only [List.cons_append, TB.dedF]
    by_cases hp : p = some y
    · simp only [hp, if_true]
      rw [h2]
      congr 1
      cases r with
      | nil => simp
      | cons z t => simp [List.getLast?_cons]
    · simp only [hp, if_false, List.cons_append]
      rw [h2]
      congr 2
      cases r with
      | nil => simp
      | cons z t => simp [List.getLast?_cons]

theorem ded_take (L : List ByteArray) (i : Nat) (h : i < L.length) : TB.ded (L.take (i + 1)) = TB.ded (L.take i) ++ (if 0 < i ∧ L[i - 1]? = some L[i] then [] else [L[i]]) := by
  unfold TB.ded
  rw [List.take_succ_eq_append_getElem h, dedF_snoc]
  congr 1
  cases i with
  | zero => simp
  | succ j =>
    have hl : (L.take (j + 1)).getLast? = L[j]? := by
      rw [List.getLast?_take, if_neg (by omega)]
      simp only [Nat.add_sub_cancel]
      rw [List.getElem?_eq_getElem (by omega)]
      rfl
    rw [hl]
    simp only [Nat.add_sub_cancel, Nat.zero_lt_succ, true_and]
    rw [List.getElem?_eq_getElem (by omega)]

theorem strV_set (L : List ByteArray) (j : Nat) (a : ByteArray) : (L.map fun s => Value.string s).set j (.string a) = (L.set j a).map fun s => Value.string s := by rw [List.map_set]

def strV (L : List ByteArray) : List Value := L.map fun s => .string s
theorem strV_at (L : List ByteArray) (j : Nat) (h : j < L.length) : (strV L)[j]? = some (.string L[j]) := by simp [strV, h]

theorem tail_strs (W : World) (g n k : Nat) (hk : k < n) : (Instr.slice 39 (.slice (some ⟨g, 0, none⟩) n n) (some (.int .i64 (k : Int))) none none).run Tryz.prog W = .ok (.slice (some ⟨g, k, none⟩) (n - k) (n - k)) W := by
  have hs : ∀ w, (sizeOf (Tryz.prog.elem 39)).run Tryz.prog w = .ok 1 w := fun w => by kernel_rfl
  rw [run_slice_l W 39 (some ⟨g, 0, none⟩) n n (by kernel_rfl) .i64 (k : Int) (by omega) (by omega), hs]
  simp only [Result.andThen, sliced, Int.toNat_natCast]
  split
  · omega
  · simp [add_off]
theorem head_strs (W : World) (g n k : Nat) (hk : k ≤ n) : (Instr.slice 39 (.slice (some ⟨g, 0, none⟩) n n) none (some (.int .i64 (k : Int))) none).run Tryz.prog W = .ok (.slice (some ⟨g, 0, none⟩) k n) W := by
  have hs : ∀ w, (sizeOf (Tryz.prog.elem 39)).run Tryz.prog w = .ok 1 w := fun w => by kernel_rfl
  rw [run_slice_h W 39 (some ⟨g, 0, none⟩) n n (by kernel_rfl) .i64 (k : Int) (by omega) (by omega), hs]
  simp only [Result.andThen, sliced, Int.toNat_natCast, Nat.sub_zero, Nat.zero_mul, add_zero', Option.map_id']
  split <;> rfl

theorem grown_setCells (b : Nat) : ∀ (vs : List Value) (o : Nat) (w : World), w.grownBy (w.setCells b o vs) (some b)
  | [], _, w => grown_refl w _
  | v :: vs, o, w => grown_trans (grownBy_setCell w ⟨b, o, none⟩ v) (grown_setCells b vs (o + 1) _)

/-- what Compact comes to -/
def CompOut (g n : Nat) (L : List ByteArray) (w : World) (e : Ending) (w' : World) : Prop :=
  e = .returned (.slice (some ⟨g, 0, none⟩) (TB.ded L).length n) ∧ (∀ j, (h : j < (TB.ded L).length) → w'.cell? ⟨g, j, none⟩ = some (.string (TB.ded L)[j])) ∧ w.grownBy w' (some g)

set_option maxRecDepth 100000 in
set_option maxHeartbeats 4000000 in
theorem compact_any (g n : Nat) (L : List ByteArray) (w : World) (hn : L.length = n) (hrow : B9.Lies w g 9 (strV L)) (hb : n ≤ 65536) :
    Calls Tryz.prog 122 #[.slice (some ⟨g, 0, none⟩) n n] w fun e w' => CompOut g n L w e w' := by
  have HN := Lib.hid hn
  have HROW := Lib.hid hrow
  by_cases h2 : n < 2
  · have hd : TB.ded L = L := by
      cases L with
      | nil => rfl
      | cons a r =>
        cases r with
        | nil => rfl
        | cons b t => simp at hn; omega
    have HC : Hid (∀ j, (h : j < L.length) → w.cell? ⟨g, j, none⟩ = some (.string L[j])) := Lib.hid fun j h => hrow.cell (strV_at L j h)
    unfold CompOut
    subst hn
    simp only [hd]
    have d1 : decide ((L.length : Int) < 2) = true := decide_eq_true (by omega)
    clear hrow
    go_enter Tryz.func122, Tryz.ntmps122
    go_wp2
    go_ret
    exact ⟨rfl, HC.out, grown_refl _ _⟩
  · have d1 : decide ((n : Int) < 2) = false := decide_eq_false (by omega)
    have h2' := Lib.hid h2
    clear hrow hn h2
    go_enter Tryz.func122, Tryz.ntmps122
    go_wp2_with fail
    go_loopw [3] (fun i wr => ∃ k : Nat, 1 ≤ k ∧ k ≤ n ∧ i = .int .i64 k ∧ TB.ded (L.take k) = L.take k ∧ B9.Lies wr g 9 (strV L) ∧ w.grownBy wr (some g)) (fun i _ => n - (intOf i).toNat)
    case atStart => exact ⟨1, by omega, by have := h2'.out; omega, rfl, by
      have hl0 : 0 < L.length := by rw [HN.out]; have := h2'.out; omega
      rw [ded_take L 0 hl0]
      simp [TB.ded, TB.dedF, List.take_succ_eq_append_getElem hl0], HROW.out, grown_refl _ _⟩
    case round =>
      obtain ⟨k, hk1, hk, rfl, hded, hrow, hg⟩ := hrel
      by_cases hlt : k < n
      · have hkl : k < L.length := by rw [HN.out]; exact hlt
        obtain ⟨m, hm⟩ : ∃ m, k = m + 1 := ⟨k - 1, by omega⟩
        have hml : m < L.length := by omega
        have za := hrow.cell (strV_at L k hkl)
        have zb := hrow.cell (strV_at L m hml)
        have HDT := Lib.hid (ded_take L k hkl)
        have hkm1 : L[k - 1]? = some L[m] := by rw [show k - 1 = m by omega]; exact List.getElem?_eq_getElem hml
        rw [hkm1] at HDT
        have HTK := Lib.hid (List.take_succ_eq_append_getElem hkl)
        obtain ⟨a, ha⟩ : ∃ a, L[k] = a := ⟨_, rfl⟩
        obtain ⟨b, hbb⟩ : ∃ b, L[m] = b := ⟨_, rfl⟩
        rw [ha] at za HDT HTK
        rw [hbb] at zb HDT
        have hwr : IntKind.i64.wrap ((k : Int) - 1) = (m : Int) := by rw [IntWalk.i64_in _ ⟨by omega, by omega⟩]; omega
        have g0 : (0 : Int) ≤ (k : Int) := by omega
        have g1 : (k : Int) < (n : Int) := by omega
        have g2 : (0 : Int) ≤ (m : Int) := by omega
        have g3 : (m : Int) < (n : Int) := by omega
        have HDED := Lib.hid hded
        have HROWK := Lib.hid hrow
        have HG := Lib.hid hg
        have HM := Lib.hid hm
        clear hded hrow hg hm ha hbb hkm1
        by_cases hab : a = b
        · subst hab
          have dk : (a.toList == a.toList) = true := by simp
          have HDK : Hid (TB.ded (L.take (k + 1)) = L.take k) := Lib.hid (by rw [HDT.out, if_pos ⟨by omega, rfl⟩, List.append_nil, HDED.out])
          go_wp2_with fail
          go_quiet (fail)
          generalize hq : World.drewN wr _ = w1
          have HROW1 : Hid (B9.Lies w1 g 9 (strV L)) := Lib.hid (by rw [← hq]; exact HROWK.out)
          have HG1 : Hid (w.grownBy w1 (some g)) := Lib.hid (by rw [← hq]; exact grown_drewN HG.out _)
          have hst := fun W => tail_strs W g n k hlt
          clear hq za zb
          go_wp2_with fail
          go_loopw [3, 5] (fun i q wr => ∃ (M : List ByteArray) (k1 q1 : Nat), i = .int .i64 k1 ∧ q = .int .i64 q1 ∧ 1 ≤ q1 ∧ q1 ≤ n - k ∧ M.length = n ∧ k1 = (TB.ded (L.take (k + q1))).length ∧ M.take k1 = TB.ded (L.take (k + q1)) ∧ (∀ i, k + q1 - 1 ≤ i → M[i]? = L[i]?) ∧ k1 ≤ k + q1 - 1 ∧ B9.Lies wr g 9 (strV M) ∧ w.grownBy wr (some g)) (fun _ q _ => n - (intOf q).toNat)
          case atStart => exact ⟨L, k, 1, rfl, rfl, by omega, by omega, HN.out, by rw [HDK.out, List.length_take]; omega, by rw [HDK.out], fun i _ => rfl, by omega, HROW1.out, HG1.out⟩
          case round =>
            obtain ⟨M, k1, q1, rfl, rfl, hq1, hq2, hMl, hk1, hMt, hMr, hkq, hrow, hg⟩ := hrel
            by_cases hql : q1 < n - k
            · have hkq1 : k + q1 < n := by omega
              have hkqL : k + q1 < L.length := by rw [HN.out]; exact hkq1
              have hkqM : k + q1 < M.length := by rw [hMl]; exact hkq1
              obtain ⟨m1, hm1⟩ : ∃ m1, q1 = m1 + 1 := ⟨q1 - 1, by omega⟩
              have hmL : k + m1 < L.length := by omega
              have hmM : k + m1 < M.length := by omega
              have za := hrow.cell (strV_at M (k + q1) hkqM)
              have zb := hrow.cell (strV_at M (k + m1) hmM)
              have ea : M[k + q1] = L[k + q1] := by
                have := hMr (k + q1) (by omega)
                rw [List.getElem?_eq_getElem hkqM, List.getElem?_eq_getElem hkqL] at this
                exact Option.some.inj this
              have eb : M[k + m1] = L[k + m1] := by
                have := hMr (k + m1) (by omega)
                rw [List.getElem?_eq_getElem hmM, List.getElem?_eq_getElem hmL] at this
                exact Option.some.inj this
              rw [ea] at za
              rw [eb] at zb
              have HDQ := Lib.hid (ded_take L (k + q1) hkqL)
              have hpm : L[k + q1 - 1]? = some L[k + m1] := by rw [show k + q1 - 1 = k + m1 by omega]; exact List.getElem?_eq_getElem hmL
              rw [hpm] at HDQ
              obtain ⟨x, hx⟩ : ∃ x, L[k + q1] = x := ⟨_, rfl⟩
              obtain ⟨y, hy⟩ : ∃ y, L[k + m1] = y := ⟨_, rfl⟩
              rw [hx] at za HDQ
              rw [hy] at zb HDQ
              have hw1 : IntKind.i64.wrap ((q1 : Int) - 1) = (m1 : Int) := by rw [IntWalk.i64_in _ ⟨by omega, by omega⟩]; omega
              have u0 : (0 : Int) ≤ (q1 : Int) := by omega
              have u1 : (q1 : Int) < ((n - k : Nat) : Int) := by omega
              have u2 : (0 : Int) ≤ (m1 : Int) := by omega
              have u3 : (m1 : Int) < ((n - k : Nat) : Int) := by omega
              obtain ⟨nk, hnk⟩ : ∃ nk, n - k = nk := ⟨_, rfl⟩
              rw [hnk] at u1 u3 hq2 ⊢
              have HNK := Lib.hid hnk
              have HROWM := Lib.hid hrow
              have HGM := Lib.hid hg
              have HMR := Lib.hid hMr
              have HMT := Lib.hid hMt
              have HMLL := Lib.hid hMl
              have HK1 := Lib.hid hk1
              have HM1 := Lib.hid hm1
              have hk1n : k1 < n := by omega
              clear hrow hg hMr hMt hMl hk1 ea eb hx hy hpm hnk hm1
              by_cases hxy : x = y
              · subst hxy
                have dk : (x.toList == x.toList) = true := by simp
                have dk' : (x.toList != x.toList) = false := by simp
                have HDR : Hid (TB.ded (L.take (k + (q1 + 1))) = TB.ded (L.take (k + q1))) := Lib.hid (by rw [← Nat.add_assoc, HDQ.out, if_pos ⟨by omega, rfl⟩, List.append_nil])
                go_wp2_with fail
                go_quiet (fail)
                go_wp2
                go_roundw
                case rel => exact ⟨M, k1, q1 + 1, rfl, by go_num, by omega, by have := HNK.out; omega, HMLL.out, by rw [HDR.out]; exact HK1.out, by rw [HDR.out]; exact HMT.out, fun i hi => HMR.out i (by omega), by omega, HROWM.out, grown_drewN HGM.out _⟩
                case measure => simp [intOf]; omega
              · have dk : (x.toList == y.toList) = false := by rw [text_eq]; exact decide_eq_false hxy
                have dk' : (x.toList != y.toList) = true := by simp only [bne, dk]; rfl
                have HDR : Hid (TB.ded (L.take (k + (q1 + 1))) = TB.ded (L.take (k + q1)) ++ [x]) := Lib.hid (by rw [← Nat.add_assoc, HDQ.out, if_neg (fun h => hxy (Option.some.inj h.2).symm)])
                have f1 : wr.frozen? ⟨g, k1, none⟩ = false := HROWM.out.frozen k1
                have ck : wr.cell? ⟨g, k1, none⟩ = some (.string (M[k1]'(by have := HMLL.out; omega))) := HROWM.out.cell (strV_at M k1 (by have := HMLL.out; omega))
                have v0 : (0 : Int) ≤ (k1 : Int) := by omega
                have v1 : (k1 : Int) < (n : Int) := by omega
                have HSET : Hid (∀ nq, B9.Lies ((wr.drewN nq).setCell ⟨g, k1, none⟩ (.string x)) g 9 (strV (M.set k1 x))) := Lib.hid fun nq => by
                  have := (B9.Lies.drewN HROWM.out nq).set k1 (.string x)
                  unfold strV at this ⊢
                  rw [strV_set] at this
                  exact this
                have HTK2 : Hid ((M.set k1 x).take (k1 + 1) = TB.ded (L.take (k + q1)) ++ [x]) := Lib.hid (by
                  have hl : k1 < (M.set k1 x).length := by rw [List.length_set]; have := HMLL.out; omega
                  rw [List.take_succ_eq_append_getElem hl, List.getElem_set_self, List.take_set_of_le (Nat.le_refl _), HMT.out])
                go_wp2_with fail
                go_quiet (fail)
                go_wp2
                go_roundw
                case rel => exact ⟨M.set k1 x, k1 + 1, q1 + 1, by go_num, by go_num, by omega, by have := HNK.out; omega, by rw [List.length_set]; exact HMLL.out, by rw [HDR.out, List.length_append]; have := HK1.out; simp; omega, by rw [HDR.out]; exact HTK2.out, fun i hi => by rw [List.getElem?_set_ne (by omega)]; exact HMR.out i (by omega), by omega, HSET.out _, grown_set (grown_drewN HGM.out _) _ _⟩
                case measure => simp [intOf]; omega
            · have hqe : k + q1 = n := by omega
              have hkn : k1 < n := by omega
              rw [hqe, List.take_of_length_le (l := L) (i := n) (by rw [HN.out]; exact Nat.le_refl _)] at hk1 hMt
              have hst := fun W => tail_strs W g n k1 hkn
              have hsh := fun W => head_strs W g n k1 (by omega)
              have hclr : ∀ ty, (Builtin.clear_ #[39] ty #[.slice (some ⟨g, k1, none⟩) (n - k1) (n - k1)]).run Tryz.prog wr = .ok (.tuple #[]) (wr.setCells g k1 (List.replicate (n - k1) (.string ⟨#[]⟩))) := fun ty =>
                Lib.run_clear_slice wr 39 9 ty (.string ⟨#[]⟩) Tryz.underlying39 (fun W => by kernel_rfl) rfl rfl g k1 (n - k1) (n - k1) (by omega)
                  (fun j hj => by rw [hrow.cell (strV_at M (k1 + j) (by omega))]; rfl) (fun j _ => hrow.frozen _)
              have HRES : Hid (∀ j, (h : j < (TB.ded L).length) → (wr.setCells g k1 (List.replicate (n - k1) (.string ⟨#[]⟩))).cell? ⟨g, j, none⟩ = some (.string (TB.ded L)[j])) := Lib.hid fun j hj => by
                rw [World.cell?_setCells_out _ _ _ _ _ (fun _ _ => Or.inl (by show j < k1; omega)), hrow.cell (strV_at M j (by omega))]
                congr 2
                have h1 : (M.take k1)[j]? = (TB.ded L)[j]? := by rw [hMt]
                rw [List.getElem?_take_of_lt (by omega), List.getElem?_eq_getElem (by omega), List.getElem?_eq_getElem hj] at h1
                exact Option.some.inj h1
              have HG2 : Hid (w.grownBy (wr.setCells g k1 (List.replicate (n - k1) (.string ⟨#[]⟩))) (some g)) := Lib.hid (grown_trans hg (grown_setCells _ _ _ _))
              have HK1 := Lib.hid hk1
              clear hrow hg hMr hMt hMl hk1 hqe
              go_wp2
              go_ret
              exact ⟨by rw [← HK1.out]; rfl, HRES.out, HG2.out⟩
        · have dk : (a.toList == b.toList) = false := by rw [text_eq]; exact decide_eq_false hab
          have HDK : Hid (TB.ded (L.take (k + 1)) = L.take (k + 1)) := Lib.hid (by rw [HDT.out, if_neg (fun h => hab (Option.some.inj h.2).symm), HDED.out, HTK.out])
          go_wp2_with fail
          go_quiet (fail)
          go_wp2
          go_roundw
          case rel => exact ⟨k + 1, by omega, by omega, by go_num, HDK.out, HROWK.out, grown_drewN HG.out _⟩
          case measure => simp [intOf]; omega
      · have hkn : k = n := by omega
        rw [hkn, List.take_of_length_le (l := L) (i := n) (by rw [HN.out]; exact Nat.le_refl _)] at hded
        have HC : Hid (∀ j, (h : j < L.length) → wr.cell? ⟨g, j, none⟩ = some (.string L[j])) := Lib.hid fun j h => hrow.cell (strV_at L j h)
        have HG := Lib.hid hg
        have HD := Lib.hid hded
        clear hrow hg hded
        go_wp2
        go_ret
        unfold CompOut
        simp only [HD.out]
        exact ⟨by rw [HN.out]; rfl, HC.out, HG.out⟩
end Go.Proofs.YtjkofciohehgfaaGreatDoor.L11


/- A block's bytes fit into a frame; the keys of entries, each once. -/
namespace Go.Proofs.YtjkofciohehgfaaGreatDoor.L11
open Go.RowKit
open SK
open TB (Bs Sp)

theorem enc_two (n : Nat) (h : n ≤ 8191) : (VM.enc (n : Int)).length ≤ 2 := by
  unfold VM.enc
  have hz : Go.Lib.zigzag (n : Int) = 2 * n := by unfold Go.Lib.zigzag; rw [if_pos (by omega)]; omega
  rw [hz]
  by_cases hs : 2 * n < 128
  · rw [Go.Lib.uvarint_small hs]; simp
  · rw [Go.Lib.uvarint_big (by omega), Go.Lib.uvarint_small (by omega)]; simp

theorem textB_two (s : ByteArray) (h : s.size ≤ 8191) : (BK.textB s).length ≤ 2 + s.size := by
  have := enc_two s.size h
  unfold BK.textB
  rw [List.length_append, size_list]
  omega

theorem entB_len2 {e : E} {n : Nat} (hg : good e = 0) (hn : n ≤ e.key.size) (hw : e.wf) (ht : e.til ≠ 9223372036854775807) : (BK.entB e n).length ≤ 26 + (e.key.size + e.value.size) := by
  obtain ⟨h1, h2, h3, h4, h5⟩ := good_zero hg
  have hq := hw.seq
  have htl := hw.til
  have l1 := enc_two n (by omega)
  have l2 := textB_two (e.key.extract n e.key.size) (by rw [BK.tail_size]; omega)
  have l3 := (VM.enc_len (n := e.seq) (by omega) (by omega)).2
  rw [BK.tail_size] at l2
  unfold BK.entB
  rw [List.length_append, List.length_append, List.length_append]
  split
  · have := enc_two 0 (by omega)
    simp only [Int.natCast_zero] at this
    omega
  · have l4 := (VM.enc_len (n := e.til + 1) (by omega) (by omega)).2
    have l5 := textB_two e.value (by omega)
    rw [List.length_append]
    omega

theorem bodyF_len2 (v : Nat) : ∀ (a r : List E), Fine r → (BK.bodyF v a r).length ≤ r.length * 26 + TB.wt r
  | _, [], _ => by simp [BK.bodyF]
  | a, e :: r, h => by
    obtain ⟨h2, h1, h3⟩ := h e (List.mem_cons_self ..)
    have l1 := entB_len2 h1 (BK.sh_le v a e).2.1 h2 h3
    have l2 := bodyF_len2 v (a ++ [e]) r fun x hx => h x (List.mem_cons_of_mem _ hx)
    simp only [BK.bodyF, List.length_append, List.length_cons, TB.wt, List.map_cons, List.sum_cons] at *
    omega

theorem Fine.take {l : List E} (h : Fine l) (n : Nat) : Fine (l.take n) := fun e he => h e (List.mem_of_mem_take he)
theorem Fine.drop {l : List E} (h : Fine l) (n : Nat) : Fine (l.drop n) := fun e he => h e (List.mem_of_mem_drop he)

theorem block_fits {S : Nat} {l : List E} (hS : 1 ≤ S) (hS2 : S ≤ 4096) (hne : l ≠ []) (h : Fine l) : (BK.buildB (l.take (TB.taken S l)) 16).length ≤ 65535 := by
  obtain ⟨b1, b2, b3⟩ := TB.taken_bounds hS hne
  obtain ⟨m, hm⟩ : ∃ m, TB.taken S l = m + 1 := ⟨TB.taken S l - 1, by omega⟩
  have hheld := TB.tk_held S l 0 0 m (by unfold TB.taken at hm; omega)
  have hml : m < l.length := by omega
  have hw := TB.wt_take hml
  obtain ⟨g1, g2, g3, -⟩ := good_zero (h _ (List.getElem_mem hml)).2.1
  have hbl := bodyF_len2 16 [] (l.take (TB.taken S l)) (h.take _)
  have hel := (VM.enc_len (n := ((l.take (TB.taken S l)).length : Int)) (by omega) (by rw [List.length_take]; omega)).2
  have hll : (l.take (TB.taken S l)).length = TB.taken S l := by rw [List.length_take]; omega
  rw [hm] at hbl hel hll ⊢
  unfold BK.buildB
  rw [List.length_append]
  rw [hll] at hbl hel ⊢
  omega

/-! ### entries in order, parted -/

theorem okF_last : ∀ (a b r : List E), a.getLast? = b.getLast? → BK.OkF a r → BK.OkF b r
  | _, _, [], _, _ => trivial
  | a, b, e :: r, hl, h => by
    refine ⟨?_, okF_last (a ++ [e]) (b ++ [e]) r (by simp) h.2⟩
    have := h.1
    unfold BK.nb at this ⊢
    rw [← hl]
    exact this
theorem okF_nil : ∀ (a r : List E), BK.OkF a r → BK.OkF [] r
  | _, [], _ => trivial
  | a, e :: r, h => by
    obtain ⟨h1, h2, -⟩ := BK.nb_zero h.1
    refine ⟨by unfold BK.nb; simp [h1, h2], okF_last (a ++ [e]) ([] ++ [e]) r (by simp) h.2⟩
theorem okF_take : ∀ (n : Nat) (a r : List E), BK.OkF a r → BK.OkF a (r.take n)
  | 0, _, _, _ => by simp [BK.OkF]
  | n + 1, _, [], _ => trivial
  | n + 1, a, e :: r, h => ⟨h.1, okF_take n _ r h.2⟩
theorem okF_drop : ∀ (n : Nat) (a r : List E), BK.OkF a r → BK.OkF [] (r.drop n)
  | 0, a, r, h => by simpa using okF_nil a r h
  | n + 1, _, [], _ => trivial
  | n + 1, a, e :: r, h => okF_drop n _ r h.2

/-! ### keys -/

theorem info_strs : (Tryz.prog.info? 9).map (fun i => (i.zero, i.size, i.bytes)) = some (some (.string ⟨#[]⟩), 1, 16) := by kernel_rfl
theorem make_strs (w : World) (n : Nat) (h : n * 16 ≤ 281474976710656) : (Instr.makeSlice 39 (.int .i64 (n : Int)) (.int .i64 (n : Int))).run Tryz.prog w = .ok (.slice (some ⟨w.heap.size, 0, none⟩) n n) (w.alloc (.cells (strV (List.replicate n ⟨#[]⟩)).toArray 9)) := by
  obtain ⟨i0, hi, hz0, hz1, hz2⟩ := info_parts info_strs
  have h := run_make (P := Tryz.prog) w 39 9 i0 (.string ⟨#[]⟩) Tryz.underlying39 hi hz0 .i64 .i64 (n : Int) (n : Int) (by omega) (Int.le_refl _) (by rw [hz2]; omega) (by omega)
  rw [Int.toNat_natCast] at h
  have e : madeCells #[Value.string ⟨#[]⟩] n = (strV (List.replicate n ⟨#[]⟩)).toArray := by
    apply Array.toList_inj.1
    rw [toList_madeCells_one]
    simp [strV]
  rw [← e]
  simpa [hz1, Value.cells] using h

def keyRow (l : List E) (j : Nat) : List ByteArray := (l.take j).map E.key ++ List.replicate (l.length - j) ⟨#[]⟩
theorem keyRow_set (l : List E) (j : Nat) (h : j < l.length) : (keyRow l j).set j l[j].key = keyRow l (j + 1) := by
  unfold keyRow
  rw [List.take_succ_eq_append_getElem h, List.map_append, List.append_assoc, List.set_append_right _ _ (by simp; omega)]
  congr 1
  obtain ⟨m, hm⟩ : ∃ m, l.length - j = m + 1 := ⟨l.length - j - 1, by omega⟩
  rw [hm, List.replicate_succ, show l.length - (j + 1) = m by omega]
  have : j - ((l.take j).map E.key).length = 0 := by simp; omega
  rw [this]
  rfl

set_option maxRecDepth 100000 in
set_option maxHeartbeats 2000000 in
theorem keysOf_any (A : Option Addr) (n cap : Nat) (l : List E) (w : World) (hn : l.length = n) (hin : EntsIn w A l) (hb : n ≤ 65536) :
    Calls Tryz.prog 96 #[.slice A n cap] w fun e w' => ∃ A2 c2, e = .returned (.slice A2 (TB.keys l).length c2) ∧ B9.StrsIn w' w'.heap.size A2 (TB.keys l) ∧ Below w.heap.size w w' := by
  have hmk := fun W => make_strs W n (by omega)
  obtain ⟨B, hBB⟩ : ∃ B, w.heap.size = B := ⟨_, rfl⟩
  have HR0 : Hid (B9.Lies (w.alloc (.cells (strV (List.replicate n ⟨#[]⟩)).toArray 9)) B 9 (strV (keyRow l 0))) := Lib.hid (by
    rw [← hBB]
    unfold keyRow
    simp only [List.take_zero, List.map_nil, List.nil_append, Nat.sub_zero, hn]
    exact B9.Lies.new w _ _)
  have HW0 : Hid (Below B w (w.alloc (.cells (strV (List.replicate n ⟨#[]⟩)).toArray 9))) := Lib.hid ((Below.refl _ _).alloc (by omega) _)
  have HS0 : Hid ((w.alloc (.cells (strV (List.replicate n ⟨#[]⟩)).toArray 9)).heap.size = B + 1) := Lib.hid (by simp; omega)
  have HIN := Lib.hid hin
  have HN := Lib.hid hn
  simp only [hBB]
  clear hin hn
  go_enter Tryz.func96, Tryz.ntmps96
  go_wp2_with fail
  generalize w.alloc (.cells (strV (List.replicate n ⟨#[]⟩)).toArray 9) = w0 at HR0 HW0 HS0 ⊢
  go_loopw [11] (fun i wr => ∃ j : Nat, j ≤ n ∧ i = .int .i64 j ∧ B9.Lies wr B 9 (strV (keyRow l j)) ∧ Below B w wr ∧ B + 1 ≤ wr.heap.size) (fun i _ => n - (intOf i).toNat)
  case atStart => exact ⟨0, by omega, rfl, HR0.out, HW0.out, by have := HS0.out; omega⟩
  case round =>
    obtain ⟨j, hj, rfl, hrow, hbel, hsz⟩ := hrel
    by_cases hlt : j < n
    · have hjl : j < l.length := by rw [HN.out]; exact hlt
      obtain ⟨bb, off, hA, hbl, hc⟩ := (HIN.out.below (by rw [hBB]; exact hbel)).at_ (by omega)
      obtain ⟨z0, z1, z2, z3, z4⟩ := hc j hjl
      have HKS := Lib.hid (keyRow_set l j hjl)
      have HKL : Hid (j < (keyRow l j).length) := Lib.hid (by unfold keyRow; simp; omega)
      obtain ⟨y, hy⟩ : ∃ y, l[j] = y := ⟨_, rfl⟩
      rw [hy] at z0 z1 z2 z3 z4 HKS
      subst hA
      obtain ⟨k2, r2, g2, v2, t2⟩ := y
      simp only at z0 z1 z2 z3 z4 HKS
      have HROW : Hid (B9.Lies (wr.alloc (.cells #[.string k2, .int .i64 r2, .bool g2, .string v2, .int .i64 t2] 45)) B 9 (strV (keyRow l j))) := Lib.hid (hrow.all ((Below.refl _ _).alloc (Nat.le_refl _) _))
      have ck := HROW.out.cell (strV_at _ j HKL.out)
      have fk := HROW.out.frozen j
      have HSET : Hid (B9.Lies ((wr.alloc (.cells #[.string k2, .int .i64 r2, .bool g2, .string v2, .int .i64 t2] 45)).setCell ⟨B, j, none⟩ (.string k2)) B 9 (strV (keyRow l (j + 1)))) := Lib.hid (by
        have := HROW.out.set j (.string k2)
        unfold strV at this ⊢
        rw [strV_set, HKS.out] at this
        exact this)
      have HB2 : Hid (Below B w ((wr.alloc (.cells #[.string k2, .int .i64 r2, .bool g2, .string v2, .int .i64 t2] 45)).setCell ⟨B, j, none⟩ (.string k2))) := Lib.hid ((hbel.alloc (by omega) _).setCell (p := ⟨B, j, none⟩) (Nat.le_refl _) _)
      have g0 : (0 : Int) ≤ (j : Int) := by omega
      have g1 : (j : Int) < (n : Int) := by omega
      have HSZ := Lib.hid hsz
      clear hrow hbel hsz hc hbl hy
      go_wp2
      go_roundw
      case rel => exact ⟨j + 1, by omega, by go_num, HSET.out, HB2.out, by rw [setCell_size]; have := HSZ.out; simp; omega⟩
      case measure => simp [intOf]; omega
    · have hjn : j = n := by omega
      have hkr : keyRow l j = l.map E.key := by unfold keyRow; rw [hjn, HN.out, List.take_of_length_le (by rw [HN.out]; exact Nat.le_refl _)]; simp
      rw [hkr] at hrow
      have HC := Lib.hid (compact_any B n (l.map E.key) wr (by rw [List.length_map]; exact HN.out) hrow hb)
      have HBEL := Lib.hid hbel
      have HSZ := Lib.hid hsz
      clear hrow hbel hsz hkr
      go_wp2_with fail
      refine HC.out.mono ?_
      rintro e w2 ⟨rfl, hcl, hg⟩
      have HBR : Hid (Below B w w2) := Lib.hid (below_via HBEL.out hg (by have := HSZ.out; omega) (Nat.le_refl _))
      have HST : Hid (B9.StrsIn w2 w2.heap.size (some ⟨B, 0, none⟩) (TB.keys l)) := Lib.hid fun _ => ⟨B, 0, rfl, by have := hg.size; have := HSZ.out; omega, fun j hj => by rw [Nat.zero_add]; exact hcl j hj⟩
      clear hcl hg HC
      go_wp2
      go_ret
      exact ⟨some ⟨B, 0, none⟩, n, rfl, HST.out, HBR.out⟩
end Go.Proofs.YtjkofciohehgfaaGreatDoor.L11


/- bytesOf: a table's frames. -/
namespace Go.Proofs.YtjkofciohehgfaaGreatDoor.L11
open Go.RowKit
open SK
open TB (Bs Sp)
attribute [local go_sem ↓] Go.wp_at_zero Go.wp_at_succ

theorem ents_drop {W : World} {b off k : Nat} {l : List E} (h : EntsIn W (some ⟨b, off, none⟩) l) : EntsIn W (some ⟨b, off + k * 5, none⟩) (l.drop k) :=
  ⟨fun e he => h.wf e (List.mem_of_mem_drop he), fun hn => by
    rw [List.length_drop] at hn
    obtain ⟨b', off', hA, hlt, hc⟩ := h.at_ (by omega)
    simp only [Option.some.injEq, Addr.mk.injEq] at hA
    obtain ⟨rfl, rfl, -⟩ := hA
    refine ⟨b, off + k * 5, rfl, hlt, fun j hj => ?_⟩
    rw [List.length_drop] at hj
    rw [List.getElem_drop]
    have := hc (k + j) (by omega)
    rw [show off + (k + j) * 5 = off + k * 5 + j * 5 by omega] at this
    exact this⟩

theorem tail_ents (b off n cap t : Nat) (h1 : t ≤ n) (h2 : n ≤ cap) : ∃ A', (∀ W, (Instr.slice 33 (.slice (some ⟨b, off, none⟩) n cap) (some (.int .i64 (t : Int))) none none).run Tryz.prog W = .ok (.slice A' (n - t) (cap - t)) W) ∧ (t < n → A' = some ⟨b, off + t * 5, none⟩) := by
  have hs : ∀ w, (sizeOf (Tryz.prog.elem 33)).run Tryz.prog w = .ok 5 w := fun w => by kernel_rfl
  by_cases hc : t < cap
  · refine ⟨some ⟨b, off + t * 5, none⟩, fun W => ?_, fun _ => rfl⟩
    rw [run_slice_l W 33 (some ⟨b, off, none⟩) n cap (by kernel_rfl) .i64 (t : Int) (by omega) (by omega), hs]
    simp only [Result.andThen, sliced, Int.toNat_natCast]
    split
    · omega
    · simp [add_off]
  · refine ⟨some ⟨b, off, none⟩, fun W => ?_, fun h => by omega⟩
    rw [run_slice_l W 33 (some ⟨b, off, none⟩) n cap (by kernel_rfl) .i64 (t : Int) (by omega) (by omega), hs]
    simp only [Result.andThen, sliced, Int.toNat_natCast]
    split
    · rfl
    · omega

def sliceLen : Value → Nat
  | .slice _ n _ => n
  | _ => 0

theorem build_ok {b : List E} (h1 : b.length ≤ 4096) (h : BK.OkF [] b) : BK.buildOut b 16 = (BK.buildB b 16, 0) := by
  unfold BK.buildOut
  rw [if_neg (by omega), if_neg (by omega), if_neg (by unfold BK.ord; rw [BK.ordF_ok _ _ h]; simp)]
  rfl

theorem dedF_len : ∀ (l : List ByteArray) (p : Option ByteArray), (TB.dedF p l).length ≤ l.length
  | [], _ => by simp [TB.dedF]
  | k :: r, p => by
    have h1 := dedF_len r p
    have h2 := dedF_len r (some k)
    unfold TB.dedF
    split
    · simp; omega
    · simp; omega
theorem dedF_mem : ∀ (l : List ByteArray) (p : Option ByteArray) (x : ByteArray), x ∈ TB.dedF p l → x ∈ l
  | [], _, _, h => by simp [TB.dedF] at h
  | k :: r, p, x, h => by
    unfold TB.dedF at h
    split at h
    · exact List.mem_cons_of_mem _ (dedF_mem r p x h)
    · rcases List.mem_cons.1 h with rfl | h
      · exact List.mem_cons_self ..
      · exact List.mem_cons_of_mem _ (dedF_mem r _ x h)

/-- what making a table comes to -/
def BytesOr (w : World) (S b : Nat) (l : List E) (e : Ending) (w' : World) : Prop :=
  Below w.heap.size w w' ∧ if 65535 < (TB.ixOf S l).length ∨ 65535 < (TB.flOf b l).length then e = .panicked (tfault 5) else e = .returned (.string ⟨(TB.bytes S b l).toArray⟩)

set_option maxRecDepth 100000 in
set_option maxHeartbeats 8000000 in
theorem tbytes_any (A : Option Addr) (n cap S b : Nat) (l : List E) (w : World) (hn : l.length = n) (hcap : n ≤ cap) (hin : EntsIn w A l) (hf : Fine l) (hok : BK.OkF [] l) (hb : n ≤ 65536) (hS : 1 ≤ S) (hS2 : S ≤ 4096) (hb1 : 1 ≤ b) (hb2 : b ≤ 16) :
    Calls Tryz.prog 47 #[.slice A n cap, .int .i64 S, .int .i64 b] w fun e w' => BytesOr w S b l e w' := by
  obtain ⟨i0, hi, hz0, hz1, hz2⟩ := info_parts info_span
  have hmf : ∀ (fn : Fn) (first cap : Array Value) (w : World), (Instr.makeFunc fn first cap).run Tryz.prog w = .ok (.func fn first cap) w := fun _ _ _ _ => rfl
  obtain ⟨B, hBB⟩ : ∃ B, w.heap.size = B := ⟨_, rfl⟩
  have HB0 : Hid (Bld B B [] (w.alloc (.cells #[.pointer none, .slice none 0 0] 70))) := Lib.hid (by rw [← hBB]; exact bld_new w)
  have HW0 : Hid (Below B w (w.alloc (.cells #[.pointer none, .slice none 0 0] 70))) := Lib.hid ((Below.refl _ _).alloc (by omega) _)
  have HS0 : Hid ((w.alloc (.cells #[.pointer none, .slice none 0 0] 70)).heap.size = B + 1) := Lib.hid (by simp; omega)
  obtain ⟨b0, off0, hA0⟩ : ∃ b0 off0, 0 < n → A = some ⟨b0, off0, none⟩ := by
    by_cases h0 : 0 < n
    · obtain ⟨b0, off0, hA, -⟩ := hin.at_ (by omega)
      exact ⟨b0, off0, fun _ => hA⟩
    · exact ⟨0, 0, fun h => absurd h h0⟩
  have HPUT : Hid (∀ G p W, Bld B B G W → G.length + (8 + p.length) ≤ 100000000 → B ≤ W.heap.size → Calls Tryz.prog 89 #[.string ⟨p.toArray⟩, .int .i64 0, .pointer (some ⟨B, 0, none⟩)] W fun e w' => PutT B B G p W 0 e w') := Lib.hid fun G p W h1 h2 h3 => tput_any B B G p 0 W h1 h2 h3
  have HENT : Hid (∀ W k, Below B w W → k < n → EntsIn W (some ⟨b0, off0 + k * 5, none⟩) (l.drop k)) := Lib.hid fun W k hW hk => ents_drop (by rw [← hA0 (by omega)]; exact hin.below (by rw [hBB]; exact hW))
  have HN := Lib.hid hn
  have HFI := Lib.hid hf
  have HOK := Lib.hid hok
  have HIN := Lib.hid hin
  have HA0 := Lib.hid hA0
  unfold BytesOr
  simp only [hBB]
  clear hn hf hok hin hA0
  go_enter Tryz.func47, Tryz.ntmps47
  go_wp2_with fail
  generalize w.alloc (.cells #[.pointer none, .slice none 0 0] 70) = w0 at HB0 HW0 HS0 ⊢
  go_loopw [9, 10] (fun v lf wr => ∃ (k : Nat) (D : List (List E)) (A2 : Option Addr), k ≤ n ∧ lf = .slice A2 (n - k) (cap - k) ∧ (k < n → A2 = some ⟨b0, off0 + k * 5, none⟩) ∧ D ++ TB.cuts S (l.drop k) = TB.cuts S l ∧ D.length ≤ k ∧ (TB.body D).length ≤ k * 718 ∧
      wr.ownsRow (B + 1) 142 3 v D.length (scs (TB.sps 0 D)) ∧ Bld B B (TB.body D) wr ∧ Below B w wr ∧ B + 1 ≤ wr.heap.size ∧ ∀ y ∈ TB.sps 0 D, y.wf ∧ y.last.size ≤ 64) (fun _ lf _ => sliceLen lf)
  case atStart => exact ⟨0, [], A, by omega, rfl, fun h => by rw [HA0.out (by omega)]; simp, by simp, by simp, by simp [TB.body], World.ownsRow_nil _ _ _ _, HB0.out, HW0.out, by have := HS0.out; omega, by simp [TB.sps]⟩
  case round =>
    obtain ⟨k, D, A2, hk, rfl, hA2, hcut, hDl, hDb, hown, hbld, hbel, hsz, hwf⟩ := hrel
    obtain ⟨V, vc, rfl⟩ := B9.own_slice hown
    have HCUT := Lib.hid hcut
    have HDL := Lib.hid hDl
    have HDB := Lib.hid hDb
    have HOWN := Lib.hid hown
    have HBLD := Lib.hid hbld
    have HBEL := Lib.hid hbel
    have HSZ := Lib.hid hsz
    have HWF := Lib.hid hwf
    clear hcut hDl hDb hown hbld hbel hsz hwf
    by_cases hlt : k < n
    · obtain rfl := hA2 hlt
      have hLne : l.drop k ≠ [] := by intro h; have := congrArg List.length h; rw [List.length_drop, HN.out] at this; simp at this; omega
      have hLl : (l.drop k).length = n - k := by rw [List.length_drop, HN.out]
      obtain ⟨ht1, ht2, ht3⟩ := TB.taken_bounds hS hLne
      have HCS := Lib.hid (TB.cuts_step hS hLne)
      have HFT := Lib.hid (block_fits hS hS2 hLne (HFI.out.drop k))
      have HENK := Lib.hid (HENT.out wr k HBEL.out hlt)
      have HTK := Lib.hid (taken_any (some ⟨b0, off0 + k * 5, none⟩) (n - k) (cap - k) S (l.drop k) wr hLl HENK.out (HFI.out.drop k) hS hS2)
      obtain ⟨t, htt⟩ : ∃ t, TB.taken S (l.drop k) = t := ⟨_, rfl⟩
      rw [htt] at HCS HFT HTK ht1 ht2 ht3
      rw [hLl] at ht2
      have hBL : ((l.drop k).take t).length = t := by rw [List.length_take, hLl]; omega
      have HBO := Lib.hid (build_ok (b := (l.drop k).take t) (by omega) (okF_take t _ _ (okF_drop k _ _ HOK.out)))
      have HBLn := Lib.hid hBL
      clear hLne hLl htt hBL
      go_wp2_with fail
      refine HTK.out.mono ?_
      rintro e w1 ⟨rfl, hb1'⟩
      have HBLD1 := Lib.hid (HBLD.out.kept hb1')
      have HBEL1 := Lib.hid (below_seq HBEL.out hb1' (by have := HSZ.out; omega))
      have HOWN1 := Lib.hid (own_below HOWN.out hb1')
      have HSZ1 : Hid (B + 1 ≤ w1.heap.size) := Lib.hid (by have := hb1'.size; have := HSZ.out; omega)
      clear hb1' HBLD HBEL HOWN HSZ HTK HENK
      have HENK1 := Lib.hid (HENT.out w1 k HBEL1.out hlt)
      have hsl := fun W => slice_ents W (some ⟨b0, off0 + k * 5, none⟩) (n - k) (cap - k) t (by omega)
      have hbd := build_any (some ⟨b0, off0 + k * 5, none⟩) t (cap - k) ((l.drop k).take t) 16 w1 HBLn.out (by omega) (HENK1.out.take t) (by omega)
      rw [HBO.out] at hbd
      have HBD := Lib.hid hbd
      clear hbd
      obtain ⟨P, hP⟩ : ∃ P, BK.buildB ((l.drop k).take t) 16 = P := ⟨_, rfl⟩
      rw [hP] at HFT HBD
      have HP := Lib.hid hP
      clear hP
      obtain ⟨m, hm⟩ : ∃ m, t = m + 1 := ⟨t - 1, by omega⟩
      have hml : m < (l.drop k).length := by rw [List.length_drop, HN.out]; omega
      obtain ⟨y, hy⟩ : ∃ y, (l.drop k)[m]'hml = y := ⟨_, rfl⟩
      have HY := Lib.hid hy
      have hyg := good_zero (HFI.out y (by rw [← hy]; exact List.mem_of_mem_drop (List.getElem_mem hml))).2.1
      have HKEY : Hid (∀ W, Below B w W → W.cell? ⟨b0, off0 + k * 5 + m * 5, none⟩ = some (.string y.key)) := Lib.hid fun W hW => by
        obtain ⟨b', off', hA, -, hc⟩ := (HENT.out W k hW hlt).at_ (by omega)
        simp only [Option.some.injEq, Addr.mk.injEq] at hA
        obtain ⟨rfl, rfl, -⟩ := hA
        have := (hc m hml).1
        rw [hy] at this
        exact this
      have HLK : Hid (BK.lastKey ((l.drop k).take t) = y.key) := Lib.hid (by
        unfold BK.lastKey
        rw [hm, List.take_succ_eq_append_getElem hml, hy]
        simp)
      obtain ⟨ky, hky⟩ : ∃ ky, y.key = ky := ⟨_, rfl⟩
      rw [hky] at HKEY HLK hyg
      obtain ⟨-, hks, -⟩ := hyg
      have hPl := HFT.out
      have hBl : (TB.body D).length ≤ k * 718 := HDB.out
      have hwm : IntKind.i64.wrap ((t : Int) - 1) = (m : Int) := by rw [IntWalk.i64_in _ ⟨by omega, by omega⟩]; omega
      have g0 : (0 : Int) ≤ (m : Int) := by omega
      have g1 : (m : Int) < ((n - k : Nat) : Int) := by omega
      have HM := Lib.hid hm
      clear hy hky hm
      go_wp2_with fail
      refine HBD.out.mono ?_
      rintro e w2 ⟨rfl, hb2'⟩
      have HBLD2 := Lib.hid (HBLD1.out.kept hb2')
      have HBEL2 := Lib.hid (below_seq HBEL1.out hb2' (by have := HSZ1.out; omega))
      have HOWN2 := Lib.hid (own_below HOWN1.out hb2')
      have HSZ2 : Hid (B + 1 ≤ w2.heap.size) := Lib.hid (by have := hb2'.size; have := HSZ1.out; omega)
      clear hb2' HBLD1 HBEL1 HOWN1 HSZ1 HBD HENK1
      go_wp2_with fail
      refine (HPUT.out (TB.body D) P w2 HBLD2.out (by omega) (by have := HSZ2.out; omega)).mono ?_
      rintro e w3 ⟨hb3', hx⟩
      rw [if_neg (by simp), if_neg (by omega)] at hx
      obtain ⟨rfl, hbl3, ha3⟩ := hx
      have HBEL3 := Lib.hid (HBEL2.out.trans hb3')
      have HOWN3 := Lib.hid (own_apartB HOWN2.out ha3 (by decide) (by decide))
      have HSZ3 : Hid (B + 1 ≤ w3.heap.size) := Lib.hid (by have := hb3'.size; have := HSZ2.out; omega)
      have HBLD3 := Lib.hid hbl3
      clear hb3' ha3 hbl3 HBLD2 HBEL2 HOWN2 HSZ2
      obtain ⟨z, hz⟩ : ∃ z, w3.heap.size = z := ⟨_, rfl⟩
      have hz0' : (w3.alloc (.cells #[.string ⟨#[]⟩, .int .i64 (TB.body D).length, .int .i64 (8 + (P.length : Int))] 142)).cell? ⟨b0, off0 + k * 5 + m * 5, none⟩ = some (.string ky) := HKEY.out _ (HBEL3.out.alloc (by have := HSZ3.out; omega) _)
      have HZB : Hid (B + 1 ≤ z) := Lib.hid (by have := HSZ3.out; omega)
      have HOWN5 : Hid ((w3.alloc (.cells #[.string ky, .int .i64 (TB.body D).length, .int .i64 (8 + (P.length : Int))] 142)).ownsRow (B + 1) 142 3 (.slice V D.length vc) D.length (scs (TB.sps 0 D))) := Lib.hid (HOWN3.out.alloc _)
      have HBEL5 : Hid (Below B w (w3.alloc (.cells #[.string ky, .int .i64 (TB.body D).length, .int .i64 (8 + (P.length : Int))] 142))) := Lib.hid (HBEL3.out.alloc (by have := HSZ3.out; omega) _)
      have HBLD5 : Hid (Bld B B (TB.body D ++ TB.fr P) (w3.alloc (.cells #[.string ky, .int .i64 (TB.body D).length, .int .i64 (8 + (P.length : Int))] 142))) := Lib.hid (HBLD3.out.kept ((Below.refl _ _).alloc (Nat.le_refl _) _))
      have HS5 : Hid ((w3.alloc (.cells #[.string ky, .int .i64 (TB.body D).length, .int .i64 (8 + (P.length : Int))] 142)).heap.size = z + 1) := Lib.hid (by simp; omega)
      clear HBEL3 HOWN3 HBLD3 HSZ3
      obtain ⟨Y, hY⟩ : ∃ Y, scs (TB.sps 0 D) = Y := ⟨_, rfl⟩
      rw [hY] at HOWN5
      have hDlen : D.length ≤ 65536 := by have := HDL.out; omega
      obtain ⟨dn, hdn⟩ : ∃ dn, D.length = dn := ⟨_, rfl⟩
      rw [hdn] at HOWN5 hDlen ⊢
      have HYY := Lib.hid hY
      have HDN := Lib.hid hdn
      clear hY hdn
      go_wp2_with (at_builtin; refine wpList_append_own _ rfl _ _ 144 rfl (B + 1) 142 i0 _ 3 32 Tryz.underlying144 hi hz0 hz1 hz2 rfl (by decide) _ _ _ rfl (own_below HOWN5.out ((Below.refl _ _).alloc (Nat.le_refl _) _)) ⟨z + 1, 0, none⟩ 1 1 [.string ky, .int .i64 (TB.body D).length, .int .i64 (8 + (P.length : Int))] rfl ?c1 ?c2 ?c3 ?c4 ?c5 ?c6 ?_)
      case c1 => rfl
      case c2 =>
        refine World.news_of_block (cs := #[.string ky, .int .i64 (TB.body D).length, .int .i64 (8 + (P.length : Int))]) (t := 142) (fr := (0, 0)) ?_
        rw [← HS5.out]
        exact heap_alloc_new _ _
      case c3 => simp [Value.oneCell']
      case c4 => unfold maxLen; omega
      case c5 => omega
      case c6 => have := HS5.out; have := HZB.out; simp; omega
      intro v' w6 hown6 hgrow6 hnil6
      have hob : ∀ g, (Value.slice V dn vc).ownBlock = some g → B + 1 ≤ g := fun g hg => (HOWN5.out.lt g hg).1
      have HD2 : Hid ((D ++ [(l.drop k).take t]).length = dn + 1) := Lib.hid (by rw [List.length_append, HDN.out]; rfl)
      have HSP : Hid (TB.sps 0 (D ++ [(l.drop k).take t]) = TB.sps 0 D ++ [⟨ky, (TB.body D).length, 8 + P.length⟩]) := Lib.hid (by rw [TB.sps_snoc, HLK.out, HP.out, TB.fr_len, Nat.zero_add])
      have HR6 : Hid (w6.ownsRow (B + 1) 142 3 v' (D ++ [(l.drop k).take t]).length (scs (TB.sps 0 (D ++ [(l.drop k).take t])))) := Lib.hid (by
        rw [HD2.out, HSP.out, scs_snoc, HYY.out]
        have : TB.Sp.cells ⟨ky, (TB.body D).length, 8 + P.length⟩ = [.string ky, .int .i64 (TB.body D).length, .int .i64 (8 + (P.length : Int))] := by simp [TB.Sp.cells]
        rw [this]
        exact hown6)
      have HBD6 : Hid (TB.body (D ++ [(l.drop k).take t]) = TB.body D ++ TB.fr P) := Lib.hid (by rw [TB.body_snoc, HP.out])
      have HBLD6 : Hid (Bld B B (TB.body (D ++ [(l.drop k).take t])) w6) := Lib.hid (by
        rw [HBD6.out]
        exact bld_grown (HBLD5.out.kept ((Below.refl _ _).alloc (Nat.le_refl _) _)) (own_below HOWN5.out ((Below.refl _ _).alloc (Nat.le_refl _) _)) hgrow6 (by decide) (by decide))
      have HBEL6 : Hid (Below B w w6) := Lib.hid ⟨hgrow6.os.trans HBEL5.out.os, hgrow6.tape.trans HBEL5.out.tape, hgrow6.output.trans HBEL5.out.output, by have := hgrow6.size; have := HBEL5.out.size; simp at *; omega, fun q hq =>
        (hgrow6.block q (by have := HS5.out; have := HZB.out; simp; omega) (by intro he; have := hob q he.symm; omega)).trans ((Below.heap_alloc _ _ _ (by have := HS5.out; have := HZB.out; omega)).trans (HBEL5.out.block q hq))⟩
      have HSZ6 : Hid (B + 1 ≤ w6.heap.size) := Lib.hid (by have := hgrow6.size; have := HS5.out; have := HZB.out; simp at *; omega)
      obtain ⟨A3, hst, hA3⟩ := tail_ents b0 (off0 + k * 5) (n - k) (cap - k) t (by omega) (by omega)
      have HA3 := Lib.hid hA3
      have hnk : n - k - t = n - (k + t) := by omega
      have hck : cap - k - t = cap - (k + t) := by omega
      rw [hnk, hck] at hst
      have HDB6 : Hid ((TB.body (D ++ [(l.drop k).take t])).length ≤ (k + t) * 718) := Lib.hid (by
        rw [HBD6.out, List.length_append, TB.fr_len, ← HP.out]
        have h1 := BK.bodyF_len 16 [] ((l.drop k).take t) fun e he => by
          have := HFI.out e (List.mem_of_mem_drop (List.mem_of_mem_take he))
          exact ⟨this.2.1, this.1, this.2.2⟩
        have h2 := (VM.enc_len (n := (((l.drop k).take t).length : Int)) (by omega) (by rw [HBLn.out]; omega)).2
        unfold BK.buildB
        rw [List.length_append]
        rw [HBLn.out] at h1 h2 ⊢
        have := HDB.out
        omega)
      have HWF6 : Hid (∀ y ∈ TB.sps 0 (D ++ [(l.drop k).take t]), y.wf ∧ y.last.size ≤ 64) := Lib.hid fun y hy => by
        rw [HSP.out] at hy
        rcases List.mem_append.1 hy with h | h
        · exact HWF.out y h
        · simp only [List.mem_singleton] at h
          rw [h]
          exact ⟨⟨by show ky.size ≤ _; omega, by show (TB.body D).length ≤ _; omega, by show 8 + P.length ≤ _; omega⟩, hks⟩
      have HCUT6 : Hid ((D ++ [(l.drop k).take t]) ++ TB.cuts S (l.drop (k + t)) = TB.cuts S l) := Lib.hid (by
        rw [List.append_assoc, ← HCUT.out, HCS.out, List.drop_drop]
        rfl)
      clear hown6 hgrow6 hnil6 hob hA3 hnk hck HBLD5 HBEL5 HOWN5
      go_wp2
      go_roundw
      case rel => exact ⟨k + t, D ++ [(l.drop k).take t], A3, by omega, rfl, fun h => by rw [HA3.out (by omega), Nat.add_mul, Nat.add_assoc], HCUT6.out, by rw [HD2.out]; have := HDL.out; have := HDN.out; omega, HDB6.out, HR6.out, HBLD6.out, HBEL6.out, HSZ6.out, HWF6.out⟩
      case measure => simp [sliceLen]; omega
    · have hkn : k = n := by omega
      have hD : D = TB.cuts S l := by
        have h := HCUT.out
        rw [List.drop_eq_nil_of_le (by rw [HN.out]; omega), TB.cuts_nil, List.append_nil] at h
        exact h
      obtain ⟨V', vc', hsl', hspin, -, -⟩ := own_sps (fun y hy => (HWF.out y hy).1) (TB.sps_len 0 D) HOWN.out
      obtain ⟨rfl, rfl⟩ : V' = V ∧ vc' = vc := by simp only [Value.slice.injEq] at hsl'; exact ⟨hsl'.1.symm, hsl'.2.2.symm⟩
      have hix : TB.idx (TB.sps 0 D) = TB.ixOf S l := by rw [hD]; rfl
      have HIX := indexOf_any V' D.length vc' (TB.sps 0 D) wr (TB.sps_len 0 D) hspin (fun y hy => (HWF.out y hy).2) (by have := HDL.out; omega)
      rw [hix] at HIX
      have HIXX := Lib.hid HIX
      have hixb : (TB.ixOf S l).length ≤ 6200000 := by
        rw [← hix]
        unfold TB.idx
        have h1 := flat_len (TB.sps 0 D) HWF.out
        have h2 := (VM.enc_len (n := ((TB.sps 0 D).length : Int)) (by omega) (by rw [TB.sps_len]; have := HDL.out; omega)).2
        rw [List.length_append]
        rw [TB.sps_len] at h1 h2 ⊢
        have := HDL.out
        omega
      obtain ⟨ix, hixx⟩ : ∃ ix, TB.ixOf S l = ix := ⟨_, rfl⟩
      rw [hixx] at hixb
      have HIXB := Lib.hid hixb
      obtain ⟨fl, hfl⟩ : ∃ fl, TB.flOf b l = fl := ⟨_, rfl⟩
      have hkl : (TB.keys l).length ≤ n := Nat.le_trans (dedF_len _ _) (by rw [List.length_map, HN.out]; exact Nat.le_refl _)
      have hkm : ∀ q ∈ TB.keys l, q.size ≤ 64 := fun q hq => by
        obtain ⟨e, he, rfl⟩ := List.mem_map.1 (dedF_mem _ _ _ hq)
        exact (good_zero (HFI.out e he).2.1).2.1
      have hflen : fl.length ≤ 131073 := by
        rw [← hfl]
        unfold TB.flOf
        rw [B9.BL.filter_len]
        have := (B9.BL.bytes_lt (b := b) (n := (B9.keysOf (TB.keys l)).length) hb2 (by unfold B9.keysOf; rw [List.length_map]; omega)).2
        omega
      have HNEW : Hid (∀ W A3 c3, B9.StrsIn W W.heap.size A3 (TB.keys l) → Calls Tryz.prog 95 #[.int .i64 b, .slice A3 (TB.keys l).length c3] W fun e w' => e = .returned (.tuple #[.string ⟨fl.toArray⟩, .int .i64 0]) ∧ Below W.heap.size W w') := Lib.hid fun W A3 c3 h3 => by
        have h := B9.new_any b A3 (TB.keys l).length c3 (TB.keys l) W (by omega) (by omega) rfl h3 (by unfold reachBytes; omega) (fun q hq => by have := hkm q hq; omega)
        unfold B9.NewOut B9.BL.new at h
        rw [if_neg (by omega), if_neg (by unfold B9.keysOf; rw [List.length_map]; omega), Int.toNat_natCast] at h
        rw [← hfl]
        exact h
      have HKEYS := Lib.hid fun W (hW : Below B w W) => keysOf_any A n cap l W HN.out (HIN.out.below (by rw [hBB]; exact hW)) hb
      have HBY : Hid (TB.bytes S b l = TB.body D ++ (TB.fr ix ++ (TB.fr fl ++ TB.fr (TB.ftOf (TB.body D).length ((TB.body D).length + (TB.fr ix).length))))) := Lib.hid (by unfold TB.bytes; rw [← hD, hixx, hfl])
      rw [hixx] at HIXX
      have HIXL := Lib.hid hixx
      have HFLL := Lib.hid hfl
      obtain ⟨R, hR⟩ : ∃ R, TB.bytes S b l = R := ⟨_, rfl⟩
      rw [hR] at HBY
      have HRR := Lib.hid hR
      have hBl : (TB.body D).length ≤ 65536 * 718 := by have := HDB.out; omega
      obtain ⟨G, hG⟩ : ∃ G, TB.body D = G := ⟨_, rfl⟩
      rw [hG] at HBY HBLD hBl
      have HGB := Lib.hid hBl
      have HFL := Lib.hid hflen
      clear hixb hsl' hspin hix HIX hixx hfl hkl hkm hflen hR hG hBl hD hkn
      go_wp2_with fail
      refine HIXX.out.mono ?_
      rintro e w1 ⟨rfl, hb1'⟩
      have HBLD1 := Lib.hid (HBLD.out.kept hb1')
      have HBEL1 := Lib.hid (below_seq HBEL.out hb1' (by have := HSZ.out; omega))
      have HSZ1 : Hid (B + 1 ≤ w1.heap.size) := Lib.hid (by have := hb1'.size; have := HSZ.out; omega)
      clear hb1' HIXX HBLD HBEL HSZ HOWN
      by_cases hixl : 65535 < ix.length
      · go_wp2_with fail
        refine (tput_any B B G ix 0 w1 HBLD1.out (by have := HIXB.out; have := HGB.out; omega) (by have := HSZ1.out; omega)).mono ?_
        rintro e w2 ⟨hb2', hx⟩
        rw [if_neg (by simp), if_pos hixl] at hx
        subst hx
        exact ⟨rfl, HBEL1.out.trans hb2', by rw [if_pos (Or.inl (by rw [HIXL.out]; exact hixl))]⟩
      · go_wp2_with fail
        refine (HPUT.out G ix w1 HBLD1.out (by have := HGB.out; omega) (by have := HSZ1.out; omega)).mono ?_
        rintro e w2 ⟨hb2', hx⟩
        rw [if_neg (by simp), if_neg hixl] at hx
        obtain ⟨rfl, hbl2, ha2⟩ := hx
        obtain ⟨z1, hz1'⟩ : ∃ z1, w2.heap.size = z1 := ⟨_, rfl⟩
        have HBLD2 := Lib.hid hbl2
        have HBEL2 := Lib.hid (HBEL1.out.trans hb2')
        have HSZ2 : Hid (B + 1 ≤ w2.heap.size) := Lib.hid (by have := hb2'.size; have := HSZ1.out; omega)
        clear hb2' hbl2 ha2 HBLD1 HBEL1 HSZ1
        have HR3 : Hid ((w2.alloc (.cells #[.string ⟨#[]⟩, .int .i64 G.length, .int .i64 (8 + (ix.length : Int))] 142)).heap[z1]? = some (.cells #[.string ⟨#[]⟩, .int .i64 G.length, .int .i64 (8 + (ix.length : Int))] 142 (0, 0))) := Lib.hid (by rw [← hz1']; exact heap_alloc_new w2 _)
        have HBLD3 := Lib.hid (HBLD2.out.kept ((Below.refl _ _).alloc (Nat.le_refl _) (.cells #[.string ⟨#[]⟩, .int .i64 G.length, .int .i64 (8 + (ix.length : Int))] 142)))
        have HBEL3 := Lib.hid (HBEL2.out.alloc (by have := HSZ2.out; omega) (.cells #[.string ⟨#[]⟩, .int .i64 G.length, .int .i64 (8 + (ix.length : Int))] 142))
        have HSZ3 : Hid ((w2.alloc (.cells #[.string ⟨#[]⟩, .int .i64 G.length, .int .i64 (8 + (ix.length : Int))] 142)).heap.size = z1 + 1) := Lib.hid (by simp; omega)
        have HZ1 : Hid (B + 1 ≤ z1) := Lib.hid (by have := HSZ2.out; omega)
        go_wp2_with fail
        generalize w2.alloc (.cells #[.string ⟨#[]⟩, .int .i64 G.length, .int .i64 (8 + (ix.length : Int))] 142) = w3 at HR3 HBLD3 HBEL3 HSZ3 ⊢
        refine (HKEYS.out w3 HBEL3.out).mono ?_
        rintro e w4 ⟨A3, c3, rfl, hst, hb4⟩
        have HBLD4 := Lib.hid (HBLD3.out.kept hb4)
        have HBEL4 := Lib.hid (below_seq HBEL3.out hb4 (by have := HSZ3.out; have := HZ1.out; omega))
        have HR4 := Lib.hid ((hb4.block z1 (by have := HSZ3.out; omega)).trans HR3.out)
        have HSZ4 : Hid (z1 + 1 ≤ w4.heap.size) := Lib.hid (by have := hb4.size; have := HSZ3.out; omega)
        have HST := Lib.hid hst
        clear hb4 hst HBLD2 HBEL2 HSZ2 HBLD3 HBEL3 HR3 HSZ3
        go_wp2_with fail
        refine (HNEW.out w4 A3 c3 HST.out).mono ?_
        rintro e w5 ⟨rfl, hb5⟩
        have HBLD5 := Lib.hid (HBLD4.out.kept hb5)
        have HBEL5 := Lib.hid (below_seq HBEL4.out hb5 (by have := HSZ4.out; have := HZ1.out; omega))
        have HR5 := Lib.hid ((hb5.block z1 (by have := HSZ4.out; omega)).trans HR4.out)
        have HSZ5 : Hid (z1 + 1 ≤ w5.heap.size) := Lib.hid (by have := hb5.size; have := HSZ4.out; omega)
        clear hb5 HST HBLD4 HBEL4 HR4 HSZ4
        have hGl : (G ++ TB.fr ix).length + (8 + fl.length) ≤ 100000000 := by rw [List.length_append, TB.fr_len]; have := HGB.out; have := HFL.out; omega
        have HGM : Hid ((G ++ TB.fr ix).length ≤ 60000000) := Lib.hid (by rw [List.length_append, TB.fr_len]; have := HGB.out; omega)
        go_wp2_with fail
        by_cases hfll : 65535 < fl.length
        · refine (HPUT.out (G ++ TB.fr ix) fl w5 HBLD5.out hGl (by have := HSZ5.out; have := HZ1.out; omega)).mono ?_
          rintro e w6 ⟨hb6, hx⟩
          rw [if_neg (by simp), if_pos hfll] at hx
          subst hx
          exact ⟨rfl, HBEL5.out.trans hb6, by rw [if_pos (Or.inr (by rw [HFLL.out]; exact hfll))]⟩
        · refine (HPUT.out (G ++ TB.fr ix) fl w5 HBLD5.out hGl (by have := HSZ5.out; have := HZ1.out; omega)).mono ?_
          rintro e w6 ⟨hb6, hx⟩
          rw [if_neg (by simp), if_neg hfll] at hx
          obtain ⟨rfl, hbl6, ha6⟩ := hx
          obtain ⟨z2, hz2'⟩ : ∃ z2, w6.heap.size = z2 := ⟨_, rfl⟩
          obtain ⟨p2, hp2⟩ : ∃ p2, (G ++ TB.fr ix).length = p2 := ⟨_, rfl⟩
          obtain ⟨p1, hp1⟩ : ∃ p1, G.length = p1 := ⟨_, rfl⟩
          rw [hp2, hp1]
          have HP1 := Lib.hid hp1
          have HP2 := Lib.hid hp2
          have hfc : ((8 + fl.length : Nat) : Int) = 8 + (fl.length : Int) := by omega
          rw [hfc]
          have HBLD6 := Lib.hid hbl6
          have HBEL6 := Lib.hid (HBEL5.out.trans hb6)
          have HR6 := Lib.hid (ha6 z1 _ _ _ HR5.out (by decide) (by decide))
          have HSZ6 : Hid (z1 + 1 ≤ w6.heap.size) := Lib.hid (by have := hb6.size; have := HSZ5.out; omega)
          have HR7 : Hid ((w6.alloc (.cells #[.string ⟨#[]⟩, .int .i64 p2, .int .i64 (8 + (fl.length : Int))] 142)).heap[z2]? = some (.cells #[.string ⟨#[]⟩, .int .i64 p2, .int .i64 (8 + (fl.length : Int))] 142 (0, 0))) := Lib.hid (by rw [← hz2']; exact heap_alloc_new w6 _)
          have HR7' : Hid ((w6.alloc (.cells #[.string ⟨#[]⟩, .int .i64 p2, .int .i64 (8 + (fl.length : Int))] 142)).heap[z1]? = some (.cells #[.string ⟨#[]⟩, .int .i64 G.length, .int .i64 (8 + (ix.length : Int))] 142 (0, 0))) := Lib.hid ((Below.heap_alloc _ _ _ (by have := HSZ6.out; omega)).trans HR6.out)
          have HBLD7 := Lib.hid (HBLD6.out.kept ((Below.refl _ _).alloc (Nat.le_refl _) (.cells #[.string ⟨#[]⟩, .int .i64 p2, .int .i64 (8 + (fl.length : Int))] 142)))
          have HBEL7 := Lib.hid (HBEL6.out.alloc (by have := HSZ6.out; have := HZ1.out; omega) (.cells #[.string ⟨#[]⟩, .int .i64 p2, .int .i64 (8 + (fl.length : Int))] 142))
          have HSZ7 : Hid ((w6.alloc (.cells #[.string ⟨#[]⟩, .int .i64 p2, .int .i64 (8 + (fl.length : Int))] 142)).heap.size = z2 + 1) := Lib.hid (by simp; omega)
          have HZ2 : Hid (B + 1 ≤ z2) := Lib.hid (by have := HSZ6.out; have := HZ1.out; omega)
          have hp1b : p1 ≤ 281474976710656 := by rw [← hp1]; have := HGB.out; omega
          have hp2b : p2 ≤ 281474976710656 := by rw [← hp2]; omega
          have HPB1 := Lib.hid (fun W => placeBytes_any p1 W hp1b)
          have HPB2 := Lib.hid (fun W => placeBytes_any p2 W hp2b)
          have hfoot : (⟨(TB.be 8 p1).toArray⟩ : ByteArray) ++ ⟨(TB.be 8 p2).toArray⟩ = ⟨(TB.be 8 p1 ++ TB.be 8 p2).toArray⟩ := by apply str_ext; simp
          have HPUTF : Hid (∀ W, Bld B B ((G ++ TB.fr ix) ++ TB.fr fl) W → B ≤ W.heap.size → Calls Tryz.prog 89 #[.string (⟨(TB.be 8 p1).toArray⟩ ++ ⟨(TB.be 8 p2).toArray⟩), .int .i64 0, .pointer (some ⟨B, 0, none⟩)] W fun e w' => (∃ q, e = .returned (.agg #[.string ⟨#[]⟩, .int .i64 q, .int .i64 24])) ∧ Bld B B (((G ++ TB.fr ix) ++ TB.fr fl) ++ TB.fr (TB.be 8 p1 ++ TB.be 8 p2)) w' ∧ Below B W w' ∧ ApartB W w') := Lib.hid fun W h1 h2 => by
            rw [hfoot]
            have hl2 : (TB.be 8 p1 ++ TB.be 8 p2).length = 16 := by rw [List.length_append, TB.be_len, TB.be_len]
            refine (HPUT.out _ (TB.be 8 p1 ++ TB.be 8 p2) W h1 (by rw [List.length_append, TB.fr_len, hl2]; have := HGM.out; omega) h2).mono ?_
            rintro e w' ⟨hbb, hx⟩
            rw [if_neg (by simp), if_neg (by rw [hl2]; omega), hl2] at hx
            exact ⟨⟨_, hx.1⟩, hx.2.1, hbb, hx.2.2⟩
          obtain ⟨SA, hSA⟩ : ∃ SA : ByteArray, (⟨(TB.be 8 p1).toArray⟩ : ByteArray) = SA := ⟨_, rfl⟩
          obtain ⟨SB, hSB⟩ : ∃ SB : ByteArray, (⟨(TB.be 8 p2).toArray⟩ : ByteArray) = SB := ⟨_, rfl⟩
          have hsa : SA.size = 8 := by rw [← hSA, mk_size, TB.be_len]
          have hsb : SB.size = 8 := by rw [← hSB, mk_size, TB.be_len]
          have k1 : ¬ 9223372036854775807 < SA.size + SB.size := by omega
          rw [hSA] at HPB1
          rw [hSB] at HPB2
          rw [hSA, hSB] at HPUTF
          have HSA := Lib.hid hsa
          have HSB := Lib.hid hsb
          clear hsa hsb hSA hSB hfoot hbl6 hb6 ha6 hp1 hfc HBLD5 HBEL5 HR5 HSZ5 HBLD6 HBEL6 HR6 HSZ6 hGl
          go_wp2_with fail
          rw [HP1.out] at HR7'
          generalize w6.alloc (.cells #[.string ⟨#[]⟩, .int .i64 p2, .int .i64 (8 + (fl.length : Int))] 142) = w7 at HR7 HR7' HBLD7 HBEL7 HSZ7 ⊢
          have e1 : w7.cell? ⟨z1, 1, none⟩ = some (.int .i64 p1) := cell_of_row _ _ _ _ _ _ HR7'.out
          have e2 : w7.cell? ⟨z2, 1, none⟩ = some (.int .i64 p2) := cell_of_row _ _ _ _ _ _ HR7.out
          have HSC : Hid (∀ W, Below w7.heap.size w7 W → (W.cell? ⟨z1, 1, none⟩ = some (.int .i64 p1) ∧ W.cell? ⟨z2, 1, none⟩ = some (.int .i64 p2)) ∧ Bld B B ((G ++ TB.fr ix) ++ TB.fr fl) W ∧ B ≤ W.heap.size) := Lib.hid fun W hW =>
            ⟨⟨cell_of_row _ _ _ _ _ _ ((hW.block z1 (Array.getElem?_eq_some_iff.1 HR7'.out).1).trans HR7'.out), cell_of_row _ _ _ _ _ _ ((hW.block z2 (Array.getElem?_eq_some_iff.1 HR7.out).1).trans HR7.out)⟩, HBLD7.out.kept hW, by have := hW.size; have := HSZ7.out; have := HZ2.out; omega⟩
          have HRC : Hid (∀ W, Below w7.heap.size w7 W → W.heap[z1]? = some (.cells #[.string ⟨#[]⟩, .int .i64 p1, .int .i64 (8 + (ix.length : Int))] 142 (0, 0)) ∧ W.heap[z2]? = some (.cells #[.string ⟨#[]⟩, .int .i64 p2, .int .i64 (8 + (fl.length : Int))] 142 (0, 0))) := Lib.hid fun W hW =>
            ⟨(hW.block z1 (Array.getElem?_eq_some_iff.1 HR7'.out).1).trans HR7'.out, (hW.block z2 (Array.getElem?_eq_some_iff.1 HR7.out).1).trans HR7.out⟩
          go_region_held3 (fun W => W.cell? ⟨z1, 1, none⟩ = some (.int .i64 p1) ∧ W.cell? ⟨z2, 1, none⟩ = some (.int .i64 p2))
            (first | exact HS3.out | exact HS2.out | exact HS1.out | go_keep | fail)
            (first
              | (have hkb := HBb.out; go_at_call 89; refine (HPUTF.out _ (HSC.out _ hkb).2.1 (HSC.out _ hkb).2.2).mono ?_; rintro r wc ⟨⟨q, rfl⟩, hbl, hbc, hac⟩
                 have HBL := Lib.hid hbl
                 have HBC : Hid (Below B w7 wc) := Lib.hid ((hkb.mono (by have := HSZ7.out; have := HZ2.out; omega)).trans hbc)
                 have HS3 : Hid (wc.cell? ⟨z1, 1, none⟩ = some (.int .i64 p1) ∧ wc.cell? ⟨z2, 1, none⟩ = some (.int .i64 p2)) := Lib.hid ⟨cell_of_row _ _ _ _ _ _ (hac z1 _ _ _ (HRC.out _ hkb).1 (by decide) (by decide)), cell_of_row _ _ _ _ _ _ (hac z2 _ _ _ (HRC.out _ hkb).2 (by decide) (by decide))⟩
                 clear hbl hbc hac hkb)
              | (have hka := HBa.out; go_at_call 97; with_reducible refine (HPB2.out _).mono ?_; rintro r wb ⟨rfl, hbb⟩
                 have HBb : Hid (Below w7.heap.size w7 wb) := Lib.hid (below_seq hka hbb hka.size)
                 have HS2 := Lib.hid (HSC.out _ HBb.out).1
                 clear hbb hka)
              | (go_at_call 97; with_reducible refine (HPB1.out _).mono ?_; rintro r wa ⟨rfl, hba⟩
                 have HBa : Hid (Below w7.heap.size w7 wa) := Lib.hid (below_seq (below_drewN (Below.refl _ _) 1) hba (Nat.le_refl _))
                 have HS1 := Lib.hid (HSC.out _ HBa.out).1
                 clear hba)
              | fail)
          all_goals
            clear HS3
            have hfin : ((G ++ TB.fr ix) ++ TB.fr fl) ++ TB.fr (TB.be 8 p1 ++ TB.be 8 p2) = R := by
              rw [HBY.out, HP1.out, ← HP2.out, List.length_append, HP1.out]
              simp only [List.append_assoc]
              rfl
            have HST := Lib.hid (bstring_any B B R wc (by rw [← hfin]; exact HBL.out) (by
              rw [← hfin]
              intro h
              have := congrArg List.length h
              rw [List.length_append, TB.fr_len] at this
              simp at this))
            clear hfin
            go_wp2_with fail
            refine HST.out.mono ?_
            rintro e w9 ⟨rfl, hb9⟩
            have i1 : ¬ 65535 < (TB.ixOf S l).length := by rw [HIXL.out]; exact hixl
            have i2 : ¬ 65535 < (TB.flOf b l).length := by rw [HFLL.out]; exact hfll
            have HBF := Lib.hid ((HBEL7.out.trans HBC.out).trans hb9)
            clear hb9
            go_wp2
            all_goals first
              | (rename_i h; exact absurd h (by rw [HIXL.out, HFLL.out]; omega))
              | (go_ret; exact ⟨HBF.out, by rw [HRR.out]; rfl⟩)
end Go.Proofs.YtjkofciohehgfaaGreatDoor.L11


/- Build. -/
namespace Go.Proofs.YtjkofciohehgfaaGreatDoor.L11
open Go.RowKit
open SK
open TB (Bs Sp)

def BldIn (w : World) (x S b : Nat) (l : List E) (e : Ending) (w' : World) : Prop :=
  w.grownBy w' (some x) ∧ if 65535 < (TB.ixOf S l).length ∨ 65535 < (TB.flOf b l).length then e = .panicked (tfault 5) ∧ w'.heap[x]? = w.heap[x]? else e = .returned (.tuple #[]) ∧ w'.heap[x]? = some (.cells #[.string ⟨(TB.bytes S b l).toArray⟩] 9 (0, 0))

set_option maxRecDepth 100000 in
set_option maxHeartbeats 1000000 in
theorem tbuild1_any (w : World) (p q r x : Nat) (A : Option Addr) (n cap S b : Nat) (l : List E) (hp : w.heap[p]? = some (.cells #[.slice A n cap] 33 (0, 0))) (hq : w.heap[q]? = some (.cells #[.int .i64 S] 3 (0, 0))) (hr : w.heap[r]? = some (.cells #[.int .i64 b] 3 (0, 0))) (hx : w.heap[x]? = some (.cells #[.string ⟨#[]⟩] 9 (0, 0)))
    (hn : l.length = n) (hcap : n ≤ cap) (hin : EntsIn w A l) (hf : Fine l) (hok : BK.OkF [] l) (hb : n ≤ 65536) (hS : 1 ≤ S) (hS2 : S ≤ 4096) (hb1 : 1 ≤ b) (hb2 : b ≤ 16) :
    Calls Tryz.prog 46 #[.pointer (some ⟨p, 0, none⟩), .pointer (some ⟨q, 0, none⟩), .pointer (some ⟨r, 0, none⟩), .pointer (some ⟨x, 0, none⟩)] w fun e w' => BldIn w x S b l e w' := by
  have cp : w.cell? ⟨p, 0, none⟩ = some (.slice A n cap) := cell_of_row _ _ _ _ _ _ hp
  have cq : w.cell? ⟨q, 0, none⟩ = some (.int .i64 S) := cell_of_row _ _ _ _ _ _ hq
  have cr : w.cell? ⟨r, 0, none⟩ = some (.int .i64 b) := cell_of_row _ _ _ _ _ _ hr
  have HX := Lib.hid hx
  have HXL := Lib.hid (Array.getElem?_eq_some_iff.1 hx).1
  have HC := Lib.hid (tbytes_any A n cap S b l w hn hcap hin hf hok hb hS hS2 hb1 hb2)
  obtain ⟨ix, hix⟩ : ∃ ix, TB.ixOf S l = ix := ⟨_, rfl⟩
  obtain ⟨fl, hfl⟩ : ∃ fl, TB.flOf b l = fl := ⟨_, rfl⟩
  obtain ⟨R, hR⟩ : ∃ R, TB.bytes S b l = R := ⟨_, rfl⟩
  unfold BytesOr at HC
  unfold BldIn
  simp only [hix, hfl, hR] at HC ⊢
  clear hix hfl hR hp hq hr hx hn hcap hin hf hok
  by_cases hbad : 65535 < ix.length ∨ 65535 < fl.length
  · simp only [if_pos hbad] at HC ⊢
    go_enter Tryz.func46, Tryz.ntmps46
    go_wp2_with fail
    refine HC.out.mono ?_
    rintro e w1 ⟨hb, rfl⟩
    exact ⟨rfl, grown_below hb, rfl, hb.block x HXL.out⟩
  · simp only [if_neg hbad] at HC ⊢
    go_enter Tryz.func46, Tryz.ntmps46
    go_wp2_with fail
    refine HC.out.mono ?_
    rintro e w1 ⟨hb, rfl⟩
    have hrow1 := (hb.block x HXL.out).trans HX.out
    have cb : w1.cell? ⟨x, 0, none⟩ = some (.string ⟨#[]⟩) := cell_of_row _ _ _ _ _ _ hrow1
    have fb' : w1.frozen? ⟨x, 0, none⟩ = false := frozen_of_row _ _ _ _ _ hrow1
    have HG : Hid (w.grownBy (w1.setCell ⟨x, 0, none⟩ (.string ⟨R.toArray⟩)) (some x)) := Lib.hid (grown_set (grown_below hb) 0 _)
    have HR : Hid ((w1.setCell ⟨x, 0, none⟩ (.string ⟨R.toArray⟩)).heap[x]? = some (.cells #[.string ⟨R.toArray⟩] 9 (0, 0))) := Lib.hid (heap_set_fr hrow1 0 _)
    clear hb hrow1 HC
    go_wp2
    go_end0
    exact ⟨HG.out, rfl, HR.out⟩

/-- what Build tells -/
def buildV (x : Bs × Int) : Value := .tuple #[.string ⟨x.1.toArray⟩, .int .i64 x.2]

set_option maxRecDepth 100000 in
set_option maxHeartbeats 4000000 in
theorem tbuild_any (A : Option Addr) (n cap : Nat) (l : List E) (size bits : Int) (w : World) (hn : l.length = n) (hcap : n ≤ cap) (hin : EntsIn w A l) (hb : n ≤ 65536) (s0 : -9223372036854775808 ≤ size) (s1 : size ≤ 9223372036854775807) (b0 : -9223372036854775808 ≤ bits) (b1 : bits ≤ 9223372036854775807) :
    Calls Tryz.prog 14 #[.slice A n cap, .int .i64 size, .int .i64 bits] w fun e w' => e = .returned (buildV (TB.tabOut l size bits)) ∧ Below w.heap.size w w' := by
  have hmf : ∀ (fn : Fn) (first cap : Array Value) (w : World), (Instr.makeFunc fn first cap).run Tryz.prog w = .ok (.func fn first cap) w := fun _ _ _ _ => rfl
  obtain ⟨a, haa⟩ : ∃ a, w.heap.size = a := ⟨_, rfl⟩
  have HB3 : Hid (Below a w (((w.alloc (.cells #[.slice A n cap] 33)).alloc (.cells #[.int .i64 size] 3)).alloc (.cells #[.int .i64 bits] 3))) := Lib.hid ((((Below.refl _ w).alloc (by omega) _).alloc (by simp; omega) _).alloc (by simp; omega) _)
  have hX : TB.tabOut l size bits = if size < 1 ∨ 4096 < size ∨ bits < 1 ∨ 16 < bits then ([], 2) else if (BK.ord l).2 ≠ 0 then ([], (BK.ord l).2) else if 65535 < (TB.ixOf size.toNat l).length ∨ 65535 < (TB.flOf bits.toNat l).length then ([], 5) else (TB.bytes size.toNat bits.toNat l, 0) := by
    unfold TB.tabOut
    rw [if_neg (c := 65536 < l.length) (by omega)]
  obtain ⟨X, hXX⟩ : ∃ X, TB.tabOut l size bits = X := ⟨_, rfl⟩
  rw [hXX] at hX ⊢
  have HX := Lib.hid hX
  simp only [haa]
  have HIN := Lib.hid hin
  have HN := Lib.hid hn
  clear hX hXX hin hn
  have bad : ∀ (_ : size < 1 ∨ 4096 < size ∨ bits < 1 ∨ 16 < bits), X = ([], 2) := fun h => by rw [HX.out, if_pos h]
  have BAD := Lib.hid bad
  clear bad
  by_cases c1 : size < 1
  · have hF := BAD.out (Or.inl c1)
    have d1 : decide (size < 1) = true := by simpa using c1
    clear HX BAD
    subst hF
    go_enter Tryz.func14, Tryz.ntmps14
    go_wp2
    go_ret2
    exact ⟨rfl, HB3.out⟩
  · have d1 : decide (size < 1) = false := by simpa using c1
    by_cases c2 : 4096 < size
    · have hF := BAD.out (Or.inr (Or.inl c2))
      have d2 : decide (4096 < size) = true := by simpa using c2
      clear HX BAD
      subst hF
      go_enter Tryz.func14, Tryz.ntmps14
      go_wp2
      go_ret2
      exact ⟨rfl, HB3.out⟩
    · have d2 : decide (4096 < size) = false := by simpa using c2
      by_cases c3 : bits < 1
      · have hF := BAD.out (Or.inr (Or.inr (Or.inl c3)))
        have d3 : decide (bits < 1) = true := by simpa using c3
        clear HX BAD
        subst hF
        go_enter Tryz.func14, Tryz.ntmps14
        go_wp2
        go_ret2
        exact ⟨rfl, HB3.out⟩
      · have d3 : decide (bits < 1) = false := by simpa using c3
        by_cases c4 : 16 < bits
        · have hF := BAD.out (Or.inr (Or.inr (Or.inr c4)))
          have d4 : decide (16 < bits) = true := by simpa using c4
          clear HX BAD
          subst hF
          go_enter Tryz.func14, Tryz.ntmps14
          go_wp2
          go_ret2
          exact ⟨rfl, HB3.out⟩
        · have d4 : decide (16 < bits) = false := by simpa using c4
          obtain ⟨S, rfl⟩ := Int.eq_ofNat_of_zero_le (show 0 ≤ size by omega)
          obtain ⟨b, rfl⟩ := Int.eq_ofNat_of_zero_le (show 0 ≤ bits by omega)
          have HX2 : Hid (X = if (BK.ord l).2 ≠ 0 then ([], (BK.ord l).2) else if 65535 < (TB.ixOf S l).length ∨ 65535 < (TB.flOf b l).length then ([], 5) else (TB.bytes S b l, 0)) := Lib.hid (by rw [HX.out, if_neg (by omega), Int.toNat_natCast, Int.toNat_natCast])
          have d5 : decide (65536 < (n : Int)) = false := by simp; omega
          have d5' : decide (65536 < n) = false := by simp; omega
          obtain ⟨O1, O2, hO⟩ : ∃ O1 O2, BK.ord l = (O1, O2) := ⟨_, _, rfl⟩
          have HORD : Hid (∀ W, Below a w W → Calls Tryz.prog 44 #[.slice A n cap] W fun r w' => r = .returned (.tuple #[.int .i64 O1, .int .i64 O2]) ∧ Below W.heap.size W w') := Lib.hid fun W hW => by
            have := bord_any A n cap l W HN.out hcap (HIN.out.below (by rw [haa]; exact hW)) (by omega)
            rw [hO] at this
            exact this
          have HOO := Lib.hid hO
          clear HX BAD hO
          obtain ⟨r0, r1, r2⟩ := heap_new3 w (.cells #[.slice A n cap] 33) (.cells #[.int .i64 S] 3) (.cells #[.int .i64 b] 3)
          rw [haa] at r0 r1 r2
          have HS3 : Hid ((((w.alloc (.cells #[.slice A n cap] 33)).alloc (.cells #[.int .i64 S] 3)).alloc (.cells #[.int .i64 b] 3)).heap.size = a + 3) := Lib.hid (by simp; omega)
          go_enter Tryz.func14, Tryz.ntmps14
          go_wp2_with fail
          generalize ((w.alloc (.cells #[.slice A n cap] 33)).alloc (.cells #[.int .i64 S] 3)).alloc (.cells #[.int .i64 b] 3) = w0 at r0 r1 r2 HB3 HS3 ⊢
          refine (HORD.out w0 HB3.out).mono ?_
          rintro e w1 ⟨rfl, hb1⟩
          have HB4 := Lib.hid (below_seq HB3.out hb1 (by have := HS3.out; omega))
          have HR0 := Lib.hid ((hb1.block a (by have := HS3.out; omega)).trans r0)
          have HR1 := Lib.hid ((hb1.block (a + 1) (by have := HS3.out; omega)).trans r1)
          have HR2 := Lib.hid ((hb1.block (a + 2) (by have := HS3.out; omega)).trans r2)
          have HS4 : Hid (a + 3 ≤ w1.heap.size) := Lib.hid (by have := hb1.size; have := HS3.out; omega)
          clear hb1 r0 r1 r2 HB3 HS3 HORD
          by_cases ho : O2 = 0
          · have hok : BK.OkF [] l := BK.okF_ord _ _ (by have := HOO.out; unfold BK.ord at this; rw [this]; exact ho)
            subst ho
            have HX3 : Hid (X = if 65535 < (TB.ixOf S l).length ∨ 65535 < (TB.flOf b l).length then ([], 5) else (TB.bytes S b l, 0)) := Lib.hid (by rw [HX2.out, HOO.out]; simp)
            have hfine : Fine l := fun e he => ⟨HIN.out.wf e he, BK.okF_all _ _ hok e he⟩
            have HFI := Lib.hid hfine
            have HOK := Lib.hid hok
            clear hfine hok HX2 HOO
            obtain ⟨x, hx⟩ : ∃ x, w1.heap.size = x := ⟨_, rfl⟩
            have hr3 : (w1.alloc (.cells #[.string ⟨#[]⟩] 9)).heap[x]? = some (.cells #[.string ⟨#[]⟩] 9 (0, 0)) := by rw [← hx]; exact heap_alloc_new w1 _
            have hbl : Below w1.heap.size w1 (w1.alloc (.cells #[.string ⟨#[]⟩] 9)) := (Below.refl _ _).alloc (Nat.le_refl _) _
            have hs5 : (w1.alloc (.cells #[.string ⟨#[]⟩] 9)).heap.size = x + 1 := by simp; omega
            go_wp2_with fail
            generalize w1.alloc (.cells #[.string ⟨#[]⟩] 9) = w2 at hr3 hbl hs5 ⊢
            have HS4' := HS4.out
            have hal : ∀ k, k < x + 1 → (w2.alloc (.cells #[.int .i64 0] 28)).heap[k]? = w2.heap[k]? := fun k hk => Below.heap_alloc _ _ _ (by omega)
            have hB2 : Below a w w2 := below_seq HB4.out hbl (by omega)
            have HC := tbuild1_any (w2.alloc (.cells #[.int .i64 0] 28)) a (a + 1) (a + 2) x A n cap S b l
              ((hal a (by omega)).trans ((hbl.block a (by omega)).trans HR0.out)) ((hal (a + 1) (by omega)).trans ((hbl.block (a + 1) (by omega)).trans HR1.out)) ((hal (a + 2) (by omega)).trans ((hbl.block (a + 2) (by omega)).trans HR2.out)) ((hal x (by omega)).trans hr3)
              HN.out hcap (HIN.out.below (by rw [haa]; exact hB2.alloc (by omega) _)) HFI.out HOK.out hb (by omega) (by omega) (by omega) (by omega)
            unfold BldIn at HC
            obtain ⟨ix, hix⟩ : ∃ ix, TB.ixOf S l = ix := ⟨_, rfl⟩
            obtain ⟨fl, hfl⟩ : ∃ fl, TB.flOf b l = fl := ⟨_, rfl⟩
            obtain ⟨R, hR⟩ : ∃ R, TB.bytes S b l = R := ⟨_, rfl⟩
            simp only [hix, hfl, hR] at HC
            rw [hix, hfl, hR] at HX3
            have hcf : ∀ W, (callFunc 46 #[.pointer (some ⟨a, 0, none⟩), .pointer (some ⟨a + 1, 0, none⟩), .pointer (some ⟨a + 2, 0, none⟩), .pointer (some ⟨x, 0, none⟩)]).run Tryz.prog W = .ok (.enter 46 #[.pointer (some ⟨a, 0, none⟩), .pointer (some ⟨a + 1, 0, none⟩), .pointer (some ⟨a + 2, 0, none⟩), .pointer (some ⟨x, 0, none⟩)]) W := fun W => cf_any (fn := Tryz.f46) (by kernel_rfl) (by kernel_rfl) (by kernel_rfl) _ W
            have HBW := Lib.hid hB2
            have HS2 := Lib.hid hs5
            have HAX : Hid (a + 3 ≤ x) := Lib.hid (by omega)
            have HAL2 : Hid ((w2.alloc (.cells #[.int .i64 0] 28)).heap[x]? = some (.cells #[.string ⟨#[]⟩] 9 (0, 0))) := Lib.hid ((hal x (by omega)).trans hr3)
            have HCF := Lib.hid hcf
            clear hr3 hbl hs5 hal hB2 hcf hix hfl hR hx HR0 HR1 HR2 HS4 HS4' HB4
            by_cases hbad : 65535 < ix.length ∨ 65535 < fl.length
            · simp only [if_pos hbad] at HC
              have hF : X = ([], 5) := by rw [HX3.out, if_pos hbad]
              have HHC := Lib.hid HC
              clear HC HX3
              subst hF
              refine (tcaught_bad w2 46 _ 5 (fun w' => Below a w w' ∧ w'.heap[x]? = some (.cells #[.string ⟨#[]⟩] 9 (0, 0))) HCF.out (HHC.out.mono ?_)).mono ?_
              · rintro e w' ⟨hg, rfl, hrb⟩
                refine ⟨rfl, noErr_grown hg (by have := HS2.out; omega), ?_, ?_⟩
                · refine below_via (y := w2.heap.size) (w1 := w') ?_ (grownBy_setCell _ _ _) (by have := hg.size; simp at this; have := HS2.out; have := HAX.out; omega) (by have := HS2.out; have := HAX.out; omega)
                  exact below_via (y := x) (HBW.out.alloc (by have := HS2.out; have := HAX.out; omega) _) hg (by have := HS2.out; have := HAX.out; simp; omega) (by have := HAX.out; omega)
                · exact (Below.heap_setCell _ _ _ _ (by have := HS2.out; simp; omega)).trans (hrb.trans HAL2.out)
              · rintro e w4 ⟨rfl, hB, hr⟩
                have cx : w4.cell? ⟨x, 0, none⟩ = some (.string ⟨#[]⟩) := cell_of_row _ _ _ _ _ _ hr
                have HB := Lib.hid hB
                clear hB HHC hr
                go_wp2
                go_ret2
                exact ⟨rfl, HB.out⟩
            · simp only [if_neg hbad] at HC
              have hF : X = (R, 0) := by rw [HX3.out, if_neg hbad]
              have HHC := Lib.hid HC
              clear HC HX3
              subst hF
              refine (tcaught_ok w2 46 _ (fun w' => Below a w w' ∧ w'.heap[x]? = some (.cells #[.string ⟨R.toArray⟩] 9 (0, 0))) HCF.out (HHC.out.mono ?_)).mono ?_
              · rintro e w' ⟨hg, rfl, hrb⟩
                exact ⟨rfl, noErr_grown hg (by have := HS2.out; omega), below_via (y := x) (HBW.out.alloc (by have := HS2.out; have := HAX.out; omega) _) hg (by have := HS2.out; have := HAX.out; simp; omega) (by have := HAX.out; omega), hrb⟩
              · rintro e w4 ⟨rfl, hB, hr⟩
                have cx : w4.cell? ⟨x, 0, none⟩ = some (.string ⟨R.toArray⟩) := cell_of_row _ _ _ _ _ _ hr
                have HB := Lib.hid hB
                clear hB HHC hr
                go_wp2
                go_ret2
                exact ⟨rfl, HB.out⟩
          · have hF : X = ([], O2) := by rw [HX2.out, HOO.out, if_pos ho]
            have e1 : (O2 == 0) = false := by simpa using ho
            have e2 : (O2 != 0) = true := by simpa using ho
            clear HX2
            subst hF
            go_wp2
            go_ret2
            exact ⟨rfl, HB4.out⟩
end Go.Proofs.YtjkofciohehgfaaGreatDoor.L11


