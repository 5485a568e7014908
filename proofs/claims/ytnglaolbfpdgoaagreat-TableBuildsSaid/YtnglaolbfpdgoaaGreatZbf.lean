/- Texts joined by bundle.py: Ta, Tb, Tc, Td, Te, Tn, Tf. -/
import Derived.Test.YtnglaolbfpdgoaaGreatZar
import Derived.Test.YtnglaolbfpdgoaaGreatZbe
import Derived.Laws.BitsAllLaws
import Derived.BigQuiet

/- leave, must, caught; the source that a text is; a piece of it. -/
namespace Go.Proofs.YtnglaolbfpdgoaaGreat
open Go.RowKit
open SK

/-- the panic by which reading, or writing, is left -/
def tfault (c : Int) : List PanicEntry := [{ v := .iface 95 (.int .i64 c), recovered := false }]

theorem tleave_ok (w : World) : Calls Tryz.prog 49 #[.int .i64 0] w fun e w' => e = .returned (.tuple #[]) ∧ w = w' := by
  go_enter Tryz.func49, Tryz.ntmps49
  go_wp2
  go_end0
  exact ⟨rfl, rfl⟩

theorem tleave_bad (c : Int) (w : World) (hc : c ≠ 0) : Calls Tryz.prog 49 #[.int .i64 c] w fun e w' => e = .panicked (tfault c) ∧ w = w' := by
  have h1 : (c == 0) = false := by simpa using hc
  have h2 : (c != 0) = true := by simpa using hc
  go_enter Tryz.func49, Tryz.ntmps49
  go_wp2
  exact ⟨rfl, rfl, rfl⟩

theorem must_ok (w : World) : Calls Tryz.prog 77 #[.bool true] w fun e w' => e = .returned (.tuple #[]) ∧ w = w' := by
  go_enter Tryz.func77, Tryz.ntmps77
  go_wp2
  go_end0
  exact ⟨rfl, rfl⟩

theorem must_bad (w : World) : Calls Tryz.prog 77 #[.bool false] w fun e w' => e = .panicked (tfault 4) ∧ w = w' := by
  go_enter Tryz.func77, Tryz.ntmps77
  go_wp2_with fail
  refine (tleave_bad 4 _ (by decide)).mono ?_
  rintro e w1 ⟨rfl, rfl⟩
  exact ⟨rfl, rfl, rfl⟩

theorem tfault_nil (c : Int) (w : World) : (binOp .eql 20 (.iface 95 (.int .i64 c)) .nilIface).run Tryz.prog w = .ok (.bool false) w := by
  have h : ∀ d : Nat, (Op.equalIn (d + 1) 20 (.iface 95 (.int .i64 c)) .nilIface).run Tryz.prog w = .ok false w := fun d => by
    simp [Op.equalIn, run_underlying Tryz.underlying20]
  simp only [binOp]
  simp [Op.equal, Op.maxDepth, h 9999]

theorem tfault_is (c : Int) (w : World) : (Instr.typeAssert (.iface 95 (.int .i64 c)) 20 95 true).run Tryz.prog w = .ok (.tuple #[.int .i64 c, .bool true]) w := by
  have hu := run_underlying (w := w) Tryz.underlying95
  simp [Instr.typeAssert, hu]

/-- the deferred closure, of a frame that a fault leaves -/
theorem tcatch_fault (p : Addr) (c : Int) (w : World) (hc : w.cell? p = some (.int .i64 0)) (hz : w.frozen? p = false) :
    CallsD Tryz.prog 47 #[.pointer (some p)] (.panicking (tfault c)) w fun e u' w' =>
      e = .returned (.tuple #[]) ∧ u' = .panicking [{ v := .iface 95 (.int .i64 c), recovered := true }] ∧ w' = w.setCell p (.int .i64 c) := by
  unfold tfault
  have heq := tfault_nil c
  have hta := tfault_is c
  refine callsD_of_wpS Tryz.func47 rfl fun c₀ cs hu => ?_
  apply wpS_seq
  apply wpS_region
  simp [wpOpsS, go_sem, recoverD, hu, Tryz.ntmps47, Exit.thenS]
  apply wpS_seq
  apply wpS_seq
  apply wpS_region
  simp [wpOpsS, go_sem, Exit.thenS, heq]
  refine wpS_cond (t := false) (by simp [Act.eval, Array.replicate]) ?_
  simp only [Bool.false_eq_true, if_false]
  refine wpS_of_wp (wp_skip ?_)
  apply wpS_seq
  apply wpS_region
  simp [wpOpsS, go_sem, Exit.thenS, hta]
  apply wpS_seq
  apply wpS_seq
  apply wpS_region
  simp [wpOpsS, go_sem, Exit.thenS]
  refine wpS_cond (t := false) (by simp [Act.eval, Array.replicate]) ?_
  simp only [Bool.false_eq_true, if_false]
  refine wpS_of_wp (wp_skip ?_)
  apply wpS_region
  simp [wpOpsS, go_sem, hc, hz, bodyPostS, results, Tryz.results47]

theorem tcatch_idle (p : Addr) (w : World) :
    CallsD Tryz.prog 47 #[.pointer (some p)] .returning w fun e u' w' => e = .returned (.tuple #[]) ∧ u' = .returning ∧ w' = w := by
  have heq : ∀ w, (binOp .eql 20 .nilIface .nilIface).run Tryz.prog w = .ok (.bool true) w := fun w => by kernel_rfl
  refine callsD_of_wpS Tryz.func47 rfl fun c₀ cs hu => ?_
  apply wpS_seq
  apply wpS_region
  simp [wpOpsS, go_sem, recoverD, hu, Tryz.ntmps47, Exit.thenS]
  apply wpS_seq
  apply wpS_seq
  apply wpS_region
  simp [wpOpsS, go_sem, Exit.thenS, heq]
  refine wpS_cond (t := true) (by simp [Act.eval, Array.replicate]) ?_
  simp only [if_true]
  refine wpS_of_wp (wp_ret ?_)
  cases c₀
  simp_all [bodyPostS, results, Tryz.results47, Exit.thenS]

theorem set_same {w : World} {b j : Nat} {u : Value} (h : w.cell? ⟨b, j, none⟩ = some u) : w.setCell ⟨b, j, none⟩ u = w := by
  obtain ⟨cs, ty, fr, hb, hj⟩ : ∃ cs ty fr, w.heap[b]? = some (.cells cs ty fr) ∧ cs[j]? = some u := by
    unfold World.cell? at h
    cases hh : w.heap[b]? with
    | none => simp [hh] at h
    | some o =>
      cases o with
      | cells cs ty fr => exact ⟨cs, ty, fr, rfl, by simpa [hh] using h⟩
      | _ => simp [hh] at h
  obtain ⟨heap, tape, drawn, os, output⟩ := w
  simp only [World.setCell, World.mk.injEq, and_true]
  simp only at hb
  apply Array.ext_getElem?
  intro i
  rw [Array.getElem?_modify]
  split
  · rename_i hi
    subst hi
    rw [hb]
    simp only [Option.map_some, Option.isSome_none, Bool.false_eq_true, if_false, Option.some.injEq, Obj.cells.injEq, and_true]
    apply Array.ext_getElem?
    intro i
    rw [Array.getElem?_setIfInBounds]
    split
    · rename_i hi
      subst hi
      rw [hj]
      split
      · rfl
      · rename_i hlt
        rw [Array.getElem?_eq_some_iff] at hj
        exact absurd hj.1 hlt
    · rfl
  · rfl


/-- the box of an error in w -/
def NoErr (w : World) (x : Nat) : Prop := w.heap[x]? = some (.cells #[.int .i64 0] 27 (0, 0))

set_option maxRecDepth 100000 in
set_option maxHeartbeats 1000000 in
/-- caught, of any closure that ends well -/
theorem tcaught_ok (w : World) (fn : FuncId) (caps : Array Value) (Q : World → Prop) (hcf : ∀ W, (callFunc fn caps).run Tryz.prog W = .ok (.enter fn caps) W)
    (h : Calls Tryz.prog fn caps (w.alloc (.cells #[.int .i64 0] 27)) fun e w' => e = .returned (.tuple #[]) ∧ NoErr w' w.heap.size ∧ Q w') :
    Calls Tryz.prog 21 #[.func (.func fn) #[] caps] w fun e w' => e = .returned (.int .i64 0) ∧ Q w' := by
  have hmf : ∀ (fn : Fn) (first cap : Array Value) (w : World), (Instr.makeFunc fn first cap).run Tryz.prog w = .ok (.func fn first cap) w := fun _ _ _ _ => rfl
  have HH := Lib.hid h
  clear h
  go_enter_defers Tryz.func21, Tryz.ntmps21
  go_wp2_with fail
  refine HH.out.mono ?_
  rintro e w1 ⟨rfl, hrow, hQ⟩
  obtain ⟨x, hx⟩ : ∃ x, w.heap.size = x := ⟨_, rfl⟩
  rw [hx] at hrow ⊢
  have hc : w1.cell? ⟨x, 0, none⟩ = some (.int .i64 0) := cell_of_row _ _ _ _ _ _ hrow
  have hf : w1.frozen? ⟨x, 0, none⟩ = false := frozen_of_row _ _ _ _ _ hrow
  have hrd : (w1.setCell ⟨x, 0, none⟩ (.int .i64 0)).cell? ⟨x, 0, none⟩ = some (.int .i64 0) := cell_of_row _ _ _ _ _ _ (heap_set_fr hrow 0 (.int .i64 0))
  have HRD := Lib.hid hrd
  have HQ : Hid (Q (w1.setCell ⟨x, 0, none⟩ (.int .i64 0))) := Lib.hid (by rw [set_same hc]; exact hQ)
  clear hrow hrd hQ
  go_wp2
  refine leaves_cons (f := 47) (args := #[.pointer (some ⟨x, 0, none⟩)]) (by simp) (by simp [go_sem]) ?_
  refine (tcatch_idle ⟨x, 0, none⟩ _).mono ?_
  rintro e u' w'' ⟨rfl, rfl, rfl⟩
  have hrd := HRD.out
  have hQ := HQ.out
  generalize w1.setCell ⟨x, 0, none⟩ (.int .i64 0) = w2 at hrd hQ ⊢
  simp only [Leaves, settle]
  exact ⟨_, by simp [results, Tryz.results21, go_sem, hrd], rfl, hQ⟩

set_option maxRecDepth 100000 in
set_option maxHeartbeats 1000000 in
/-- caught, of any closure that a fault leaves -/
theorem tcaught_bad (w : World) (fn : FuncId) (caps : Array Value) (c : Int) (Q : World → Prop) (hcf : ∀ W, (callFunc fn caps).run Tryz.prog W = .ok (.enter fn caps) W)
    (h : Calls Tryz.prog fn caps (w.alloc (.cells #[.int .i64 0] 27)) fun e w' => e = .panicked (tfault c) ∧ NoErr w' w.heap.size ∧ Q (w'.setCell ⟨w.heap.size, 0, none⟩ (.int .i64 c))) :
    Calls Tryz.prog 21 #[.func (.func fn) #[] caps] w fun e w' => e = .returned (.int .i64 c) ∧ Q w' := by
  have hmf : ∀ (fn : Fn) (first cap : Array Value) (w : World), (Instr.makeFunc fn first cap).run Tryz.prog w = .ok (.func fn first cap) w := fun _ _ _ _ => rfl
  have HH := Lib.hid h
  clear h
  go_enter_defers Tryz.func21, Tryz.ntmps21
  go_wp2_with fail
  refine HH.out.mono ?_
  rintro e w1 ⟨rfl, hrow, hQ⟩
  obtain ⟨x, hx⟩ : ∃ x, w.heap.size = x := ⟨_, rfl⟩
  rw [hx] at hrow hQ ⊢
  have hrd : (w1.setCell ⟨x, 0, none⟩ (.int .i64 c)).cell? ⟨x, 0, none⟩ = some (.int .i64 c) := cell_of_row _ _ _ _ _ _ (heap_set_fr hrow 0 (.int .i64 c))
  refine leaves_cons (f := 47) (args := #[.pointer (some ⟨x, 0, none⟩)]) (by simp) (by simp [go_sem]) ?_
  refine (tcatch_fault ⟨x, 0, none⟩ c _ (cell_of_row _ _ _ _ _ _ hrow) (frozen_of_row _ _ _ _ _ hrow)).mono ?_
  rintro e u' w'' ⟨rfl, rfl, rfl⟩
  generalize w1.setCell ⟨x, 0, none⟩ (.int .i64 c) = w2 at hrd hQ ⊢
  simp [Leaves, settle, results, Tryz.results21, go_sem, hrd, hQ]

/-! ### a piece of a text -/

def codeV (x : Except Int TB.Bs) : Value :=
  match x with
  | .error c => .tuple #[.string ⟨#[]⟩, .int .i64 c]
  | .ok p => .tuple #[.string ⟨p.toArray⟩, .int .i64 0]

theorem part_range {s : TB.Bs} {a n c : Int} (h : TB.part s a n = .error c) : c = 2 := by
  unfold TB.part at h
  split at h
  · simpa using h.symm
  · cases h

set_option maxRecDepth 100000 in
theorem part_any (s : ByteArray) (a n : Int) (w : World) (hs : s.size ≤ 281474976710656) (ha0 : -9223372036854775808 ≤ a) (ha1 : a ≤ 9223372036854775807) (hn0 : -9223372036854775808 ≤ n) (hn1 : n ≤ 9223372036854775807) :
    Calls Tryz.prog 64 #[.string s, .int .i64 a, .int .i64 n] w fun e w' => e = .returned (codeV (TB.part s.data.toList a n)) ∧ w = w' := by
  unfold TB.part
  rw [size_list]
  by_cases h1 : a < 0
  · rw [if_pos (by omega)]
    have d1 : decide (a < 0) = true := by simpa using h1
    go_enter Tryz.func64, Tryz.ntmps64
    go_wp2
    go_ret2
    exact ⟨rfl, rfl⟩
  · have d1 : decide (a < 0) = false := by simpa using h1
    by_cases h2 : n < 0
    · rw [if_pos (by omega)]
      have d2 : decide (n < 0) = true := by simpa using h2
      go_enter Tryz.func64, Tryz.ntmps64
      go_wp2
      go_ret2
      exact ⟨rfl, rfl⟩
    · have d2 : decide (n < 0) = false := by simpa using h2
      by_cases h3 : (s.size : Int) < a
      · rw [if_pos (by omega)]
        have d3 : decide ((s.size : Int) < a) = true := by simpa using h3
        go_enter Tryz.func64, Tryz.ntmps64
        go_wp2
        go_ret2
        exact ⟨rfl, rfl⟩
      · have d3 : decide ((s.size : Int) < a) = false := by simpa using h3
        have hw1 : IntKind.i64.wrap ((s.size : Int) - a) = (s.size : Int) - a := IntWalk.i64_in _ ⟨by omega, by omega⟩
        by_cases h4 : (s.size : Int) - a < n
        · rw [if_pos (by omega)]
          have d4 : decide ((s.size : Int) - a < n) = true := by simpa using h4
          go_enter Tryz.func64, Tryz.ntmps64
          go_wp2
          go_ret2
          exact ⟨rfl, rfl⟩
        · rw [if_neg (by omega)]
          have d4 : decide ((s.size : Int) - a < n) = false := by simpa using h4
          have hw2 : IntKind.i64.wrap (a + n) = a + n := IntWalk.i64_in _ ⟨by omega, by omega⟩
          have hsl := fun W => F3.str_slice W s a.toNat (a + n).toNat a (a + n) (by omega) (by omega) (by omega) (by omega)
          have hr : (⟨((s.data.toList.drop a.toNat).take n.toNat).toArray⟩ : ByteArray) = s.extract a.toNat (a + n).toNat := by
            apply str_ext
            rw [Lib.extract_data, show (a + n).toNat - a.toNat = n.toNat by omega]
          have HR := Lib.hid hr
          clear hr
          go_enter Tryz.func64, Tryz.ntmps64
          go_wp2
          go_ret2
          refine ⟨?_, rfl⟩
          show _ = Ending.returned (.tuple #[.string ⟨((s.data.toList.drop a.toNat).take n.toNat).toArray⟩, .int .i64 0])
          rw [HR.out]
          rfl

/-! ### the source -/

def srcV (b : Nat) : Value := .func (.func 63) #[] #[.pointer (some ⟨b, 0, none⟩)]

theorem source_any (s : ByteArray) (w : World) :
    Calls Tryz.prog 30 #[.string s] w fun e w' => e = .returned (srcV w.heap.size) ∧ w'.heap[w.heap.size]? = some (.cells #[.string s] 9 (0, 0)) ∧ Below w.heap.size w w' := by
  have hmf : ∀ (fn : Fn) (first cap : Array Value) (w : World), (Instr.makeFunc fn first cap).run Tryz.prog w = .ok (.func fn first cap) w := fun _ _ _ _ => rfl
  have HN := Lib.hid (heap_alloc_new w (.cells #[.string s] 9))
  have HB := Lib.hid ((Below.refl _ w).alloc (Nat.le_refl _) (.cells #[.string s] 9))
  go_enter Tryz.func30, Tryz.ntmps30
  go_wp2
  go_ret
  exact ⟨rfl, HN.out, HB.out⟩

set_option maxRecDepth 100000 in
theorem src_any (b : Nat) (s : ByteArray) (a n : Int) (w : World) (hb : w.cell? ⟨b, 0, none⟩ = some (.string s)) (hs : s.size ≤ 281474976710656) (ha0 : -9223372036854775808 ≤ a) (ha1 : a ≤ 9223372036854775807) (hn0 : -9223372036854775808 ≤ n) (hn1 : n ≤ 9223372036854775807) :
    Calls Tryz.prog 63 #[.int .i64 a, .int .i64 n, .pointer (some ⟨b, 0, none⟩)] w fun e w' => e = .returned (codeV (TB.part s.data.toList a n)) ∧ w = w' := by
  have HP := Lib.hid (fun W => part_any s a n W hs ha0 ha1 hn0 hn1)
  cases hx : TB.part s.data.toList a n with
  | error c =>
    rw [hx] at HP
    have HP2 : Hid (∀ W, Calls Tryz.prog 64 #[.string s, .int .i64 a, .int .i64 n] W fun e w' => e = .returned (.tuple #[.string ⟨#[]⟩, .int .i64 c]) ∧ W = w') := Lib.hid HP.out
    clear hx HP
    go_enter Tryz.func63, Tryz.ntmps63
    go_wp2_with fail
    refine (HP2.out _).mono ?_
    rintro e w1 ⟨rfl, rfl⟩
    go_wp2
    go_ret2
    exact ⟨rfl, rfl⟩
  | ok p =>
    rw [hx] at HP
    have HP2 : Hid (∀ W, Calls Tryz.prog 64 #[.string s, .int .i64 a, .int .i64 n] W fun e w' => e = .returned (.tuple #[.string ⟨p.toArray⟩, .int .i64 0]) ∧ W = w') := Lib.hid HP.out
    clear hx HP
    go_enter Tryz.func63, Tryz.ntmps63
    go_wp2_with fail
    refine (HP2.out _).mono ?_
    rintro e w1 ⟨rfl, rfl⟩
    go_wp2
    go_ret2
    exact ⟨rfl, rfl⟩
end Go.Proofs.YtnglaolbfpdgoaaGreat

/- A table in memory, its spans; the body of a frame. -/
namespace Go.Proofs.YtnglaolbfpdgoaaGreat
open Go.RowKit
open SK
open TB (Bs Sp)

/-! ### spans -/

def TB.Sp.cells (s : TB.Sp) : List Value := [.string s.last, .int .i64 s.at_, .int .i64 s.n]
def TB.Sp.val (s : TB.Sp) : Value := .agg #[.string s.last, .int .i64 s.at_, .int .i64 s.n]
/-- sizes that a machine has -/
def TB.Sp.wf (s : TB.Sp) : Prop := s.last.size ≤ 65535 ∧ s.at_ ≤ 281474976710656 ∧ s.n ≤ 281474976710656

/-- spans that lie in memory -/
structure SpsIn (w : World) (A : Option Addr) (ss : List Sp) : Prop where
  wf : ∀ s ∈ ss, s.wf
  at_ : 0 < ss.length → ∃ b off, A = some ⟨b, off, none⟩ ∧ b < w.heap.size ∧ ∀ j, (h : j < ss.length) →
    w.cell? ⟨b, off + j * 3, none⟩ = some (.string ss[j].last) ∧ w.cell? ⟨b, off + j * 3 + 1, none⟩ = some (.int .i64 ss[j].at_) ∧ w.cell? ⟨b, off + j * 3 + 2, none⟩ = some (.int .i64 ss[j].n)

theorem SpsIn.grown {w w' : World} {A : Option Addr} {ss : List Sp} {r : Option Nat} (h : SpsIn w A ss) (hg : w.grownBy w' r) (hr : ∀ x ∈ fb A, some x ≠ r) : SpsIn w' A ss :=
  ⟨h.wf, fun hn => by
    obtain ⟨b, off, rfl, hlt, hc⟩ := h.at_ hn
    have hb : w'.heap[b]? = w.heap[b]? := hg.block b hlt (hr b (by simp [fb]))
    have hcell : ∀ o, w'.cell? ⟨b, o, none⟩ = w.cell? ⟨b, o, none⟩ := fun o => by simp only [World.cell?, hb]
    refine ⟨b, off, rfl, Nat.lt_of_lt_of_le hlt hg.size, fun j hj => ?_⟩
    obtain ⟨c0, c1, c2⟩ := hc j hj
    exact ⟨(hcell _).trans c0, (hcell _).trans c1, (hcell _).trans c2⟩⟩
theorem SpsIn.below {w w' : World} {A : Option Addr} {ss : List Sp} (h : SpsIn w A ss) (hb : Below w.heap.size w w') : SpsIn w' A ss := h.grown (r := none) (grown_below hb) (by simp)

def scs (l : List Sp) : List Value := l.flatMap TB.Sp.cells
theorem scs_len (l : List Sp) : (scs l).length = l.length * 3 := by
  induction l with
  | nil => rfl
  | cons p r ih => show (p.cells ++ scs r).length = _; rw [List.length_append, ih, List.length_cons]; simp [TB.Sp.cells]; omega
theorem scs_snoc (l : List Sp) (p : Sp) : scs (l ++ [p]) = scs l ++ p.cells := by simp [scs]
theorem scs_at : ∀ (l : List Sp) (j : Nat) (h : j < l.length) (i : Nat), i < 3 → (scs l)[j * 3 + i]? = (l[j]).cells[i]?
  | p :: r, 0, _, i, hi => by
    show (p.cells ++ scs r)[0 * 3 + i]? = _
    rw [List.getElem?_append_left (by simp [TB.Sp.cells]; omega)]
    simp
  | p :: r, j + 1, h, i, hi => by
    have := scs_at r j (by simpa using h) i hi
    show (p.cells ++ scs r)[(j + 1) * 3 + i]? = _
    rw [List.getElem?_append_right (by simp [TB.Sp.cells]; omega)]
    simp only [List.getElem_cons_succ]
    rw [← this]
    congr 1
    simp [TB.Sp.cells]
    omega

theorem own_sps {w : World} {base : Nat} {e : TypeId} {v : Value} {n : Nat} {l : List Sp} (hw : ∀ x ∈ l, x.wf) (hn : l.length = n) (h : w.ownsRow base e 3 v n (scs l)) :
    ∃ A c, v = .slice A n c ∧ SpsIn w A l ∧ (∀ x ∈ fb A, base ≤ x ∧ x < w.heap.size) ∧ n ≤ c := by
  subst hn
  have h' := h
  rcases h.2 with ⟨rfl, h0⟩ | ⟨g, cap, cur, rfl, hbg, hg, hnc, _, _, _⟩
  · exact ⟨none, 0, by rw [h0], ⟨hw, fun hn => by omega⟩, by simp [fb], by omega⟩
  · have hlt := (Array.getElem?_eq_some_iff.1 hg).1
    refine ⟨some ⟨g, 0, none⟩, cap, rfl, ⟨hw, fun _ => ⟨g, 0, rfl, hlt, fun j hj => ?_⟩⟩, by simp [fb]; exact ⟨hbg, hlt⟩, hnc⟩
    have hcell : ∀ i x, i < 3 → (l[j]).cells[i]? = some x → w.cell? ⟨g, 0 + j * 3 + i, none⟩ = some x := by
      intro i x hi hx
      have hc := h'.cells (g := g) rfl (j * 3 + i) x (by rw [scs_at l j hj i hi]; exact hx)
      rw [addr_add0] at hc
      rw [Nat.zero_add]
      exact hc
    exact ⟨hcell 0 _ (by omega) rfl, hcell 1 _ (by omega) rfl, hcell 2 _ (by omega) rfl⟩

/-! ### a table -/

/-- a table in block t over the bytes in box x -/
structure Tab (w : World) (t x : Nat) (s : ByteArray) (ss : List Sp) (fl : ByteArray) : Prop where
  row : ∃ A c, w.heap[t]? = some (.cells #[srcV x, .slice A ss.length c, .string fl] 84 (0, 0)) ∧ SpsIn w A ss
  src : w.heap[x]? = some (.cells #[.string s] 9 (0, 0))
  srt : ss.Pairwise fun a b => TB.lt b.last a.last = false
  len : ss.length ≤ 65535

theorem Tab.below {w w' : World} {t x : Nat} {s : ByteArray} {ss : List Sp} {fl : ByteArray} (h : Tab w t x s ss fl) (hb : Below w.heap.size w w') : Tab w' t x s ss fl := by
  obtain ⟨⟨A, c, h1, h2⟩, h3, h4, h5⟩ := h
  exact ⟨⟨A, c, (hb.block t (Array.getElem?_eq_some_iff.1 h1).1).trans h1, h2.below hb⟩, (hb.block x (Array.getElem?_eq_some_iff.1 h3).1).trans h3, h4, h5⟩

/-! ### a body -/

theorem vget0 (p : Bs) : F3.vget p 0 = if (F3.FM.get p).2.2 = 0 then ((F3.FM.get p).1, ((F3.FM.get p).2.1 : Int), 0) else ([], 0, (F3.FM.get p).2.2) := by
  have h := F3.vget_nat (l := p) (k := 0) (by omega)
  simpa using h

theorem TB.one_ok {p b : Bs} {n : Int} (h : TB.one p n = .ok b) : b.length ≤ 65535 ∧ 8 + (b.length : Int) = n ∧ F3.FM.get p = (b, 8 + b.length, 0) := by
  unfold TB.one at h
  rw [vget0] at h
  by_cases h0 : (F3.FM.get p).2.2 = 0
  · simp only [h0, if_true, ne_eq, not_true_eq_false, if_false] at h
    split at h
    · cases h
    · rename_i h1
      simp only [Except.ok.injEq] at h
      obtain ⟨b', m, c, hg⟩ : ∃ b m c, F3.FM.get p = (b, m, c) := ⟨_, _, _, rfl⟩
      rw [hg] at h0 h1 h ⊢
      simp only at h0 h1 h
      subst h0; subst h
      obtain ⟨hm, hb, -⟩ := F3.FM.get_ok hg
      obtain ⟨h8, hl, hv, -, -⟩ := F3.FM.meas_ok hm
      have a0 := F3.FM.at_lt p 0
      have a1 := F3.FM.at_lt p 1
      have hbl : b'.length = m - 8 := by rw [hb, List.length_take, List.length_drop]; omega
      exact ⟨by omega, by omega, by simp only [Prod.mk.injEq, and_true, true_and]; omega⟩
  · simp only [h0, if_false, ne_eq, not_false_eq_true, if_true] at h
    cases h

theorem TB.bodyOf_ok {s b : Bs} {a n : Int} (h : TB.bodyOf s a n = .ok b) : b.length ≤ 65535 ∧ 8 + (b.length : Int) = n ∧ 0 ≤ a ∧ a + n ≤ s.length := by
  unfold TB.bodyOf TB.part at h
  split at h
  · cases h
  · rename_i h1
    obtain ⟨h2, h3, -⟩ := TB.one_ok h
    exact ⟨h2, h3, by omega, by omega⟩

theorem TB.one_err {p : Bs} {n c : Int} (h : TB.one p n = .error c) : c ≠ 0 := by
  unfold TB.one at h
  split at h
  · rename_i h0; simp only [Except.error.injEq] at h; rw [← h]; exact h0
  · split at h
    · simp only [Except.error.injEq] at h; rw [← h]; decide
    · cases h
theorem TB.bodyOf_err {s : Bs} {a n c : Int} (h : TB.bodyOf s a n = .error c) : c ≠ 0 := by
  unfold TB.bodyOf at h
  cases hp : TB.part s a n with
  | error d => rw [hp] at h; simp only [TB.one', Except.error.injEq] at h; rw [← h, part_range hp]; decide
  | ok p => rw [hp] at h; exact TB.one_err h

/-- what a reading comes to: a text, or a fault -/
def TextOr (w : World) (x : Except Int Bs) (e : Ending) (w' : World) : Prop :=
  Below w.heap.size w w' ∧ match x with
    | .ok b => e = .returned (.string ⟨b.toArray⟩)
    | .error c => e = .panicked (tfault c)

set_option maxRecDepth 100000 in
set_option maxHeartbeats 1000000 in
theorem tbody_any (t x : Nat) (s : ByteArray) (a n : Int) (w : World) (ht : w.cell? ⟨t, 0, none⟩ = some (srcV x)) (hx : w.cell? ⟨x, 0, none⟩ = some (.string s)) (hs : s.size ≤ 281474976710656) (ha0 : -9223372036854775808 ≤ a) (ha1 : a ≤ 9223372036854775807) (hn0 : -9223372036854775808 ≤ n) (hn1 : n ≤ 9223372036854775807) :
    Calls Tryz.prog 40 #[.pointer (some ⟨t, 0, none⟩), .int .i64 a, .int .i64 n] w fun e w' => TextOr w (TB.bodyOf s.data.toList a n) e w' := by
  have HS := Lib.hid (fun W (h : W.cell? ⟨x, 0, none⟩ = some (.string s)) => src_any x s a n W h hs ha0 ha1 hn0 hn1)
  have HSS := Lib.hid hs
  unfold srcV at ht
  clear hs
  unfold TB.bodyOf
  cases hp : TB.part s.data.toList a n with
  | error c =>
    have hc := part_range hp
    subst hc
    have HS2 : Hid (∀ W, W.cell? ⟨x, 0, none⟩ = some (.string s) → Calls Tryz.prog 63 #[.int .i64 a, .int .i64 n, .pointer (some ⟨x, 0, none⟩)] W fun e w' => e = .returned (.tuple #[.string ⟨#[]⟩, .int .i64 2]) ∧ W = w') := Lib.hid (by intro W h; have := HS.out W h; rw [hp] at this; exact this)
    clear hp HS
    go_enter Tryz.func40, Tryz.ntmps40
    go_wp2_with fail
    refine (HS2.out _ hx).mono ?_
    rintro e w1 ⟨rfl, rfl⟩
    go_wp2_with fail
    refine (tleave_bad 2 _ (by decide)).mono ?_
    rintro e w1 ⟨rfl, rfl⟩
    exact ⟨rfl, Below.refl _ _, rfl⟩
  | ok p =>
    have HS2 : Hid (∀ W, W.cell? ⟨x, 0, none⟩ = some (.string s) → Calls Tryz.prog 63 #[.int .i64 a, .int .i64 n, .pointer (some ⟨x, 0, none⟩)] W fun e w' => e = .returned (.tuple #[.string ⟨p.toArray⟩, .int .i64 0]) ∧ W = w') := Lib.hid (by intro W h; have := HS.out W h; rw [hp] at this; exact this)
    have hpl : p.length ≤ 281474976710656 := by
      unfold TB.part at hp
      split at hp
      · cases hp
      · simp only [Except.ok.injEq] at hp
        have := HSS.out
        rw [← hp, List.length_take, List.length_drop, size_list]
        omega
    have HG0 := Lib.hid (fun W => F3.get_any ⟨p.toArray⟩ 0 W (by show p.toArray.size ≤ _; rw [List.size_toArray]; exact hpl) (by omega) (by omega))
    clear hp HS hpl
    obtain ⟨b, m, c, hv⟩ : ∃ b m c, F3.vget p 0 = (b, m, c) := ⟨_, _, _, rfl⟩
    have HG : Hid (∀ W, Calls Tryz.prog 76 #[.string ⟨p.toArray⟩, .int .i64 0] W fun e w' => e = .returned (.tuple #[.string ⟨b.toArray⟩, .int .i64 m, .int .i64 c]) ∧ Below W.heap.size W w') := Lib.hid (fun W => (HG0.out W).mono fun e w' h => ⟨by have h1 := h.1; unfold F3.getOut at h1; simp only [hv] at h1; exact h1, h.2⟩)
    clear HG0
    by_cases hc : c = 0
    · subst hc
      by_cases hm : m = n
      · subst hm
        have HX : Hid (TB.one p m = .ok b) := Lib.hid (by unfold TB.one; rw [hv]; simp)
        clear hv
        go_enter Tryz.func40, Tryz.ntmps40
        go_wp2_with fail
        refine (HS2.out _ hx).mono ?_
        rintro e w1 ⟨rfl, rfl⟩
        go_wp2_with fail
        refine (tleave_ok _).mono ?_
        rintro e w1 ⟨rfl, rfl⟩
        go_wp2_with fail
        refine (HG.out _).mono ?_
        rintro e w1 ⟨rfl, hb⟩
        go_wp2_with fail
        refine (tleave_ok _).mono ?_
        rintro e w2 ⟨rfl, rfl⟩
        go_wp2_with fail
        refine (must_ok _).mono ?_
        rintro e w2 ⟨rfl, rfl⟩
        go_wp2
        go_ret
        refine ⟨hb, ?_⟩
        simp only [TB.one', HX.out]
        rfl
      · have HX : Hid (TB.one p n = .error 4) := Lib.hid (by unfold TB.one; rw [hv]; simp [hm])
        have hmn : (m == n) = false := by simpa using hm
        clear hv
        go_enter Tryz.func40, Tryz.ntmps40
        go_wp2_with fail
        refine (HS2.out _ hx).mono ?_
        rintro e w1 ⟨rfl, rfl⟩
        go_wp2_with fail
        refine (tleave_ok _).mono ?_
        rintro e w1 ⟨rfl, rfl⟩
        go_wp2_with fail
        refine (HG.out _).mono ?_
        rintro e w1 ⟨rfl, hb⟩
        go_wp2_with fail
        refine (tleave_ok _).mono ?_
        rintro e w2 ⟨rfl, rfl⟩
        go_wp2_with fail
        refine (must_bad _).mono ?_
        rintro e w2 ⟨rfl, rfl⟩
        refine ⟨rfl, hb, ?_⟩
        simp only [TB.one', HX.out]
    · have HX : Hid (TB.one p n = .error c) := Lib.hid (by unfold TB.one; rw [hv]; simp [hc])
      clear hv
      go_enter Tryz.func40, Tryz.ntmps40
      go_wp2_with fail
      refine (HS2.out _ hx).mono ?_
      rintro e w1 ⟨rfl, rfl⟩
      go_wp2_with fail
      refine (tleave_ok _).mono ?_
      rintro e w1 ⟨rfl, rfl⟩
      go_wp2_with fail
      refine (HG.out _).mono ?_
      rintro e w1 ⟨rfl, hb⟩
      go_wp2_with fail
      refine (tleave_bad c _ hc).mono ?_
      rintro e w2 ⟨rfl, rfl⟩
      refine ⟨rfl, hb, ?_⟩
      simp only [TB.one', HX.out]
end Go.Proofs.YtnglaolbfpdgoaaGreat

/- A place in the foot; both places. -/
namespace Go.Proofs.YtnglaolbfpdgoaaGreat
open Go.RowKit
open SK
open TB (Bs Sp)

theorem big_snoc (l : Bs) (k : Nat) (h : k < l.length) : TB.big (l.take (k + 1)) = TB.big (l.take k) * 256 + l[k].toNat := by
  unfold TB.big
  rw [List.take_succ_eq_append_getElem h, List.foldl_append]
  rfl
theorem big_lt (l : Bs) : ∀ k, k ≤ l.length → TB.big (l.take k) < 256 ^ k
  | 0, _ => by simp [TB.big]
  | k + 1, h => by
    have h1 := big_lt l k (by omega)
    have h2 := (l[k]'(by omega)).toNat_lt
    rw [big_snoc l k (by omega), Nat.pow_succ]
    omega
theorem big_lt8 (l : Bs) (h : l.length ≤ 8) : TB.big l < 18446744073709551616 := by
  have h1 := big_lt l l.length (Nat.le_refl _)
  rw [List.take_length] at h1
  have h2 : 256 ^ l.length ≤ 256 ^ 8 := Nat.pow_le_pow_right (by decide) h
  omega

theorem or_add (R c : Nat) (h : c < 256) : R * 256 ||| c = R * 256 + c := by
  have := Nat.two_pow_add_eq_or_of_lt (i := 8) (b := c) (by omega) R
  rw [show 2 ^ 8 * R = R * 256 by omega] at this
  exact this.symm

set_option maxRecDepth 100000 in
theorem place_any (s : ByteArray) (w : World) (hs : s.size = 8) :
    Calls Tryz.prog 100 #[.string s] w fun e w' => e = .returned (.int .u64 (TB.big s.data.toList : Nat)) ∧ w = w' := by
  have HSL := Lib.hid (size_list s)
  go_enter Tryz.func100, Tryz.ntmps100
  go_wp2
  go_loop [3, 7] (fun r i => ∃ (k R : Nat), k ≤ 8 ∧ i = .int .i64 k ∧ r = .int .u64 R ∧ Hid (TB.big (s.data.toList.take k) = R)) (fun _ i => 8 - (intOf i).toNat)
  case atStart => exact ⟨0, 0, by omega, rfl, rfl, Lib.hid rfl⟩
  case round =>
    obtain ⟨k, R, hk, rfl, rfl, HR⟩ := hrel
    by_cases hlt : k < 8
    · have hlt2 : k < s.size := by omega
      have hst := big_snoc s.data.toList k (by rw [HSL.out]; omega)
      rw [byte_of s k hlt2, HR.out] at hst
      have hRl := big_lt s.data.toList k (by rw [HSL.out]; omega)
      rw [HR.out] at hRl
      have hp : 256 ^ k ≤ 256 ^ 7 := Nat.pow_le_pow_right (by decide) (by omega)
      have hRs : R < 72057594037927936 := by omega
      obtain ⟨c, hc⟩ : ∃ c, s[k] = c := ⟨_, rfl⟩
      rw [hc] at hst
      have hcl := c.toNat_lt
      have hx : bits .or .u64 ((R * 256 : Nat) : Int) (c.toNat : Int) = ((R * 256 + c.toNat : Nat) : Int) := by rw [u64_or_nat _ _ (by omega) (by omega), or_add _ _ (by omega)]
      have hx2 : bits .or .u64 ((R : Int) * 256) (c.toNat : Int) = ((R * 256 + c.toNat : Nat) : Int) := by rw [← hx]; rfl
      have HC : Hid (IntKind.u64.wrap (s[k].toNat : Int) = (c.toNat : Int)) := by rw [hc]; exact Lib.hid (by rw [IntKind.wrap_u64]; omega)
      have HM : Hid (IntKind.u64.wrap ((R : Int) * 256) = (R : Int) * 256) := Lib.hid (by rw [IntKind.wrap_u64]; omega)
      have HST := Lib.hid hst
      clear hst hc HR hRl hp hRs
      go_wp2
      go_round
      case rel => exact ⟨k + 1, R * 256 + c.toNat, by omega, by go_num, by rw [HC.out]; first | rw [hx2] | rw [HM.out, hx2], HST⟩
      case measure => simp [intOf]; omega
    · obtain rfl : k = 8 := by omega
      have htk : s.data.toList.take 8 = s.data.toList := List.take_of_length_le (by rw [HSL.out]; omega)
      rw [htk] at HR
      go_wp2
      go_ret
      exact ⟨by rw [HR.out]; rfl, rfl⟩

set_option maxRecDepth 100000 in
set_option maxHeartbeats 1000000 in
theorem places_any (s : ByteArray) (z : Nat) (w : World) (hs : s.size = 16) (hz : z ≤ 281474976710656) :
    Calls Tryz.prog 74 #[.string s, .int .i64 z] w fun e w' => Below w.heap.size w w' ∧
      if TB.big (s.data.toList.take 8) ≤ TB.big (s.data.toList.drop 8) ∧ TB.big (s.data.toList.drop 8) ≤ z then e = .returned (.tuple #[.int .i64 (TB.big (s.data.toList.take 8) : Nat), .int .i64 (TB.big (s.data.toList.drop 8) : Nat)])
      else e = .panicked (tfault 4) := by
  have hl1 : (s.extract 0 8).data.toList = s.data.toList.take 8 := by rw [Lib.extract_data, List.drop_zero]
  have hl2 : (s.extract 8 s.size).data.toList = s.data.toList.drop 8 := by rw [Lib.extract_data, List.take_of_length_le (by rw [List.length_drop, size_list]; omega)]
  have hp1 := fun W => place_any (s.extract 0 8) W (by rw [ByteArray.size_extract]; omega)
  have hp2 := fun W => place_any (s.extract 8 s.size) W (by rw [ByteArray.size_extract]; omega)
  rw [hl1] at hp1
  rw [hl2] at hp2
  have hb1 := big_lt8 (s.data.toList.take 8) (by rw [List.length_take]; omega)
  have hb2 := big_lt8 (s.data.toList.drop 8) (by rw [List.length_drop, size_list]; omega)
  have hs1 : ∀ W, (Instr.slice 9 (.string s) none (some (.int .i64 8)) none).run Tryz.prog W = .ok (.string (s.extract 0 8)) W := fun W => str_head W s 8 (by omega)
  have hs2 : ∀ W, (Instr.slice 9 (.string s) (some (.int .i64 8)) none none).run Tryz.prog W = .ok (.string (s.extract 8 s.size)) W := fun W => str_tail W s 8 (by omega)
  clear hl1 hl2
  generalize s.extract 0 8 = S1 at hp1 hs1
  generalize s.extract 8 s.size = S2 at hp2 hs2
  obtain ⟨X, hX⟩ : ∃ X, TB.big (s.data.toList.take 8) = X := ⟨_, rfl⟩
  obtain ⟨Y, hY⟩ : ∃ Y, TB.big (s.data.toList.drop 8) = Y := ⟨_, rfl⟩
  rw [hX] at hp1 hb1 ⊢
  rw [hY] at hp2 hb2 ⊢
  have HP1 : Hid (∀ W, Calls Tryz.prog 100 #[.string S1] W fun e w' => e = .returned (.int .u64 (X : Nat)) ∧ w' = W) := Lib.hid fun W => (hp1 W).mono fun e w' h => ⟨h.1, h.2.symm⟩
  have HP2 : Hid (∀ W, Calls Tryz.prog 100 #[.string S2] W fun e w' => e = .returned (.int .u64 (Y : Nat)) ∧ w' = W) := Lib.hid fun W => (hp2 W).mono fun e w' h => ⟨h.1, h.2.symm⟩
  have hwz : IntKind.u64.wrap (z : Int) = (z : Int) := by rw [IntKind.wrap_u64]; omega
  have hsz := Lib.hid hs
  clear hX hY hp1 hp2 hs
  by_cases h1 : X ≤ Y
  · have d1 : decide ((X : Int) ≤ (Y : Int)) = true := by simpa using h1
    have d1' : decide (X ≤ Y) = true := by simpa using h1
    by_cases h2 : Y ≤ z
    · have d2 : decide ((Y : Int) ≤ (z : Int)) = true := by simpa using h2
      have d2' : decide (Y ≤ z) = true := by simpa using h2
      have w1 : IntKind.i64.wrap (X : Int) = (X : Int) := IntWalk.i64_in _ ⟨by omega, by omega⟩
      have w2 : IntKind.i64.wrap (Y : Int) = (Y : Int) := IntWalk.i64_in _ ⟨by omega, by omega⟩
      simp only [if_pos (show X ≤ Y ∧ Y ≤ z from ⟨h1, h2⟩)]
      go_enter Tryz.func74, Tryz.ntmps74
      go_wp2_with fail
      go_quiet ((first | (go_at_call 100; with_reducible exact Calls.quiet_of_same (HP1.out _)) | (go_at_call 100; with_reducible exact Calls.quiet_of_same (HP2.out _)) | fail))
      go_wp2_with fail
      refine (must_ok _).mono ?_
      rintro e w1 ⟨rfl, rfl⟩
      go_wp2
      go_ret2
      exact ⟨below_drewN (Below.refl _ _) _, rfl⟩
    · have d2 : decide ((Y : Int) ≤ (z : Int)) = false := by simpa using h2
      have d2' : decide (Y ≤ z) = false := by simpa using h2
      simp only [if_neg (show ¬ (X ≤ Y ∧ Y ≤ z) by omega)]
      go_enter Tryz.func74, Tryz.ntmps74
      go_wp2_with fail
      go_quiet ((first | (go_at_call 100; with_reducible exact Calls.quiet_of_same (HP1.out _)) | (go_at_call 100; with_reducible exact Calls.quiet_of_same (HP2.out _)) | fail))
      go_wp2_with fail
      refine (must_bad _).mono ?_
      rintro e w1 ⟨rfl, rfl⟩
      exact ⟨rfl, below_drewN (Below.refl _ _) _, rfl⟩
  · have d1 : decide ((X : Int) ≤ (Y : Int)) = false := by simpa using h1
    have d1' : decide (X ≤ Y) = false := by simpa using h1
    simp only [if_neg (show ¬ (X ≤ Y ∧ Y ≤ z) by omega)]
    go_enter Tryz.func74, Tryz.ntmps74
    go_wp2_with fail
    go_quiet ((first | (go_at_call 100; with_reducible exact Calls.quiet_of_same (HP1.out _)) | (go_at_call 100; with_reducible exact Calls.quiet_of_same (HP2.out _)) | fail))
    go_wp2_with fail
    refine (must_bad _).mono ?_
    rintro e w1 ⟨rfl, rfl⟩
    exact ⟨rfl, below_drewN (Below.refl _ _) _, rfl⟩
end Go.Proofs.YtnglaolbfpdgoaaGreat

/- The closures by which an index is read: a number, a text. -/
namespace Go.Proofs.YtnglaolbfpdgoaaGreat
open Go.RowKit
open SK
open TB (Bs Sp)

/-- the bytes in box x, the place in box y -/
structure Rd2 (w : World) (x y : Nat) (s : ByteArray) (p : Nat) : Prop where
  b0 : w.heap[x]? = some (.cells #[.string s] 9 (0, 0))
  b1 : w.heap[y]? = some (.cells #[.int .i64 p] 3 (0, 0))
  ne : x ≠ y

section
variable {w w' : World} {x y p : Nat} {s : ByteArray}
theorem Rd2.lt0 (h : Rd2 w x y s p) : x < w.heap.size := (Array.getElem?_eq_some_iff.1 h.b0).1
theorem Rd2.lt1 (h : Rd2 w x y s p) : y < w.heap.size := (Array.getElem?_eq_some_iff.1 h.b1).1
theorem Rd2.c0 (h : Rd2 w x y s p) : w.cell? ⟨x, 0, none⟩ = some (.string s) := cell_of_row _ _ _ _ _ _ h.b0
theorem Rd2.c1 (h : Rd2 w x y s p) : w.cell? ⟨y, 0, none⟩ = some (.int .i64 p) := cell_of_row _ _ _ _ _ _ h.b1
theorem Rd2.f1 (h : Rd2 w x y s p) : w.frozen? ⟨y, 0, none⟩ = false := frozen_of_row _ _ _ _ _ h.b1
theorem Rd2.set (h : Rd2 w x y s p) (q : Nat) : Rd2 (w.setCell ⟨y, 0, none⟩ (.int .i64 q)) x y s q :=
  ⟨(Below.heap_setCell _ _ _ _ h.ne).trans h.b0, heap_set_fr h.b1 0 (.int .i64 q), h.ne⟩
theorem Rd2.below (h : Rd2 w x y s p) (hb : Below w.heap.size w w') : Rd2 w' x y s p := ⟨(hb.block x h.lt0).trans h.b0, (hb.block y h.lt1).trans h.b1, h.ne⟩
end

def Out2 {α : Type} (enc : α → Value) (x y : Nat) (s : ByteArray) (w : World) (r : Except Int (α × Nat)) (e : Ending) (w' : World) : Prop :=
  w.grownBy w' (some y) ∧ match r with
    | .ok (a, q) => e = .returned (enc a) ∧ Rd2 w' x y s q
    | .error c => e = .panicked (tfault c)

set_option maxRecDepth 100000 in
theorem tnum_any (w : World) (x y p : Nat) (s : ByteArray) (h : Rd2 w x y s p) (hs : s.size ≤ 281474976710656) (hp : p ≤ s.size) :
    Calls Tryz.prog 101 #[.pointer (some ⟨x, 0, none⟩), .pointer (some ⟨y, 0, none⟩)] w fun e w' => Out2 numV x y s w (BK.rNum s.data.toList p) e w' := by
  have HG0 := Lib.hid (fun W => get_any s (p : Int) W (by omega) (by omega) (by omega))
  cases hx : BK.rNum s.data.toList p with
  | ok z =>
    obtain ⟨n, q⟩ := z
    have hv := num_good hx
    have HG : Hid (∀ W, Calls Tryz.prog 102 #[.string s, .int .i64 p] W fun e w' => e = .returned (.tuple #[.int .i64 n, .int .i64 q, .int .i64 0]) ∧ w' = W) := Lib.hid (fun W => (HG0.out W).mono fun e w' h => ⟨by have := h.1; unfold GetOut at this; rw [hv] at this; exact this, h.2.symm⟩)
    have c0 := h.c0
    have c1 := h.c1
    have f1 := h.f1
    have HR := Lib.hid (h.set q)
    clear hx h hv HG0
    go_enter Tryz.func101, Tryz.ntmps101
    go_wp2_with fail
    refine (HG.out _).mono ?_
    rintro e w1 ⟨rfl, rfl⟩
    go_wp2_with fail
    refine (tleave_ok _).mono ?_
    rintro e w1 ⟨rfl, rfl⟩
    go_wp2
    go_ret
    exact ⟨grown_set (grown_refl _ _) _ _, rfl, HR.out⟩
  | error c =>
    obtain ⟨hv, hc⟩ := num_bad hx
    obtain ⟨n, q, hv'⟩ : ∃ n q, VM.vget s.data.toList p = (n, q, c) := ⟨_, _, by rw [← hv]⟩
    have HG : Hid (∀ W, Calls Tryz.prog 102 #[.string s, .int .i64 p] W fun e w' => e = .returned (.tuple #[.int .i64 n, .int .i64 q, .int .i64 c]) ∧ w' = W) := Lib.hid (fun W => (HG0.out W).mono fun e w' h => ⟨by have := h.1; unfold GetOut at this; rw [hv'] at this; exact this, h.2.symm⟩)
    have c0 := h.c0
    have c1 := h.c1
    clear hx h hv hv' HG0
    go_enter Tryz.func101, Tryz.ntmps101
    go_wp2_with fail
    refine (HG.out _).mono ?_
    rintro e w1 ⟨rfl, rfl⟩
    go_wp2_with fail
    refine (tleave_bad c _ hc).mono ?_
    rintro e w1 ⟨rfl, rfl⟩
    exact ⟨rfl, grown_refl _ _, rfl⟩

set_option maxRecDepth 100000 in
theorem ttext_any (w : World) (x y p : Nat) (s : ByteArray) (h : Rd2 w x y s p) (hs : s.size ≤ 281474976710656) (hp : p ≤ s.size) :
    Calls Tryz.prog 103 #[.pointer (some ⟨x, 0, none⟩), .pointer (some ⟨y, 0, none⟩)] w fun e w' => Out2 textV x y s w (BK.rText s.data.toList p) e w' := by
  have HG0 := Lib.hid (fun W => getText_any s (p : Int) W (by omega) (by omega) (by omega))
  cases hx : BK.rText s.data.toList p with
  | ok z =>
    obtain ⟨t, q⟩ := z
    have hv := text_good hx
    have HG : Hid (∀ W, Calls Tryz.prog 104 #[.string s, .int .i64 p] W fun e w' => e = .returned (.tuple #[.string t, .int .i64 q, .int .i64 0]) ∧ Below W.heap.size W w') := Lib.hid (fun W => (HG0.out W).mono fun e w' h => ⟨by have h1 := h.1; unfold TextOut at h1; rw [hv, str_mk] at h1; exact h1, h.2⟩)
    have c0 := h.c0
    have c1 := h.c1
    have HR := Lib.hid h
    clear hx h hv HG0
    go_enter Tryz.func103, Tryz.ntmps103
    go_wp2_with fail
    refine (HG.out _).mono ?_
    rintro e w1 ⟨rfl, hb⟩
    have HB := Lib.hid (grown_below (r := some y) hb)
    have HR1 := Lib.hid (HR.out.below hb)
    have f1 := HR1.out.f1
    have d1 := HR1.out.c1
    have HR2 := Lib.hid (HR1.out.set q)
    clear hb
    go_wp2_with fail
    refine (tleave_ok _).mono ?_
    rintro e w2 ⟨rfl, rfl⟩
    go_wp2
    go_ret
    exact ⟨grown_set HB.out _ _, rfl, HR2.out⟩
  | error c =>
    obtain ⟨hv, hc⟩ := text_bad hx
    obtain ⟨n, q, hv'⟩ : ∃ n q, vtext s.data.toList p = (n, q, c) := ⟨_, _, by rw [← hv]⟩
    have HG : Hid (∀ W, Calls Tryz.prog 104 #[.string s, .int .i64 p] W fun e w' => e = .returned (.tuple #[.string ⟨n.toArray⟩, .int .i64 q, .int .i64 c]) ∧ Below W.heap.size W w') := Lib.hid (fun W => (HG0.out W).mono fun e w' h => ⟨by have h1 := h.1; unfold TextOut at h1; rw [hv'] at h1; exact h1, h.2⟩)
    have c0 := h.c0
    have c1 := h.c1
    clear hx h hv hv' HG0
    go_enter Tryz.func103, Tryz.ntmps103
    go_wp2_with fail
    refine (HG.out _).mono ?_
    rintro e w1 ⟨rfl, hb⟩
    have HB := Lib.hid (grown_below (r := some y) hb)
    clear hb
    go_wp2_with fail
    refine (tleave_bad c _ hc).mono ?_
    rintro e w2 ⟨rfl, rfl⟩
    exact ⟨rfl, HB.out, rfl⟩
end Go.Proofs.YtnglaolbfpdgoaaGreat

/- The index: its blocks. Made by gen_te.py. -/
namespace Go.Proofs.YtnglaolbfpdgoaaGreat
open Go.RowKit
open SK
open TB (Bs Sp)

theorem info_span : (Tryz.prog.info? 81).map (fun i => (i.zero, i.size, i.bytes)) = some (some (.agg #[.string ⟨#[]⟩, .int .i64 0, .int .i64 0]), 3, 32) := by kernel_rfl

theorem heap_new2 (w : World) (o p : Obj) : ((w.alloc o).alloc p).heap[w.heap.size + 1]? = some p := by
  have := heap_alloc_new (w.alloc o) p
  simpa using this

theorem below_via {B y : Nat} {w w1 w' : World} (h : Below B w w1) (hg : w1.grownBy w' (some y)) (hB : B ≤ w1.heap.size) (hy : B ≤ y) : Below B w w' :=
  ⟨hg.os.trans h.os, hg.tape.trans h.tape, hg.output.trans h.output, Nat.le_trans h.size hg.size, fun k hk => (hg.block k (by omega) (by simp; omega)).trans (h.block k hk)⟩

theorem own_y {w w' : World} {base y : Nat} {e : TypeId} {size : Nat} {v : Value} {n : Nat} {xs : List Value} (h : w.ownsRow base e size v n xs) (hg : w.grownBy w' (some y)) (hy : y < base) : w'.ownsRow base e size v n xs := own_r h hg hy

/-- the spans that a reading tells, or a fault -/
def SpsOr (w : World) (r : Except Int (List Sp)) (e : Ending) (w' : World) : Prop :=
  Below w.heap.size w w' ∧ match r with
    | .ok ss => ∃ A c, e = .returned (.slice A ss.length c) ∧ SpsIn w' A ss ∧ ∀ x ∈ fb A, w.heap.size ≤ x ∧ x < w'.heap.size
    | .error c => e = .panicked (tfault c)

theorem tri_ok {l : Bs} {p q : Nat} {k : ByteArray} {a n : Int} (h : TB.rTri l p = .ok ((k, a, n), q)) : k.size ≤ 65535 ∧ p < q ∧ q ≤ l.length := by
  unfold TB.rTri at h
  cases h1 : BK.rText l p with
  | error c => rw [h1] at h; cases h
  | ok z1 =>
    obtain ⟨k1, p1⟩ := z1
    rw [h1] at h
    simp only at h
    cases h2 : BK.rNum l p1 with
    | error c => rw [h2] at h; cases h
    | ok z2 =>
      obtain ⟨a1, p2⟩ := z2
      rw [h2] at h
      simp only at h
      cases h3 : BK.rNum l p2 with
      | error c => rw [h3] at h; cases h
      | ok z3 =>
        obtain ⟨n1, p3⟩ := z3
        rw [h3] at h
        simp only [Except.ok.injEq, Prod.mk.injEq] at h
        obtain ⟨⟨rfl, rfl, rfl⟩, rfl⟩ := h
        obtain ⟨t1, t2, -, -, -, -, t3⟩ := BK.text_ok h1
        obtain ⟨-, -, -, -, -, -, -, n2⟩ := BK.num_ok h2
        obtain ⟨a0, b0, m1, -, -, -, -, m2⟩ := BK.num_ok h3
        have e2 := (VM.enc_len a0 b0).1
        exact ⟨t1, by omega, m1⟩

set_option maxRecDepth 100000 in
set_option maxHeartbeats 8000000 in
theorem tspans_any (s : ByteArray) (place : Nat) (w : World) (hs : s.size ≤ 65535) (hpl : place ≤ 281474976710656) :
    Calls Tryz.prog 75 #[.string s, .int .i64 place] w fun e w' => SpsOr w (TB.spansOf s.data.toList place) e w' := by
  obtain ⟨i0, hi, hz0, hz1, hz2⟩ := info_parts info_span
  have hmf : ∀ (fn : Fn) (first cap : Array Value) (w : World), (Instr.makeFunc fn first cap).run Tryz.prog w = .ok (.func fn first cap) w := fun _ _ _ _ => rfl
  obtain ⟨x, hx⟩ : ∃ x, w.heap.size = x := ⟨_, rfl⟩
  have hrow1 : ((w.alloc (.cells #[.string s] 9)).alloc (.cells #[.int .i64 0] 3)).heap[x + 1]? = some (.cells #[.int .i64 0] 3 (0, 0)) := by rw [← hx]; exact heap_new2 w _ _
  have HR0 : Hid (Rd2 ((w.alloc (.cells #[.string s] 9)).alloc (.cells #[.int .i64 0] 3)) x (x + 1) s 0) := Lib.hid
    { b0 := (Below.heap_alloc _ _ _ (by simp; omega)).trans (by rw [← hx]; exact heap_alloc_new w _)
      b1 := hrow1
      ne := by omega }
  have HB0 : Hid (Below x w ((w.alloc (.cells #[.string s] 9)).alloc (.cells #[.int .i64 0] 3))) := Lib.hid (((Below.refl _ w).alloc (by omega) _).alloc (by simp; omega) _)
  have HS0 : Hid (((w.alloc (.cells #[.string s] 9)).alloc (.cells #[.int .i64 0] 3)).heap.size = x + 2) := Lib.hid (by simp; omega)
  have HNUM : Hid (∀ q W, q ≤ s.size → Rd2 W x (x + 1) s q → Calls Tryz.prog 101 #[.pointer (some ⟨x, 0, none⟩), .pointer (some ⟨x + 1, 0, none⟩)] W fun e w' => Out2 numV x (x + 1) s W (BK.rNum s.data.toList q) e w') := Lib.hid (fun q W hq h => tnum_any W x (x + 1) q s h (by omega) hq)
  have HTXT : Hid (∀ q W, q ≤ s.size → Rd2 W x (x + 1) s q → Calls Tryz.prog 103 #[.pointer (some ⟨x, 0, none⟩), .pointer (some ⟨x + 1, 0, none⟩)] W fun e w' => Out2 textV x (x + 1) s W (BK.rText s.data.toList q) e w') := Lib.hid (fun q W hq h => ttext_any W x (x + 1) q s h (by omega) hq)
  have HSL := Lib.hid (size_list s)
  have HSZ := Lib.hid hs
  obtain ⟨X, hX⟩ : ∃ X, TB.spansOf s.data.toList place = X := ⟨_, rfl⟩
  rw [hX]
  have HXX : Hid (X = match BK.rNum s.data.toList 0 with | .error c => .error c | .ok (n, p) => if n < 0 then .error 4 else TB.rSpEnd s.data.toList place (TB.rSps s.data.toList place n.toNat p 0 [])) := Lib.hid (by rw [← hX]; rfl)
  have d0 : (((w.alloc (.cells #[.string s] 9)).alloc (.cells #[.int .i64 0] 3))).cell? ⟨x + 1, 0, none⟩ = some (.int .i64 0) := cell_of_row _ _ _ _ _ _ hrow1
  have f0 : (((w.alloc (.cells #[.string s] 9)).alloc (.cells #[.int .i64 0] 3))).frozen? ⟨x + 1, 0, none⟩ = false := frozen_of_row _ _ _ _ _ hrow1
  clear hX hs hrow1
  unfold SpsOr
  simp only [hx]
  go_enter Tryz.func75, Tryz.ntmps75
  go_wp2_with fail
  generalize (w.alloc (.cells #[.string s] 9)).alloc (.cells #[.int .i64 0] 3) = w0 at HR0 HB0 HS0 ⊢
  cases hc : BK.rNum s.data.toList 0 with
  | error c =>
    have HF : Hid (X = .error c) := Lib.hid (by rw [HXX.out, hc])
    have HC := HNUM.out 0 w0 (Nat.zero_le _) HR0.out
    rw [hc] at HC
    refine HC.mono ?_
    rintro e w1 ⟨hg, rfl⟩
    exact ⟨rfl, below_via HB0.out hg (by have := HS0.out; omega) (by omega), by rw [HF.out]⟩
  | ok z =>
    obtain ⟨n, p⟩ := z
    obtain ⟨hn0, hn1, hpl0, -⟩ := BK.num_ok hc
    have HC := HNUM.out 0 w0 (Nat.zero_le _) HR0.out
    rw [hc] at HC
    have HXY : Hid (X = if n < 0 then .error 4 else TB.rSpEnd s.data.toList place (TB.rSps s.data.toList place n.toNat p 0 [])) := Lib.hid (by rw [HXX.out, hc])
    refine HC.mono ?_
    rintro e w1 ⟨hg, rfl, hr⟩
    have HB1 := Lib.hid (below_via HB0.out hg (by have := HS0.out; omega) (by omega))
    have HR1 := Lib.hid hr
    have HS1 : Hid (x + 2 ≤ w1.heap.size) := Lib.hid (by have := hg.size; have := HS0.out; omega)
    rw [HSL.out] at hpl0
    have HPL := Lib.hid hpl0
    clear hg hr HC hc HXX HR0 HB0 HS0 hpl0 d0 f0
    simp only [numV]
    by_cases hneg : n < 0
    · have HF : Hid (X = .error 4) := Lib.hid (by rw [HXY.out, if_pos hneg])
      have d1 : decide (0 ≤ n) = false := by simpa using hneg
      go_wp2_with fail
      refine (must_bad _).mono ?_
      rintro e w2 ⟨rfl, rfl⟩
      exact ⟨rfl, HB1.out, by rw [HF.out]⟩
    · obtain ⟨m, rfl⟩ := Int.eq_ofNat_of_zero_le (show 0 ≤ n by omega)
      have HXM : Hid (X = TB.rSpEnd s.data.toList place (TB.rSps s.data.toList place m p 0 [])) := Lib.hid (by rw [HXY.out, if_neg hneg, Int.toNat_natCast])
      have d1 : decide (0 ≤ (m : Int)) = true := by simp
      clear HXY hneg hn0
      go_wp2_with fail
      refine (must_ok _).mono ?_
      rintro e w2 ⟨rfl, rfl⟩
      go_wp2_with fail
      go_loopw [9, 10, 11, 23] (fun v en la i wr => ∃ j : Nat, j ≤ m ∧ i = .int .i64 j ∧ ∃ (acc : List Sp) (q e : Nat), wr.ownsRow (x + 2) 81 3 v acc.length (scs acc) ∧ en = .int .i64 e ∧ la = .string (TB.lastSp acc) ∧ X = TB.rSpEnd s.data.toList place (TB.rSps s.data.toList place (m - j) q e acc) ∧ q ≤ s.size ∧ acc.length ≤ q ∧ e ≤ place ∧ Rd2 wr x (x + 1) s q ∧ Below x w wr ∧ x + 2 ≤ wr.heap.size ∧ ∀ y ∈ acc, y.wf) (fun _ _ _ i _ => m - (intOf i).toNat)
      case atStart => exact ⟨0, by omega, rfl, [], p, 0, World.ownsRow_nil _ _ _ _, rfl, rfl, HXM.out, HPL.out, by simp, by omega, HR1.out, HB1.out, HS1.out, by simp⟩
      case round =>
        obtain ⟨j, hj, rfl, acc, q, e, hown, rfl, rfl, hit, hq, hal, hep, hr, hb, hsz, hwf⟩ := hrel
        obtain ⟨A, cap, rfl⟩ := B9.own_slice hown
        have HIT := Lib.hid hit
        have HOWN := Lib.hid hown
        have HR := Lib.hid hr
        have HB := Lib.hid hb
        have HS := Lib.hid hsz
        have HWF := Lib.hid hwf
        have HQ := Lib.hid hq
        have HAL := Lib.hid hal
        have HEP := Lib.hid hep
        clear hit hown hr hb hsz hwf hq hal hep
        by_cases hlt : j < m
        · have HIT1 : Hid (X = TB.rSpEnd s.data.toList place (TB.rSps s.data.toList place (m - (j + 1) + 1) q e acc)) := Lib.hid (by rw [HIT.out, show m - j = (m - (j + 1)) + 1 by omega])
          clear HIT
          go_wp2_with fail
          cases h1 : BK.rText s.data.toList q with
          | error c =>
            have HC := HTXT.out q wr HQ.out HR.out
            rw [h1] at HC
            have HF : Hid (X = .error c) := Lib.hid (by rw [HIT1.out]; simp only [TB.rSps, TB.rTri, h1]; rfl)
            refine HC.mono ?_
            rintro e3 w3 ⟨hg3, rfl⟩
            exact ⟨rfl, below_via HB.out hg3 (by have := HS.out; omega) (by omega), by rw [HF.out]⟩
          | ok z1 =>
            obtain ⟨key, q1⟩ := z1
            have HC := HTXT.out q wr HQ.out HR.out
            rw [h1] at HC
            obtain ⟨hks, hq1, -⟩ := BK.text_ok h1
            rw [HSL.out] at hq1
            have HKS := Lib.hid hks
            have HQ1 := Lib.hid hq1
            have HH1 := Lib.hid h1
            refine HC.mono ?_
            rintro e3 w3 ⟨hg3, rfl, hr3⟩
            have HR3 := Lib.hid hr3
            have HB3 := Lib.hid (below_via HB.out hg3 (by have := HS.out; omega) (by omega))
            have HO3 := Lib.hid (own_y HOWN.out hg3 (by omega))
            have HS3 : Hid (x + 2 ≤ w3.heap.size) := Lib.hid (by have := hg3.size; have := HS.out; omega)
            clear hg3 hr3 HC h1 hks hq1 HR HB HS HOWN
            simp only [textV]
            go_wp2_with fail
            cases h2 : BK.rNum s.data.toList q1 with
            | error c =>
              have HC := HNUM.out q1 w3 HQ1.out HR3.out
              rw [h2] at HC
              have HF : Hid (X = .error c) := Lib.hid (by rw [HIT1.out]; simp only [TB.rSps, TB.rTri, HH1.out, h2]; rfl)
              refine HC.mono ?_
              rintro e4 w4 ⟨hg4, rfl⟩
              exact ⟨rfl, below_via HB3.out hg4 (by have := HS3.out; omega) (by omega), by rw [HF.out]⟩
            | ok z2 =>
              obtain ⟨a, q2⟩ := z2
              have HC := HNUM.out q1 w3 HQ1.out HR3.out
              rw [h2] at HC
              obtain ⟨ha0, ha1, hq2, -⟩ := BK.num_ok h2
              rw [HSL.out] at hq2
              have HQ2 := Lib.hid hq2
              have HH2 := Lib.hid h2
              refine HC.mono ?_
              rintro e4 w4 ⟨hg4, rfl, hr4⟩
              have HR4 := Lib.hid hr4
              have HB4 := Lib.hid (below_via HB3.out hg4 (by have := HS3.out; omega) (by omega))
              have HO4 := Lib.hid (own_y HO3.out hg4 (by omega))
              have HS4 : Hid (x + 2 ≤ w4.heap.size) := Lib.hid (by have := hg4.size; have := HS3.out; omega)
              clear hg4 hr4 HC h2 hq2 HR3 HB3 HS3 HO3
              simp only [numV]
              go_wp2_with fail
              cases h3 : BK.rNum s.data.toList q2 with
              | error c =>
                have HC := HNUM.out q2 w4 HQ2.out HR4.out
                rw [h3] at HC
                have HF : Hid (X = .error c) := Lib.hid (by rw [HIT1.out]; simp only [TB.rSps, TB.rTri, HH1.out, HH2.out, h3]; rfl)
                refine HC.mono ?_
                rintro e5 w5 ⟨hg5, rfl⟩
                exact ⟨rfl, below_via HB4.out hg5 (by have := HS4.out; omega) (by omega), by rw [HF.out]⟩
              | ok z3 =>
                obtain ⟨n, q3⟩ := z3
                have HC := HNUM.out q2 w4 HQ2.out HR4.out
                rw [h3] at HC
                obtain ⟨hn0, hn2, hq3, -⟩ := BK.num_ok h3
                rw [HSL.out] at hq3
                have HTR : Hid (TB.rTri s.data.toList q = .ok ((key, a, n), q3)) := Lib.hid (by simp only [TB.rTri, HH1.out, HH2.out, h3])
                have HQL : Hid (q < q3) := Lib.hid (tri_ok HTR.out).2.1
                have HIT2 : Hid (X = TB.rSpEnd s.data.toList place (if TB.okSp place e (TB.lastSp acc) key a n then TB.rSps s.data.toList place (m - (j + 1)) q3 (e + n.toNat) (acc ++ [⟨key, e, n.toNat⟩]) else .error 4)) := Lib.hid (by rw [HIT1.out]; simp only [TB.rSps, HTR.out])
                have HQ3 := Lib.hid hq3
                refine HC.mono ?_
                rintro e5 w5 ⟨hg5, rfl, hr5⟩
                have HR5 := Lib.hid hr5
                have HB5 := Lib.hid (below_via HB4.out hg5 (by have := HS4.out; omega) (by omega))
                have HO5 := Lib.hid (own_y HO4.out hg5 (by omega))
                have HS5 : Hid (x + 2 ≤ w5.heap.size) := Lib.hid (by have := hg5.size; have := HS4.out; omega)
                clear hg5 hr5 HC h3 hq3 HR4 HB4 HS4 HO4 HIT1 HH1 HH2 HTR
                simp only [numV]
                obtain ⟨La, hLa⟩ : ∃ La, TB.lastSp acc = La := ⟨_, rfl⟩
                rw [hLa] at HIT2 ⊢
                have HLA := Lib.hid hLa
                clear hLa
                have hep := HEP.out
                have hwr : IntKind.i64.wrap ((place : Int) - (e : Int)) = (place : Int) - (e : Int) := IntWalk.i64_in _ ⟨by omega, by omega⟩
                by_cases h4 : a = (e : Int)
                · have d4 : (a == (e : Int)) = true := by simpa using h4
                  by_cases h5 : 8 ≤ n
                  · have d5 : decide (8 ≤ n) = true := by simpa using h5
                    by_cases h6 : n ≤ (place : Int) - (e : Int)
                    · have d6 : decide (n ≤ (place : Int) - (e : Int)) = true := by simpa using h6
                      cases h7 : TB.lt key La with
                      | true =>
                        have d7 : Op.bytesLess key.toList La.toList = true := by rw [text_less]; exact h7
                        have HF : Hid (X = .error 4) := Lib.hid (by rw [HIT2.out, if_neg (fun h => absurd (h7.symm.trans h.2.2.2) (by decide))]; rfl)
                        go_wp2_with fail
                        refine (must_bad _).mono ?_
                        rintro e6 w6 ⟨rfl, rfl⟩
                        exact ⟨rfl, HB5.out, by rw [HF.out]⟩
                      | false =>
                        have d7 : Op.bytesLess key.toList La.toList = false := by rw [text_less]; exact h7
                        obtain ⟨N, rfl⟩ := Int.eq_ofNat_of_zero_le (show 0 ≤ n by omega)
                        subst h4
                        have HIT3 : Hid (X = TB.rSpEnd s.data.toList place (TB.rSps s.data.toList place (m - (j + 1)) q3 (e + N) (acc ++ [⟨key, e, N⟩]))) := Lib.hid (by rw [HIT2.out, if_pos ⟨rfl, h5, h6, h7⟩]; rfl)
                        have HSN : Hid (scs (acc ++ [⟨key, e, N⟩]) = scs acc ++ TB.Sp.cells ⟨key, e, N⟩) := Lib.hid (scs_snoc _ _)
                        have HWF2 : Hid (∀ y ∈ acc ++ [(⟨key, e, N⟩ : Sp)], y.wf) := Lib.hid (fun y hy => by
                          rcases List.mem_append.1 hy with h | h
                          · exact HWF.out y h
                          · simp only [List.mem_singleton] at h; rw [h]; exact ⟨HKS.out, by show e ≤ _; omega, by show N ≤ _; omega⟩)
                        have hwe : IntKind.i64.wrap ((e : Int) + (N : Int)) = (e : Int) + (N : Int) := IntWalk.i64_in _ ⟨by omega, by omega⟩
                        have HEE : Hid (e + N ≤ place) := Lib.hid (by omega)
                        have hlen : acc.length ≤ 65535 := by have := HAL.out; have := HQ.out; have := HSZ.out; omega
                        have HLEN := Lib.hid hlen
                        obtain ⟨Y, hY⟩ : ∃ Y, scs acc = Y := ⟨_, rfl⟩
                        obtain ⟨ac, hac⟩ : ∃ ac, acc.length = ac := ⟨_, rfl⟩
                        rw [hac] at HO5 hlen HAL HLEN ⊢
                        rw [hY] at HO5 HSN
                        have HAC := Lib.hid hac
                        clear hY HIT2 hac
                        go_wp2_with fail
                        refine (must_ok _).mono ?_
                        rintro e6 w6 ⟨rfl, rfl⟩
                        go_wp2_with (at_builtin; refine wpList_append_own _ rfl _ _ 75 rfl (x + 2) 81 i0 _ 3 32 Tryz.underlying75 hi hz0 hz1 hz2 rfl (by decide) _ _ _ rfl (own_below HO5.out ((Below.refl _ _).alloc (Nat.le_refl _) _)) ⟨w5.heap.size, 0, none⟩ 1 1 (TB.Sp.cells ⟨key, e, N⟩) rfl ?c1 ?c2 ?c3 ?c4 ?c5 ?c6 ?_)
                        case c1 => rfl
                        case c2 =>
                          refine World.news_of_block (cs := (TB.Sp.cells ⟨key, e, N⟩).toArray) (t := 81) (fr := (0, 0)) ?_
                          exact heap_alloc_new w5 _
                        case c3 => simp [TB.Sp.cells, Value.oneCell']
                        case c4 => unfold maxLen; omega
                        case c5 => omega
                        case c6 => have := HS5.out; simp; omega
                        intro v' w6 hown6 hgrow6 hnil6
                        have hob : ∀ g, (Value.slice A ac cap).ownBlock = some g → x + 2 ≤ g := fun g hg => (HO5.out.lt g hg).1
                        have HR6 : Hid (w6.ownsRow (x + 2) 81 3 v' (acc ++ [(⟨key, e, N⟩ : Sp)]).length (scs (acc ++ [⟨key, e, N⟩]))) := Lib.hid (by rw [HSN.out, List.length_append, HAC.out]; exact hown6)
                        have HFR : Hid (∀ z, z < x + 2 → w6.heap[z]? = w5.heap[z]?) := Lib.hid fun z hz => (hgrow6.block z (by have := HS5.out; simp; omega) (by intro he; have := hob z he.symm; omega)).trans (Below.heap_alloc _ _ _ (by have := HS5.out; omega))
                        have HRD6 : Hid (Rd2 w6 x (x + 1) s q3) := Lib.hid ⟨(HFR.out x (by omega)).trans HR5.out.b0, (HFR.out (x + 1) (by omega)).trans HR5.out.b1, HR5.out.ne⟩
                        have HB6 : Hid (Below x w w6) := Lib.hid ⟨hgrow6.os.trans HB5.out.os, hgrow6.tape.trans HB5.out.tape, hgrow6.output.trans HB5.out.output, by have := hgrow6.size; have := HB5.out.size; simp at *; omega, fun z hz => (HFR.out z (by omega)).trans (HB5.out.block z hz)⟩
                        have HS6 : Hid (x + 2 ≤ w6.heap.size) := Lib.hid (by have := hgrow6.size; have := HS5.out; simp at *; omega)
                        clear hown6 hgrow6 hnil6 hob
                        go_wp2
                        go_roundw
                        case rel => exact ⟨j + 1, by omega, by go_num, acc ++ [⟨key, e, N⟩], q3, e + N, HR6.out, by go_num, by simp [TB.lastSp], HIT3.out, HQ3.out, by rw [List.length_append, HAC.out]; have := HAL.out; have := HQL.out; simp; omega, HEE.out, HRD6.out, HB6.out, HS6.out, HWF2.out⟩
                        case measure => simp [intOf]; omega
                    · have d6 : decide (n ≤ (place : Int) - (e : Int)) = false := by simpa using h6
                      have HF : Hid (X = .error 4) := Lib.hid (by rw [HIT2.out, if_neg (fun h => h6 h.2.2.1)]; rfl)
                      go_wp2_with fail
                      refine (must_bad _).mono ?_
                      rintro e6 w6 ⟨rfl, rfl⟩
                      exact ⟨rfl, HB5.out, by rw [HF.out]⟩
                  · have d5 : decide (8 ≤ n) = false := by simpa using h5
                    have HF : Hid (X = .error 4) := Lib.hid (by rw [HIT2.out, if_neg (fun h => h5 h.2.1)]; rfl)
                    go_wp2_with fail
                    refine (must_bad _).mono ?_
                    rintro e6 w6 ⟨rfl, rfl⟩
                    exact ⟨rfl, HB5.out, by rw [HF.out]⟩
                · have d4 : (a == (e : Int)) = false := by simpa using h4
                  have HF : Hid (X = .error 4) := Lib.hid (by rw [HIT2.out, if_neg (fun h => h4 h.1)]; rfl)
                  go_wp2_with fail
                  refine (must_bad _).mono ?_
                  rintro e6 w6 ⟨rfl, rfl⟩
                  exact ⟨rfl, HB5.out, by rw [HF.out]⟩
        · have hz : m - j = 0 := by omega
          have HX2 : Hid (X = if q = s.size ∧ e = place then .ok acc else .error 4) := Lib.hid (by rw [HIT.out, hz]; simp only [TB.rSps, TB.rSpEnd, HSL.out])
          obtain ⟨A', cap', hsl, hen, hfb, -⟩ := own_sps HWF.out rfl HOWN.out
          obtain ⟨rfl, rfl⟩ : A' = A ∧ cap' = cap := by simp only [Value.slice.injEq] at hsl; exact ⟨hsl.1.symm, hsl.2.2.symm⟩
          have HEN := Lib.hid hen
          have HFB : Hid (∀ y ∈ fb A', x ≤ y ∧ y < wr.heap.size) := Lib.hid fun y hy => by have := hfb y hy; omega
          have c0 := HR.out.c0
          have c1 := HR.out.c1
          clear hsl hen hfb
          by_cases hqs : q = s.size
          · have d1 : ((q : Int) == (s.size : Int)) = true := beq_iff_eq.2 (by omega)
            by_cases hepl : e = place
            · have d2 : ((e : Int) == (place : Int)) = true := beq_iff_eq.2 (by omega)
              have hF : X = .ok acc := by rw [HX2.out, if_pos ⟨hqs, hepl⟩]
              clear HX2 HIT HXM
              subst hF
              go_wp2_with fail
              refine (must_ok _).mono ?_
              rintro e6 w6 ⟨rfl, rfl⟩
              go_wp2
              go_ret
              exact ⟨HB.out, A', ⟨cap', rfl⟩, HEN.out, HFB.out⟩
            · have d2 : ((e : Int) == (place : Int)) = false := beq_eq_false_iff_ne.2 (by omega)
              have HF : Hid (X = .error 4) := Lib.hid (by rw [HX2.out, if_neg (fun h => hepl h.2)])
              go_wp2_with fail
              refine (must_bad _).mono ?_
              rintro e6 w6 ⟨rfl, rfl⟩
              exact ⟨rfl, HB.out, by rw [HF.out]⟩
          · have d1 : ((q : Int) == (s.size : Int)) = false := beq_eq_false_iff_ne.2 (by omega)
            have HF : Hid (X = .error 4) := Lib.hid (by rw [HX2.out, if_neg (fun h => hqs h.1)])
            go_wp2_with fail
            refine (must_bad _).mono ?_
            rintro e6 w6 ⟨rfl, rfl⟩
            exact ⟨rfl, HB.out, by rw [HF.out]⟩
end Go.Proofs.YtnglaolbfpdgoaaGreat

/- Plain mathematics: the spans that an index tells stand in order; which block is asked first. -/
namespace Go.Proofs.YtnglaolbfpdgoaaGreat
open Go.RowKit
open SK
open TB (Bs Sp)
namespace TB

theorem lt_irrefl (a : ByteArray) : lt a a = false := Go.WideAt.bytes_irrefl _
theorem lt_trans {a b c : ByteArray} (h1 : lt a b = true) (h2 : lt b c = true) : lt a c = true := Go.WideShapes.bytes_trans _ _ _ h1 h2
theorem lt_total {a b : ByteArray} (h : lt a b = false) : a = b ∨ lt b a = true := by
  by_cases he : a = b
  · exact .inl he
  · rcases Go.WideAt.bytes_total a.data.toList b.data.toList (fun h => he (str_ext h)) with h2 | h2
    · unfold lt at h; rw [h] at h2; cases h2
    · exact .inr h2
/-- not below, not below: not below -/
theorem le_trans {a b c : ByteArray} (h1 : lt b a = false) (h2 : lt c b = false) : lt c a = false := by
  cases h : lt c a with
  | false => rfl
  | true =>
    rcases lt_total h2 with rfl | h3
    · rw [h] at h1; cases h1
    · have := lt_trans h3 h; rw [h1] at this; cases this

/-- blocks' last keys stand in order -/
def Rising (ss : List Sp) : Prop := ss.Pairwise fun a b => lt b.last a.last = false

theorem rising_snoc {acc : List Sp} {sp : Sp} (h : Rising acc) (hk : lt sp.last (lastSp acc) = false) : Rising (acc ++ [sp]) := by
  refine List.pairwise_append.2 ⟨h, List.pairwise_singleton _ _, fun x hx y hy => ?_⟩
  simp only [List.mem_singleton] at hy
  subst hy
  rcases List.eq_nil_or_concat acc with rfl | ⟨b, p, rfl⟩
  · simp at hx
  · simp only [List.concat_eq_append] at *
    have hk' : lt y.last p.last = false := by simpa [lastSp] using hk
    rcases List.mem_append.1 hx with hx | hx
    · exact le_trans ((List.pairwise_append.1 h).2.2 x hx p (by simp)) hk'
    · simp only [List.mem_singleton] at hx; rw [hx]; exact hk'

theorem rSps_ok {l : Bs} {place : Nat} : ∀ {k p e : Nat} {acc ss : List Sp} {q e' : Nat}, rSps l place k p e acc = .ok (ss, q, e') → Rising acc → acc.length ≤ p → p ≤ l.length → Rising ss ∧ ss.length ≤ l.length
  | 0, p, e, acc, ss, q, e', h, hr, hl, hp => by
    simp only [rSps, Except.ok.injEq, Prod.mk.injEq] at h
    obtain ⟨rfl, -, -⟩ := h
    exact ⟨hr, by omega⟩
  | k + 1, p, e, acc, ss, q, e', h, hr, hl, hp => by
    simp only [rSps] at h
    cases ht : rTri l p with
    | error c => rw [ht] at h; cases h
    | ok z =>
      obtain ⟨⟨key, a, n⟩, q3⟩ := z
      rw [ht] at h
      simp only at h
      obtain ⟨-, h2, h3⟩ := tri_ok ht
      split at h
      · rename_i hok
        exact rSps_ok h (rising_snoc hr hok.2.2.2) (by simp; omega) h3
      · cases h

theorem spansOf_ok {l : Bs} {place : Nat} {ss : List Sp} (h : spansOf l place = .ok ss) : Rising ss ∧ ss.length ≤ l.length := by
  unfold spansOf at h
  cases hn : BK.rNum l 0 with
  | error c => rw [hn] at h; cases h
  | ok z =>
    obtain ⟨n, p⟩ := z
    rw [hn] at h
    simp only at h
    split at h
    · cases h
    · cases hs : rSps l place n.toNat p 0 [] with
      | error c => rw [hs] at h; cases h
      | ok y =>
        obtain ⟨ss', q, e⟩ := y
        rw [hs] at h
        simp only [rSpEnd] at h
        split at h
        · simp only [Except.ok.injEq] at h
          subst h
          exact rSps_ok hs List.Pairwise.nil (Nat.zero_le _) (BK.num_le hn)
        · cases h

theorem rTri_err {l : Bs} {p : Nat} {c : Int} (h : rTri l p = .error c) : c ≠ 0 := by
  unfold rTri at h
  cases h1 : BK.rText l p with
  | error d => rw [h1] at h; simp only [Except.error.injEq] at h; rw [← h]; exact BK.text_err h1
  | ok z1 =>
    rw [h1] at h
    simp only at h
    cases h2 : BK.rNum l z1.2 with
    | error d => rw [h2] at h; simp only [Except.error.injEq] at h; rw [← h]; exact BK.num_err h2
    | ok z2 =>
      rw [h2] at h
      simp only at h
      cases h3 : BK.rNum l z2.2 with
      | error d => rw [h3] at h; simp only [Except.error.injEq] at h; rw [← h]; exact BK.num_err h3
      | ok z3 => rw [h3] at h; cases h
theorem rSps_err {l : Bs} {place : Nat} : ∀ {k p e : Nat} {acc : List Sp} {c : Int}, rSps l place k p e acc = .error c → c ≠ 0
  | 0, _, _, _, _, h => by cases h
  | k + 1, p, e, acc, c, h => by
    simp only [rSps] at h
    cases ht : rTri l p with
    | error d => rw [ht] at h; simp only [Except.error.injEq] at h; rw [← h]; exact rTri_err ht
    | ok z =>
      rw [ht] at h
      simp only at h
      split at h
      · exact rSps_err h
      · simp only [Except.error.injEq] at h; rw [← h]; decide
theorem spansOf_err {l : Bs} {place : Nat} {c : Int} (h : spansOf l place = .error c) : c ≠ 0 := by
  unfold spansOf at h
  cases hn : BK.rNum l 0 with
  | error d => rw [hn] at h; simp only [Except.error.injEq] at h; rw [← h]; exact BK.num_err hn
  | ok z =>
    obtain ⟨n, p⟩ := z
    rw [hn] at h
    simp only at h
    split at h
    · simp only [Except.error.injEq] at h; rw [← h]; decide
    · cases hs : rSps l place n.toNat p 0 [] with
      | error d => rw [hs] at h; simp only [rSpEnd, Except.error.injEq] at h; rw [← h]; exact rSps_err hs
      | ok y =>
        rw [hs] at h
        simp only [rSpEnd] at h
        split at h
        · cases h
        · simp only [Except.error.injEq] at h; rw [← h]; decide

/-- where a search ends is where the document's goes through -/
theorem which_search {ss : List Sp} {k : ByteArray} {i : Nat} (hr : Rising ss) (hi : i ≤ ss.length) (h0 : ∀ m (hm : m < ss.length), i = m + 1 → lt ss[m].last k = true) (h1 : ∀ (h : i < ss.length), lt ss[i].last k = false) : which ss k = i := by
  have hp := List.pairwise_iff_getElem.1 hr
  have hlow : ∀ j (hj : j < ss.length), j < i → lt ss[j].last k = true := by
    intro j hj hji
    obtain ⟨m, hm⟩ : ∃ m, i = m + 1 := ⟨i - 1, by omega⟩
    have hk := h0 m (by omega) hm
    by_cases he : j = m
    · subst he; exact hk
    · have h2 := hp j m hj (by omega) (by omega)
      cases h : lt ss[j].last k with
      | true => rfl
      | false => have := le_trans (a := k) h h2; rw [hk] at this; cases this
  unfold which
  by_cases hl : i < ss.length
  · rw [List.findIdx_eq hl]
    refine ⟨by simp [h1 hl], fun j hj => ?_⟩
    simp [hlow j (by omega) hj]
  · have he : i = ss.length := by omega
    rw [he, List.findIdx_eq_length]
    intro x hx
    obtain ⟨j, hj, rfl⟩ := List.getElem_of_mem hx
    simp [hlow j hj (by omega)]
theorem which_le (ss : List Sp) (k : ByteArray) : which ss k ≤ ss.length := List.findIdx_le_length
end TB
end Go.Proofs.YtnglaolbfpdgoaaGreat

/- A table is read: filter and blocks. -/
namespace Go.Proofs.YtnglaolbfpdgoaaGreat
open Go.RowKit
open SK
open TB (Bs Sp)

theorem below_seq {B : Nat} {w w1 w2 : World} (h : Below B w w1) (k : Below w1.heap.size w1 w2) (hB : B ≤ w1.heap.size) : Below B w w2 :=
  h.trans ⟨k.os, k.tape, k.output, k.size, fun j hj => k.block j (by omega)⟩

/-- a table of which nothing has been read but perhaps the filter -/
structure Tab0 (w : World) (t x : Nat) (s f : ByteArray) : Prop where
  row : w.heap[t]? = some (.cells #[srcV x, .slice none 0 0, .string f] 84 (0, 0))
  src : w.heap[x]? = some (.cells #[.string s] 9 (0, 0))
  ne : x ≠ t

section
variable {w w' : World} {t x : Nat} {s f : ByteArray}
theorem Tab0.lt (h : Tab0 w t x s f) : t < w.heap.size := (Array.getElem?_eq_some_iff.1 h.row).1
theorem Tab0.below (h : Tab0 w t x s f) (hb : Below w.heap.size w w') : Tab0 w' t x s f :=
  ⟨(hb.block t h.lt).trans h.row, (hb.block x (Array.getElem?_eq_some_iff.1 h.src).1).trans h.src, h.ne⟩
theorem Tab0.c0 (h : Tab0 w t x s f) : w.cell? ⟨t, 0, none⟩ = some (srcV x) := cell_of_row _ _ _ _ _ _ h.row
theorem Tab0.c1 (h : Tab0 w t x s f) : w.cell? ⟨t, 1, none⟩ = some (.slice none 0 0) := cell_of_row _ _ _ _ _ _ h.row
theorem Tab0.c2 (h : Tab0 w t x s f) : w.cell? ⟨t, 2, none⟩ = some (.string f) := cell_of_row _ _ _ _ _ _ h.row
theorem Tab0.cx (h : Tab0 w t x s f) : w.cell? ⟨x, 0, none⟩ = some (.string s) := cell_of_row _ _ _ _ _ _ h.src
theorem Tab0.fz (h : Tab0 w t x s f) (i : Nat) : w.frozen? ⟨t, i, none⟩ = false := frozen_of_row _ _ _ _ _ h.row
theorem Tab0.filter (h : Tab0 w t x s f) (g : ByteArray) : Tab0 (w.setCell ⟨t, 2, none⟩ (.string g)) t x s g :=
  ⟨heap_set_fr h.row 2 (.string g), (Below.heap_setCell _ _ _ _ h.ne).trans h.src, h.ne⟩
theorem Tab0.spans (h : Tab0 w t x s f) {A : Option Addr} {ss : List Sp} {c : Nat} (hin : SpsIn w A ss) (hA : ∀ y ∈ fb A, y ≠ t) (hr : TB.Rising ss) (hl : ss.length ≤ 65535) : Tab (w.setCell ⟨t, 1, none⟩ (.slice A ss.length c)) t x s ss f :=
  ⟨⟨A, c, heap_set_fr h.row 1 (.slice A ss.length c), hin.grown (grownBy_setCell _ _ _) (fun y hy => by simp; exact hA y hy)⟩, (Below.heap_setCell _ _ _ _ h.ne).trans h.src, hr, hl⟩
end

/-- what reading a table comes to -/
def ReadT (w : World) (t x : Nat) (s : ByteArray) (r : Except Int (List Sp × Bs)) (e : Ending) (w' : World) : Prop :=
  w.grownBy w' (some t) ∧ match r with
    | .ok (ss, fl) => e = .returned (.tuple #[]) ∧ Tab w' t x s ss ⟨fl.toArray⟩
    | .error c => e = .panicked (tfault c)

theorem mk_list (l : Bs) : (⟨l.toArray⟩ : ByteArray).data.toList = l := by simp

set_option maxRecDepth 100000 in
set_option maxHeartbeats 4000000 in
theorem tread_any (w : World) (t x : Nat) (s : ByteArray) (z : Nat) (h : Tab0 w t x s ⟨#[]⟩) (hs : s.size ≤ 281474976710656) (hz : z ≤ 9223372036854775807) :
    Calls Tryz.prog 38 #[.pointer (some ⟨t, 0, none⟩), .int .i64 z] w fun e w' => ReadT w t x s (TB.readS s.data.toList z) e w' := by
  have HBODY : Hid (∀ (a n : Int) (f : ByteArray) W, Tab0 W t x s f → -9223372036854775808 ≤ a → a ≤ 9223372036854775807 → -9223372036854775808 ≤ n → n ≤ 9223372036854775807 →
      Calls Tryz.prog 40 #[.pointer (some ⟨t, 0, none⟩), .int .i64 a, .int .i64 n] W fun e w' => TextOr W (TB.bodyOf s.data.toList a n) e w') := Lib.hid fun a n f W hW a0 a1 n0 n1 => tbody_any t x s a n W hW.c0 hW.cx hs a0 a1 n0 n1
  obtain ⟨X, hX⟩ : ∃ X, TB.readS s.data.toList z = X := ⟨_, rfl⟩
  have HX0 : Hid (X = TB.rest0 s.data.toList z (TB.bodyOf s.data.toList z 24)) := Lib.hid (by rw [← hX]; rfl)
  rw [hX]
  have HT := Lib.hid h
  have HTL := Lib.hid h.lt
  have HSL := Lib.hid (size_list s)
  have HSZ := Lib.hid hs
  clear hX h hs
  go_enter Tryz.func38, Tryz.ntmps38
  go_wp2_with fail
  have HC := HBODY.out z 24 _ w HT.out (by omega) (by omega) (by omega) (by omega)
  cases h0 : TB.bodyOf s.data.toList z 24 with
  | error c =>
    rw [h0] at HC
    have HF : Hid (X = .error c) := Lib.hid (by rw [HX0.out, h0]; rfl)
    refine HC.mono ?_
    rintro e w1 ⟨hb, rfl⟩
    exact ⟨rfl, grown_below hb, by rw [HF.out]⟩
  | ok ft =>
    rw [h0] at HC
    obtain ⟨-, hfl, -, hzl⟩ := TB.bodyOf_ok h0
    rw [HSL.out] at hzl
    have hz48 : z ≤ 281474976710656 := by have := HSZ.out; omega
    have HX1 : Hid (X = TB.rest0 s.data.toList z (.ok ft)) := Lib.hid (by rw [HX0.out, h0])
    refine HC.mono ?_
    rintro e w1 ⟨hb, rfl⟩
    have HT1 := Lib.hid (HT.out.below hb)
    have HB1 := Lib.hid hb
    have HPL := places_any ⟨ft.toArray⟩ z w1 (by rw [mk_size]; omega) hz48
    rw [mk_list] at HPL
    simp only [TB.rest0] at HX1
    clear HC h0 hb HX0 HT
    go_wp2_with fail
    generalize TB.big (ft.take 8) = P at HPL HX1
    generalize TB.big (ft.drop 8) = Q at HPL HX1
    by_cases hpq : P ≤ Q ∧ Q ≤ z
    · simp only [if_pos hpq] at HPL HX1
      refine HPL.mono ?_
      rintro e w2 ⟨hb, rfl⟩
      have HT2 := Lib.hid (HT1.out.below hb)
      have HB2 := Lib.hid (below_seq HB1.out hb HB1.out.size)
      have hw1 : IntKind.i64.wrap ((Q : Int) - (P : Int)) = (Q : Int) - (P : Int) := IntWalk.i64_in _ ⟨by omega, by omega⟩
      have hw2 : IntKind.i64.wrap ((z : Int) - (Q : Int)) = (z : Int) - (Q : Int) := IntWalk.i64_in _ ⟨by omega, by omega⟩
      clear HPL hb HT1 HB1
      go_wp2_with fail
      have HC := HBODY.out P ((Q : Int) - P) _ w2 HT2.out (by omega) (by omega) (by omega) (by omega)
      cases h1 : TB.bodyOf s.data.toList P ((Q : Int) - P) with
      | error c =>
        rw [h1] at HC HX1
        have HF : Hid (X = .error c) := Lib.hid HX1.out
        refine HC.mono ?_
        rintro e w3 ⟨hb, rfl⟩
        exact ⟨rfl, grown_below (below_seq HB2.out hb HB2.out.size), by rw [HF.out]⟩
      | ok ix =>
        rw [h1] at HC HX1
        have HIX := Lib.hid (TB.bodyOf_ok h1).1
        have HX2 : Hid (X = TB.rest2 ix P (TB.bodyOf s.data.toList Q ((z : Int) - Q))) := Lib.hid HX1.out
        refine HC.mono ?_
        rintro e w3 ⟨hb, rfl⟩
        have HT3 := Lib.hid (HT2.out.below hb)
        have HB3 := Lib.hid (below_seq HB2.out hb HB2.out.size)
        clear HC h1 hb HT2 HB2 HX1
        go_wp2_with fail
        have HC := HBODY.out Q ((z : Int) - Q) _ w3 HT3.out (by omega) (by omega) (by omega) (by omega)
        cases h2 : TB.bodyOf s.data.toList Q ((z : Int) - Q) with
        | error c =>
          rw [h2] at HC HX2
          have HF : Hid (X = .error c) := Lib.hid HX2.out
          refine HC.mono ?_
          rintro e w4 ⟨hb, rfl⟩
          exact ⟨rfl, grown_below (below_seq HB3.out hb HB3.out.size), by rw [HF.out]⟩
        | ok fl =>
          rw [h2] at HC HX2
          have HX3 : Hid (X = TB.rest3 fl (TB.spansOf ix P)) := Lib.hid HX2.out
          refine HC.mono ?_
          rintro e w4 ⟨hb, rfl⟩
          have HT4 := Lib.hid (HT3.out.below hb)
          have HB4 := Lib.hid (below_seq HB3.out hb HB3.out.size)
          have HT5 := Lib.hid (HT4.out.filter ⟨fl.toArray⟩)
          have HG5 : Hid (w.grownBy (w4.setCell ⟨t, 2, none⟩ (.string ⟨fl.toArray⟩)) (some t)) := Lib.hid (grown_set (grown_below HB4.out) _ _)
          have c2 := HT4.out.c2
          have f2 := HT4.out.fz 2
          clear HC h2 hb HT3 HB3 HX2
          go_wp2_with fail
          generalize w4.setCell ⟨t, 2, none⟩ (.string ⟨fl.toArray⟩) = w5 at HT5 HG5 ⊢
          have HC := tspans_any ⟨ix.toArray⟩ P w5 (by rw [mk_size]; exact HIX.out) (by omega)
          rw [mk_list] at HC
          cases h3 : TB.spansOf ix P with
          | error c =>
            rw [h3] at HC HX3
            have HF : Hid (X = .error c) := Lib.hid HX3.out
            refine HC.mono ?_
            rintro e w6 ⟨hb, rfl⟩
            exact ⟨rfl, grown_trans HG5.out (grown_below hb), by rw [HF.out]⟩
          | ok ss =>
            rw [h3] at HC HX3
            have hF : X = .ok (ss, fl) := HX3.out
            clear HX3
            subst hF
            refine HC.mono ?_
            rintro e w6 ⟨hb, A, c, rfl, hin, hfb⟩
            have HT6 := Lib.hid (HT5.out.below hb)
            have HG6 := Lib.hid (grown_trans HG5.out (grown_below (r := some t) hb))
            have HTT := Lib.hid (HT6.out.spans (c := c) hin (fun y hy => by have := (hfb y hy).1; have := HT5.out.lt; omega) (TB.spansOf_ok h3).1 (Nat.le_trans (TB.spansOf_ok h3).2 HIX.out))
            have c1 := HT6.out.c1
            have f1 := HT6.out.fz 1
            clear HC h3 hb hin hfb c2 f2
            go_wp2
            go_end0
            exact ⟨grown_set HG6.out _ _, rfl, HTT.out⟩
    · simp only [if_neg hpq] at HPL HX1
      refine HPL.mono ?_
      rintro e w2 ⟨hb, rfl⟩
      exact ⟨rfl, grown_below (below_seq HB1.out hb HB1.out.size), by rw [HX1.out]⟩
end Go.Proofs.YtnglaolbfpdgoaaGreat

