/- Texts joined by bundle.py: Rt, Ge, Gg, Rg, Rp, Se. -/
import Derived.Test.YtmiihbklneegbaaZba
import Derived.Test.YtmiihbklneegbaaZbc
import Derived.Defers
import Derived.Recover

/- Reading: all entries. -/
namespace Go.Proofs.Ytmiihbklneegbaa
open Go.RowKit
open SK

/-- what reading all entries comes to -/
def EntriesOut (w : World) (r : Nat) (x : Except Int (List E)) (e : Ending) (w' : World) : Prop :=
  w.grownBy w' (some r) ∧ match x with
    | .ok es => ∃ A c, e = .returned (.slice A es.length c) ∧ EntsIn w' A es ∧ ∀ x ∈ fb A, w.heap.size ≤ x ∧ x < w'.heap.size
    | .error c => e = .panicked (fault c)

theorem own_r {w w' : World} {base r : Nat} {e : TypeId} {size : Nat} {v : Value} {n : Nat} {xs : List Value} (h : w.ownsRow base e size v n xs) (hg : w.grownBy w' (some r)) (hr : r < base) : w'.ownsRow base e size v n xs :=
  h.kept (row := some r) hg (by
    cases hv : v.ownBlock with
    | none => exact Or.inl rfl
    | some g => right; intro he; have := (h.lt g hv).1; simp at he; omega)

set_option maxRecDepth 100000 in
set_option maxHeartbeats 4000000 in
theorem entries_any (w : World) (r : Nat) (s : ByteArray) (h : RdAt w r s 0) (hs : s.size ≤ 281474976710656) :
    Calls Try.prog 85 #[.pointer (some ⟨r, 0, none⟩)] w fun e w' => EntriesOut w r (BK.getOut s.data.toList) e w' := by
  obtain ⟨i0, hi, hz0, hz1, hz2⟩ := info_parts info_ent
  have HC := Lib.hid (count_any w r 0 s h hs (Nat.zero_le _))
  have hlt := h.lt
  have HGC : Hid (BK.getOut s.data.toList = match BK.rCount s.data.toList 0 with | .error c => .error c | .ok (n, p) => BK.rEnd s.data.toList (BK.rEnts s.data.toList n.toNat p [])) := Lib.hid (BK.get_count _)
  obtain ⟨X, hX⟩ : ∃ X, BK.getOut s.data.toList = X := ⟨_, rfl⟩
  rw [hX] at HGC ⊢
  have HLT := Lib.hid hlt
  clear hX h hlt
  cases hc : BK.rCount s.data.toList 0 with
  | error c =>
    have HF : Hid (X = .error c) := Lib.hid (by rw [HGC.out, hc])
    rw [hc] at HC
    clear hc HGC
    go_enter Try.func85, Try.ntmps85
    go_wp2_with fail
    refine HC.out.mono ?_
    rintro e w1 ⟨hg, rfl⟩
    exact ⟨rfl, hg, by rw [HF.out]⟩
  | ok z =>
    obtain ⟨n, p⟩ := z
    obtain ⟨hn0, hn1, hpl⟩ := BK.count_ok hc
    have HXX : Hid (X = BK.rEnd s.data.toList (BK.rEnts s.data.toList n.toNat p [])) := Lib.hid (by rw [HGC.out, hc])
    rw [hc] at HC
    clear hc HGC
    rw [size_list] at hpl
    obtain ⟨m, rfl⟩ := Int.eq_ofNat_of_zero_le hn0
    rw [Int.toNat_natCast] at HXX
    have HM : Hid (m ≤ 4096) := Lib.hid (by omega)
    have HPL := Lib.hid hpl
    clear hn0 hn1 hpl
    go_enter Try.func85, Try.ntmps85
    go_wp2_with fail
    refine HC.out.mono ?_
    rintro e w1 ⟨hg, rfl, hr⟩
    have HG1 := Lib.hid hg
    have HR1 := Lib.hid hr
    clear hg hr HC
    simp only [numV]
    go_wp2_with fail
    go_loopw [3, 6] (fun v i wr => ∃ j : Nat, j ≤ m ∧ i = .int .i64 j ∧ ∃ (acc : List E) (q : Nat), acc.length = j ∧ BK.rEnts s.data.toList m p [] = BK.rEnts s.data.toList (m - j) q acc ∧ q ≤ s.size ∧ RdAt wr r s q ∧ wr.ownsRow w.heap.size 41 5 v j (ecs acc) ∧ w.grownBy wr (some r) ∧ ∀ x ∈ acc, x.wf ∧ good x = 0) (fun _ i _ => m - (intOf i).toNat)
    case atStart => exact ⟨0, by omega, rfl, [], p, rfl, by simp, HPL.out, HR1.out, World.ownsRow_nil _ _ _ _, HG1.out, by simp⟩
    case round =>
      obtain ⟨j, hj, rfl, acc, q, hal, hit, hq, hr, hown, hg, hwf⟩ := hrel
      obtain ⟨A, cap, rfl, hen, hfb, -⟩ := own_ents (fun x hx => (hwf x hx).1) hal hown
      by_cases hlt : j < m
      · have HIT := Lib.hid (entry_any wr r q s A j cap acc hr hs hq hal hen (fun x hx => by have := (hfb x hx).1; have := HLT.out; omega) (by have := HM.out; omega) (BK.lastKey_le fun x hx => (hwf x hx).2))
        have hjm : m - j = (m - (j + 1)) + 1 := by omega
        rw [hjm] at hit
        simp only [BK.rEnts] at hit
        cases hi2 : BK.rEnt s.data.toList q acc with
        | error c =>
          rw [hi2] at hit HIT
          have HF : Hid (X = .error c) := Lib.hid (by rw [HXX.out, hit]; rfl)
          have HG := Lib.hid hg
          clear hi2 hit hown hr hq hal hwf hg hjm hen hfb
          go_wp2_with fail
          refine HIT.out.mono ?_
          rintro e w3 ⟨hg3, rfl⟩
          exact ⟨rfl, grown_trans HG.out hg3, by rw [HF.out]⟩
        | ok z =>
          obtain ⟨e, q'⟩ := z
          obtain ⟨ho1, ho2⟩ := BK.ent_ok hi2
          obtain ⟨hew, hq'⟩ := BK.one_wf ho1 (by have := BK.lastKey_le fun x hx => (hwf x hx).2; omega)
          rw [size_list] at hq'
          rw [hi2] at hit HIT
          simp only at hit
          have HIT2 := Lib.hid hit
          have HG := Lib.hid hg
          have HOWN := Lib.hid hown
          have HAL := Lib.hid hal
          have HQ := Lib.hid hq'
          have HWF : Hid (∀ x ∈ acc ++ [e], x.wf ∧ good x = 0) := Lib.hid (fun x hx => by
            rcases List.mem_append.1 hx with h | h
            · exact hwf x h
            · simp at h; rw [h]; exact ⟨hew, (BK.nb_zero ho2).1⟩)
          have HSN : Hid (ecs (acc ++ [e]) = ecs acc ++ E.cells e) := Lib.hid (ecs_snoc _ _)
          clear hi2 hit hown hr hq hal hwf hg hjm hew hq' ho1 ho2 hen hfb
          go_wp2_with fail
          refine HIT.out.mono ?_
          rintro e3 w3 ⟨hg3, rfl, hr3⟩
          have HO3 := Lib.hid (own_r HOWN.out hg3 HLT.out)
          have HG3 := Lib.hid (grown_trans HG.out hg3)
          have HR3 := Lib.hid hr3
          have HS3 : Hid (w.heap.size ≤ w3.heap.size) := Lib.hid HG3.out.size
          obtain ⟨Y, hY⟩ : ∃ Y, ecs acc = Y := ⟨_, rfl⟩
          rw [hY] at HO3 HSN
          have HE : Hid (∃ e', e' = e) := Lib.hid ⟨e, rfl⟩
          clear hg3 hr3 HIT HG HOWN hY
          obtain ⟨k2, q2, g2, v2, t2⟩ := e
          simp only [entV, E.val]
          have hm4 : m ≤ 4096 := HM.out
          go_wp2_with (at_builtin; refine wpList_append_own _ rfl _ _ 24 rfl w.heap.size 41 i0 _ 5 56 Try.underlying24 hi hz0 hz1 hz2 rfl (by decide) _ _ _ rfl (own_below HO3.out ((Below.refl _ _).alloc (Nat.le_refl _) _)) ⟨w3.heap.size, 0, none⟩ 1 1 (E.cells ⟨k2, q2, g2, v2, t2⟩) rfl ?c1 ?c2 ?c3 ?c4 ?c5 ?c6 ?_)
          case c1 => rfl
          case c2 =>
            refine World.news_of_block (cs := (E.cells ⟨k2, q2, g2, v2, t2⟩).toArray) (t := 41) (fr := (0, 0)) ?_
            exact heap_alloc_new w3 _
          case c3 => simp [E.cells, Value.oneCell']
          case c4 => unfold maxLen; omega
          case c5 => omega
          case c6 => have := HS3.out; simp; omega
          intro v' w6 hown6 hgrow6 hnil6
          have hob : ∀ g, (Value.slice A j cap).ownBlock = some g → w.heap.size ≤ g := fun g hg => (HO3.out.lt g hg).1
          have HR6 : Hid (w6.ownsRow w.heap.size 41 5 v' (j + 1) (ecs (acc ++ [⟨k2, q2, g2, v2, t2⟩]))) := Lib.hid (by rw [HSN.out]; exact hown6)
          have HRD6 : Hid (RdAt w6 r s q') := Lib.hid ((hgrow6.block r (by have := HR3.out.lt; simp; omega) (by intro he; have := hob r he.symm; have := HLT.out; omega)).trans ((Below.heap_alloc _ _ _ HR3.out.lt).trans HR3.out))
          have HG6 : Hid (w.grownBy w6 (some r)) := Lib.hid ⟨hgrow6.os.trans HG3.out.os, hgrow6.tape.trans HG3.out.tape, hgrow6.output.trans HG3.out.output, by have := hgrow6.size; have := HS3.out; simp at *; omega, fun x hx hxr =>
            (hgrow6.block x (by have := HS3.out; simp; omega) (by intro he; have := hob x he.symm; omega)).trans ((Below.heap_alloc _ _ _ (by have := HS3.out; omega)).trans (HG3.out.block x hx hxr))⟩
          clear hown6 hgrow6 hnil6 hob
          go_wp2
          go_roundw
          case rel => exact ⟨j + 1, by omega, by go_num, acc ++ [⟨k2, q2, g2, v2, t2⟩], q', by rw [List.length_append, HAL.out]; rfl, HIT2.out, HQ.out, HRD6.out, HR6.out, HG6.out, HWF.out⟩
          case measure => simp [intOf]; omega
      · have hjm : j = m := by omega
        have hz : m - j = 0 := by omega
        rw [hz] at hit
        simp only [BK.rEnts] at hit
        have HX2 : Hid (X = if q < s.size then .error 4 else .ok acc) := Lib.hid (by rw [HXX.out, hit]; unfold BK.rEnd; rw [size_list])
        have HG := Lib.hid hg
        have HEN := Lib.hid hen
        have HFB := Lib.hid hfb
        have c0 := hr.c0
        have c1 := hr.c1
        have hne : ∀ i j : Nat, j < i → ¬ i ≤ j := fun _ _ h => by omega
        subst hjm
        clear hz hit hown hg hwf hr HXX hen hfb
        by_cases hql : q < s.size
        · have HF : Hid (X = .error 4) := Lib.hid (by rw [HX2.out, if_pos hql])
          have hqi : (q : Int) < (s.size : Int) := by omega
          go_wp2_with fail
          go_quiet (fail)
          go_wp2_with fail
          refine (leave_bad 4 _ (by decide)).mono ?_
          rintro e w3 ⟨rfl, rfl⟩
          exact ⟨rfl, grown_drewN HG.out _, by rw [HF.out]⟩
        · have HF : Hid (X = .ok acc) := Lib.hid (by rw [HX2.out, if_neg hql])
          have hqi : ¬ (q : Int) < (s.size : Int) := by omega
          go_wp2_with fail
          go_quiet (fail)
          go_wp2
          go_ret
          refine ⟨grown_drewN HG.out _, ?_⟩
          rw [HF.out]
          exact ⟨A, cap, by rw [hal]; rfl, HEN.out.below ⟨rfl, rfl, rfl, Nat.le_refl _, fun _ _ => rfl⟩, HFB.out⟩
end Go.Proofs.Ytmiihbklneegbaa

/- Reading, whole: a fault is caught. -/
namespace Go.Proofs.Ytmiihbklneegbaa
open Go.RowKit
open SK

theorem fault_nil (c : Int) (w : World) : (binOp .eql 20 (.iface 139 (.int .i64 c)) .nilIface).run Try.prog w = .ok (.bool false) w := by
  have h : ∀ d : Nat, (Op.equalIn (d + 1) 20 (.iface 139 (.int .i64 c)) .nilIface).run Try.prog w = .ok false w := fun d => by
    simp [Op.equalIn, run_underlying Try.underlying20]
  simp only [binOp]
  simp [Op.equal, Op.maxDepth, h 9999]

theorem fault_is (c : Int) (w : World) : (Instr.typeAssert (.iface 139 (.int .i64 c)) 20 139 true).run Try.prog w = .ok (.tuple #[.int .i64 c, .bool true]) w := by
  have hu := run_underlying (w := w) Try.underlying139
  simp [Instr.typeAssert, hu]

/-- the deferred closure, of a frame that a fault leaves -/
theorem catch_fault (p : Addr) (c : Int) (w : World) (hc : w.cell? p = some (.int .i64 0)) (hz : w.frozen? p = false) :
    CallsD Try.prog 88 #[.pointer (some p)] (.panicking (fault c)) w fun e u' w' =>
      e = .returned (.tuple #[]) ∧ u' = .panicking [{ v := .iface 139 (.int .i64 c), recovered := true }] ∧ w' = w.setCell p (.int .i64 c) := by
  unfold fault
  have heq := fault_nil c
  have hta := fault_is c
  refine callsD_of_wpS Try.func88 rfl fun c₀ cs hu => ?_
  apply wpS_seq
  apply wpS_region
  simp [wpOpsS, go_sem, recoverD, hu, Try.ntmps88, Exit.thenS]
  apply wpS_seq
  apply wpS_seq
  apply wpS_region
  simp [wpOpsS, go_sem, Exit.thenS, heq]
  refine wpS_cond (t := false) (by simp [Act.eval, Array.replicate]) ?_
  simp only [Bool.false_eq_true, if_false]
  refine wpS_of_wp (wp_skip ?_)
  apply wpS_seq
  apply wpS_region
  simp [wpOpsS, go_sem, Exit.thenS, hta]
  apply wpS_seq
  apply wpS_seq
  apply wpS_region
  simp [wpOpsS, go_sem, Exit.thenS]
  refine wpS_cond (t := false) (by simp [Act.eval, Array.replicate]) ?_
  simp only [Bool.false_eq_true, if_false]
  refine wpS_of_wp (wp_skip ?_)
  apply wpS_region
  simp [wpOpsS, go_sem, hc, hz, bodyPostS, results, Try.results88]

theorem catch_idle (p : Addr) (w : World) :
    CallsD Try.prog 88 #[.pointer (some p)] .returning w fun e u' w' => e = .returned (.tuple #[]) ∧ u' = .returning ∧ w' = w := by
  have heq : ∀ w, (binOp .eql 20 .nilIface .nilIface).run Try.prog w = .ok (.bool true) w := fun w => by kernel_rfl
  refine callsD_of_wpS Try.func88 rfl fun c₀ cs hu => ?_
  apply wpS_seq
  apply wpS_region
  simp [wpOpsS, go_sem, recoverD, hu, Try.ntmps88, Exit.thenS]
  apply wpS_seq
  apply wpS_seq
  apply wpS_region
  simp [wpOpsS, go_sem, Exit.thenS, heq]
  refine wpS_cond (t := true) (by simp [Act.eval, Array.replicate]) ?_
  simp only [if_true]
  refine wpS_of_wp (wp_ret ?_)
  cases c₀
  simp_all [bodyPostS, results, Try.results88, Exit.thenS]

/-- what the reading closure comes to: the items lie in its variable, or a fault leaves it -/
def ReadOut (w : World) (b : Nat) (x : Except Int (List E)) (e : Ending) (w' : World) : Prop :=
  w.grownBy w' (some b) ∧ match x with
    | .ok es => e = .returned (.tuple #[]) ∧ ∃ A c, w'.heap[b]? = some (.cells #[.slice A es.length c] 24 (0, 0)) ∧ EntsIn w' A es ∧ ∀ x ∈ fb A, w.heap.size ≤ x ∧ x < w'.heap.size
    | .error c => e = .panicked (fault c) ∧ w'.heap[b]? = w.heap[b]?

theorem grown_fresh' {w w1 w' : World} (h : w.grownBy w1 none) (k : w1.grownBy w' (some w.heap.size)) : w.grownBy w' none :=
  ⟨k.os.trans h.os, k.tape.trans h.tape, k.output.trans h.output, Nat.le_trans h.size k.size, fun x hx _ => (k.block x (by have := h.size; omega) (by simp; omega)).trans (h.block x hx (by simp))⟩

set_option maxRecDepth 100000 in
set_option maxHeartbeats 1000000 in
theorem read_any (w : World) (a b : Nat) (s : ByteArray) (ha : w.heap[a]? = some (.cells #[.string s] 9 (0, 0))) (hb : w.heap[b]? = some (.cells #[.slice none 0 0] 24 (0, 0))) (hs : s.size ≤ 281474976710656) :
    Calls Try.prog 84 #[.pointer (some ⟨a, 0, none⟩), .pointer (some ⟨b, 0, none⟩)] w fun e w' => ReadOut w b (BK.getOut s.data.toList) e w' := by
  have hbl : b < w.heap.size := (Array.getElem?_eq_some_iff.1 hb).1
  have ca : w.cell? ⟨a, 0, none⟩ = some (.string s) := cell_of_row _ _ _ _ _ _ ha
  have hg0 := grown_alloc w (.cells #[.string s, .int .i64 0] 135) none
  have hr0 : RdAt (w.alloc (.cells #[.string s, .int .i64 0] 135)) w.heap.size s 0 := heap_alloc_new w _
  have HI := Lib.hid (entries_any _ w.heap.size s hr0 hs)
  have HG0 := Lib.hid hg0
  have HB := Lib.hid hb
  have HBL := Lib.hid hbl
  clear ha hb hg0 hr0 hbl
  cases hx : BK.getOut s.data.toList with
  | error c =>
    rw [hx] at HI
    clear hx
    go_enter Try.func84, Try.ntmps84
    go_wp2_with fail
    refine HI.out.mono ?_
    rintro e w1 ⟨hg, rfl⟩
    have hn := grown_fresh' HG0.out hg
    exact ⟨rfl, grown_r hn, rfl, hn.block b HBL.out (by simp)⟩
  | ok es =>
    rw [hx] at HI
    clear hx
    go_enter Try.func84, Try.ntmps84
    go_wp2_with fail
    refine HI.out.mono ?_
    rintro e w1 ⟨hg, A, c, rfl, hen, hfb⟩
    have hn := grown_fresh' HG0.out hg
    have hb1 := (hn.block b HBL.out (by simp)).trans HB.out
    have hfb' : ∀ x ∈ fb A, w.heap.size ≤ x ∧ x < w1.heap.size := fun x hx => by have := hfb x hx; simp at this; omega
    have HRES : Hid (ReadOut w b (.ok es) (.returned (.tuple #[])) (w1.setCell ⟨b, 0, none⟩ (.slice A es.length c))) := Lib.hid
      ⟨grown_set (grown_r hn) 0 _, rfl, A, c, heap_set_fr hb1 0 _, hen.grown (grownBy_setCell _ _ _) (fun x hx => by have := (hfb' x hx).1; have := HBL.out; simp; omega), fun x hx => by rw [setCell_size]; exact hfb' x hx⟩
    have c1 : w1.cell? ⟨b, 0, none⟩ = some (.slice none 0 0) := cell_of_row _ _ _ _ _ _ hb1
    have f1 : w1.frozen? ⟨b, 0, none⟩ = false := frozen_of_row _ _ _ _ _ hb1
    clear hg hen hfb hfb' hn hb1 HI
    go_wp2
    go_end0
    exact HRES.out

set_option maxRecDepth 100000 in
set_option maxHeartbeats 1000000 in
/-- caught, of the reading closure -/
theorem caught_any (w : World) (a b : Nat) (s : ByteArray) (ha : w.heap[a]? = some (.cells #[.string s] 9 (0, 0))) (hb : w.heap[b]? = some (.cells #[.slice none 0 0] 24 (0, 0))) (hs : s.size ≤ 281474976710656) :
    Calls Try.prog 83 #[.func (.func 84) #[] #[.pointer (some ⟨a, 0, none⟩), .pointer (some ⟨b, 0, none⟩)]] w fun e w' =>
      w.grownBy w' (some b) ∧ match BK.getOut s.data.toList with
        | .ok es => e = .returned (.int .i64 0) ∧ ∃ A c, w'.heap[b]? = some (.cells #[.slice A es.length c] 24 (0, 0)) ∧ EntsIn w' A es ∧ ∀ x ∈ fb A, w.heap.size ≤ x ∧ x < w'.heap.size
        | .error c => e = .returned (.int .i64 c) ∧ w'.heap[b]? = w.heap[b]? := by
  have hmf : ∀ (fn : Fn) (first cap : Array Value) (w : World), (Instr.makeFunc fn first cap).run Try.prog w = .ok (.func fn first cap) w := fun _ _ _ _ => rfl
  have hbl : b < w.heap.size := (Array.getElem?_eq_some_iff.1 hb).1
  have hal : a < w.heap.size := (Array.getElem?_eq_some_iff.1 ha).1
  have HR := Lib.hid (read_any (w.alloc (.cells #[.int .i64 0] 28)) a b s ((Below.heap_alloc _ _ _ hal).trans ha) ((Below.heap_alloc _ _ _ hbl).trans hb) hs)
  have HNEW := Lib.hid (heap_alloc_new w (.cells #[.int .i64 0] 28))
  have HG0 := Lib.hid (grown_alloc w (.cells #[.int .i64 0] 28) (some b))
  have HOLD := Lib.hid (Below.heap_alloc w (.cells #[.int .i64 0] 28) b hbl)
  have HBL := Lib.hid hbl
  clear ha hb hal hbl
  cases hx : BK.getOut s.data.toList with
  | error c =>
    rw [hx] at HR
    clear hx
    go_enter_defers Try.func83, Try.ntmps83
    go_wp2_with fail
    refine HR.out.mono ?_
    rintro e w1 ⟨hg, rfl, hbk⟩
    obtain ⟨x, hx⟩ : ∃ x, w.heap.size = x := ⟨_, rfl⟩
    have hrow : w1.heap[x]? = some (.cells #[.int .i64 0] 28 (0, 0)) := by
      rw [← hx]
      exact (hg.block w.heap.size (by simp) (by have := HBL.out; simp; omega)).trans HNEW.out
    have hrd : (w1.setCell ⟨x, 0, none⟩ (.int .i64 c)).cell? ⟨x, 0, none⟩ = some (.int .i64 c) := cell_of_row _ _ _ _ _ _ (heap_set_fr hrow 0 (.int .i64 c))
    have hgr : w.grownBy (w1.setCell ⟨x, 0, none⟩ (.int .i64 c)) (some b) := grown_new (grown_trans HG0.out hg) _ _ _ (by omega)
    have hbb : (w1.setCell ⟨x, 0, none⟩ (.int .i64 c)).heap[b]? = w.heap[b]? := (Below.heap_setCell _ _ _ _ (by have := HBL.out; simp; omega)).trans (hbk.trans HOLD.out)
    rw [hx]
    refine leaves_cons (f := 88) (args := #[.pointer (some ⟨x, 0, none⟩)]) (by simp) (by simp [go_sem]) ?_
    refine (catch_fault ⟨x, 0, none⟩ c _ (cell_of_row _ _ _ _ _ _ hrow) (frozen_of_row _ _ _ _ _ hrow)).mono ?_
    rintro e u' w'' ⟨rfl, rfl, rfl⟩
    generalize w1.setCell ⟨x, 0, none⟩ (.int .i64 c) = w2 at hrd hgr hbb ⊢
    simp [Leaves, settle, results, Try.results83, go_sem, hrd, hgr, hbb]
  | ok es =>
    rw [hx] at HR
    clear hx
    go_enter_defers Try.func83, Try.ntmps83
    go_wp2_with fail
    refine HR.out.mono ?_
    rintro e w1 ⟨hg, rfl, A, cp, hbk, hen, hfb⟩
    obtain ⟨x, hx⟩ : ∃ x, w.heap.size = x := ⟨_, rfl⟩
    have hrow : w1.heap[x]? = some (.cells #[.int .i64 0] 28 (0, 0)) := by
      rw [← hx]
      exact (hg.block w.heap.size (by simp) (by have := HBL.out; simp; omega)).trans HNEW.out
    have hc : w1.cell? ⟨x, 0, none⟩ = some (.int .i64 0) := cell_of_row _ _ _ _ _ _ hrow
    have hf : w1.frozen? ⟨x, 0, none⟩ = false := frozen_of_row _ _ _ _ _ hrow
    have hrd : (w1.setCell ⟨x, 0, none⟩ (.int .i64 0)).cell? ⟨x, 0, none⟩ = some (.int .i64 0) := cell_of_row _ _ _ _ _ _ (heap_set_fr hrow 0 (.int .i64 0))
    have hgr : w.grownBy (w1.setCell ⟨x, 0, none⟩ (.int .i64 0)) (some b) := grown_new (grown_trans HG0.out hg) _ _ _ (by omega)
    have hfb' : ∀ x ∈ fb A, w.heap.size + 1 ≤ x ∧ x < w1.heap.size := fun x hx => by have := hfb x hx; simp at this; omega
    have hbb : (w1.setCell ⟨x, 0, none⟩ (.int .i64 0)).heap[b]? = some (.cells #[.slice A es.length cp] 24 (0, 0)) := (Below.heap_setCell _ _ _ _ (by have := HBL.out; simp; omega)).trans hbk
    have HALL : Hid (w.grownBy (w1.setCell ⟨x, 0, none⟩ (.int .i64 0)) (some b) ∧ ∃ A c, (w1.setCell ⟨x, 0, none⟩ (.int .i64 0)).heap[b]? = some (.cells #[.slice A es.length c] 24 (0, 0)) ∧ EntsIn (w1.setCell ⟨x, 0, none⟩ (.int .i64 0)) A es ∧ ∀ y ∈ fb A, w.heap.size ≤ y ∧ y < (w1.setCell ⟨x, 0, none⟩ (.int .i64 0)).heap.size) := Lib.hid
      ⟨hgr, A, cp, hbb, hen.grown (grownBy_setCell _ _ _) (fun y hy => by have := (hfb' y hy).1; simp; omega), fun y hy => by rw [setCell_size]; have := hfb' y hy; omega⟩
    have HRD := Lib.hid hrd
    rw [hx]
    clear hg hbk hen hfb hfb' hgr hbb hrow hrd
    go_wp2
    refine leaves_cons (f := 88) (args := #[.pointer (some ⟨x, 0, none⟩)]) (by simp) (by simp [go_sem]) ?_
    refine (catch_idle ⟨x, 0, none⟩ _).mono ?_
    rintro e u' w'' ⟨rfl, rfl, rfl⟩
    have hrd := HRD.out
    have hall := HALL.out
    generalize w1.setCell ⟨x, 0, none⟩ (.int .i64 0) = w2 at hrd hall ⊢
    simp only [Leaves, settle]
    exact ⟨_, by simp [results, Try.results83, go_sem, hrd], hall.1, rfl, hall.2⟩
end Go.Proofs.Ytmiihbklneegbaa

/- block.Parse, whole. -/
namespace Go.Proofs.Ytmiihbklneegbaa
open Go.RowKit
open SK


set_option maxRecDepth 100000 in
set_option maxHeartbeats 1000000 in
theorem parse_any (s : ByteArray) (w : World) (hs : s.size ≤ 281474976710656) :
    Calls Try.prog 75 #[.string s] w fun e w' => ∃ A c, e = .returned (.tuple #[.slice A (BK.getL s.data.toList).length c, .int .i64 (BK.getC s.data.toList)]) ∧ EntsIn w' A (BK.getL s.data.toList) ∧ (∀ x ∈ fb A, w.heap.size ≤ x ∧ x < w'.heap.size) ∧ Below w.heap.size w w' := by
  have hmf : ∀ (fn : Fn) (first cap : Array Value) (w : World), (Instr.makeFunc fn first cap).run Try.prog w = .ok (.func fn first cap) w := fun _ _ _ _ => rfl
  have ha : ((w.alloc (.cells #[.string s] 9)).alloc (.cells #[.slice none 0 0] 24)).heap[w.heap.size]? = some (.cells #[.string s] 9 (0, 0)) := (Below.heap_alloc _ _ _ (by simp)).trans (heap_alloc_new w _)
  have hb : ((w.alloc (.cells #[.string s] 9)).alloc (.cells #[.slice none 0 0] 24)).heap[w.heap.size + 1]? = some (.cells #[.slice none 0 0] 24 (0, 0)) := by
    have := heap_alloc_new (w.alloc (.cells #[.string s] 9)) (.cells #[.slice none 0 0] 24)
    simpa using this
  have HG0 : Hid (Below w.heap.size w ((w.alloc (.cells #[.string s] 9)).alloc (.cells #[.slice none 0 0] 24))) := Lib.hid (((Below.refl _ w).alloc (Nat.le_refl _) _).alloc (by simp) _)
  have HS0 : Hid (((w.alloc (.cells #[.string s] 9)).alloc (.cells #[.slice none 0 0] 24)).heap.size = w.heap.size + 2) := Lib.hid (by simp)
  have HC := Lib.hid (caught_any _ w.heap.size (w.heap.size + 1) s ha hb hs)
  have HB := Lib.hid hb
  obtain ⟨L, hL⟩ : ∃ L, BK.getL s.data.toList = L := ⟨_, rfl⟩
  obtain ⟨C, hC⟩ : ∃ C, BK.getC s.data.toList = C := ⟨_, rfl⟩
  rw [hL, hC]
  have HLL := Lib.hid hL
  have HCC := Lib.hid hC
  clear ha hb hL hC
  cases hx : BK.getOut s.data.toList with
  | error c =>
    obtain ⟨h1, h2⟩ := BK.getC_err hx
    have HC2 : Hid (C = c) := Lib.hid (by rw [← HCC.out, h1])
    have HL2 : Hid (L = []) := Lib.hid (by rw [← HLL.out, h2])
    rw [hx] at HC
    clear hx h1 h2
    go_enter Try.func75, Try.ntmps75
    go_wp2_with fail
    generalize (w.alloc (.cells #[.string s] 9)).alloc (.cells #[.slice none 0 0] 24) = w0 at HG0 HS0 HC HB ⊢
    refine HC.out.mono ?_
    rintro e w1 ⟨hg, rfl, hbk⟩
    have hrow := hbk.trans HB.out
    have c1 : w1.cell? ⟨w.heap.size + 1, 0, none⟩ = some (.slice none 0 0) := cell_of_row _ _ _ _ _ _ hrow
    have HBEL : Hid (Below w.heap.size w w1) := Lib.hid (HG0.out.trans ⟨hg.os, hg.tape, hg.output, hg.size, fun k hk => hg.block k (by have := HS0.out; omega) (by simp; omega)⟩)
    clear hg hbk hrow
    go_wp2
    go_ret2
    refine ⟨none, 0, ?_, ?_, by simp [fb], HBEL.out⟩
    · rw [HC2.out, HL2.out]; rfl
    · rw [HL2.out]; exact ⟨by simp, by simp⟩
  | ok es =>
    obtain ⟨h1, h2⟩ := BK.getC_ok hx
    have HC2 : Hid (C = 0) := Lib.hid (by rw [← HCC.out, h1])
    have HL2 : Hid (L = es) := Lib.hid (by rw [← HLL.out, h2])
    rw [hx] at HC
    clear hx h1 h2
    go_enter Try.func75, Try.ntmps75
    go_wp2_with fail
    generalize (w.alloc (.cells #[.string s] 9)).alloc (.cells #[.slice none 0 0] 24) = w0 at HG0 HS0 HC HB ⊢
    refine HC.out.mono ?_
    rintro e w1 ⟨hg, rfl, A, cp, hrow, hen, hfb⟩
    have c1 : w1.cell? ⟨w.heap.size + 1, 0, none⟩ = some (.slice A es.length cp) := cell_of_row _ _ _ _ _ _ hrow
    have HBEL : Hid (Below w.heap.size w w1) := Lib.hid (HG0.out.trans ⟨hg.os, hg.tape, hg.output, hg.size, fun k hk => hg.block k (by have := HS0.out; omega) (by simp; omega)⟩)
    have HEN := Lib.hid hen
    have HGL : Hid (∀ x ∈ fb A, w.heap.size ≤ x ∧ x < w1.heap.size) := Lib.hid (fun x hx => by have := hfb x hx; have := HS0.out; omega)
    clear hg hrow hen hfb
    go_wp2
    go_ret2
    refine ⟨A, cp, ?_, ?_, HGL.out, HBEL.out⟩
    · rw [HC2.out, HL2.out]; rfl
    · rw [HL2.out]; exact HEN.out
end Go.Proofs.Ytmiihbklneegbaa

/- The walk of the document's one. Made by gen_rg.py. -/
namespace Go.Proofs.Ytmiihbklneegbaa
open Go.RowKit
open SK

theorem one_full (l : List UInt8) (p : Nat) (K : ByteArray) : BK.rOne l p K =
  match BK.rNum l p with
  | .error c => .error c
  | .ok (n, p1) => if n < 0 ∨ (K.size : Int) < n then .error 4 else
    match BK.rText l p1 with
    | .error c => .error c
    | .ok (t, p2) =>
      match BK.rNum l p2 with
      | .error c => .error c
      | .ok (s, p3) =>
        match BK.rNum l p3 with
        | .error c => .error c
        | .ok (m, p4) => if m < 0 then .error 4 else if m = 0 then .ok (⟨K.extract 0 n.toNat ++ t, s, true, ⟨#[]⟩, 0⟩, p4) else
          match BK.rText l p4 with
          | .error c => .error c
          | .ok (v, q) => .ok (⟨K.extract 0 n.toNat ++ t, s, false, v, m - 1⟩, q) := by
  unfold BK.rOne BK.rKey
  cases BK.rNum l p with
  | error c => rfl
  | ok z =>
    obtain ⟨n, p1⟩ := z
    simp only [BK.rRest]
    by_cases hn : n < 0 ∨ (K.size : Int) < n
    · rw [if_pos hn, if_pos hn]
    · rw [if_neg hn, if_neg hn]
      cases BK.rText l p1 with
      | error c => rfl
      | ok z => rfl

def OneOut (w : World) (x : Except Int (E × Nat)) (e : Ending) (w' : World) : Prop :=
  Below w.heap.size w w' ∧ match x with
    | .ok (x, q) => e = .returned (.tuple #[x.val, .int .i64 q, .int .i64 0])
    | .error c => e = .returned (.tuple #[E.zero.val, .int .i64 0, .int .i64 c])

theorem below_new {B x : Nat} {a b : World} (h : Below B a b) (hx : B ≤ x) (j : Nat) (u : Value) : Below B a (b.setCell ⟨x, j, none⟩ u) := h.setCell (p := ⟨x, j, none⟩) hx u

end Go.Proofs.Ytmiihbklneegbaa

/- The walk of the document's Parse. -/
namespace Go.Proofs.Ytmiihbklneegbaa
open Go.RowKit
open SK

/-- what the document's Parse tells -/
def RefOut (w : World) (s : ByteArray) (e : Ending) (w' : World) : Prop :=
  ∃ A c, e = .returned (.tuple #[.slice A (BK.getL s.data.toList).length c, .int .i64 (BK.getC s.data.toList)]) ∧ EntsIn w' A (BK.getL s.data.toList) ∧ Below w.heap.size w w'

theorem refOut_bad {w w' : World} {s : ByteArray} {c : Int} (h : BK.getOut s.data.toList = .error c) (hb : Below w.heap.size w w') : RefOut w s (.returned (.tuple #[.slice none 0 0, .int .i64 c])) w' := by
  obtain ⟨h1, h2⟩ := BK.getC_err h
  refine ⟨none, 0, ?_, ?_, hb⟩
  · rw [h1, h2]; rfl
  · rw [h2]; exact ⟨by simp, by simp⟩

end Go.Proofs.Ytmiihbklneegbaa

/- The walk of the document's Get (of layer 6); sort.Search over any closure. -/
namespace Go.Proofs.Ytmiihbklneegbaa
open Go.RowKit
open SK

theorem find_none {p : E → Bool} {l : List E} (h : ∀ i, (hi : i < l.length) → p l[i] = false) : l.find? p = none := by
  rw [List.find?_eq_none]
  intro x hx
  obtain ⟨i, hi, rfl⟩ := List.getElem_of_mem hx
  simp [h i hi]
theorem find_at {p : E → Bool} {l : List E} {j : Nat} (hj : j < l.length) (h : ∀ i, (hi : i < j) → p (l[i]'(by omega)) = false) (hp : p l[j] = true) : l.find? p = some l[j] := by
  have hs : l = l.take j ++ l[j] :: l.drop (j + 1) := by rw [← List.drop_eq_getElem_cons, List.take_append_drop]
  have h1 : (l.take j).find? p = none := find_none fun i hi => by
    rw [List.length_take] at hi
    rw [List.getElem_take]
    exact h i (by omega)
  have h2 : (l.take j ++ l[j] :: l.drop (j + 1)).find? p = some l[j] := by rw [List.find?_append, h1, Option.none_or, List.find?_cons, hp]
  rw [← hs] at h2
  exact h2


set_option maxRecDepth 100000 in
/-- sort.Search over any closure that answers a bool and leaves what is below -/
theorem search_any (n : Nat) (w : World) (hlen : n ≤ 1000000) (fn : FuncId) (caps : Array Value) (u : Nat → Bool)
    (hcf : ∀ W q, (callFunc fn (#[.int .i64 q] ++ caps)).run Try.prog W = .ok (.enter fn (#[.int .i64 q] ++ caps)) W)
    (hcall : ∀ W, Below w.heap.size w W → ∀ p, p < n → Calls Try.prog fn (#[.int .i64 (p : Nat)] ++ caps) W fun e W' => e = .returned (.bool (u p)) ∧ Below W.heap.size W W') :
    Calls Try.prog 31 #[.int .i64 n, .func (.func fn) #[] caps] w fun e w' => ∃ i : Nat, e = .returned (.int .i64 i) ∧ i ≤ n ∧ (∀ m, i = m + 1 → u m = false) ∧ (i < n → u i = true) ∧ Below w.heap.size w w' := by
  have HCF := Lib.hid hcf
  have HC := Lib.hid hcall
  clear hcf hcall
  go_enter Try.func31, Try.ntmps31
  go_wp2_with fail
  go_loopw [5, 6] (fun a b wr => ∃ i j : Nat, i ≤ j ∧ j ≤ n ∧ a = .int .i64 i ∧ b = .int .i64 j ∧ Hid (∀ m, i = m + 1 → u m = false) ∧ Hid (j < n → u j = true) ∧ Below w.heap.size w wr) (fun a b _ => (intOf b).toNat - (intOf a).toNat)
  case atStart => exact ⟨0, n, by omega, by omega, rfl, rfl, Lib.hid (fun m h => by omega), Lib.hid (fun h => by omega), Below.refl _ _⟩
  case round =>
    obtain ⟨i, j, hij, hj, rfl, rfl, hu0, hu1, hB⟩ := hrel
    by_cases hlt : i < j
    · have hd : (((i : Int) + (j : Int)) / 2) = (((i + j) / 2 : Nat) : Int) := by omega
      have hwr : IntKind.i64.wrap ((i : Int) + (j : Int)) = (i : Int) + (j : Int) := IntWalk.i64_in _ ⟨by omega, by omega⟩
      obtain ⟨h, hh⟩ : ∃ h, (i + j) / 2 = h := ⟨_, rfl⟩
      have h1 : i ≤ h := by omega
      have h2 : h < j := by omega
      rw [hh] at hd
      have HCC := Lib.hid (HC.out wr hB h (by omega))
      have hcf := HCF.out
      have HB := Lib.hid hB
      clear hB hh
      go_wp2_with fail
      refine HCC.out.mono ?_
      rintro e w1 ⟨rfl, hB1⟩
      have HB1 := Lib.hid (HB.out.trans (hB1.mono HB.out.size))
      clear hB1
      cases hu : u h
      · have HU : Hid (∀ m, h + 1 = m + 1 → u m = false) := Lib.hid (fun m hm => by rw [show m = h by omega]; exact hu)
        go_wp2
        go_roundw
        case rel => exact ⟨h + 1, j, by omega, hj, by go_num, rfl, HU, hu1, HB1.out⟩
        case measure => simp [intOf]; omega
      · have HU : Hid (h < n → u h = true) := Lib.hid (fun _ => hu)
        go_wp2
        go_roundw
        case rel => exact ⟨i, h, h1, by omega, rfl, rfl, hu0, HU, HB1.out⟩
        case measure => simp [intOf]; omega
    · have hij : i = j := by omega
      subst hij
      have HB := Lib.hid hB
      clear hB
      go_wp2
      go_ret
      exact ⟨i, rfl, hj, hu0.out, hu1.out, HB.out⟩
end Go.Proofs.Ytmiihbklneegbaa

