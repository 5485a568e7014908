/- Texts joined by bundle.py: Rt, Ge, Gg, Rg. -/
import Derived.Test.YtnglaolbfpdgoaaGreatZbb
import Derived.Test.YtnglaolbfpdgoaaGreatZbd
import Derived.Defers
import Derived.Recover

/- Reading: all entries. -/
namespace Go.Proofs.YtnglaolbfpdgoaaGreat
open Go.RowKit
open SK

/-- what reading all entries comes to -/
def EntriesOut (w : World) (r : Nat) (x : Except Int (List E)) (e : Ending) (w' : World) : Prop :=
  w.grownBy w' (some r) ∧ match x with
    | .ok es => ∃ A c, e = .returned (.slice A es.length c) ∧ EntsIn w' A es ∧ ∀ x ∈ fb A, w.heap.size ≤ x ∧ x < w'.heap.size
    | .error c => e = .panicked (fault c)

theorem own_r {w w' : World} {base r : Nat} {e : TypeId} {size : Nat} {v : Value} {n : Nat} {xs : List Value} (h : w.ownsRow base e size v n xs) (hg : w.grownBy w' (some r)) (hr : r < base) : w'.ownsRow base e size v n xs :=
  h.kept (row := some r) hg (by
    cases hv : v.ownBlock with
    | none => exact Or.inl rfl
    | some g => right; intro he; have := (h.lt g hv).1; simp at he; omega)

set_option maxRecDepth 100000 in
set_option maxHeartbeats 4000000 in
theorem entries_any (w : World) (r : Nat) (s : ByteArray) (h : RdAt w r s 0) (hs : s.size ≤ 281474976710656) :
    Calls Tryz.prog 113 #[.pointer (some ⟨r, 0, none⟩)] w fun e w' => EntriesOut w r (BK.getOut s.data.toList) e w' := by
  obtain ⟨i0, hi, hz0, hz1, hz2⟩ := info_parts info_ent
  have HC := Lib.hid (count_any w r 0 s h hs (Nat.zero_le _))
  have hlt := h.lt
  have HGC : Hid (BK.getOut s.data.toList = match BK.rCount s.data.toList 0 with | .error c => .error c | .ok (n, p) => BK.rEnd s.data.toList (BK.rEnts s.data.toList n.toNat p [])) := Lib.hid (BK.get_count _)
  obtain ⟨X, hX⟩ : ∃ X, BK.getOut s.data.toList = X := ⟨_, rfl⟩
  rw [hX] at HGC ⊢
  have HLT := Lib.hid hlt
  clear hX h hlt
  cases hc : BK.rCount s.data.toList 0 with
  | error c =>
    have HF : Hid (X = .error c) := Lib.hid (by rw [HGC.out, hc])
    rw [hc] at HC
    clear hc HGC
    go_enter Tryz.func113, Tryz.ntmps113
    go_wp2_with fail
    refine HC.out.mono ?_
    rintro e w1 ⟨hg, rfl⟩
    exact ⟨rfl, hg, by rw [HF.out]⟩
  | ok z =>
    obtain ⟨n, p⟩ := z
    obtain ⟨hn0, hn1, hpl⟩ := BK.count_ok hc
    have HXX : Hid (X = BK.rEnd s.data.toList (BK.rEnts s.data.toList n.toNat p [])) := Lib.hid (by rw [HGC.out, hc])
    rw [hc] at HC
    clear hc HGC
    rw [size_list] at hpl
    obtain ⟨m, rfl⟩ := Int.eq_ofNat_of_zero_le hn0
    rw [Int.toNat_natCast] at HXX
    have HM : Hid (m ≤ 4096) := Lib.hid (by omega)
    have HPL := Lib.hid hpl
    clear hn0 hn1 hpl
    go_enter Tryz.func113, Tryz.ntmps113
    go_wp2_with fail
    refine HC.out.mono ?_
    rintro e w1 ⟨hg, rfl, hr⟩
    have HG1 := Lib.hid hg
    have HR1 := Lib.hid hr
    clear hg hr HC
    simp only [numV]
    go_wp2_with fail
    go_loopw [3, 6] (fun v i wr => ∃ j : Nat, j ≤ m ∧ i = .int .i64 j ∧ ∃ (acc : List E) (q : Nat), acc.length = j ∧ BK.rEnts s.data.toList m p [] = BK.rEnts s.data.toList (m - j) q acc ∧ q ≤ s.size ∧ RdAt wr r s q ∧ wr.ownsRow w.heap.size 57 5 v j (ecs acc) ∧ w.grownBy wr (some r) ∧ ∀ x ∈ acc, x.wf ∧ good x = 0) (fun _ i _ => m - (intOf i).toNat)
    case atStart => exact ⟨0, by omega, rfl, [], p, rfl, by simp, HPL.out, HR1.out, World.ownsRow_nil _ _ _ _, HG1.out, by simp⟩
    case round =>
      obtain ⟨j, hj, rfl, acc, q, hal, hit, hq, hr, hown, hg, hwf⟩ := hrel
      obtain ⟨A, cap, rfl, hen, hfb, -⟩ := own_ents (fun x hx => (hwf x hx).1) hal hown
      by_cases hlt : j < m
      · have HIT := Lib.hid (entry_any wr r q s A j cap acc hr hs hq hal hen (fun x hx => by have := (hfb x hx).1; have := HLT.out; omega) (by have := HM.out; omega) (BK.lastKey_le fun x hx => (hwf x hx).2))
        have hjm : m - j = (m - (j + 1)) + 1 := by omega
        rw [hjm] at hit
        simp only [BK.rEnts] at hit
        cases hi2 : BK.rEnt s.data.toList q acc with
        | error c =>
          rw [hi2] at hit HIT
          have HF : Hid (X = .error c) := Lib.hid (by rw [HXX.out, hit]; rfl)
          have HG := Lib.hid hg
          clear hi2 hit hown hr hq hal hwf hg hjm hen hfb
          go_wp2_with fail
          refine HIT.out.mono ?_
          rintro e w3 ⟨hg3, rfl⟩
          exact ⟨rfl, grown_trans HG.out hg3, by rw [HF.out]⟩
        | ok z =>
          obtain ⟨e, q'⟩ := z
          obtain ⟨ho1, ho2⟩ := BK.ent_ok hi2
          obtain ⟨hew, hq'⟩ := BK.one_wf ho1 (by have := BK.lastKey_le fun x hx => (hwf x hx).2; omega)
          rw [size_list] at hq'
          rw [hi2] at hit HIT
          simp only at hit
          have HIT2 := Lib.hid hit
          have HG := Lib.hid hg
          have HOWN := Lib.hid hown
          have HAL := Lib.hid hal
          have HQ := Lib.hid hq'
          have HWF : Hid (∀ x ∈ acc ++ [e], x.wf ∧ good x = 0) := Lib.hid (fun x hx => by
            rcases List.mem_append.1 hx with h | h
            · exact hwf x h
            · simp at h; rw [h]; exact ⟨hew, (BK.nb_zero ho2).1⟩)
          have HSN : Hid (ecs (acc ++ [e]) = ecs acc ++ E.cells e) := Lib.hid (ecs_snoc _ _)
          clear hi2 hit hown hr hq hal hwf hg hjm hew hq' ho1 ho2 hen hfb
          go_wp2_with fail
          refine HIT.out.mono ?_
          rintro e3 w3 ⟨hg3, rfl, hr3⟩
          have HO3 := Lib.hid (own_r HOWN.out hg3 HLT.out)
          have HG3 := Lib.hid (grown_trans HG.out hg3)
          have HR3 := Lib.hid hr3
          have HS3 : Hid (w.heap.size ≤ w3.heap.size) := Lib.hid HG3.out.size
          obtain ⟨Y, hY⟩ : ∃ Y, ecs acc = Y := ⟨_, rfl⟩
          rw [hY] at HO3 HSN
          have HE : Hid (∃ e', e' = e) := Lib.hid ⟨e, rfl⟩
          clear hg3 hr3 HIT HG HOWN hY
          obtain ⟨k2, q2, g2, v2, t2⟩ := e
          simp only [entV, E.val]
          have hm4 : m ≤ 4096 := HM.out
          go_wp2_with (at_builtin; refine wpList_append_own _ rfl _ _ 23 rfl w.heap.size 57 i0 _ 5 56 Tryz.underlying23 hi hz0 hz1 hz2 rfl (by decide) _ _ _ rfl (own_below HO3.out ((Below.refl _ _).alloc (Nat.le_refl _) _)) ⟨w3.heap.size, 0, none⟩ 1 1 (E.cells ⟨k2, q2, g2, v2, t2⟩) rfl ?c1 ?c2 ?c3 ?c4 ?c5 ?c6 ?_)
          case c1 => rfl
          case c2 =>
            refine World.news_of_block (cs := (E.cells ⟨k2, q2, g2, v2, t2⟩).toArray) (t := 57) (fr := (0, 0)) ?_
            exact heap_alloc_new w3 _
          case c3 => simp [E.cells, Value.oneCell']
          case c4 => unfold maxLen; omega
          case c5 => omega
          case c6 => have := HS3.out; simp; omega
          intro v' w6 hown6 hgrow6 hnil6
          have hob : ∀ g, (Value.slice A j cap).ownBlock = some g → w.heap.size ≤ g := fun g hg => (HO3.out.lt g hg).1
          have HR6 : Hid (w6.ownsRow w.heap.size 57 5 v' (j + 1) (ecs (acc ++ [⟨k2, q2, g2, v2, t2⟩]))) := Lib.hid (by rw [HSN.out]; exact hown6)
          have HRD6 : Hid (RdAt w6 r s q') := Lib.hid ((hgrow6.block r (by have := HR3.out.lt; simp; omega) (by intro he; have := hob r he.symm; have := HLT.out; omega)).trans ((Below.heap_alloc _ _ _ HR3.out.lt).trans HR3.out))
          have HG6 : Hid (w.grownBy w6 (some r)) := Lib.hid ⟨hgrow6.os.trans HG3.out.os, hgrow6.tape.trans HG3.out.tape, hgrow6.output.trans HG3.out.output, by have := hgrow6.size; have := HS3.out; simp at *; omega, fun x hx hxr =>
            (hgrow6.block x (by have := HS3.out; simp; omega) (by intro he; have := hob x he.symm; omega)).trans ((Below.heap_alloc _ _ _ (by have := HS3.out; omega)).trans (HG3.out.block x hx hxr))⟩
          clear hown6 hgrow6 hnil6 hob
          go_wp2
          go_roundw
          case rel => exact ⟨j + 1, by omega, by go_num, acc ++ [⟨k2, q2, g2, v2, t2⟩], q', by rw [List.length_append, HAL.out]; rfl, HIT2.out, HQ.out, HRD6.out, HR6.out, HG6.out, HWF.out⟩
          case measure => simp [intOf]; omega
      · have hjm : j = m := by omega
        have hz : m - j = 0 := by omega
        rw [hz] at hit
        simp only [BK.rEnts] at hit
        have HX2 : Hid (X = if q < s.size then .error 4 else .ok acc) := Lib.hid (by rw [HXX.out, hit]; unfold BK.rEnd; rw [size_list])
        have HG := Lib.hid hg
        have HEN := Lib.hid hen
        have HFB := Lib.hid hfb
        have c0 := hr.c0
        have c1 := hr.c1
        have hne : ∀ i j : Nat, j < i → ¬ i ≤ j := fun _ _ h => by omega
        subst hjm
        clear hz hit hown hg hwf hr HXX hen hfb
        by_cases hql : q < s.size
        · have HF : Hid (X = .error 4) := Lib.hid (by rw [HX2.out, if_pos hql])
          have hqi : (q : Int) < (s.size : Int) := by omega
          go_wp2_with fail
          go_quiet (fail)
          go_wp2_with fail
          refine (leave_bad 4 _ (by decide)).mono ?_
          rintro e w3 ⟨rfl, rfl⟩
          exact ⟨rfl, grown_drewN HG.out _, by rw [HF.out]⟩
        · have HF : Hid (X = .ok acc) := Lib.hid (by rw [HX2.out, if_neg hql])
          have hqi : ¬ (q : Int) < (s.size : Int) := by omega
          go_wp2_with fail
          go_quiet (fail)
          go_wp2
          go_ret
          refine ⟨grown_drewN HG.out _, ?_⟩
          rw [HF.out]
          exact ⟨A, cap, by rw [hal]; rfl, HEN.out.below ⟨rfl, rfl, rfl, Nat.le_refl _, fun _ _ => rfl⟩, HFB.out⟩
end Go.Proofs.YtnglaolbfpdgoaaGreat

/- Reading, whole: a fault is caught. -/
namespace Go.Proofs.YtnglaolbfpdgoaaGreat
open Go.RowKit
open SK

theorem fault_nil (c : Int) (w : World) : (binOp .eql 20 (.iface 168 (.int .i64 c)) .nilIface).run Tryz.prog w = .ok (.bool false) w := by
  have h : ∀ d : Nat, (Op.equalIn (d + 1) 20 (.iface 168 (.int .i64 c)) .nilIface).run Tryz.prog w = .ok false w := fun d => by
    simp [Op.equalIn, run_underlying Tryz.underlying20]
  simp only [binOp]
  simp [Op.equal, Op.maxDepth, h 9999]

theorem fault_is (c : Int) (w : World) : (Instr.typeAssert (.iface 168 (.int .i64 c)) 20 168 true).run Tryz.prog w = .ok (.tuple #[.int .i64 c, .bool true]) w := by
  have hu := run_underlying (w := w) Tryz.underlying168
  simp [Instr.typeAssert, hu]

/-- the deferred closure, of a frame that a fault leaves -/
theorem catch_fault (p : Addr) (c : Int) (w : World) (hc : w.cell? p = some (.int .i64 0)) (hz : w.frozen? p = false) :
    CallsD Tryz.prog 116 #[.pointer (some p)] (.panicking (fault c)) w fun e u' w' =>
      e = .returned (.tuple #[]) ∧ u' = .panicking [{ v := .iface 168 (.int .i64 c), recovered := true }] ∧ w' = w.setCell p (.int .i64 c) := by
  unfold fault
  have heq := fault_nil c
  have hta := fault_is c
  refine callsD_of_wpS Tryz.func116 rfl fun c₀ cs hu => ?_
  apply wpS_seq
  apply wpS_region
  simp [wpOpsS, go_sem, recoverD, hu, Tryz.ntmps116, Exit.thenS]
  apply wpS_seq
  apply wpS_seq
  apply wpS_region
  simp [wpOpsS, go_sem, Exit.thenS, heq]
  refine wpS_cond (t := false) (by simp [Act.eval, Array.replicate]) ?_
  simp only [Bool.false_eq_true, if_false]
  refine wpS_of_wp (wp_skip ?_)
  apply wpS_seq
  apply wpS_region
  simp [wpOpsS, go_sem, Exit.thenS, hta]
  apply wpS_seq
  apply wpS_seq
  apply wpS_region
  simp [wpOpsS, go_sem, Exit.thenS]
  refine wpS_cond (t := false) (by simp [Act.eval, Array.replicate]) ?_
  simp only [Bool.false_eq_true, if_false]
  refine wpS_of_wp (wp_skip ?_)
  apply wpS_region
  simp [wpOpsS, go_sem, hc, hz, bodyPostS, results, Tryz.results116]

theorem catch_idle (p : Addr) (w : World) :
    CallsD Tryz.prog 116 #[.pointer (some p)] .returning w fun e u' w' => e = .returned (.tuple #[]) ∧ u' = .returning ∧ w' = w := by
  have heq : ∀ w, (binOp .eql 20 .nilIface .nilIface).run Tryz.prog w = .ok (.bool true) w := fun w => by kernel_rfl
  refine callsD_of_wpS Tryz.func116 rfl fun c₀ cs hu => ?_
  apply wpS_seq
  apply wpS_region
  simp [wpOpsS, go_sem, recoverD, hu, Tryz.ntmps116, Exit.thenS]
  apply wpS_seq
  apply wpS_seq
  apply wpS_region
  simp [wpOpsS, go_sem, Exit.thenS, heq]
  refine wpS_cond (t := true) (by simp [Act.eval, Array.replicate]) ?_
  simp only [if_true]
  refine wpS_of_wp (wp_ret ?_)
  cases c₀
  simp_all [bodyPostS, results, Tryz.results116, Exit.thenS]

/-- what the reading closure comes to: the items lie in its variable, or a fault leaves it -/
def ReadOut (w : World) (b : Nat) (x : Except Int (List E)) (e : Ending) (w' : World) : Prop :=
  w.grownBy w' (some b) ∧ match x with
    | .ok es => e = .returned (.tuple #[]) ∧ ∃ A c, w'.heap[b]? = some (.cells #[.slice A es.length c] 23 (0, 0)) ∧ EntsIn w' A es ∧ ∀ x ∈ fb A, w.heap.size ≤ x ∧ x < w'.heap.size
    | .error c => e = .panicked (fault c) ∧ w'.heap[b]? = w.heap[b]?

theorem grown_fresh' {w w1 w' : World} (h : w.grownBy w1 none) (k : w1.grownBy w' (some w.heap.size)) : w.grownBy w' none :=
  ⟨k.os.trans h.os, k.tape.trans h.tape, k.output.trans h.output, Nat.le_trans h.size k.size, fun x hx _ => (k.block x (by have := h.size; omega) (by simp; omega)).trans (h.block x hx (by simp))⟩

set_option maxRecDepth 100000 in
set_option maxHeartbeats 1000000 in
theorem read_any (w : World) (a b : Nat) (s : ByteArray) (ha : w.heap[a]? = some (.cells #[.string s] 9 (0, 0))) (hb : w.heap[b]? = some (.cells #[.slice none 0 0] 23 (0, 0))) (hs : s.size ≤ 281474976710656) :
    Calls Tryz.prog 112 #[.pointer (some ⟨a, 0, none⟩), .pointer (some ⟨b, 0, none⟩)] w fun e w' => ReadOut w b (BK.getOut s.data.toList) e w' := by
  have hbl : b < w.heap.size := (Array.getElem?_eq_some_iff.1 hb).1
  have ca : w.cell? ⟨a, 0, none⟩ = some (.string s) := cell_of_row _ _ _ _ _ _ ha
  have hg0 := grown_alloc w (.cells #[.string s, .int .i64 0] 164) none
  have hr0 : RdAt (w.alloc (.cells #[.string s, .int .i64 0] 164)) w.heap.size s 0 := heap_alloc_new w _
  have HI := Lib.hid (entries_any _ w.heap.size s hr0 hs)
  have HG0 := Lib.hid hg0
  have HB := Lib.hid hb
  have HBL := Lib.hid hbl
  clear ha hb hg0 hr0 hbl
  cases hx : BK.getOut s.data.toList with
  | error c =>
    rw [hx] at HI
    clear hx
    go_enter Tryz.func112, Tryz.ntmps112
    go_wp2_with fail
    refine HI.out.mono ?_
    rintro e w1 ⟨hg, rfl⟩
    have hn := grown_fresh' HG0.out hg
    exact ⟨rfl, grown_r hn, rfl, hn.block b HBL.out (by simp)⟩
  | ok es =>
    rw [hx] at HI
    clear hx
    go_enter Tryz.func112, Tryz.ntmps112
    go_wp2_with fail
    refine HI.out.mono ?_
    rintro e w1 ⟨hg, A, c, rfl, hen, hfb⟩
    have hn := grown_fresh' HG0.out hg
    have hb1 := (hn.block b HBL.out (by simp)).trans HB.out
    have hfb' : ∀ x ∈ fb A, w.heap.size ≤ x ∧ x < w1.heap.size := fun x hx => by have := hfb x hx; simp at this; omega
    have HRES : Hid (ReadOut w b (.ok es) (.returned (.tuple #[])) (w1.setCell ⟨b, 0, none⟩ (.slice A es.length c))) := Lib.hid
      ⟨grown_set (grown_r hn) 0 _, rfl, A, c, heap_set_fr hb1 0 _, hen.grown (grownBy_setCell _ _ _) (fun x hx => by have := (hfb' x hx).1; have := HBL.out; simp; omega), fun x hx => by rw [setCell_size]; exact hfb' x hx⟩
    have c1 : w1.cell? ⟨b, 0, none⟩ = some (.slice none 0 0) := cell_of_row _ _ _ _ _ _ hb1
    have f1 : w1.frozen? ⟨b, 0, none⟩ = false := frozen_of_row _ _ _ _ _ hb1
    clear hg hen hfb hfb' hn hb1 HI
    go_wp2
    go_end0
    exact HRES.out

set_option maxRecDepth 100000 in
set_option maxHeartbeats 1000000 in
/-- caught, of the reading closure -/
theorem caught_any (w : World) (a b : Nat) (s : ByteArray) (ha : w.heap[a]? = some (.cells #[.string s] 9 (0, 0))) (hb : w.heap[b]? = some (.cells #[.slice none 0 0] 23 (0, 0))) (hs : s.size ≤ 281474976710656) :
    Calls Tryz.prog 111 #[.func (.func 112) #[] #[.pointer (some ⟨a, 0, none⟩), .pointer (some ⟨b, 0, none⟩)]] w fun e w' =>
      w.grownBy w' (some b) ∧ match BK.getOut s.data.toList with
        | .ok es => e = .returned (.int .i64 0) ∧ ∃ A c, w'.heap[b]? = some (.cells #[.slice A es.length c] 23 (0, 0)) ∧ EntsIn w' A es ∧ ∀ x ∈ fb A, w.heap.size ≤ x ∧ x < w'.heap.size
        | .error c => e = .returned (.int .i64 c) ∧ w'.heap[b]? = w.heap[b]? := by
  have hmf : ∀ (fn : Fn) (first cap : Array Value) (w : World), (Instr.makeFunc fn first cap).run Tryz.prog w = .ok (.func fn first cap) w := fun _ _ _ _ => rfl
  have hbl : b < w.heap.size := (Array.getElem?_eq_some_iff.1 hb).1
  have hal : a < w.heap.size := (Array.getElem?_eq_some_iff.1 ha).1
  have HR := Lib.hid (read_any (w.alloc (.cells #[.int .i64 0] 27)) a b s ((Below.heap_alloc _ _ _ hal).trans ha) ((Below.heap_alloc _ _ _ hbl).trans hb) hs)
  have HNEW := Lib.hid (heap_alloc_new w (.cells #[.int .i64 0] 27))
  have HG0 := Lib.hid (grown_alloc w (.cells #[.int .i64 0] 27) (some b))
  have HOLD := Lib.hid (Below.heap_alloc w (.cells #[.int .i64 0] 27) b hbl)
  have HBL := Lib.hid hbl
  clear ha hb hal hbl
  cases hx : BK.getOut s.data.toList with
  | error c =>
    rw [hx] at HR
    clear hx
    go_enter_defers Tryz.func111, Tryz.ntmps111
    go_wp2_with fail
    refine HR.out.mono ?_
    rintro e w1 ⟨hg, rfl, hbk⟩
    obtain ⟨x, hx⟩ : ∃ x, w.heap.size = x := ⟨_, rfl⟩
    have hrow : w1.heap[x]? = some (.cells #[.int .i64 0] 27 (0, 0)) := by
      rw [← hx]
      exact (hg.block w.heap.size (by simp) (by have := HBL.out; simp; omega)).trans HNEW.out
    have hrd : (w1.setCell ⟨x, 0, none⟩ (.int .i64 c)).cell? ⟨x, 0, none⟩ = some (.int .i64 c) := cell_of_row _ _ _ _ _ _ (heap_set_fr hrow 0 (.int .i64 c))
    have hgr : w.grownBy (w1.setCell ⟨x, 0, none⟩ (.int .i64 c)) (some b) := grown_new (grown_trans HG0.out hg) _ _ _ (by omega)
    have hbb : (w1.setCell ⟨x, 0, none⟩ (.int .i64 c)).heap[b]? = w.heap[b]? := (Below.heap_setCell _ _ _ _ (by have := HBL.out; simp; omega)).trans (hbk.trans HOLD.out)
    rw [hx]
    refine leaves_cons (f := 116) (args := #[.pointer (some ⟨x, 0, none⟩)]) (by simp) (by simp [go_sem]) ?_
    refine (catch_fault ⟨x, 0, none⟩ c _ (cell_of_row _ _ _ _ _ _ hrow) (frozen_of_row _ _ _ _ _ hrow)).mono ?_
    rintro e u' w'' ⟨rfl, rfl, rfl⟩
    generalize w1.setCell ⟨x, 0, none⟩ (.int .i64 c) = w2 at hrd hgr hbb ⊢
    simp [Leaves, settle, results, Tryz.results111, go_sem, hrd, hgr, hbb]
  | ok es =>
    rw [hx] at HR
    clear hx
    go_enter_defers Tryz.func111, Tryz.ntmps111
    go_wp2_with fail
    refine HR.out.mono ?_
    rintro e w1 ⟨hg, rfl, A, cp, hbk, hen, hfb⟩
    obtain ⟨x, hx⟩ : ∃ x, w.heap.size = x := ⟨_, rfl⟩
    have hrow : w1.heap[x]? = some (.cells #[.int .i64 0] 27 (0, 0)) := by
      rw [← hx]
      exact (hg.block w.heap.size (by simp) (by have := HBL.out; simp; omega)).trans HNEW.out
    have hc : w1.cell? ⟨x, 0, none⟩ = some (.int .i64 0) := cell_of_row _ _ _ _ _ _ hrow
    have hf : w1.frozen? ⟨x, 0, none⟩ = false := frozen_of_row _ _ _ _ _ hrow
    have hrd : (w1.setCell ⟨x, 0, none⟩ (.int .i64 0)).cell? ⟨x, 0, none⟩ = some (.int .i64 0) := cell_of_row _ _ _ _ _ _ (heap_set_fr hrow 0 (.int .i64 0))
    have hgr : w.grownBy (w1.setCell ⟨x, 0, none⟩ (.int .i64 0)) (some b) := grown_new (grown_trans HG0.out hg) _ _ _ (by omega)
    have hfb' : ∀ x ∈ fb A, w.heap.size + 1 ≤ x ∧ x < w1.heap.size := fun x hx => by have := hfb x hx; simp at this; omega
    have hbb : (w1.setCell ⟨x, 0, none⟩ (.int .i64 0)).heap[b]? = some (.cells #[.slice A es.length cp] 23 (0, 0)) := (Below.heap_setCell _ _ _ _ (by have := HBL.out; simp; omega)).trans hbk
    have HALL : Hid (w.grownBy (w1.setCell ⟨x, 0, none⟩ (.int .i64 0)) (some b) ∧ ∃ A c, (w1.setCell ⟨x, 0, none⟩ (.int .i64 0)).heap[b]? = some (.cells #[.slice A es.length c] 23 (0, 0)) ∧ EntsIn (w1.setCell ⟨x, 0, none⟩ (.int .i64 0)) A es ∧ ∀ y ∈ fb A, w.heap.size ≤ y ∧ y < (w1.setCell ⟨x, 0, none⟩ (.int .i64 0)).heap.size) := Lib.hid
      ⟨hgr, A, cp, hbb, hen.grown (grownBy_setCell _ _ _) (fun y hy => by have := (hfb' y hy).1; simp; omega), fun y hy => by rw [setCell_size]; have := hfb' y hy; omega⟩
    have HRD := Lib.hid hrd
    rw [hx]
    clear hg hbk hen hfb hfb' hgr hbb hrow hrd
    go_wp2
    refine leaves_cons (f := 116) (args := #[.pointer (some ⟨x, 0, none⟩)]) (by simp) (by simp [go_sem]) ?_
    refine (catch_idle ⟨x, 0, none⟩ _).mono ?_
    rintro e u' w'' ⟨rfl, rfl, rfl⟩
    have hrd := HRD.out
    have hall := HALL.out
    generalize w1.setCell ⟨x, 0, none⟩ (.int .i64 0) = w2 at hrd hall ⊢
    simp only [Leaves, settle]
    exact ⟨_, by simp [results, Tryz.results111, go_sem, hrd], hall.1, rfl, hall.2⟩
end Go.Proofs.YtnglaolbfpdgoaaGreat

/- block.Parse, whole. -/
namespace Go.Proofs.YtnglaolbfpdgoaaGreat
open Go.RowKit
open SK


set_option maxRecDepth 100000 in
set_option maxHeartbeats 1000000 in
theorem parse_any (s : ByteArray) (w : World) (hs : s.size ≤ 281474976710656) :
    Calls Tryz.prog 106 #[.string s] w fun e w' => ∃ A c, e = .returned (.tuple #[.slice A (BK.getL s.data.toList).length c, .int .i64 (BK.getC s.data.toList)]) ∧ EntsIn w' A (BK.getL s.data.toList) ∧ (∀ x ∈ fb A, w.heap.size ≤ x ∧ x < w'.heap.size) ∧ Below w.heap.size w w' := by
  have hmf : ∀ (fn : Fn) (first cap : Array Value) (w : World), (Instr.makeFunc fn first cap).run Tryz.prog w = .ok (.func fn first cap) w := fun _ _ _ _ => rfl
  have ha : ((w.alloc (.cells #[.string s] 9)).alloc (.cells #[.slice none 0 0] 23)).heap[w.heap.size]? = some (.cells #[.string s] 9 (0, 0)) := (Below.heap_alloc _ _ _ (by simp)).trans (heap_alloc_new w _)
  have hb : ((w.alloc (.cells #[.string s] 9)).alloc (.cells #[.slice none 0 0] 23)).heap[w.heap.size + 1]? = some (.cells #[.slice none 0 0] 23 (0, 0)) := by
    have := heap_alloc_new (w.alloc (.cells #[.string s] 9)) (.cells #[.slice none 0 0] 23)
    simpa using this
  have HG0 : Hid (Below w.heap.size w ((w.alloc (.cells #[.string s] 9)).alloc (.cells #[.slice none 0 0] 23))) := Lib.hid (((Below.refl _ w).alloc (Nat.le_refl _) _).alloc (by simp) _)
  have HS0 : Hid (((w.alloc (.cells #[.string s] 9)).alloc (.cells #[.slice none 0 0] 23)).heap.size = w.heap.size + 2) := Lib.hid (by simp)
  have HC := Lib.hid (caught_any _ w.heap.size (w.heap.size + 1) s ha hb hs)
  have HB := Lib.hid hb
  obtain ⟨L, hL⟩ : ∃ L, BK.getL s.data.toList = L := ⟨_, rfl⟩
  obtain ⟨C, hC⟩ : ∃ C, BK.getC s.data.toList = C := ⟨_, rfl⟩
  rw [hL, hC]
  have HLL := Lib.hid hL
  have HCC := Lib.hid hC
  clear ha hb hL hC
  cases hx : BK.getOut s.data.toList with
  | error c =>
    obtain ⟨h1, h2⟩ := BK.getC_err hx
    have HC2 : Hid (C = c) := Lib.hid (by rw [← HCC.out, h1])
    have HL2 : Hid (L = []) := Lib.hid (by rw [← HLL.out, h2])
    rw [hx] at HC
    clear hx h1 h2
    go_enter Tryz.func106, Tryz.ntmps106
    go_wp2_with fail
    generalize (w.alloc (.cells #[.string s] 9)).alloc (.cells #[.slice none 0 0] 23) = w0 at HG0 HS0 HC HB ⊢
    refine HC.out.mono ?_
    rintro e w1 ⟨hg, rfl, hbk⟩
    have hrow := hbk.trans HB.out
    have c1 : w1.cell? ⟨w.heap.size + 1, 0, none⟩ = some (.slice none 0 0) := cell_of_row _ _ _ _ _ _ hrow
    have HBEL : Hid (Below w.heap.size w w1) := Lib.hid (HG0.out.trans ⟨hg.os, hg.tape, hg.output, hg.size, fun k hk => hg.block k (by have := HS0.out; omega) (by simp; omega)⟩)
    clear hg hbk hrow
    go_wp2
    go_ret2
    refine ⟨none, 0, ?_, ?_, by simp [fb], HBEL.out⟩
    · rw [HC2.out, HL2.out]; rfl
    · rw [HL2.out]; exact ⟨by simp, by simp⟩
  | ok es =>
    obtain ⟨h1, h2⟩ := BK.getC_ok hx
    have HC2 : Hid (C = 0) := Lib.hid (by rw [← HCC.out, h1])
    have HL2 : Hid (L = es) := Lib.hid (by rw [← HLL.out, h2])
    rw [hx] at HC
    clear hx h1 h2
    go_enter Tryz.func106, Tryz.ntmps106
    go_wp2_with fail
    generalize (w.alloc (.cells #[.string s] 9)).alloc (.cells #[.slice none 0 0] 23) = w0 at HG0 HS0 HC HB ⊢
    refine HC.out.mono ?_
    rintro e w1 ⟨hg, rfl, A, cp, hrow, hen, hfb⟩
    have c1 : w1.cell? ⟨w.heap.size + 1, 0, none⟩ = some (.slice A es.length cp) := cell_of_row _ _ _ _ _ _ hrow
    have HBEL : Hid (Below w.heap.size w w1) := Lib.hid (HG0.out.trans ⟨hg.os, hg.tape, hg.output, hg.size, fun k hk => hg.block k (by have := HS0.out; omega) (by simp; omega)⟩)
    have HEN := Lib.hid hen
    have HGL : Hid (∀ x ∈ fb A, w.heap.size ≤ x ∧ x < w1.heap.size) := Lib.hid (fun x hx => by have := hfb x hx; have := HS0.out; omega)
    clear hg hrow hen hfb
    go_wp2
    go_ret2
    refine ⟨A, cp, ?_, ?_, HGL.out, HBEL.out⟩
    · rw [HC2.out, HL2.out]; rfl
    · rw [HL2.out]; exact HEN.out
end Go.Proofs.YtnglaolbfpdgoaaGreat

/- The walk of the document's one. Made by gen_rg.py. -/
namespace Go.Proofs.YtnglaolbfpdgoaaGreat
open Go.RowKit
open SK

theorem rget_ok {s : ByteArray} {p q : Nat} {n : Int} (h : BK.rNum s.data.toList p = .ok (n, q)) (hs : s.size ≤ 140737488351232) (hp : p ≤ s.size) (W : World) :
    Calls Tryz.prog 81 #[.string s, .int .i64 p] W fun e w' => e = .returned (.tuple #[.int .i64 n, .int .i64 q, .int .i64 0]) ∧ W = w' := by
  refine (refGet_any s (p : Int) W hs (by omega) (by omega)).mono ?_
  rintro e w' ⟨h1, h2⟩
  unfold GetOut at h1
  rw [num_good h] at h1
  exact ⟨h1, h2⟩
theorem rget_bad {s : ByteArray} {p : Nat} {c : Int} (h : BK.rNum s.data.toList p = .error c) (hs : s.size ≤ 140737488351232) (hp : p ≤ s.size) :
    ∃ a b, ∀ W, Calls Tryz.prog 81 #[.string s, .int .i64 p] W fun e w' => e = .returned (.tuple #[.int .i64 a, .int .i64 b, .int .i64 c]) ∧ W = w' := by
  obtain ⟨hv, -⟩ := num_bad h
  refine ⟨(VM.vget s.data.toList p).1, (VM.vget s.data.toList p).2.1, fun W => (refGet_any s (p : Int) W hs (by omega) (by omega)).mono ?_⟩
  rintro e w' ⟨h1, h2⟩
  unfold GetOut at h1
  rw [hv] at h1
  exact ⟨h1, h2⟩
theorem rtxt_ok {s : ByteArray} {p q : Nat} {t : ByteArray} (h : BK.rText s.data.toList p = .ok (t, q)) (hs : s.size ≤ 140737488351232) (hp : p ≤ s.size) (W : World) :
    Calls Tryz.prog 97 #[.string s, .int .i64 p] W fun e w' => e = .returned (.tuple #[.string t, .int .i64 q, .int .i64 0]) ∧ W = w' := by
  refine (refGetText_any s (p : Int) W hs (by omega) (by omega)).mono ?_
  rintro e w' ⟨h1, h2⟩
  unfold TextOut at h1
  rw [text_good h, str_mk] at h1
  exact ⟨h1, h2⟩
theorem rtxt_bad {s : ByteArray} {p : Nat} {c : Int} (h : BK.rText s.data.toList p = .error c) (hs : s.size ≤ 140737488351232) (hp : p ≤ s.size) :
    ∃ a b, ∀ W, Calls Tryz.prog 97 #[.string s, .int .i64 p] W fun e w' => e = .returned (.tuple #[.string a, .int .i64 b, .int .i64 c]) ∧ W = w' := by
  obtain ⟨hv, -⟩ := text_bad h
  refine ⟨⟨(vtext s.data.toList p).1.toArray⟩, (vtext s.data.toList p).2.1, fun W => (refGetText_any s (p : Int) W hs (by omega) (by omega)).mono ?_⟩
  rintro e w' ⟨h1, h2⟩
  unfold TextOut at h1
  rw [hv] at h1
  exact ⟨h1, h2⟩
theorem one_full (l : List UInt8) (p : Nat) (K : ByteArray) : BK.rOne l p K =
  match BK.rNum l p with
  | .error c => .error c
  | .ok (n, p1) => if n < 0 ∨ (K.size : Int) < n then .error 4 else
    match BK.rText l p1 with
    | .error c => .error c
    | .ok (t, p2) =>
      match BK.rNum l p2 with
      | .error c => .error c
      | .ok (s, p3) =>
        match BK.rNum l p3 with
        | .error c => .error c
        | .ok (m, p4) => if m < 0 then .error 4 else if m = 0 then .ok (⟨K.extract 0 n.toNat ++ t, s, true, ⟨#[]⟩, 0⟩, p4) else
          match BK.rText l p4 with
          | .error c => .error c
          | .ok (v, q) => .ok (⟨K.extract 0 n.toNat ++ t, s, false, v, m - 1⟩, q) := by
  unfold BK.rOne BK.rKey
  cases BK.rNum l p with
  | error c => rfl
  | ok z =>
    obtain ⟨n, p1⟩ := z
    simp only [BK.rRest]
    by_cases hn : n < 0 ∨ (K.size : Int) < n
    · rw [if_pos hn, if_pos hn]
    · rw [if_neg hn, if_neg hn]
      cases BK.rText l p1 with
      | error c => rfl
      | ok z => rfl

def OneOut (w : World) (x : Except Int (E × Nat)) (e : Ending) (w' : World) : Prop :=
  Below w.heap.size w w' ∧ match x with
    | .ok (x, q) => e = .returned (.tuple #[x.val, .int .i64 q, .int .i64 0])
    | .error c => e = .returned (.tuple #[E.zero.val, .int .i64 0, .int .i64 c])

theorem below_new {B x : Nat} {a b : World} (h : Below B a b) (hx : B ≤ x) (j : Nat) (u : Value) : Below B a (b.setCell ⟨x, j, none⟩ u) := h.setCell (p := ⟨x, j, none⟩) hx u

set_option maxRecDepth 100000 in
set_option maxHeartbeats 4000000 in
theorem rone_any (s K : ByteArray) (p : Nat) (w : World) (hs : s.size ≤ 140737488351232) (hp : p ≤ s.size) (hK : K.size ≤ 64) :
    Calls Tryz.prog 82 #[.string s, .int .i64 p, .string K] w fun e w' => OneOut w (BK.rOne s.data.toList p K) e w' := by
  have HO := Lib.hid (one_full s.data.toList p K)
  obtain ⟨X, hX⟩ : ∃ X, BK.rOne s.data.toList p K = X := ⟨_, rfl⟩
  rw [hX] at HO ⊢
  clear hX
  obtain ⟨x, hx⟩ : ∃ x, w.heap.size = x := ⟨_, rfl⟩
  have hrx : ((w.alloc (.cells #[.string ⟨#[]⟩, .int .i64 0, .bool false, .string ⟨#[]⟩, .int .i64 0] 56)).alloc (.cells #[.string ⟨#[]⟩, .int .i64 0, .bool false, .string ⟨#[]⟩, .int .i64 0] 56)).heap[x]? = some (.cells #[.string ⟨#[]⟩, .int .i64 0, .bool false, .string ⟨#[]⟩, .int .i64 0] 56 (0, 0)) := by
    rw [← hx]; exact (Below.heap_alloc _ _ _ (by simp)).trans (heap_alloc_new w _)
  have hry : ((w.alloc (.cells #[.string ⟨#[]⟩, .int .i64 0, .bool false, .string ⟨#[]⟩, .int .i64 0] 56)).alloc (.cells #[.string ⟨#[]⟩, .int .i64 0, .bool false, .string ⟨#[]⟩, .int .i64 0] 56)).heap[x + 1]? = some (.cells #[.string ⟨#[]⟩, .int .i64 0, .bool false, .string ⟨#[]⟩, .int .i64 0] 56 (0, 0)) := by
    have := heap_alloc_new (w.alloc (.cells #[.string ⟨#[]⟩, .int .i64 0, .bool false, .string ⟨#[]⟩, .int .i64 0] 56)) (.cells #[.string ⟨#[]⟩, .int .i64 0, .bool false, .string ⟨#[]⟩, .int .i64 0] 56)
    rw [← hx]; simpa using this
  have hb1 : Below x w ((w.alloc (.cells #[.string ⟨#[]⟩, .int .i64 0, .bool false, .string ⟨#[]⟩, .int .i64 0] 56)).alloc (.cells #[.string ⟨#[]⟩, .int .i64 0, .bool false, .string ⟨#[]⟩, .int .i64 0] 56)) := by
    rw [← hx]; exact ((Below.refl _ w).alloc (Nat.le_refl _) _).alloc (by simp) _
  have hs1 : ((w.alloc (.cells #[.string ⟨#[]⟩, .int .i64 0, .bool false, .string ⟨#[]⟩, .int .i64 0] 56)).alloc (.cells #[.string ⟨#[]⟩, .int .i64 0, .bool false, .string ⟨#[]⟩, .int .i64 0] 56)).heap.size = x + 1 + 1 := by rw [← hx]; simp
  have HXX := Lib.hid hx
  have HRX := Lib.hid hrx
  have HRY := Lib.hid hry
  have HB1 := Lib.hid hb1
  have HS1 := Lib.hid hs1
  clear hrx hry hb1 hs1
  go_enter Tryz.func82, Tryz.ntmps82
  cases hn : BK.rNum s.data.toList p with
  | error c =>
    obtain ⟨b0, b1, hg⟩ := rget_bad hn hs hp
    have HT := Lib.hid hg
    have hc := BK.num_err hn
    have HF : Hid (X = .error c) := Lib.hid (by rw [HO.out, hn])
    have hbe : (c == 0) = false := by simpa using hc
    have hbn : (c != 0) = true := by simpa using hc
    clear hn hg HO
    go_wp2_with fail
    generalize (w.alloc (.cells #[.string ⟨#[]⟩, .int .i64 0, .bool false, .string ⟨#[]⟩, .int .i64 0] 56)).alloc (.cells #[.string ⟨#[]⟩, .int .i64 0, .bool false, .string ⟨#[]⟩, .int .i64 0] 56) = w1 at HRX HRY HB1 HS1 ⊢
    obtain ⟨y, hy⟩ : ∃ y, x + 1 = y := ⟨_, rfl⟩
    have HXY : Hid (x < y) := Lib.hid (by omega)
    rw [hy] at HRY HS1
    simp only [hy]
    clear hx hy
    have cx0 : w1.cell? ⟨x, 0, none⟩ = some (.string ⟨#[]⟩) := cell_of_row _ _ _ _ _ _ HRX.out
    have cx1 : w1.cell? ⟨x, 1, none⟩ = some (.int .i64 0) := cell_of_row _ _ _ _ _ _ HRX.out
    have cx2 : w1.cell? ⟨x, 2, none⟩ = some (.bool false) := cell_of_row _ _ _ _ _ _ HRX.out
    have cx3 : w1.cell? ⟨x, 3, none⟩ = some (.string ⟨#[]⟩) := cell_of_row _ _ _ _ _ _ HRX.out
    have cx4 : w1.cell? ⟨x, 4, none⟩ = some (.int .i64 0) := cell_of_row _ _ _ _ _ _ HRX.out
    have fx0 : w1.frozen? ⟨x, 0, none⟩ = false := frozen_of_row _ _ _ _ _ HRX.out
    have fx1 : w1.frozen? ⟨x, 1, none⟩ = false := frozen_of_row _ _ _ _ _ HRX.out
    have fx2 : w1.frozen? ⟨x, 2, none⟩ = false := frozen_of_row _ _ _ _ _ HRX.out
    have fx3 : w1.frozen? ⟨x, 3, none⟩ = false := frozen_of_row _ _ _ _ _ HRX.out
    have fx4 : w1.frozen? ⟨x, 4, none⟩ = false := frozen_of_row _ _ _ _ _ HRX.out
    have cy0 : w1.cell? ⟨y, 0, none⟩ = some (.string ⟨#[]⟩) := cell_of_row _ _ _ _ _ _ HRY.out
    have cy1 : w1.cell? ⟨y, 1, none⟩ = some (.int .i64 0) := cell_of_row _ _ _ _ _ _ HRY.out
    have cy2 : w1.cell? ⟨y, 2, none⟩ = some (.bool false) := cell_of_row _ _ _ _ _ _ HRY.out
    have cy3 : w1.cell? ⟨y, 3, none⟩ = some (.string ⟨#[]⟩) := cell_of_row _ _ _ _ _ _ HRY.out
    have cy4 : w1.cell? ⟨y, 4, none⟩ = some (.int .i64 0) := cell_of_row _ _ _ _ _ _ HRY.out
    have HXE : Hid ((((((w1.setCell ⟨x, 0, none⟩ (.string ⟨#[]⟩)).setCell ⟨x, 1, none⟩ (.int .i64 0)).setCell ⟨x, 2, none⟩ (.bool false)).setCell ⟨x, 3, none⟩ (.string ⟨#[]⟩)).setCell ⟨x, 4, none⟩ (.int .i64 0)).heap[x]? = some (.cells #[.string ⟨#[]⟩, .int .i64 0, .bool false, .string ⟨#[]⟩, .int .i64 0] 56 (0, 0))) := Lib.hid (heap_set_fr (heap_set_fr (heap_set_fr (heap_set_fr (heap_set_fr HRX.out 0 (.string ⟨#[]⟩)) 1 (.int .i64 0)) 2 (.bool false)) 3 (.string ⟨#[]⟩)) 4 (.int .i64 0))
    have HBE : Hid (Below x w (((((w1.setCell ⟨x, 0, none⟩ (.string ⟨#[]⟩)).setCell ⟨x, 1, none⟩ (.int .i64 0)).setCell ⟨x, 2, none⟩ (.bool false)).setCell ⟨x, 3, none⟩ (.string ⟨#[]⟩)).setCell ⟨x, 4, none⟩ (.int .i64 0))) := Lib.hid (below_new (below_new (below_new (below_new (below_new HB1.out (Nat.le_refl _) _ _) (Nat.le_refl _) _ _) (Nat.le_refl _) _ _) (Nat.le_refl _) _ _) (Nat.le_refl _) _ _)
    refine (HT.out _).mono ?_
    rintro e w2 ⟨rfl, rfl⟩
    go_wp2
    generalize (((((w1.setCell ⟨x, 0, none⟩ (.string ⟨#[]⟩)).setCell ⟨x, 1, none⟩ (.int .i64 0)).setCell ⟨x, 2, none⟩ (.bool false)).setCell ⟨x, 3, none⟩ (.string ⟨#[]⟩)).setCell ⟨x, 4, none⟩ (.int .i64 0)) = we at HXE HBE ⊢
    have d0 : we.cell? ⟨x, 0, none⟩ = some (.string ⟨#[]⟩) := cell_of_row _ _ _ _ _ _ HXE.out
    have d1 : we.cell? ⟨x, 1, none⟩ = some (.int .i64 0) := cell_of_row _ _ _ _ _ _ HXE.out
    have d2 : we.cell? ⟨x, 2, none⟩ = some (.bool false) := cell_of_row _ _ _ _ _ _ HXE.out
    have d3 : we.cell? ⟨x, 3, none⟩ = some (.string ⟨#[]⟩) := cell_of_row _ _ _ _ _ _ HXE.out
    have d4 : we.cell? ⟨x, 4, none⟩ = some (.int .i64 0) := cell_of_row _ _ _ _ _ _ HXE.out
    refine bodyPost_ret (v := .tuple #[.agg #[.string ⟨#[]⟩, .int .i64 0, .bool false, .string ⟨#[]⟩, .int .i64 0], .int .i64 0, .int .i64 c]) (by simp [results, Tryz.results82, go_sem, d0, d1, d2, d3, d4]) rfl ⟨by rw [HXX.out]; exact HBE.out, ?_⟩
    rw [HF.out]
    rfl
  | ok z =>
    obtain ⟨n, p1⟩ := z
    have hT := fun W => rget_ok hn hs hp W
    have HT := Lib.hid hT
    have hp1 : p1 ≤ s.size := by have := BK.num_le hn; rwa [size_list] at this
    have hrn := BK.num_ok hn
    have hlon := hrn.1
    have hhin := hrn.2.1
    simp only [hn] at HO
    clear hT hrn hn
    go_wp2_with fail
    generalize (w.alloc (.cells #[.string ⟨#[]⟩, .int .i64 0, .bool false, .string ⟨#[]⟩, .int .i64 0] 56)).alloc (.cells #[.string ⟨#[]⟩, .int .i64 0, .bool false, .string ⟨#[]⟩, .int .i64 0] 56) = w1 at HRX HRY HB1 HS1 ⊢
    obtain ⟨y, hy⟩ : ∃ y, x + 1 = y := ⟨_, rfl⟩
    have HXY : Hid (x < y) := Lib.hid (by omega)
    rw [hy] at HRY HS1
    simp only [hy]
    clear hx hy
    have cx0 : w1.cell? ⟨x, 0, none⟩ = some (.string ⟨#[]⟩) := cell_of_row _ _ _ _ _ _ HRX.out
    have cx1 : w1.cell? ⟨x, 1, none⟩ = some (.int .i64 0) := cell_of_row _ _ _ _ _ _ HRX.out
    have cx2 : w1.cell? ⟨x, 2, none⟩ = some (.bool false) := cell_of_row _ _ _ _ _ _ HRX.out
    have cx3 : w1.cell? ⟨x, 3, none⟩ = some (.string ⟨#[]⟩) := cell_of_row _ _ _ _ _ _ HRX.out
    have cx4 : w1.cell? ⟨x, 4, none⟩ = some (.int .i64 0) := cell_of_row _ _ _ _ _ _ HRX.out
    have fx0 : w1.frozen? ⟨x, 0, none⟩ = false := frozen_of_row _ _ _ _ _ HRX.out
    have fx1 : w1.frozen? ⟨x, 1, none⟩ = false := frozen_of_row _ _ _ _ _ HRX.out
    have fx2 : w1.frozen? ⟨x, 2, none⟩ = false := frozen_of_row _ _ _ _ _ HRX.out
    have fx3 : w1.frozen? ⟨x, 3, none⟩ = false := frozen_of_row _ _ _ _ _ HRX.out
    have fx4 : w1.frozen? ⟨x, 4, none⟩ = false := frozen_of_row _ _ _ _ _ HRX.out
    have cy0 : w1.cell? ⟨y, 0, none⟩ = some (.string ⟨#[]⟩) := cell_of_row _ _ _ _ _ _ HRY.out
    have cy1 : w1.cell? ⟨y, 1, none⟩ = some (.int .i64 0) := cell_of_row _ _ _ _ _ _ HRY.out
    have cy2 : w1.cell? ⟨y, 2, none⟩ = some (.bool false) := cell_of_row _ _ _ _ _ _ HRY.out
    have cy3 : w1.cell? ⟨y, 3, none⟩ = some (.string ⟨#[]⟩) := cell_of_row _ _ _ _ _ _ HRY.out
    have cy4 : w1.cell? ⟨y, 4, none⟩ = some (.int .i64 0) := cell_of_row _ _ _ _ _ _ HRY.out
    have HXE : Hid ((((((w1.setCell ⟨x, 0, none⟩ (.string ⟨#[]⟩)).setCell ⟨x, 1, none⟩ (.int .i64 0)).setCell ⟨x, 2, none⟩ (.bool false)).setCell ⟨x, 3, none⟩ (.string ⟨#[]⟩)).setCell ⟨x, 4, none⟩ (.int .i64 0)).heap[x]? = some (.cells #[.string ⟨#[]⟩, .int .i64 0, .bool false, .string ⟨#[]⟩, .int .i64 0] 56 (0, 0))) := Lib.hid (heap_set_fr (heap_set_fr (heap_set_fr (heap_set_fr (heap_set_fr HRX.out 0 (.string ⟨#[]⟩)) 1 (.int .i64 0)) 2 (.bool false)) 3 (.string ⟨#[]⟩)) 4 (.int .i64 0))
    have HBE : Hid (Below x w (((((w1.setCell ⟨x, 0, none⟩ (.string ⟨#[]⟩)).setCell ⟨x, 1, none⟩ (.int .i64 0)).setCell ⟨x, 2, none⟩ (.bool false)).setCell ⟨x, 3, none⟩ (.string ⟨#[]⟩)).setCell ⟨x, 4, none⟩ (.int .i64 0))) := Lib.hid (below_new (below_new (below_new (below_new (below_new HB1.out (Nat.le_refl _) _ _) (Nat.le_refl _) _ _) (Nat.le_refl _) _ _) (Nat.le_refl _) _ _) (Nat.le_refl _) _ _)
    refine (HT.out _).mono ?_
    rintro e w2 ⟨rfl, rfl⟩
    by_cases h1 : n < 0
    · have HF : Hid (X = .error 4) := Lib.hid (by rw [HO.out, if_pos (Or.inl h1)])
      clear HO
      go_wp2
      generalize (((((w1.setCell ⟨x, 0, none⟩ (.string ⟨#[]⟩)).setCell ⟨x, 1, none⟩ (.int .i64 0)).setCell ⟨x, 2, none⟩ (.bool false)).setCell ⟨x, 3, none⟩ (.string ⟨#[]⟩)).setCell ⟨x, 4, none⟩ (.int .i64 0)) = we at HXE HBE ⊢
      have d0 : we.cell? ⟨x, 0, none⟩ = some (.string ⟨#[]⟩) := cell_of_row _ _ _ _ _ _ HXE.out
      have d1 : we.cell? ⟨x, 1, none⟩ = some (.int .i64 0) := cell_of_row _ _ _ _ _ _ HXE.out
      have d2 : we.cell? ⟨x, 2, none⟩ = some (.bool false) := cell_of_row _ _ _ _ _ _ HXE.out
      have d3 : we.cell? ⟨x, 3, none⟩ = some (.string ⟨#[]⟩) := cell_of_row _ _ _ _ _ _ HXE.out
      have d4 : we.cell? ⟨x, 4, none⟩ = some (.int .i64 0) := cell_of_row _ _ _ _ _ _ HXE.out
      refine bodyPost_ret (v := .tuple #[.agg #[.string ⟨#[]⟩, .int .i64 0, .bool false, .string ⟨#[]⟩, .int .i64 0], .int .i64 0, .int .i64 4]) (by simp [results, Tryz.results82, go_sem, d0, d1, d2, d3, d4]) rfl ⟨by rw [HXX.out]; exact HBE.out, ?_⟩
      rw [HF.out]
      rfl
    by_cases h2 : (K.size : Int) < n
    · have HF : Hid (X = .error 4) := Lib.hid (by rw [HO.out, if_pos (Or.inr h2)])
      clear HO
      go_wp2
      generalize (((((w1.setCell ⟨x, 0, none⟩ (.string ⟨#[]⟩)).setCell ⟨x, 1, none⟩ (.int .i64 0)).setCell ⟨x, 2, none⟩ (.bool false)).setCell ⟨x, 3, none⟩ (.string ⟨#[]⟩)).setCell ⟨x, 4, none⟩ (.int .i64 0)) = we at HXE HBE ⊢
      have d0 : we.cell? ⟨x, 0, none⟩ = some (.string ⟨#[]⟩) := cell_of_row _ _ _ _ _ _ HXE.out
      have d1 : we.cell? ⟨x, 1, none⟩ = some (.int .i64 0) := cell_of_row _ _ _ _ _ _ HXE.out
      have d2 : we.cell? ⟨x, 2, none⟩ = some (.bool false) := cell_of_row _ _ _ _ _ _ HXE.out
      have d3 : we.cell? ⟨x, 3, none⟩ = some (.string ⟨#[]⟩) := cell_of_row _ _ _ _ _ _ HXE.out
      have d4 : we.cell? ⟨x, 4, none⟩ = some (.int .i64 0) := cell_of_row _ _ _ _ _ _ HXE.out
      refine bodyPost_ret (v := .tuple #[.agg #[.string ⟨#[]⟩, .int .i64 0, .bool false, .string ⟨#[]⟩, .int .i64 0], .int .i64 0, .int .i64 4]) (by simp [results, Tryz.results82, go_sem, d0, d1, d2, d3, d4]) rfl ⟨by rw [HXX.out]; exact HBE.out, ?_⟩
      rw [HF.out]
      rfl
    obtain ⟨N, rfl⟩ := Int.eq_ofNat_of_zero_le (show 0 ≤ n by omega)
    have HOa := Lib.hid (HO.out.trans (if_neg (by omega)))
    rw [Int.toNat_natCast] at HOa
    clear HO h1
    have HO := Lib.hid HOa.out
    clear HOa
    cases ht : BK.rText s.data.toList p1 with
    | error c =>
      obtain ⟨b0, b1, hg⟩ := rtxt_bad ht hs hp1
      have HT := Lib.hid hg
      have hc := BK.text_err ht
      have HF : Hid (X = .error c) := Lib.hid (by rw [HO.out, ht])
      have hbe : (c == 0) = false := by simpa using hc
      have hbn : (c != 0) = true := by simpa using hc
      clear ht hg HO
      go_wp2_with fail
      refine (HT.out _).mono ?_
      rintro e w2 ⟨rfl, rfl⟩
      go_wp2
      generalize (((((w1.setCell ⟨x, 0, none⟩ (.string ⟨#[]⟩)).setCell ⟨x, 1, none⟩ (.int .i64 0)).setCell ⟨x, 2, none⟩ (.bool false)).setCell ⟨x, 3, none⟩ (.string ⟨#[]⟩)).setCell ⟨x, 4, none⟩ (.int .i64 0)) = we at HXE HBE ⊢
      have d0 : we.cell? ⟨x, 0, none⟩ = some (.string ⟨#[]⟩) := cell_of_row _ _ _ _ _ _ HXE.out
      have d1 : we.cell? ⟨x, 1, none⟩ = some (.int .i64 0) := cell_of_row _ _ _ _ _ _ HXE.out
      have d2 : we.cell? ⟨x, 2, none⟩ = some (.bool false) := cell_of_row _ _ _ _ _ _ HXE.out
      have d3 : we.cell? ⟨x, 3, none⟩ = some (.string ⟨#[]⟩) := cell_of_row _ _ _ _ _ _ HXE.out
      have d4 : we.cell? ⟨x, 4, none⟩ = some (.int .i64 0) := cell_of_row _ _ _ _ _ _ HXE.out
      refine bodyPost_ret (v := .tuple #[.agg #[.string ⟨#[]⟩, .int .i64 0, .bool false, .string ⟨#[]⟩, .int .i64 0], .int .i64 0, .int .i64 c]) (by simp [results, Tryz.results82, go_sem, d0, d1, d2, d3, d4]) rfl ⟨by rw [HXX.out]; exact HBE.out, ?_⟩
      rw [HF.out]
      rfl
    | ok z =>
      obtain ⟨t, p2⟩ := z
      have hT := fun W => rtxt_ok ht hs hp1 W
      have HT := Lib.hid hT
      have hp2 : p2 ≤ s.size := by have := (BK.text_le ht).2; rwa [size_list] at this
      have hszt := (BK.text_le ht).1
      simp only [ht] at HO
      clear hT ht
      go_wp2_with fail
      refine (HT.out _).mono ?_
      rintro e w2 ⟨rfl, rfl⟩
      have hsl := fun W => str_head W K N (by omega)
      have hes : (K.extract 0 N).size ≤ 64 := by rw [ByteArray.size_extract]; omega
      obtain ⟨KH, hKH⟩ : ∃ KH, K.extract 0 N = KH := ⟨_, rfl⟩
      rw [hKH] at hes HO
      simp only [hKH] at hsl
      have k1 : ¬ 9223372036854775807 < KH.size + t.size := by omega
      obtain ⟨KT, hKT⟩ : ∃ KT, KH ++ t = KT := ⟨_, rfl⟩
      rw [hKT] at HO
      have hz0 : (0 : Int) ≤ (N : Int) := by omega
      clear hKH

      cases hq : BK.rNum s.data.toList p2 with
      | error c =>
        obtain ⟨b0, b1, hg⟩ := rget_bad hq hs hp2
        have HT := Lib.hid hg
        have hc := BK.num_err hq
        have HF : Hid (X = .error c) := Lib.hid (by rw [HO.out, hq])
        have hbe : (c == 0) = false := by simpa using hc
        have hbn : (c != 0) = true := by simpa using hc
        clear hq hg HO
        go_wp2_with fail
        refine (HT.out _).mono ?_
        rintro e w2 ⟨rfl, rfl⟩
        go_wp2
        generalize (((((w1.setCell ⟨x, 0, none⟩ (.string ⟨#[]⟩)).setCell ⟨x, 1, none⟩ (.int .i64 0)).setCell ⟨x, 2, none⟩ (.bool false)).setCell ⟨x, 3, none⟩ (.string ⟨#[]⟩)).setCell ⟨x, 4, none⟩ (.int .i64 0)) = we at HXE HBE ⊢
        have d0 : we.cell? ⟨x, 0, none⟩ = some (.string ⟨#[]⟩) := cell_of_row _ _ _ _ _ _ HXE.out
        have d1 : we.cell? ⟨x, 1, none⟩ = some (.int .i64 0) := cell_of_row _ _ _ _ _ _ HXE.out
        have d2 : we.cell? ⟨x, 2, none⟩ = some (.bool false) := cell_of_row _ _ _ _ _ _ HXE.out
        have d3 : we.cell? ⟨x, 3, none⟩ = some (.string ⟨#[]⟩) := cell_of_row _ _ _ _ _ _ HXE.out
        have d4 : we.cell? ⟨x, 4, none⟩ = some (.int .i64 0) := cell_of_row _ _ _ _ _ _ HXE.out
        refine bodyPost_ret (v := .tuple #[.agg #[.string ⟨#[]⟩, .int .i64 0, .bool false, .string ⟨#[]⟩, .int .i64 0], .int .i64 0, .int .i64 c]) (by simp [results, Tryz.results82, go_sem, d0, d1, d2, d3, d4]) rfl ⟨by rw [HXX.out]; exact HBE.out, ?_⟩
        rw [HF.out]
        rfl
      | ok z =>
        obtain ⟨sq, p3⟩ := z
        have hT := fun W => rget_ok hq hs hp2 W
        have HT := Lib.hid hT
        have hp3 : p3 ≤ s.size := by have := BK.num_le hq; rwa [size_list] at this
        have hrsq := BK.num_ok hq
        have hlosq := hrsq.1
        have hhisq := hrsq.2.1
        simp only [hq] at HO
        clear hT hrsq hq
        go_wp2_with fail
        refine (HT.out _).mono ?_
        rintro e w2 ⟨rfl, rfl⟩
        cases hm : BK.rNum s.data.toList p3 with
        | error c =>
          obtain ⟨b0, b1, hg⟩ := rget_bad hm hs hp3
          have HT := Lib.hid hg
          have hc := BK.num_err hm
          have HF : Hid (X = .error c) := Lib.hid (by rw [HO.out, hm])
          have hbe : (c == 0) = false := by simpa using hc
          have hbn : (c != 0) = true := by simpa using hc
          clear hm hg HO
          go_wp2_with fail
          refine (HT.out _).mono ?_
          rintro e w2 ⟨rfl, rfl⟩
          go_wp2
          generalize (((((w1.setCell ⟨x, 0, none⟩ (.string ⟨#[]⟩)).setCell ⟨x, 1, none⟩ (.int .i64 0)).setCell ⟨x, 2, none⟩ (.bool false)).setCell ⟨x, 3, none⟩ (.string ⟨#[]⟩)).setCell ⟨x, 4, none⟩ (.int .i64 0)) = we at HXE HBE ⊢
          have d0 : we.cell? ⟨x, 0, none⟩ = some (.string ⟨#[]⟩) := cell_of_row _ _ _ _ _ _ HXE.out
          have d1 : we.cell? ⟨x, 1, none⟩ = some (.int .i64 0) := cell_of_row _ _ _ _ _ _ HXE.out
          have d2 : we.cell? ⟨x, 2, none⟩ = some (.bool false) := cell_of_row _ _ _ _ _ _ HXE.out
          have d3 : we.cell? ⟨x, 3, none⟩ = some (.string ⟨#[]⟩) := cell_of_row _ _ _ _ _ _ HXE.out
          have d4 : we.cell? ⟨x, 4, none⟩ = some (.int .i64 0) := cell_of_row _ _ _ _ _ _ HXE.out
          refine bodyPost_ret (v := .tuple #[.agg #[.string ⟨#[]⟩, .int .i64 0, .bool false, .string ⟨#[]⟩, .int .i64 0], .int .i64 0, .int .i64 c]) (by simp [results, Tryz.results82, go_sem, d0, d1, d2, d3, d4]) rfl ⟨by rw [HXX.out]; exact HBE.out, ?_⟩
          rw [HF.out]
          rfl
        | ok z =>
          obtain ⟨m, p4⟩ := z
          have hT := fun W => rget_ok hm hs hp3 W
          have HT := Lib.hid hT
          have hp4 : p4 ≤ s.size := by have := BK.num_le hm; rwa [size_list] at this
          have hrm := BK.num_ok hm
          have hlom := hrm.1
          have hhim := hrm.2.1
          simp only [hm] at HO
          clear hT hrm hm
          go_wp2_with fail
          refine (HT.out _).mono ?_
          rintro e w2 ⟨rfl, rfl⟩
          by_cases h1 : m < 0
          · have HF : Hid (X = .error 4) := Lib.hid (by rw [HO.out, if_pos h1])
            clear HO
            go_wp2
            generalize (((((w1.setCell ⟨x, 0, none⟩ (.string ⟨#[]⟩)).setCell ⟨x, 1, none⟩ (.int .i64 0)).setCell ⟨x, 2, none⟩ (.bool false)).setCell ⟨x, 3, none⟩ (.string ⟨#[]⟩)).setCell ⟨x, 4, none⟩ (.int .i64 0)) = we at HXE HBE ⊢
            have d0 : we.cell? ⟨x, 0, none⟩ = some (.string ⟨#[]⟩) := cell_of_row _ _ _ _ _ _ HXE.out
            have d1 : we.cell? ⟨x, 1, none⟩ = some (.int .i64 0) := cell_of_row _ _ _ _ _ _ HXE.out
            have d2 : we.cell? ⟨x, 2, none⟩ = some (.bool false) := cell_of_row _ _ _ _ _ _ HXE.out
            have d3 : we.cell? ⟨x, 3, none⟩ = some (.string ⟨#[]⟩) := cell_of_row _ _ _ _ _ _ HXE.out
            have d4 : we.cell? ⟨x, 4, none⟩ = some (.int .i64 0) := cell_of_row _ _ _ _ _ _ HXE.out
            refine bodyPost_ret (v := .tuple #[.agg #[.string ⟨#[]⟩, .int .i64 0, .bool false, .string ⟨#[]⟩, .int .i64 0], .int .i64 0, .int .i64 4]) (by simp [results, Tryz.results82, go_sem, d0, d1, d2, d3, d4]) rfl ⟨by rw [HXX.out]; exact HBE.out, ?_⟩
            rw [HF.out]
            rfl
          · by_cases h2 : m = 0
            · skip
              have hzr : (w1.alloc (.cells #[.string KT, .int .i64 sq, .bool false, .string ⟨#[]⟩, .int .i64 0] 56)).heap[w1.heap.size]? = some (.cells #[.string KT, .int .i64 sq, .bool false, .string ⟨#[]⟩, .int .i64 0] 56 (0, 0)) := heap_alloc_new w1 _
              have hxr : (w1.alloc (.cells #[.string KT, .int .i64 sq, .bool false, .string ⟨#[]⟩, .int .i64 0] 56)).heap[x]? = some (.cells #[.string ⟨#[]⟩, .int .i64 0, .bool false, .string ⟨#[]⟩, .int .i64 0] 56 (0, 0)) := (Below.heap_alloc _ _ _ (by have := (Array.getElem?_eq_some_iff.1 HRX.out).1; omega)).trans HRX.out
              have hyr : (w1.alloc (.cells #[.string KT, .int .i64 sq, .bool false, .string ⟨#[]⟩, .int .i64 0] 56)).heap[y]? = some (.cells #[.string ⟨#[]⟩, .int .i64 0, .bool false, .string ⟨#[]⟩, .int .i64 0] 56 (0, 0)) := (Below.heap_alloc _ _ _ (by have := (Array.getElem?_eq_some_iff.1 HRY.out).1; omega)).trans HRY.out
              have hbz : Below x w (w1.alloc (.cells #[.string KT, .int .i64 sq, .bool false, .string ⟨#[]⟩, .int .i64 0] 56)) := HB1.out.alloc (by have := (Array.getElem?_eq_some_iff.1 HRX.out).1; omega) _
              have hzx : x ≤ w1.heap.size := by have := (Array.getElem?_eq_some_iff.1 HRX.out).1; omega
              have hzn : x ≠ w1.heap.size := by have := (Array.getElem?_eq_some_iff.1 HRX.out).1; omega
              have HZR0 := Lib.hid hzr
              have HXR0 := Lib.hid hxr
              have HYR0 := Lib.hid hyr
              have HBZ0 := Lib.hid hbz
              have HZX := Lib.hid hzx
              have HZN := Lib.hid hzn
              clear hzr hxr hyr hbz hzx hzn cx0 cx1 cx2 cx3 cx4 fx0 fx1 fx2 fx3 fx4 cy0 cy1 cy2 cy3 cy4 HXE HBE
              have HF : Hid (X = .ok (⟨KT, sq, true, ⟨#[]⟩, 0⟩, p4)) := Lib.hid (by rw [HO.out, if_neg (by omega), if_pos h2])
              have hbe : (m == 0) = true := by simpa using h2
              go_upto_if 91 with fail

              generalize w1.alloc (.cells #[.string KT, .int .i64 sq, .bool false, .string ⟨#[]⟩, .int .i64 0] 56) = wa at HZR0 HXR0 HYR0 HBZ0 ⊢
              obtain ⟨z, hz⟩ : ∃ z, w1.heap.size = z := ⟨_, rfl⟩
              rw [hz] at HZR0 HZX HZN ⊢
              clear hz

              have cz2 : wa.cell? ⟨z, 2, none⟩ = some (.bool false) := cell_of_row _ _ _ _ _ _ HZR0.out
              have fz2 : wa.frozen? ⟨z, 2, none⟩ = false := frozen_of_row _ _ _ _ _ HZR0.out

              have HZR : Hid ((wa.setCell ⟨z, 2, none⟩ (.bool true)).heap[z]? = some (.cells #[.string KT, .int .i64 sq, .bool true, .string ⟨#[]⟩, .int .i64 0] 56 (0, 0))) := Lib.hid (heap_set_fr HZR0.out 2 (.bool true))
              have HXR : Hid ((wa.setCell ⟨z, 2, none⟩ (.bool true)).heap[x]? = some (.cells #[.string ⟨#[]⟩, .int .i64 0, .bool false, .string ⟨#[]⟩, .int .i64 0] 56 (0, 0))) := Lib.hid ((Below.heap_setCell _ _ _ _ HZN.out).trans HXR0.out)
              have HBZ : Hid (Below x w (wa.setCell ⟨z, 2, none⟩ (.bool true))) := Lib.hid (below_new HBZ0.out HZX.out _ _)
              obtain ⟨wz, hwz⟩ : ∃ wz, wa.setCell ⟨z, 2, none⟩ (.bool true) = wz := ⟨_, rfl⟩
              rw [hwz] at HZR HXR HBZ
              have e0 : wz.cell? ⟨z, 0, none⟩ = some (.string KT) := cell_of_row _ _ _ _ _ _ HZR.out
              have e1 : wz.cell? ⟨z, 1, none⟩ = some (.int .i64 sq) := cell_of_row _ _ _ _ _ _ HZR.out
              have e2 : wz.cell? ⟨z, 2, none⟩ = some (.bool true) := cell_of_row _ _ _ _ _ _ HZR.out
              have e3 : wz.cell? ⟨z, 3, none⟩ = some (.string ⟨#[]⟩) := cell_of_row _ _ _ _ _ _ HZR.out
              have e4 : wz.cell? ⟨z, 4, none⟩ = some (.int .i64 0) := cell_of_row _ _ _ _ _ _ HZR.out
              have g0 : wz.cell? ⟨x, 0, none⟩ = some (.string ⟨#[]⟩) := cell_of_row _ _ _ _ _ _ HXR.out
              have g1 : wz.cell? ⟨x, 1, none⟩ = some (.int .i64 0) := cell_of_row _ _ _ _ _ _ HXR.out
              have g2 : wz.cell? ⟨x, 2, none⟩ = some (.bool false) := cell_of_row _ _ _ _ _ _ HXR.out
              have g3 : wz.cell? ⟨x, 3, none⟩ = some (.string ⟨#[]⟩) := cell_of_row _ _ _ _ _ _ HXR.out
              have g4 : wz.cell? ⟨x, 4, none⟩ = some (.int .i64 0) := cell_of_row _ _ _ _ _ _ HXR.out
              have y0 : wz.frozen? ⟨x, 0, none⟩ = false := frozen_of_row _ _ _ _ _ HXR.out
              have y1 : wz.frozen? ⟨x, 1, none⟩ = false := frozen_of_row _ _ _ _ _ HXR.out
              have y2 : wz.frozen? ⟨x, 2, none⟩ = false := frozen_of_row _ _ _ _ _ HXR.out
              have y3 : wz.frozen? ⟨x, 3, none⟩ = false := frozen_of_row _ _ _ _ _ HXR.out
              have y4 : wz.frozen? ⟨x, 4, none⟩ = false := frozen_of_row _ _ _ _ _ HXR.out
              have HX9 : Hid (((((((wz).setCell ⟨x, 0, none⟩ (.string KT)).setCell ⟨x, 1, none⟩ (.int .i64 sq)).setCell ⟨x, 2, none⟩ (.bool true)).setCell ⟨x, 3, none⟩ (.string ⟨#[]⟩)).setCell ⟨x, 4, none⟩ (.int .i64 0)).heap[x]? = some (.cells #[.string KT, .int .i64 sq, .bool true, .string ⟨#[]⟩, .int .i64 0] 56 (0, 0))) := Lib.hid (heap_set_fr (heap_set_fr (heap_set_fr (heap_set_fr (heap_set_fr HXR.out 0 (.string KT)) 1 (.int .i64 sq)) 2 (.bool true)) 3 (.string ⟨#[]⟩)) 4 (.int .i64 0))
              have HB9 : Hid (Below x w ((((((wz).setCell ⟨x, 0, none⟩ (.string KT)).setCell ⟨x, 1, none⟩ (.int .i64 sq)).setCell ⟨x, 2, none⟩ (.bool true)).setCell ⟨x, 3, none⟩ (.string ⟨#[]⟩)).setCell ⟨x, 4, none⟩ (.int .i64 0))) := Lib.hid (below_new (below_new (below_new (below_new (below_new HBZ.out (Nat.le_refl _) _ _) (Nat.le_refl _) _ _) (Nat.le_refl _) _ _) (Nat.le_refl _) _ _) (Nat.le_refl _) _ _)
              clear HZR HXR HBZ
              go_wp2
              generalize ((((((wz).setCell ⟨x, 0, none⟩ (.string KT)).setCell ⟨x, 1, none⟩ (.int .i64 sq)).setCell ⟨x, 2, none⟩ (.bool true)).setCell ⟨x, 3, none⟩ (.string ⟨#[]⟩)).setCell ⟨x, 4, none⟩ (.int .i64 0)) = wf at HX9 HB9 ⊢
              have d0 : wf.cell? ⟨x, 0, none⟩ = some (.string KT) := cell_of_row _ _ _ _ _ _ HX9.out
              have d1 : wf.cell? ⟨x, 1, none⟩ = some (.int .i64 sq) := cell_of_row _ _ _ _ _ _ HX9.out
              have d2 : wf.cell? ⟨x, 2, none⟩ = some (.bool true) := cell_of_row _ _ _ _ _ _ HX9.out
              have d3 : wf.cell? ⟨x, 3, none⟩ = some (.string ⟨#[]⟩) := cell_of_row _ _ _ _ _ _ HX9.out
              have d4 : wf.cell? ⟨x, 4, none⟩ = some (.int .i64 0) := cell_of_row _ _ _ _ _ _ HX9.out
              refine bodyPost_ret (v := .tuple #[.agg #[.string KT, .int .i64 sq, .bool true, .string ⟨#[]⟩, .int .i64 0], .int .i64 p4, .int .i64 0]) (by simp [results, Tryz.results82, go_sem, d0, d1, d2, d3, d4]) rfl ⟨by rw [HXX.out]; exact HB9.out, ?_⟩
              rw [HF.out]
              rfl
            · skip
              have hzr : (w1.alloc (.cells #[.string KT, .int .i64 sq, .bool false, .string ⟨#[]⟩, .int .i64 0] 56)).heap[w1.heap.size]? = some (.cells #[.string KT, .int .i64 sq, .bool false, .string ⟨#[]⟩, .int .i64 0] 56 (0, 0)) := heap_alloc_new w1 _
              have hxr : (w1.alloc (.cells #[.string KT, .int .i64 sq, .bool false, .string ⟨#[]⟩, .int .i64 0] 56)).heap[x]? = some (.cells #[.string ⟨#[]⟩, .int .i64 0, .bool false, .string ⟨#[]⟩, .int .i64 0] 56 (0, 0)) := (Below.heap_alloc _ _ _ (by have := (Array.getElem?_eq_some_iff.1 HRX.out).1; omega)).trans HRX.out
              have hyr : (w1.alloc (.cells #[.string KT, .int .i64 sq, .bool false, .string ⟨#[]⟩, .int .i64 0] 56)).heap[y]? = some (.cells #[.string ⟨#[]⟩, .int .i64 0, .bool false, .string ⟨#[]⟩, .int .i64 0] 56 (0, 0)) := (Below.heap_alloc _ _ _ (by have := (Array.getElem?_eq_some_iff.1 HRY.out).1; omega)).trans HRY.out
              have hbz : Below x w (w1.alloc (.cells #[.string KT, .int .i64 sq, .bool false, .string ⟨#[]⟩, .int .i64 0] 56)) := HB1.out.alloc (by have := (Array.getElem?_eq_some_iff.1 HRX.out).1; omega) _
              have hzx : x ≤ w1.heap.size := by have := (Array.getElem?_eq_some_iff.1 HRX.out).1; omega
              have hzn : x ≠ w1.heap.size := by have := (Array.getElem?_eq_some_iff.1 HRX.out).1; omega
              have HZR0 := Lib.hid hzr
              have HXR0 := Lib.hid hxr
              have HYR0 := Lib.hid hyr
              have HBZ0 := Lib.hid hbz
              have HZX := Lib.hid hzx
              have HZN := Lib.hid hzn
              clear hzr hxr hyr hbz hzx hzn cx0 cx1 cx2 cx3 cx4 fx0 fx1 fx2 fx3 fx4 cy0 cy1 cy2 cy3 cy4 HXE HBE
              have hbe : (m == 0) = false := by simpa using h2
              have hwr : IntKind.i64.wrap (m - 1) = m - 1 := IntWalk.i64_in _ ⟨by omega, by omega⟩
              have HO2 := Lib.hid (HO.out.trans ((if_neg (by omega)).trans (if_neg h2)))
              clear HO
              go_upto_if 91 with fail

              generalize w1.alloc (.cells #[.string KT, .int .i64 sq, .bool false, .string ⟨#[]⟩, .int .i64 0] 56) = wa at HZR0 HXR0 HYR0 HBZ0 ⊢
              obtain ⟨z, hz⟩ : ∃ z, w1.heap.size = z := ⟨_, rfl⟩
              rw [hz] at HZR0 HZX HZN ⊢
              clear hz

              clear h1 h2
              cases hv : BK.rText s.data.toList p4 with
              | error c =>
                obtain ⟨b0, b1, hg⟩ := rtxt_bad hv hs hp4
                have HT := Lib.hid hg
                have hc := BK.text_err hv
                have HF : Hid (X = .error c) := Lib.hid (by rw [HO2.out, hv])
                have hbe2 : (c == 0) = false := by simpa using hc
                have hbn : (c != 0) = true := by simpa using hc
                clear hv hg HO2
                go_wp2_with fail
                refine (HT.out _).mono ?_
                rintro e w2 ⟨rfl, rfl⟩
                have cx0 : wa.cell? ⟨x, 0, none⟩ = some (.string ⟨#[]⟩) := cell_of_row _ _ _ _ _ _ HXR0.out
                have cx1 : wa.cell? ⟨x, 1, none⟩ = some (.int .i64 0) := cell_of_row _ _ _ _ _ _ HXR0.out
                have cx2 : wa.cell? ⟨x, 2, none⟩ = some (.bool false) := cell_of_row _ _ _ _ _ _ HXR0.out
                have cx3 : wa.cell? ⟨x, 3, none⟩ = some (.string ⟨#[]⟩) := cell_of_row _ _ _ _ _ _ HXR0.out
                have cx4 : wa.cell? ⟨x, 4, none⟩ = some (.int .i64 0) := cell_of_row _ _ _ _ _ _ HXR0.out
                have fx0 : wa.frozen? ⟨x, 0, none⟩ = false := frozen_of_row _ _ _ _ _ HXR0.out
                have fx1 : wa.frozen? ⟨x, 1, none⟩ = false := frozen_of_row _ _ _ _ _ HXR0.out
                have fx2 : wa.frozen? ⟨x, 2, none⟩ = false := frozen_of_row _ _ _ _ _ HXR0.out
                have fx3 : wa.frozen? ⟨x, 3, none⟩ = false := frozen_of_row _ _ _ _ _ HXR0.out
                have fx4 : wa.frozen? ⟨x, 4, none⟩ = false := frozen_of_row _ _ _ _ _ HXR0.out
                have cy0 : wa.cell? ⟨y, 0, none⟩ = some (.string ⟨#[]⟩) := cell_of_row _ _ _ _ _ _ HYR0.out
                have cy1 : wa.cell? ⟨y, 1, none⟩ = some (.int .i64 0) := cell_of_row _ _ _ _ _ _ HYR0.out
                have cy2 : wa.cell? ⟨y, 2, none⟩ = some (.bool false) := cell_of_row _ _ _ _ _ _ HYR0.out
                have cy3 : wa.cell? ⟨y, 3, none⟩ = some (.string ⟨#[]⟩) := cell_of_row _ _ _ _ _ _ HYR0.out
                have cy4 : wa.cell? ⟨y, 4, none⟩ = some (.int .i64 0) := cell_of_row _ _ _ _ _ _ HYR0.out
                have HXE : Hid ((((((wa.setCell ⟨x, 0, none⟩ (.string ⟨#[]⟩)).setCell ⟨x, 1, none⟩ (.int .i64 0)).setCell ⟨x, 2, none⟩ (.bool false)).setCell ⟨x, 3, none⟩ (.string ⟨#[]⟩)).setCell ⟨x, 4, none⟩ (.int .i64 0)).heap[x]? = some (.cells #[.string ⟨#[]⟩, .int .i64 0, .bool false, .string ⟨#[]⟩, .int .i64 0] 56 (0, 0))) := Lib.hid (heap_set_fr (heap_set_fr (heap_set_fr (heap_set_fr (heap_set_fr HXR0.out 0 (.string ⟨#[]⟩)) 1 (.int .i64 0)) 2 (.bool false)) 3 (.string ⟨#[]⟩)) 4 (.int .i64 0))
                have HBE : Hid (Below x w (((((wa.setCell ⟨x, 0, none⟩ (.string ⟨#[]⟩)).setCell ⟨x, 1, none⟩ (.int .i64 0)).setCell ⟨x, 2, none⟩ (.bool false)).setCell ⟨x, 3, none⟩ (.string ⟨#[]⟩)).setCell ⟨x, 4, none⟩ (.int .i64 0))) := Lib.hid (below_new (below_new (below_new (below_new (below_new HBZ0.out (Nat.le_refl _) _ _) (Nat.le_refl _) _ _) (Nat.le_refl _) _ _) (Nat.le_refl _) _ _) (Nat.le_refl _) _ _)

                go_wp2
                generalize (((((wa.setCell ⟨x, 0, none⟩ (.string ⟨#[]⟩)).setCell ⟨x, 1, none⟩ (.int .i64 0)).setCell ⟨x, 2, none⟩ (.bool false)).setCell ⟨x, 3, none⟩ (.string ⟨#[]⟩)).setCell ⟨x, 4, none⟩ (.int .i64 0)) = we at HXE HBE ⊢
                have d0 : we.cell? ⟨x, 0, none⟩ = some (.string ⟨#[]⟩) := cell_of_row _ _ _ _ _ _ HXE.out
                have d1 : we.cell? ⟨x, 1, none⟩ = some (.int .i64 0) := cell_of_row _ _ _ _ _ _ HXE.out
                have d2 : we.cell? ⟨x, 2, none⟩ = some (.bool false) := cell_of_row _ _ _ _ _ _ HXE.out
                have d3 : we.cell? ⟨x, 3, none⟩ = some (.string ⟨#[]⟩) := cell_of_row _ _ _ _ _ _ HXE.out
                have d4 : we.cell? ⟨x, 4, none⟩ = some (.int .i64 0) := cell_of_row _ _ _ _ _ _ HXE.out
                refine bodyPost_ret (v := .tuple #[.agg #[.string ⟨#[]⟩, .int .i64 0, .bool false, .string ⟨#[]⟩, .int .i64 0], .int .i64 0, .int .i64 c]) (by simp [results, Tryz.results82, go_sem, d0, d1, d2, d3, d4]) rfl ⟨by rw [HXX.out]; exact HBE.out, ?_⟩
                rw [HF.out]
                rfl
              | ok z2 =>
                obtain ⟨v, p5⟩ := z2
                have hT := fun W => rtxt_ok hv hs hp4 W
                have HT := Lib.hid hT
                have HO := Lib.hid HO2.out
                simp only [hv] at HO
                clear hT hv HO2
                go_wp2_with fail
                refine (HT.out _).mono ?_
                rintro e w2 ⟨rfl, rfl⟩
                have HF : Hid (X = .ok (⟨KT, sq, false, v, m - 1⟩, p5)) := Lib.hid (by rw [HO.out])
                have cz4 : wa.cell? ⟨z, 4, none⟩ = some (.int .i64 0) := cell_of_row _ _ _ _ _ _ HZR0.out
                have fz4 : wa.frozen? ⟨z, 4, none⟩ = false := frozen_of_row _ _ _ _ _ HZR0.out
                have hz1 := heap_set_fr HZR0.out 4 (.int .i64 (m - 1))
                have cz3 : (wa.setCell ⟨z, 4, none⟩ (.int .i64 (m - 1))).cell? ⟨z, 3, none⟩ = some (.string ⟨#[]⟩) := cell_of_row _ _ _ _ _ _ hz1
                have fz3 : (wa.setCell ⟨z, 4, none⟩ (.int .i64 (m - 1))).frozen? ⟨z, 3, none⟩ = false := frozen_of_row _ _ _ _ _ hz1

                have HZR : Hid (((wa.setCell ⟨z, 4, none⟩ (.int .i64 (m - 1))).setCell ⟨z, 3, none⟩ (.string v)).heap[z]? = some (.cells #[.string KT, .int .i64 sq, .bool false, .string v, .int .i64 (m - 1)] 56 (0, 0))) := Lib.hid (heap_set_fr hz1 3 (.string v))
                have HXR : Hid (((wa.setCell ⟨z, 4, none⟩ (.int .i64 (m - 1))).setCell ⟨z, 3, none⟩ (.string v)).heap[x]? = some (.cells #[.string ⟨#[]⟩, .int .i64 0, .bool false, .string ⟨#[]⟩, .int .i64 0] 56 (0, 0))) := Lib.hid ((Below.heap_setCell _ _ _ _ HZN.out).trans ((Below.heap_setCell _ _ _ _ HZN.out).trans HXR0.out))
                have HBZ : Hid (Below x w ((wa.setCell ⟨z, 4, none⟩ (.int .i64 (m - 1))).setCell ⟨z, 3, none⟩ (.string v))) := Lib.hid (below_new (below_new HBZ0.out HZX.out _ _) HZX.out _ _)
                obtain ⟨wz, hwz⟩ : ∃ wz, (wa.setCell ⟨z, 4, none⟩ (.int .i64 (m - 1))).setCell ⟨z, 3, none⟩ (.string v) = wz := ⟨_, rfl⟩
                rw [hwz] at HZR HXR HBZ
                have e0 : wz.cell? ⟨z, 0, none⟩ = some (.string KT) := cell_of_row _ _ _ _ _ _ HZR.out
                have e1 : wz.cell? ⟨z, 1, none⟩ = some (.int .i64 sq) := cell_of_row _ _ _ _ _ _ HZR.out
                have e2 : wz.cell? ⟨z, 2, none⟩ = some (.bool false) := cell_of_row _ _ _ _ _ _ HZR.out
                have e3 : wz.cell? ⟨z, 3, none⟩ = some (.string v) := cell_of_row _ _ _ _ _ _ HZR.out
                have e4 : wz.cell? ⟨z, 4, none⟩ = some (.int .i64 (m - 1)) := cell_of_row _ _ _ _ _ _ HZR.out
                have g0 : wz.cell? ⟨x, 0, none⟩ = some (.string ⟨#[]⟩) := cell_of_row _ _ _ _ _ _ HXR.out
                have g1 : wz.cell? ⟨x, 1, none⟩ = some (.int .i64 0) := cell_of_row _ _ _ _ _ _ HXR.out
                have g2 : wz.cell? ⟨x, 2, none⟩ = some (.bool false) := cell_of_row _ _ _ _ _ _ HXR.out
                have g3 : wz.cell? ⟨x, 3, none⟩ = some (.string ⟨#[]⟩) := cell_of_row _ _ _ _ _ _ HXR.out
                have g4 : wz.cell? ⟨x, 4, none⟩ = some (.int .i64 0) := cell_of_row _ _ _ _ _ _ HXR.out
                have y0 : wz.frozen? ⟨x, 0, none⟩ = false := frozen_of_row _ _ _ _ _ HXR.out
                have y1 : wz.frozen? ⟨x, 1, none⟩ = false := frozen_of_row _ _ _ _ _ HXR.out
                have y2 : wz.frozen? ⟨x, 2, none⟩ = false := frozen_of_row _ _ _ _ _ HXR.out
                have y3 : wz.frozen? ⟨x, 3, none⟩ = false := frozen_of_row _ _ _ _ _ HXR.out
                have y4 : wz.frozen? ⟨x, 4, none⟩ = false := frozen_of_row _ _ _ _ _ HXR.out
                have HX9 : Hid (((((((wz).setCell ⟨x, 0, none⟩ (.string KT)).setCell ⟨x, 1, none⟩ (.int .i64 sq)).setCell ⟨x, 2, none⟩ (.bool false)).setCell ⟨x, 3, none⟩ (.string v)).setCell ⟨x, 4, none⟩ (.int .i64 (m - 1))).heap[x]? = some (.cells #[.string KT, .int .i64 sq, .bool false, .string v, .int .i64 (m - 1)] 56 (0, 0))) := Lib.hid (heap_set_fr (heap_set_fr (heap_set_fr (heap_set_fr (heap_set_fr HXR.out 0 (.string KT)) 1 (.int .i64 sq)) 2 (.bool false)) 3 (.string v)) 4 (.int .i64 (m - 1)))
                have HB9 : Hid (Below x w ((((((wz).setCell ⟨x, 0, none⟩ (.string KT)).setCell ⟨x, 1, none⟩ (.int .i64 sq)).setCell ⟨x, 2, none⟩ (.bool false)).setCell ⟨x, 3, none⟩ (.string v)).setCell ⟨x, 4, none⟩ (.int .i64 (m - 1)))) := Lib.hid (below_new (below_new (below_new (below_new (below_new HBZ.out (Nat.le_refl _) _ _) (Nat.le_refl _) _ _) (Nat.le_refl _) _ _) (Nat.le_refl _) _ _) (Nat.le_refl _) _ _)
                clear HZR HXR HBZ
                go_wp2
                generalize ((((((wz).setCell ⟨x, 0, none⟩ (.string KT)).setCell ⟨x, 1, none⟩ (.int .i64 sq)).setCell ⟨x, 2, none⟩ (.bool false)).setCell ⟨x, 3, none⟩ (.string v)).setCell ⟨x, 4, none⟩ (.int .i64 (m - 1))) = wf at HX9 HB9 ⊢
                have d0 : wf.cell? ⟨x, 0, none⟩ = some (.string KT) := cell_of_row _ _ _ _ _ _ HX9.out
                have d1 : wf.cell? ⟨x, 1, none⟩ = some (.int .i64 sq) := cell_of_row _ _ _ _ _ _ HX9.out
                have d2 : wf.cell? ⟨x, 2, none⟩ = some (.bool false) := cell_of_row _ _ _ _ _ _ HX9.out
                have d3 : wf.cell? ⟨x, 3, none⟩ = some (.string v) := cell_of_row _ _ _ _ _ _ HX9.out
                have d4 : wf.cell? ⟨x, 4, none⟩ = some (.int .i64 (m - 1)) := cell_of_row _ _ _ _ _ _ HX9.out
                refine bodyPost_ret (v := .tuple #[.agg #[.string KT, .int .i64 sq, .bool false, .string v, .int .i64 (m - 1)], .int .i64 p5, .int .i64 0]) (by simp [results, Tryz.results82, go_sem, d0, d1, d2, d3, d4]) rfl ⟨by rw [HXX.out]; exact HB9.out, ?_⟩
                rw [HF.out]
                rfl
end Go.Proofs.YtnglaolbfpdgoaaGreat

