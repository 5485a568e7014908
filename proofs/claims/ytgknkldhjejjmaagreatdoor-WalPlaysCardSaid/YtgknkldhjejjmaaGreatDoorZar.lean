/- Texts joined by bundle.py: DkT, DkU, DkV, DkW, RfA. -/
import Derived.Test.YtgknkldhjejjmaaGreatDoorZap
import Derived.Test.YtgknkldhjejjmaaGreatDoorZaq
import Derived.SizedLaws
import Derived.OpenShut
import Derived.Lib.SmallJoins
import Derived.Sort.OwnSorted
import Derived.Sort.KeysCollected
import Derived.Laws.IdiomRangeMap
import Derived.Laws.BitsAllLaws

/- A slice of numbers that comes in, opened, with its size; an array of two numbers. -/
namespace Go.Proofs.YtgknkldhjejjmaaGreatDoor
open Go.ChangeShapes Go.WideShapes Go.ChangeAt Go.RowKit
open DM

section
variable {H : Type} {enc : TypeId × Value → H} {P : Program} {w : World}

def NumsAt (w : World) (A : Option Addr) (zs : List Int) : Prop :=
  0 < zs.length → ∃ b off, A = some ⟨b, off, none⟩ ∧ b < w.heap.size ∧ ∀ j, (h : j < zs.length) → w.cell? ⟨b, off + j, none⟩ = some (.int .i64 zs[j])

theorem NumsAt.stays {w : World} {A : Option Addr} {zs : List Int} (h : NumsAt w A zs) : Stays w.heap.size w A zs := fun h0 => by
  obtain ⟨b, off, hA, hb, hc⟩ := h h0
  exact ⟨b, off, hA, fun w' hm j hj => (hm.below.cell (p := ⟨b, off + j, none⟩) hb).trans (hc j hj)⟩

theorem open_nums {r : Reach} {b0 : Nat} {t e : TypeId} {v : Value} {d : DataW H} {p : List MemPlace} (ht : P.underlying t = some (.slice e)) (he : P.underlying e = some (.int .i64)) (hc : P.cellsOf e = 1) (h8 : P.bytesOf e = 8)
    (hval : Value.okWide P w r b0 t v) (h : DataW.Trod enc P w 0 (fun _ => true) true t v d p) (hw : ∀ m ∈ d.weights P t, m ≤ reachBytes) :
    ∃ A n cap zs, v = .slice A n cap ∧ zs.length = n ∧ NumsAt w A zs ∧ (∀ z ∈ zs, fits z) ∧ n * 8 ≤ reachBytes := by
  obtain ⟨a0, len, cap, rfl⟩ := okWide_slice ht hval
  obtain ⟨fuel, hf⟩ := h
  rcases _root_.Go.ChangeShapes.open_ints ht he hc hf with ⟨hcs, hx⟩ | ⟨a, len', cap', zs, hcs, -, hl, hm, hz, hx, hcell, hwz⟩
  · simp [Value.cells] at hcs
    obtain ⟨rfl, rfl, rfl⟩ := hcs
    exact ⟨none, 0, 0, [], rfl, rfl, by intro h; simp at h, by simp, by decide⟩
  · simp [Value.cells] at hcs
    obtain ⟨rfl, rfl, rfl⟩ := hcs
    simp only [if_true] at hz
    simp only [Prod.mk.injEq] at hx
    have htl : (zs.take len).length = len := by rw [List.length_take]; omega
    refine ⟨some a, len, cap, zs.take len, rfl, htl, fun hn => ?_, fun z hzm => ?_, ?_⟩
    · rw [htl] at hn
      obtain ⟨b, off, rfl, hc2⟩ := ints_at hcell (by omega)
      have hlt := block_lt_of_cell (hc2 0 (by omega))
      refine ⟨b, off, rfl, hlt, fun j hj => ?_⟩
      have hj' : j < zs.length := by rw [htl] at hj; omega
      rw [hc2 j hj']
      simp [List.getD, hj']
    · have := hwz z (List.mem_of_mem_take hzm)
      simpa [fits, Lit.wf, IntKind.min, IntKind.max, IntKind.signed, IntKind.bits] using this
    · obtain ⟨rfl, -⟩ := hx
      have h1 := hw (((_root_.Go.ChangeShapes.lits (H := H) .i64 (zs.take len)).length + (_root_.Go.ChangeShapes.lits (H := H) .i64 (zs.drop len)).length) * 8) (by
        simp only [DataW.weights, ht, List.mem_cons]
        left
        rw [h8])
      have h2 : (_root_.Go.ChangeShapes.lits (H := H) .i64 (zs.take len)).length = len := by simp [lits]; omega
      rw [h2] at h1
      omega

theorem nums_sized {H : Type} {P : Program} {ts : List TypeId} {ds : List (DataW H)} (h : (DataW.weightsEach P ts ds).all (· ≤ reachBytes) = true) {j : Nat} {t : TypeId} {d : DataW H} (ht : ts[j]? = some t) (hd : ds[j]? = some d) :
    ∀ m ∈ d.weights P t, m ≤ reachBytes := fun m hm => by
  have := List.all_eq_true.1 h _ (DataW.weights_mem_each ht hd m hm)
  simpa using this
end

section
variable {H : Type} {enc : TypeId × Value → H} {P : Program} {w : World} {base : Nat} {spare : Nat → Bool} {held : Bool}
theorem open_ints2 {r : Reach} {b0 : Nat} {t e : TypeId} {v : Value} {d : DataW H} {p : List MemPlace} (ht : P.underlying t = some (.array 2 e)) (he : P.underlying e = some (.int .i64)) (hc : P.cellsOf e = 1) (hC : P.cellsOf t = 2)
    (hv : Value.okWide P w r b0 t v) (h : DataW.Trod enc P w base spare held t v d p) :
    ∃ a b : Int, v = .agg #[.int .i64 a, .int .i64 b] ∧ p = [] ∧ fits a ∧ fits b := by
  unfold Value.okWide at hv
  rw [ht] at hv
  obtain ⟨cs, rfl, hsz, -⟩ := hv
  obtain ⟨c0, c1, rfl⟩ := _root_.Go.Joins.array2 (hsz.trans hC)
  obtain ⟨fuel, hf⟩ := h
  obtain ⟨xs, m, -, hx, -, hlen, hel⟩ := DataW.trod_array ht hf
  match xs, hlen with
  | [y0, y1], _ =>
    have e0 := hel 0 (by decide)
    have e1 := hel 1 (by decide)
    rw [hc] at e0 e1
    simp only [Value.cells, List.getElem?_cons_zero, List.getElem?_cons_succ, Nat.zero_mul, Nat.one_mul, List.drop_zero, List.drop_succ_cons, List.take_succ_cons, List.take_zero] at e0 e1
    obtain ⟨a, ha, hxa, hsa⟩ := DataW.trod_int he e0
    obtain ⟨b, hb, hxb, hsb⟩ := DataW.trod_int he e1
    simp at ha hb
    subst ha; subst hb; subst hxa; subst hxb
    simp only [Prod.mk.injEq, List.map_cons, List.map_nil, List.flatMap_cons, List.flatMap_nil, List.append_nil] at hx
    exact ⟨a, b, rfl, hx.2, by simpa [fits, Lit.wf, IntKind.min, IntKind.max, IntKind.signed, IntKind.bits] using hsa, by simpa [fits, Lit.wf, IntKind.min, IntKind.max, IntKind.signed, IntKind.bits] using hsb⟩
end
theorem Live.still {B : Nat} {w0 w w' : World} {d : Nat} {s : St} {N M : Nat} (h : Live B w0 w d s N M) (hb : Below w.heap.size w w') : Live B w0 w' d s N M := by
  obtain ⟨g, hg⟩ := h.rep
  exact ⟨h.moves.of_below hb h.le', h.ok, h.lim, ⟨g, hg.still ⟨hb.os, hb.tape, hb.output, hb.size, fun k hk _ => hb.block k hk⟩⟩, h.le, h.few⟩

end Go.Proofs.YtgknkldhjejjmaaGreatDoor

/- List: the names of all files, rising, in a slice of the call's own. -/
namespace Go.Proofs.YtgknkldhjejjmaaGreatDoor
open Go.RowKit Go.Maps Go.Sort
open DM

theorem info_string : (Tryz.prog.info? 9).map (fun i => (i.zero, i.size, i.bytes)) = some (some (.string ⟨#[]⟩), 1, 16) := by kernel_rfl

def ListOut (w : World) (ss : List Bs) (e : Ending) (w' : World) : Prop := ∃ v, e = .returned v ∧ w'.ownsRow w.heap.size 9 1 v ss.length (ss.map encStr) ∧ Below w.heap.size w w'

/-- where the loop stands -/
structure ListRel (w : World) (b1 n : Nat) (D0 : DataW Unit) (left : Lit → Bool) (cnt : Nat) (ss : List Bs) (v : Value) (wr : World) : Prop where
  ranges : wr.ranges Tryz.prog 9 ptrElem b1 w.heap.size n D0 left cnt
  got : Collected D0 left ss
  row : wr.ownsRow w.heap.size 9 1 v ss.length (ss.map encStr)
  below : Below w.heap.size w wr
  few : ss.length + cnt ≤ 4096
  iter : w.heap.size < wr.heap.size

theorem one_cell (w : World) (v : Value) (t : TypeId) : ∀ j u, [v][j]? = some u → (w.alloc (.cells #[v] t)).cell? ((⟨w.heap.size, 0, none⟩ : Addr).add j) = some u := by
  intro j u hj
  match j, hj with
  | 0, hj => simp at hj; subst hj; simp [Addr.add]
  | j + 1, hj => simp at hj

theorem list_end {w : World} {b1 n : Nat} {blk : Nat → Nat} {l : Nm} {left : Lit → Bool} {cnt : Nat} {ss : List Bs} {v : Value} {wr : World} (h : ListRel w b1 n (D blk l) left cnt ss v wr) (hs : Sorted l) (hl : ∀ kl, left kl = false) : ss.mergeSort leB = l.map (·.1) := by
  have hp := h.got.perm h.ranges.owns keyLaw Tryz.underlying9 hl
  rw [mergeSort_of_perm hp, D_keys, keys_sorted hs]

set_option maxRecDepth 100000 in
set_option maxHeartbeats 2000000 in
theorem list_some {B : Nat} {w : World} {d : Nat} {s : St} {g : Gh} (h : Rep B w d s g) (ok : Ok s) {b1 : Nat} (e1 : g.m1 = some b1) :
    Calls Tryz.prog 53 #[.pointer (some ⟨d, 0, none⟩)] w (ListOut w (s.names.map (·.1))) := by
  obtain ⟨i0, hi, hz0, hz1, hz2⟩ := info_parts info_string
  have HOWN : Hid (OwnM w b1 s.names.length (D g.blk s.names)) := by
    rcases h.body.maps with ⟨e, _⟩ | ⟨b, b2, e, _, _, _, _, o1, _⟩
    · rw [e1] at e; cases e
    · rw [e1] at e; cases e
      exact o1
  have HS : Hid (Sorted s.names) := ok.gnames.sorted
  have HFEW : Hid (s.names.length ≤ 4096) := ok.gnames.few
  have HKEY : Hid (∀ p ∈ s.names, p.1.length ≤ 64) := fun p hp => (ok.gnames.key p hp).2
  have hc3 : w.cell? ⟨d, 3, none⟩ = some (.map (some b1)) := by
    have := h.cells.2.2.2.1
    rw [e1] at this
    exact this
  obtain ⟨P, hP⟩ : ∃ P, s.names = P := ⟨_, rfl⟩
  obtain ⟨blk, hblk⟩ : ∃ blk, g.blk = blk := ⟨_, rfl⟩
  rw [hP, hblk] at HOWN
  rw [hP] at HS HFEW HKEY ⊢
  clear h ok e1 hP hblk
  go_enter Tryz.func53, Tryz.ntmps53
  go_wp2_with (at_range; refine wpList_range_own _ rfl _ 46 rfl 9 93 keyLaw Tryz.underlying46 _ b1 P.length (D blk P) rfl HOWN.out ?_; intro w5 hrg5 hg5 hs5; have HG5 := Lib.hid hg5; have HRG5 := Lib.hid hrg5; have HS5 := Lib.hid hs5; clear hrg5 hg5 hs5)
  go_frame
  have HB1 : Hid (b1 < w.heap.size) := by
    obtain ⟨es, clock, hb, _⟩ := HOWN.out
    exact (Array.getElem?_eq_some_iff.1 hb).1
  have HSTART : Hid (ListRel w b1 P.length (D blk P) (Maps.has (D blk P)) (Maps.size (D blk P)) [] (.slice none 0 0) w5) :=
    ⟨by simpa using HRG5.out, Collected.start _, World.ownsRow_nil _ _ _ _, (Below.refl _ w).grown HG5.out (Nat.le_refl _) (fun k e => by cases e), by rw [D_size]; simpa using HFEW.out, by rw [HS5.out]; omega⟩
  clear HG5 HRG5 HS5 hc3
  go_loopw [3] (fun v wr => ∃ (left : Lit → Bool) (cnt : Nat) (ss : List Bs), ListRel w b1 P.length (D blk P) left cnt ss v wr) (fun _ wr => wr.rangeLeft b1 w.heap.size)
  case atStart => exact ⟨_, _, _, HSTART.out⟩
  case round =>
    obtain ⟨left, cnt, ss, hrel⟩ := hrel
    have HR := Lib.hid hrel
    have HRG := Lib.hid hrel.ranges
    clear hrel HSTART
    go_wp2_with (at_next; refine wpList_next_ranges _ rfl _ rfl 9 keyLaw ptrElem encStr mkP invK invV b1 w.heap.size _ _ left cnt rfl HRG.out ?_ ?_)
    · intro _ hl0
      have HE := Lib.hid (list_end HR.out HS.out hl0)
      have hrow := HR.out.row
      clear hl0
      rcases hrow.2 with ⟨hnil, hk0⟩ | ⟨g, cap, cur, hv, hbase, hb, h1, h2, h3, h4⟩
      · obtain rfl : ss = [] := List.eq_nil_of_length_eq_zero hk0
        subst hnil
        have HB := Lib.hid HR.out.below
        have hE : Hid (P.map (·.1) = []) := by
          have h0 := HE.out
          simp only [List.mergeSort_nil] at h0
          exact h0.symm
        clear hrow hk0 HR HRG
        go_wp2_with fail
        refine (Tryz.slices_Sort_string_none none 0 _).mono ?_
        rintro e w7 ⟨rfl, rfl⟩
        go_wp2
        go_ret
        refine ⟨_, rfl, ?_, HB.out⟩
        rw [hE.out]
        exact World.ownsRow_nil _ _ _ _
      · subst hv
        have hH : Holds encStr wr g 0 ss.toArray := holds_of_block hb (by simpa using h4)
        have hgl : g < wr.heap.size := (Array.getElem?_eq_some_iff.1 hb).1
        have hf := HR.out.few
        have HSORT := Lib.hid (Tryz.slices_Sort_string g 0 cap ss wr hH hgl (by omega))
        have hl2 : (P.map (·.1)).length = ss.length := by rw [← HE.out, List.length_mergeSort]
        have HFIN : Hid (∀ nn os, ListOut w (P.map (·.1)) (.returned (.slice (some ⟨g, 0, none⟩) ss.length cap)) (grow (putRow encStr (Sort.ahead wr nn) g 0 (P.map (·.1)).toArray) os)) := fun nn os => by
          have hg := grownBy_sorted (w := wr) (g := g) (n := nn) (os := os) (P.map (·.1)).toArray
          have hro := ownsRow_sorted (n := nn) (os := os) (ts := P.map (·.1)) hl2 hbase hb h1 h2 h3
          exact ⟨_, rfl, by rw [hl2]; exact hro, HR.out.below.grown hg (Nat.le_of_lt HR.out.iter) (fun k e => by cases e; exact hbase)⟩
        rw [show (fun x y : Bs => decide (x ≤ y)) = leB from rfl, HE.out] at HSORT
        clear hrow hb h1 h2 h3 h4 hH HR HRG HE
        go_wp2_with fail
        refine HSORT.out.mono ?_
        rintro e w7 ⟨rfl, nn, os, rfl⟩
        go_wp2
        go_ret
        exact HFIN.out nn os
    · intro x c kl yd yp w6 cnt2 hkey hlk hv hat hrg2 hlt2 hg2 hs2 hen
      obtain ⟨x', ex, rfl, hxl⟩ := Maps.keyOf_str Tryz.underlying9 hkey
      obtain rfl : x = x' := encStr_inj ex
      have hen' : (Instr.entry (.pointer (some ⟨w.heap.size, 0, none⟩))).run Tryz.prog w6 = .ok (.tuple #[.string ⟨x.toArray⟩, mkP c]) w6 := hen
      have hrow6 := HR.out.row.kept hg2 (by
        cases hob : u3.ownBlock with
        | none => exact Or.inl rfl
        | some g => exact Or.inr (fun e => row_ne_iter HR.out.row HRG.out (by rw [hob]; exact e.symm)))
      have HROW6 := Lib.hid hrow6
      have HB6 : Hid (Below w.heap.size w w6) := HR.out.below.grown hg2 (Nat.le_of_lt HR.out.iter) (fun k e => by cases e; exact Nat.le_refl _)
      have HGOT := Lib.hid (HR.out.got.step hlk hat)
      have HRG6 := Lib.hid hrg2
      have hfew := HR.out.few
      have HI6 : Hid (w.heap.size < w6.heap.size) := by show _ < _; rw [hs2]; exact HR.out.iter
      have HCNT : Hid (cnt2 < wr.rangeLeft b1 w.heap.size) := by rw [HRG.out.left_eq]; exact hlt2
      have hsz : (⟨x.toArray⟩ : ByteArray).size ≤ 281474976710656 := by
        have h64 : x.length ≤ 64 := by
          cases hf : find P x with
          | none =>
            have e1 := hat .nil
            have e2 := hat (.lit (.bool true))
            rw [D_at, hf] at e1 e2
            rw [← e1] at e2
            cases e2
          | some m => exact HKEY.out _ (find_some hf)
        rw [← size_list]
        simp
        omega
      clear hrow6 hlk hat hrg2 hg2 hs2 hen hkey ex hv HR HRG hxl
      obtain ⟨t, ht⟩ : ∃ t : ByteArray, (⟨x.toArray⟩ : ByteArray) = t := ⟨_, rfl⟩
      rw [ht] at hen' hsz
      go_wp2_with fail
      refine (clone_any t _ hsz).mono ?_
      rintro e w7 ⟨rfl, hB7⟩
      have hs7 := hB7.size
      have hg7 := grown_of_below hB7
      have HROW7 := Lib.hid (own_below HROW6.out hB7)
      have HB7 := Lib.hid (HB6.out.trans (hB7.mono (Nat.le_of_lt HI6.out)))
      have HRG7 := Lib.hid (HRG6.out.kept hg7 (by simp) (by simp))
      have HI7 : Hid (w.heap.size < w7.heap.size) := Nat.lt_of_lt_of_le HI6.out hs7
      clear hB7 hg7 HROW6 HB6 HRG6 HI6
      go_wp2_with (at_builtin; refine wpList_append_own _ rfl _ _ 38 rfl w.heap.size 9 i0 _ 1 16 Tryz.underlying38 hi hz0 hz1 hz2 rfl (by decide) _ _ _ rfl (own_below HROW7.out ((Below.refl _ _).alloc (Nat.le_refl _) _)) ⟨w7.heap.size, 0, none⟩ 1 1 [.string t] rfl ?c1 ?c2 ?c3 ?c4 ?c5 ?c6 ?_)
      case c1 => rfl
      case c2 => exact one_cell w7 _ _
      case c3 => intro u hu; simp at hu; subst hu; rfl
      case c4 => unfold maxLen; omega
      case c5 => omega
      case c6 =>
        have := HI7.out
        simp
        try omega
      intro v' w8 hown8 hgrow hnil
      clear hnil
      have HREL : Hid (ListRel w b1 P.length (D blk P) (fun z => left z && !z.sameKey (.string x)) cnt2 (ss ++ [x]) v' w8) := by
        have hrgA := HRG7.out.kept (World.grownBy_alloc w7 (.cells #[.string t] 9) none) (by simp) (by simp)
        have hrowA := own_below HROW7.out ((Below.refl _ _).alloc (Nat.le_refl _) (.cells #[.string t] 9))
        refine ⟨hrgA.kept hgrow (row_ne_low HROW7.out HB1.out) (row_ne_iter hrowA hrgA), HGOT.out, ?_, (HB7.out.alloc (Nat.le_of_lt HI7.out) _).grown hgrow (by simp; have := HI7.out; omega) (fun g hg => (HROW7.out.lt g hg).1), ?_, ?_⟩
        · rw [List.map_append, List.length_append]
          have hx : encStr x = .string t := by rw [← ht, encStr]
          simp only [List.map_cons, List.map_nil, hx]
          exact hown8
        · rw [List.length_append]; simp; omega
        · have := hgrow.size
          simp at this
          have := HI7.out
          omega
      clear hown8 hgrow HROW7 HB7 HRG7 HGOT
      go_wp2
      go_roundw
      case rel => exact ⟨_, _, _, HREL.out⟩
      case measure => rw [HREL.out.ranges.left_eq]; exact HCNT.out

set_option maxRecDepth 100000 in
set_option maxHeartbeats 2000000 in
theorem list_none {B : Nat} {w : World} {d : Nat} {s : St} {g : Gh} (h : Rep B w d s g) (e1 : g.m1 = none) :
    Calls Tryz.prog 53 #[.pointer (some ⟨d, 0, none⟩)] w (ListOut w (s.names.map (·.1))) := by
  have hnm : s.names = [] := by
    rcases h.body.maps with ⟨_, h4, h1, h2, h3⟩ | ⟨b1, b2, e, _⟩
    · exact h1
    · rw [e1] at e; cases e
  have hc3 : w.cell? ⟨d, 3, none⟩ = some (.map none) := by
    have := h.cells.2.2.2.1
    rw [e1] at this
    exact this
  rw [hnm]
  have HB : Hid (∀ W, W = w.alloc (.mapIter none 0 #[] 0) → Below w.heap.size w W) := fun W hW => by
    subst hW
    exact (Below.refl _ w).alloc (Nat.le_refl _) _
  have hrg := fun W : World => run_range_nilMap (P := Tryz.prog) W 46 9 93 Tryz.underlying46
  have hnx : ∀ ty, (Instr.next (.pointer (some ⟨w.heap.size, 0, none⟩)) false ty).run Tryz.prog (w.alloc (.mapIter none 0 #[] 0)) = _ := fun ty => run_next_nilMap w ty 0 0 #[]
  clear h e1 hnm
  go_enter Tryz.func53, Tryz.ntmps53
  go_wp2_with fail
  refine wp_loop_rounds 1 ?_
  rw [rounds_succ]
  go_wp2_with fail
  refine (Tryz.slices_Sort_string_none none 0 _).mono ?_
  rintro e w7 ⟨rfl, rfl⟩
  go_wp2
  go_ret
  exact ⟨_, rfl, World.ownsRow_nil _ _ _ _, HB.out _ rfl⟩

theorem list_any {B : Nat} {w : World} {d : Nat} {s : St} {g : Gh} (h : Rep B w d s g) (ok : Ok s) :
    Calls Tryz.prog 53 #[.pointer (some ⟨d, 0, none⟩)] w (ListOut w (s.names.map (·.1))) := by
  cases e : g.m1 with
  | none => exact list_none h e
  | some b => exact list_some h ok e
end Go.Proofs.YtgknkldhjejjmaaGreatDoor

/- Part: some of a file's bytes. -/
namespace Go.Proofs.YtgknkldhjejjmaaGreatDoor
open Go.RowKit Go.Maps
open DM

theorem part_nil (k : ByteArray) (i n : Int) (w : World) : Calls Tryz.prog 42 #[.pointer none, .string k, .int .i64 i, .int .i64 n] w fun e w' => e = .returned (.tuple #[.string ⟨#[]⟩, .int .i64 1]) ∧ w = w' := by
  go_enter Tryz.func42, Tryz.ntmps42
  go_wp2_with (go_at_call 71; refine (find_nil _ _).mono ?_; rintro e w' ⟨rfl, rfl⟩)
  go_ret2
  exact ⟨rfl, rfl⟩

/-- 'string(b[i:i+n])' of a row -/
theorem part_run {B : Nat} {w : World} {A : Option Addr} {L C : Nat} {l : Bs} (h : Row B w (.slice A L C) l) (hL : L = l.length) (I N : Nat) (hIN : I + N ≤ l.length) :
    ∃ A2 C2, (Instr.slice 97 (.slice A L C) (some (.int .i64 (I : Int))) (some (.int .i64 ((I : Int) + (N : Int)))) none).run Tryz.prog w = .ok (.slice A2 N C2) w ∧
      (convert 97 9 (.slice A2 N C2)).run Tryz.prog w = .ok (encS ((l.drop I).take N)) w := by
  have hs : ∀ w, (sizeOf (Tryz.prog.elem 97)).run Tryz.prog w = .ok 1 w := fun w => by kernel_rfl
  have hlc : L ≤ C ∧ (A = none → L = 0) := by
    rcases h with ⟨e, _⟩ | ⟨r, cap, cur, e, _, _, h4, _⟩
    · cases e; exact ⟨Nat.le_refl _, fun _ => rfl⟩
    · cases e; exact ⟨h4, fun e => by cases e⟩
  have hrun : (Instr.slice 97 (.slice A L C) (some (.int .i64 (I : Int))) (some (.int .i64 ((I : Int) + (N : Int)))) none).run Tryz.prog w = .ok (.slice (if C = I then A else A.map (·.add (I * 1))) N (C - I)) w := by
    rw [run_slice_lh w 97 A L C (by kernel_rfl) .i64 .i64 (I : Int) ((I : Int) + (N : Int)) (by omega) (by omega) (by omega), hs]
    simp only [Result.andThen, sliced, Int.toNat_natCast, show ((I : Int) + (N : Int)).toNat = I + N by omega, Nat.add_sub_cancel_left]
  refine ⟨_, _, hrun, ?_⟩
  have hlen : ((l.drop I).take N).length = N := by rw [List.length_take, List.length_drop]; omega
  have hconv : ∀ (r o : Nat) (c : Nat), Lib.Bytes w r o ⟨((l.drop I).take N).toArray⟩ → (convert 97 9 (.slice (some ⟨r, o, none⟩) N c)).run Tryz.prog w = .ok (encS ((l.drop I).take N)) w := fun r o c hb => by
    have h := Lib.run_convert_whole (P := Tryz.prog) w 97 5 9 Tryz.underlying97 Tryz.underlying5 Tryz.underlying9 r o ⟨((l.drop I).take N).toArray⟩ hb c
    have hz : (⟨((l.drop I).take N).toArray⟩ : ByteArray).size = N := by rw [← size_list]; simpa using hlen
    rw [hz] at h
    exact h
  rcases h with ⟨e, hl⟩ | ⟨r, cap, cur, e, _, hg, h4, _, _, htk⟩
  · cases e
    subst hl
    obtain rfl : N = 0 := by simp at hIN; omega
    obtain rfl : I = 0 := by simp at hIN; omega
    exact Lib.run_convert_nil_bytes w 97 9 5 0 Tryz.underlying97 Tryz.underlying5 Tryz.underlying9
  · cases e
    by_cases hC : C = I
    · obtain rfl : N = 0 := by omega
      rw [if_pos hC]
      refine hconv r 0 _ fun i hi => ?_
      simp [ByteArray.size] at hi
    · rw [if_neg hC]
      have ha : (some (⟨r, 0, none⟩ : Addr)).map (·.add (I * 1)) = some ⟨r, 0 + I * 1, none⟩ := by rw [Option.map_some, Go.WideShapes.add_plain]
      rw [ha]
      refine hconv r _ _ fun i hi => ?_
      have hi' : i < N := by rw [← hlen]; simpa [ByteArray.size] using hi
      have hb := Lib.bytes_of_row hg (l := l) htk (I + i) (by omega)
      rw [addr_add0] at hb
      rw [show 0 + I * 1 + i = I + i by omega, hb]
      have hx : (⟨((l.drop I).take N).toArray⟩ : ByteArray)[i]'hi = ((l.drop I).take N)[i]'(by rw [hlen]; exact hi') := rfl
      rw [hx, List.getElem_take, List.getElem_drop]

set_option maxRecDepth 100000 in
set_option maxHeartbeats 2000000 in
theorem part_any {B : Nat} {w : World} {d : Nat} {s : St} {g : Gh} (h : Rep B w d s g) (ok : Ok s) (hB : B ≤ w.heap.size) (k : ByteArray) (hk : k.size ≤ 140737488355328) (i n : Int) (hi : fits i) (hn : fits n) :
    Calls Tryz.prog 42 #[.pointer (some ⟨d, 0, none⟩), .string k, .int .i64 i, .int .i64 n] w (ReadOut B w d s (DM.part k.data.toList i n s)) := by
  have hml : maxLen = 9223372036854775807 := rfl
  unfold DM.part
  cases hoff : s.off with
  | true =>
    rw [if_pos rfl]
    have HR := Lib.hid (find_off h hoff k)
    have HE : Hid (ReadOut B w d s ([], 13) (.returned (.tuple #[.string ⟨#[]⟩, .int .i64 13])) w) := ⟨rfl, Moves.refl _ _, g, h⟩
    clear h ok hoff
    go_enter Tryz.func42, Tryz.ntmps42
    go_wp2_with (go_at_call 71; refine HR.out.mono ?_; rintro e w' ⟨rfl, rfl⟩)
    go_ret2
    exact HE.out
  | false =>
    rw [if_neg (by simp)]
    have HR := Lib.hid (find_on h hoff hB k (by omega))
    have HOK := Lib.hid ok
    clear h ok hoff
    cases hf : find s.names k.data.toList with
    | none =>
      rw [hf] at HR
      simp only
      clear hf
      go_enter Tryz.func42, Tryz.ntmps42
      go_wp2_with fail
      refine HR.out.mono ?_
      rintro e w3 ⟨hm3, g3, b1, b2, h1, h2, hr3, rfl⟩
      have HE : Hid (ReadOut B w d s ([], 10) (.returned (.tuple #[.string ⟨#[]⟩, .int .i64 10])) w3) := ⟨rfl, hm3, g3, hr3⟩
      clear hm3 h1 h2 hr3
      simp only [pv, Option.isNone_none, if_true]
      go_wp2
      go_ret2
      exact HE.out
    | some f =>
      rw [hf] at HR
      simp only
      have HF := Lib.hid hf
      have hle := HOK.out.lens_le f
      obtain ⟨Ln, hLn⟩ : ∃ Ln, lens s.files f = Ln := ⟨_, rfl⟩
      rw [hLn] at hle ⊢
      have HLn := Lib.hid hLn
      unfold fits at hi hn
      clear hf hLn
      by_cases hbad : i < 0 ∨ n < 0 ∨ (Ln : Int) < i ∨ (Ln : Int) - i < n
      · rw [if_pos hbad]
        have HE0 : Hid (∀ w3 g3, Moves B w w3 → Rep B w3 d s g3 → ReadOut B w d s ([], 2) (.returned (.tuple #[.string ⟨#[]⟩, .int .i64 2])) w3) := fun w3 g3 a b => ⟨rfl, a, g3, b⟩
        go_enter Tryz.func42, Tryz.ntmps42
        go_wp2_with fail
        refine HR.out.mono ?_
        rintro e w3 ⟨hm3, g3, b1, b2, h1, h2, hr3, rfl⟩
        have hfn := find_live hr3.body HOK.out.names HF.out
        obtain ⟨A, c, hcA⟩ : ∃ A c, w3.cell? ⟨g3.blk f, 1, none⟩ = some (.slice A Ln c) := by
          obtain ⟨RA, RC, hrow⟩ := row_slice hfn
          refine ⟨RA, RC, ?_⟩
          rw [cell_of_row _ _ _ _ _ _ hfn.2.1, ← HLn.out]
          show some (g3.row f) = _
          rw [hrow]
          rfl
        have HE := Lib.hid (HE0.out w3 g3 hm3 hr3)
        obtain ⟨b, hb⟩ : ∃ b, g3.blk f = b := ⟨_, rfl⟩
        rw [hb] at hcA
        simp only [pv, hb]
        clear hm3 h1 h2 hr3 hfn hb HE0 HR
        by_cases c1 : i < 0
        · go_wp2
          go_ret2
          exact HE.out
        · by_cases c2 : n < 0
          · go_wp2
            go_ret2
            exact HE.out
          · by_cases c3 : (Ln : Int) < i
            · go_wp2
              go_ret2
              exact HE.out
            · have c4 : (Ln : Int) - i < n := by omega
              go_wp2
              go_ret2
              exact HE.out
      · rw [if_neg hbad]
        obtain ⟨I, rfl⟩ : ∃ I : Nat, i = (I : Int) := ⟨i.toNat, by omega⟩
        obtain ⟨N, rfl⟩ : ∃ N : Nat, n = (N : Int) := ⟨n.toNat, by omega⟩
        simp only [Int.toNat_natCast]
        have b1 : I ≤ Ln := by omega
        have b2 : (N : Int) ≤ (Ln : Int) - (I : Int) := by omega
        have b3 : (I : Int) ≤ (Ln : Int) := by omega
        obtain ⟨T, hT⟩ : ∃ T, ((fileAt s f).data.drop I).take N = T := ⟨_, rfl⟩
        have HE0 : Hid (∀ w3 g3, Moves B w w3 → Rep B w3 d s g3 → ReadOut B w d s (T, 0) (.returned (.tuple #[encS T, .int .i64 0])) w3) := fun w3 g3 a b => ⟨rfl, a, g3, b⟩
        rw [hT]
        have HT := Lib.hid hT
        clear hT hbad
        go_enter Tryz.func42, Tryz.ntmps42
        go_wp2_with fail
        refine HR.out.mono ?_
        rintro e w3 ⟨hm3, g3, q1, q2, h1, h2, hr3, rfl⟩
        have hfn := find_live hr3.body HOK.out.names HF.out
        obtain ⟨RA, RC, hrow⟩ := row_slice hfn
        have hrw := hfn.2.2
        rw [hrow] at hrw
        have hdl : (fileAt s f).data.length = Ln := HLn.out
        obtain ⟨A2, C2, hsl, hcv⟩ := part_run hrw rfl I N (by omega)
        rw [HT.out] at hcv
        rw [hdl] at hsl
        have hcA : w3.cell? ⟨g3.blk f, 1, none⟩ = some (.slice RA Ln RC) := by
          rw [cell_of_row _ _ _ _ _ _ hfn.2.1]
          show some (g3.row f) = _
          rw [hrow, hdl]
        have HE := Lib.hid (HE0.out w3 g3 hm3 hr3)
        obtain ⟨b, hb⟩ : ∃ b, g3.blk f = b := ⟨_, rfl⟩
        rw [hb] at hcA
        obtain ⟨S, hS⟩ : ∃ S, encS T = .string S := ⟨_, rfl⟩
        rw [hS] at hcv HE
        simp only [pv, hb]
        clear hm3 h1 h2 hr3 hfn hb HE0 HR hrow hrw hdl hS
        go_wp2
        go_ret2
        exact HE.out
end Go.Proofs.YtgknkldhjejjmaaGreatDoor

/- Spoil: a bit of a file is turned. -/
namespace Go.Proofs.YtgknkldhjejjmaaGreatDoor
open Go.RowKit Go.Maps
open DM

theorem flip_bit (x : UInt8) (K : Nat) (h : K < 8) : bits .xor .u8 (x.toNat : Int) ((2 : Int) ^ K % 256) = ((x ^^^ UInt8.ofNat (2 ^ K)).toNat : Int) := by
  have h2 : (2 : Nat) ^ K < 256 := by
    have : (2 : Nat) ^ K < 2 ^ 8 := Nat.pow_lt_pow_right (by decide) h
    omega
  have e : (2 : Int) ^ K % 256 = ((2 ^ K : Nat) : Int) := by
    have : K = 0 ∨ K = 1 ∨ K = 2 ∨ K = 3 ∨ K = 4 ∨ K = 5 ∨ K = 6 ∨ K = 7 := by omega
    rcases this with rfl | rfl | rfl | rfl | rfl | rfl | rfl | rfl <;> decide
  rw [e, u8_xor_nat _ _ x.toNat_lt h2, UInt8.toNat_xor, UInt8.toNat_ofNat', Nat.mod_eq_of_lt (by simpa using h2)]

def SpoilOut (B : Nat) (w : World) (d : Nat) (s : St) (e : Ending) (w' : World) : Prop := e = .returned (.tuple #[]) ∧ Moves B w w' ∧ ∃ g, Rep B w' d s g

/-- one byte of a row turned -/
theorem Row.turned {B : Nat} {w : World} {r L c : Nat} {l : Bs} (h : Row B w (.slice (some ⟨r, 0, none⟩) L c) l) (hL : L = l.length) (J : Nat) (hJ : J < l.length) (y : UInt8) :
    Row B (w.setCell ⟨r, J, none⟩ (.int .u8 (y.toNat : Int))) (.slice (some ⟨r, 0, none⟩) L c) (l.set J y) ∧ w.cell? ⟨r, J, none⟩ = some (.int .u8 (l[J].toNat : Int)) ∧ w.frozen? ⟨r, J, none⟩ = false ∧ Kin w r ∧ B ≤ r ∧ ∃ cur, w.heap[r]? = some (.cells cur 5 (0, 0)) := by
  rcases h with ⟨e, _⟩ | ⟨r', cap, cur, e, hr, hg, h4, h5, h6, htk⟩
  · cases e
  · cases e
    have hb := Lib.bytes_of_row hg (l := l) htk J hJ
    rw [addr_add0] at hb
    refine ⟨.inr ⟨r, c, _, by rw [List.length_set, ← hL], hr, heap_set_fr hg J _, by rw [List.length_set]; exact h4, h5, by simpa using h6, ?_⟩, hb, frozen_of_row _ _ _ _ _ hg, kin_cells hg (by decide), hr, _, hg⟩
    rw [List.length_set, Array.toList_setIfInBounds, List.take_set, htk]
    simp [Lib.byteCells, List.map_set]

theorem spoilt {B : Nat} {w : World} {d : Nat} {s : St} {g : Gh} (h : Rep B w d s g) (ok : Ok s) (hB : B ≤ w.heap.size) {k : Bs} {n : Nat} (hf : find s.names k = some n) {r RC : Nat} (hrow : g.row n = .slice (some ⟨r, 0, none⟩) (fileAt s n).data.length RC) (J : Nat) (hJ : J < (fileAt s n).data.length) (y : UInt8) :
    w.cell? ⟨r, J, none⟩ = some (.int .u8 ((fileAt s n).data[J].toNat : Int)) ∧ w.frozen? ⟨r, J, none⟩ = false ∧
    SpoilOut B w d { s with files := s.files.set n ⟨(fileAt s n).data.set J y, (fileAt s n).sync⟩ } (.returned (.tuple #[])) (w.setCell ⟨r, J, none⟩ (.int .u8 (y.toNat : Int))).drew := by
  have hnl := ok.names_live (find_some hf)
  have hfn := h.body.files n hnl
  have hrw := hfn.2.2
  rw [hrow] at hrw
  obtain ⟨t1, t2, t3, t4, t5, cur, t6⟩ := hrw.turned rfl J hJ y
  have hne : g.blk n ≠ r := fun e => by
    have := hfn.2.1
    rw [e, t6] at this
    injection this with this
    injection this with _ h2
    exact absurd h2 (by decide)
  have hfl := h.half.file (w' := w.setCell ⟨r, J, none⟩ (.int .u8 (y.toNat : Int))) (fun n hn => ok.live_lt hn) hnl (f := ⟨(fileAt s n).data.set J y, (fileAt s n).sync⟩) (v := g.row n)
    (fun x o hx _ h2 => by
      refine (Below.heap_setCell _ _ _ _ (fun e => ?_)).trans hx
      have e' : x = r := e
      subst e'
      rw [t6] at hx
      rcases h2 cur (0, 0) with h3 | h3
      · exact h3 (Option.some.inj hx).symm
      · exact h3 (by rw [hrow]; rfl))
    ((Below.heap_setCell _ _ _ _ hne).trans hfn.2.1) (by rw [hrow]; exact t1) (.inr (.inl rfl))
  have hrw2 : (fun m => if m = n then g.row n else g.row m) = g.row := by
    funext m
    by_cases hm : m = n
    · subst hm; rw [if_pos rfl]
    · rw [if_neg hm]
  rw [hrw2] at hfl
  have hdr := hfl.drew
  refine ⟨t2, t3, rfl, ((Moves.refl B w).setCell (p := ⟨r, J, none⟩) hB t5 t4 _).drew, g, hdr.body, ?_, hdr.le⟩
  rw [hdr.at_]
  have hus := used_set (n := n) (fs := s.files) (f := ⟨(fileAt s n).data.set J y, (fileAt s n).sync⟩) (ok.live_lt hnl) ok.gnames.sorted ok.gnames.one k (find_some hf)
  have hu4 : used (s.files.set n ⟨(fileAt s n).data.set J y, (fileAt s n).sync⟩) s.names = used s.files s.names := by
    have : lens s.files n = (fileAt s n).data.length := rfl
    rw [this] at hus
    simp only [List.length_set] at hus
    omega
  have hl4 : (s.files.set n ⟨(fileAt s n).data.set J y, (fileAt s n).sync⟩).length = s.files.length := by simp
  unfold dC
  simp only [hu4, hl4]

set_option maxRecDepth 100000 in
set_option maxHeartbeats 2000000 in
theorem spoil_some {B : Nat} {w : World} {d : Nat} {s : St} {g : Gh} (h : Rep B w d s g) (ok : Ok s) (hB : B ≤ w.heap.size) (k : ByteArray) (hk : k.size ≤ 140737488355328) (bit : Int) (hbit : fits bit) {b1 : Nat} (e1 : g.m1 = some b1) :
    Calls Tryz.prog 51 #[.pointer (some ⟨d, 0, none⟩), .string k, .int .i64 bit] w (SpoilOut B w d (DM.spoil k.data.toList bit s)) := by
  have hlk := look (h.own1 e1) k (by rw [show maxLen = 9223372036854775807 from rfl]; omega)
  have hc3 : w.cell? ⟨d, 3, none⟩ = some (.map (some b1)) := by
    have := h.cells.2.2.2.1
    rw [e1] at this
    exact this
  unfold DM.spoil
  cases hf : find s.names k.data.toList with
  | none =>
    rw [hf] at hlk
    simp only [pv] at hlk ⊢
    have HE : Hid (SpoilOut B w d s (.returned (.tuple #[])) w) := ⟨rfl, Moves.refl _ _, g, h⟩
    clear h ok hf e1
    go_enter Tryz.func51, Tryz.ntmps51
    go_wp2
    exact bodyPost_ret (v := .tuple #[]) (by simp [results, Tryz.results51, go_sem]) rfl HE.out
  | some n =>
    rw [hf] at hlk
    simp only [pv] at hlk ⊢
    have hfn := find_live h.body ok.names hf
    obtain ⟨RA, RC, hrow⟩ := row_slice hfn
    have hcA : w.cell? ⟨g.blk n, 1, none⟩ = some (.slice RA (fileAt s n).data.length RC) := by
      rw [cell_of_row _ _ _ _ _ _ hfn.2.1]
      show some (g.row n) = _
      rw [hrow]
    have hll : lens s.files n = (fileAt s n).data.length := rfl
    have hlim := ok.lens_le n
    by_cases hd : (fileAt s n).data = []
    · rw [if_pos hd]
      rw [hd] at hcA
      have HE : Hid (SpoilOut B w d s (.returned (.tuple #[])) w) := ⟨rfl, Moves.refl _ _, g, h⟩
      obtain ⟨b, hb⟩ : ∃ b, g.blk n = b := ⟨_, rfl⟩
      rw [hb] at hcA hlk
      clear h ok hf e1 hfn hrow hb hd hll hlim
      go_enter Tryz.func51, Tryz.ntmps51
      go_wp2
      exact bodyPost_ret (v := .tuple #[]) (by simp [results, Tryz.results51, go_sem]) rfl HE.out
    · rw [if_neg hd]
      have hL0 : 0 < (fileAt s n).data.length := List.length_pos_iff.2 hd
      obtain ⟨r, hr⟩ : ∃ r, RA = some ⟨r, 0, none⟩ := by
        have hrw := hfn.2.2
        rw [hrow] at hrw
        rcases hrw with ⟨e, h0⟩ | ⟨r, _, _, e, _⟩
        · exact absurd h0 hd
        · cases e; exact ⟨r, rfl⟩
      subst hr
      rw [hll] at hlim ⊢
      have hR : rest bit (8 * (fileAt s n).data.length) < 8 * (fileAt s n).data.length := rest_lt _ (by omega)
      have HREM : Hid (∀ W, Calls Tryz.prog 83 #[.int .i64 bit, .int .i64 (8 * ((fileAt s n).data.length : Int))] W fun e w' => e = .returned (.int .i64 (rest bit (8 * (fileAt s n).data.length))) ∧ W = w') := fun W => by
        have := rem_any bit (8 * (fileAt s n).data.length) W hbit (by omega) (by omega)
        rw [show ((8 * (fileAt s n).data.length : Nat) : Int) = 8 * ((fileAt s n).data.length : Int) from by omega] at this
        exact this
      obtain ⟨R, hRd⟩ : ∃ R, rest bit (8 * (fileAt s n).data.length) = R := ⟨_, rfl⟩
      rw [hRd] at hR HREM ⊢
      have hJ : R / 8 < (fileAt s n).data.length := by omega
      have hget : (fileAt s n).data.getD (R / 8) 0 = (fileAt s n).data[R / 8] := by rw [List.getD_eq_getElem?_getD, List.getElem?_eq_getElem hJ, Option.getD_some]
      unfold DM.flip
      rw [hget]
      have hfb := flip_bit (fileAt s n).data[R / 8] (R % 8) (Nat.mod_lt _ (by decide))
      obtain ⟨t2, t3, t4⟩ := spoilt h ok hB hf hrow (R / 8) hJ ((fileAt s n).data[R / 8] ^^^ UInt8.ofNat (2 ^ (R % 8)))
      have HE := Lib.hid t4
      have q1 : (R : Int) / 8 = ((R / 8 : Nat) : Int) := by omega
      have q2 : (R : Int) % 8 = ((R % 8 : Nat) : Int) := by omega
      obtain ⟨y, hy⟩ : ∃ y, (fileAt s n).data[R / 8] ^^^ UInt8.ofNat (2 ^ (R % 8)) = y := ⟨_, rfl⟩
      obtain ⟨x, hx⟩ : ∃ x, (fileAt s n).data[R / 8] = x := ⟨_, rfl⟩
      obtain ⟨L, hL⟩ : ∃ L, (fileAt s n).data.length = L := ⟨_, rfl⟩
      obtain ⟨b, hb⟩ : ∃ b, g.blk n = b := ⟨_, rfl⟩
      rw [hy] at HE hfb ⊢
      rw [hx] at hfb t2
      rw [hL] at HREM hcA hR hJ hL0 hlim
      rw [hb] at hcA hlk
      have i0 : (0 : Int) ≤ ((R / 8 : Nat) : Int) := by omega
      have i1 : ((R / 8 : Nat) : Int) < (L : Int) := by omega
      have i2 : R % 8 < 8 := by omega
      obtain ⟨J, hJd⟩ : ∃ J, R / 8 = J := ⟨_, rfl⟩
      obtain ⟨K, hKd⟩ : ∃ K, R % 8 = K := ⟨_, rfl⟩
      simp only [hJd] at HE t2 t3 q1 i0 i1 ⊢
      simp only [hKd] at hfb q2 i2
      have i3 : ¬ L = 0 := by omega
      clear h ok hf e1 hfn hrow hb hd hll hRd hget hx hy hL hJd hKd t4 hJ
      go_enter Tryz.func51, Tryz.ntmps51
      go_wp2_with fail
      refine (HREM.out _).mono ?_
      rintro e w2 ⟨rfl, rfl⟩
      go_wp2_with fail
      go_region
      go_wp2
      go_end0
      exact HE.out

set_option maxRecDepth 100000 in
set_option maxHeartbeats 2000000 in
theorem spoil_none {B : Nat} {w : World} {d : Nat} {s : St} {g : Gh} (h : Rep B w d s g) (k : ByteArray) (hk : k.size ≤ 140737488355328) (bit : Int) (e1 : g.m1 = none) :
    Calls Tryz.prog 51 #[.pointer (some ⟨d, 0, none⟩), .string k, .int .i64 bit] w (SpoilOut B w d (DM.spoil k.data.toList bit s)) := by
  have hnm : s.names = [] := by
    rcases h.body.maps with ⟨_, h4, h1, h2, h3⟩ | ⟨b1, b2, e, _⟩
    · exact h1
    · rw [e1] at e; cases e
  have hc3 : w.cell? ⟨d, 3, none⟩ = some (.map none) := by
    have := h.cells.2.2.2.1
    rw [e1] at this
    exact this
  have hsp : DM.spoil k.data.toList bit s = s := by
    unfold DM.spoil
    rw [hnm]
    rfl
  rw [hsp]
  have HE : Hid (SpoilOut B w d s (.returned (.tuple #[])) w) := ⟨rfl, Moves.refl _ _, g, h⟩
  have hk2 : k.size ≤ maxLen := by rw [show maxLen = 9223372036854775807 from rfl]; omega
  have hlk : (Instr.lookup 46 (.map none) (.string k) false).run Tryz.prog w = .ok (.pointer none) w := by
    simpa using Maps.look_nil (w := w) false keyLaw Tryz.underlying46 (zeroPtr w) (WideMaps.keyOf_string_mk Tryz.underlying9 hk2)
  clear h e1 hnm hsp
  go_enter Tryz.func51, Tryz.ntmps51
  go_wp2
  exact bodyPost_ret (v := .tuple #[]) (by simp [results, Tryz.results51, go_sem]) rfl HE.out

theorem spoil_any {B : Nat} {w : World} {d : Nat} {s : St} {g : Gh} (h : Rep B w d s g) (ok : Ok s) (hB : B ≤ w.heap.size) (k : ByteArray) (hk : k.size ≤ 140737488355328) (bit : Int) (hbit : fits bit) :
    Calls Tryz.prog 51 #[.pointer (some ⟨d, 0, none⟩), .string k, .int .i64 bit] w (SpoilOut B w d (DM.spoil k.data.toList bit s)) := by
  cases e : g.m1 with
  | none => exact spoil_none h k hk bit e
  | some b => exact spoil_some h ok hB k hk bit hbit e

/-! ### the same, of a disk as a bundle -/
theorem lim_spoil {N M : Nat} {s : St} (h : Lim N M s) (k : Bs) (bit : Int) : Lim N M (DM.spoil k bit s) := by
  unfold DM.spoil
  split
  · exact h
  · split
    · exact h
    · exact ⟨h.queue, by have := h.files; simp; omega, h.cut⟩

theorem Live.spoil {B : Nat} {w0 w : World} {d : Nat} {s : St} {N M : Nat} (h : Live B w0 w d s N M) (k : ByteArray) (hk : k.size ≤ 140737488355328) (bit : Int) (hbit : fits bit) :
    Calls Tryz.prog 51 #[.pointer (some ⟨d, 0, none⟩), .string k, .int .i64 bit] w (VoidOut B w0 d (DM.spoil k.data.toList bit s) N M) := by
  obtain ⟨g, hg⟩ := h.rep
  exact (spoil_any hg h.ok h.le' k hk bit hbit).mono fun e w' ⟨he, hm, hr⟩ => ⟨he, h.moves.trans hm, ok_spoil h.ok _ _, lim_spoil h.lim _ _, hr, h.le, h.few⟩

theorem Live.part {B : Nat} {w0 w : World} {d : Nat} {s : St} {N M : Nat} (h : Live B w0 w d s N M) (k : ByteArray) (hk : k.size ≤ 140737488355328) (i n : Int) (hi : fits i) (hn : fits n) {r : Bs × Int} (hr : DM.part k.data.toList i n s = r) :
    Calls Tryz.prog 42 #[.pointer (some ⟨d, 0, none⟩), .string k, .int .i64 i, .int .i64 n] w (TextOut B w0 d s N M r) := by
  subst hr
  obtain ⟨g, hg⟩ := h.rep
  exact (part_any hg h.ok h.le' k hk i n hi hn).mono fun e w' ⟨he, hm, hr⟩ => ⟨he, h.moves.trans hm, h.ok, h.lim, hr, h.le, h.few⟩

theorem Live.list {B : Nat} {w0 w : World} {d : Nat} {s : St} {N M : Nat} (h : Live B w0 w d s N M) :
    Calls Tryz.prog 53 #[.pointer (some ⟨d, 0, none⟩)] w (fun e w' => ListOut w (s.names.map (·.1)) e w' ∧ Live B w0 w' d s N M) := by
  obtain ⟨g, hg⟩ := h.rep
  refine (list_any hg h.ok).mono fun e w' ho => ⟨ho, ?_⟩
  obtain ⟨v, _, _, hb⟩ := ho
  exact h.still hb
end Go.Proofs.YtgknkldhjejjmaaGreatDoor

/- The reference: rest, Find. Its lists of names as pairs; a pair whose number is -1 takes a name away. -/
namespace Go.Proofs.YtgknkldhjejjmaaGreatDoor
open Go.RowKit Go.Maps
open DM

set_option maxHeartbeats 400000 in
theorem rrest_any (n : Int) (b : Nat) (w : World) (hn : fits n) (hb : 0 < b) (hb2 : b ≤ 4611686018427387904) :
    Calls Tryz.prog 80 #[.int .i64 n, .int .i64 b] w fun e w' => e = .returned (.int .i64 (rest n b)) ∧ w = w' := by
  unfold fits at hn
  obtain ⟨h1, h2⟩ := hn
  have hb1 : (1 : Int) ≤ (b : Int) := by omega
  by_cases h0 : n < 0
  · have hr : ((rest n b : Nat) : Int) = (-(n + 1)) % (b : Int) := by
      unfold rest
      rw [if_pos h0, Int.natCast_emod]
      congr 1
      omega
    have HR := Lib.hid hr
    obtain ⟨m, hm⟩ : ∃ m, -(n + 1) = m := ⟨_, rfl⟩
    have h3 : 0 ≤ m := by omega
    rw [hm] at HR
    clear hr
    go_enter Tryz.func80, Tryz.ntmps80
    go_wp2
    go_ret
    exact ⟨ret_int HR.out.symm, rfl⟩
  · have hr : ((rest n b : Nat) : Int) = n % (b : Int) := by
      unfold rest
      rw [if_neg h0, Int.natCast_emod]
      congr 1
      omega
    have HR := Lib.hid hr
    clear hr
    have h0' : 0 ≤ n := by omega
    go_enter Tryz.func80, Tryz.ntmps80
    go_wp2
    go_ret
    exact ⟨ret_int HR.out.symm, rfl⟩

/-! ### pairs -/
abbrev RP := Bs × Int
def pc (l : List RP) : List Value := l.flatMap fun p => [encS p.1, .int .i64 p.2]
theorem pc_len (l : List RP) : (pc l).length = l.length * 2 := by
  induction l with
  | nil => rfl
  | cons p r ih => show ([encS p.1, Value.int .i64 p.2] ++ pc r).length = _; rw [List.length_append, ih, List.length_cons]; simp; omega
theorem pc_snoc (l : List RP) (p : RP) : pc (l ++ [p]) = pc l ++ [encS p.1, .int .i64 p.2] := by simp [pc]
theorem pc_at : ∀ (l : List RP) (j : Nat) (h : j < l.length), (pc l)[j * 2]? = some (encS l[j].1) ∧ (pc l)[j * 2 + 1]? = some (.int .i64 l[j].2)
  | p :: r, 0, _ => ⟨rfl, rfl⟩
  | p :: r, j + 1, h => by
    have := pc_at r j (by simpa using h)
    have e1 : (j + 1) * 2 = j * 2 + 1 + 1 := by omega
    have e2 : (j + 1) * 2 + 1 = j * 2 + 1 + 1 + 1 := by omega
    rw [e1]
    show (encS p.1 :: Value.int .i64 p.2 :: pc r)[j * 2 + 1 + 1]? = _ ∧ (encS p.1 :: Value.int .i64 p.2 :: pc r)[j * 2 + 1 + 1 + 1]? = _
    simpa using this

abbrev Prs (B : Nat) (w : World) (v : Value) (l : List RP) : Prop := w.ownsRow B 88 2 v l.length (pc l)

theorem Prs.slice {B : Nat} {w : World} {v : Value} {l : List RP} (h : Prs B w v l) : ∃ A c, v = .slice A l.length c ∧ (0 < l.length → ∃ b, A = some ⟨b, 0, none⟩ ∧ B ≤ b ∧ b < w.heap.size ∧ ∀ w' : World, w'.heap[b]? = w.heap[b]? → ∀ j, (hj : j < l.length) → w'.cell? ⟨b, j * 2, none⟩ = some (encS l[j].1) ∧ w'.cell? ⟨b, j * 2 + 1, none⟩ = some (.int .i64 l[j].2)) := by
  rcases h.2 with ⟨e, h0⟩ | ⟨b, c, cur, e, hb, hg, h1, h2, h3, h4⟩
  · exact ⟨none, 0, by rw [e, h0], fun hp => by omega⟩
  · refine ⟨_, c, e, fun _ => ⟨b, rfl, hb, (Array.getElem?_eq_some_iff.1 hg).1, fun w' hw j hj => ?_⟩⟩
    obtain ⟨p1, p2⟩ := pc_at l j hj
    rw [← h4] at p1 p2
    rw [List.getElem?_take_of_lt (by omega), Array.getElem?_toList] at p1 p2
    rw [cell_of_row _ _ _ _ _ _ (hw.trans hg), cell_of_row _ _ _ _ _ _ (hw.trans hg)]
    exact ⟨p1, p2⟩

def rfind (l : List RP) (k : Bs) : Int := match l.find? (fun p => p.1 == k) with | some p => p.2 | none => -1

theorem rfind_drop {l : List RP} {k : Bs} {j : Nat} (hj : j < l.length) : rfind (l.drop j) k = if l[j].1 = k then l[j].2 else rfind (l.drop (j + 1)) k := by
  rw [List.drop_eq_getElem_cons hj]
  unfold rfind
  rw [List.find?_cons]
  by_cases h : l[j].1 = k
  · rw [if_pos h]
    have : (l[j].1 == k) = true := by simpa using h
    rw [this]
  · rw [if_neg h]
    have : (l[j].1 == k) = false := by simpa using h
    rw [this]

set_option maxRecDepth 100000 in
set_option maxHeartbeats 1000000 in
theorem rfind_any {B : Nat} (v : Value) (l : List RP) (k : ByteArray) (w : World) (hv : Prs B w v l) (hl : l.length ≤ 1099511627776) :
    Calls Tryz.prog 66 #[v, .string k] w fun e w' => e = .returned (.int .i64 (rfind l k.data.toList)) ∧ Below w.heap.size w w' := by
  obtain ⟨A, c, rfl, hz⟩ := hv.slice
  have HZ := Lib.hid hz
  obtain ⟨n, hn⟩ : ∃ n, l.length = n := ⟨_, rfl⟩
  rw [hn] at hl ⊢
  have HN := Lib.hid hn
  clear hv hz hn
  go_enter Tryz.func66, Tryz.ntmps66
  go_wp2_with fail
  go_loopw [5] (fun i wr => ∃ j : Nat, j ≤ n ∧ i = .int .i64 j ∧ Hid (rfind l k.data.toList = rfind (l.drop j) k.data.toList) ∧ Below w.heap.size w wr) (fun i _ => n - (intOf i).toNat)
  case atStart => exact ⟨0, by omega, rfl, rfl, Below.refl _ _⟩
  case round =>
    obtain ⟨j, hj, rfl, HF, hB⟩ := hrel
    have HB := Lib.hid hB
    clear hB
    by_cases hlt : j < n
    · have hjl : j < l.length := by rw [HN.out]; exact hlt
      obtain ⟨b, rfl, hbB, hbw, hc⟩ := HZ.out (by omega)
      obtain ⟨z1, z2⟩ := hc wr (HB.out.block b hbw) j hjl
      have hd := rfind_drop (k := k.data.toList) hjl
      obtain ⟨p, hp⟩ : ∃ p, l[j] = p := ⟨_, rfl⟩
      rw [hp] at z1 z2 hd
      obtain ⟨t, ht, htl⟩ : ∃ t : ByteArray, encS p.1 = .string t ∧ t.data.toList = p.1 := ⟨⟨p.1.toArray⟩, rfl, by simp⟩
      rw [ht] at z1
      have i0 : (0 : Int) ≤ (j : Int) := by omega
      have i1 : (j : Int) < (n : Int) := by omega
      by_cases he : p.1 = k.data.toList
      · have htk : t = k := str_ext (htl.trans he)
        rw [if_pos he] at hd
        have HR : Hid (rfind l k.data.toList = p.2) := HF.out.trans hd
        subst htk
        clear hd hp ht htl he hc HF
        go_wp2
        go_ret
        exact ⟨ret_int HR.out.symm, HB.out⟩
      · have hne : (t.toList == k.toList) = false := by
          rw [beq_eq_false_iff_ne]
          intro hx
          rw [ByteArray.toList_eq, ByteArray.toList_eq] at hx
          exact he (htl.symm.trans hx)
        rw [if_neg he] at hd
        have HF2 : Hid (rfind l k.data.toList = rfind (l.drop (j + 1)) k.data.toList) := HF.out.trans hd
        clear hd hp ht htl he hc HF
        go_wp2
        go_roundw
        case rel => exact ⟨j + 1, by omega, by go_num, HF2, HB.out⟩
        case measure => simp [intOf]; omega
    · have HR : Hid (rfind l k.data.toList = -1) := by
        have : rfind (l.drop j) k.data.toList = -1 := by rw [List.drop_eq_nil_of_le (by rw [HN.out]; omega)]; rfl
        exact HF.out.trans this
      clear HF
      go_wp2
      go_ret
      exact ⟨ret_int HR.out.symm, HB.out⟩
end Go.Proofs.YtgknkldhjejjmaaGreatDoor

