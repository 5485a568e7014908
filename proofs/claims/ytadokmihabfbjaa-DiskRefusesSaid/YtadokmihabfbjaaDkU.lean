/- List: the names of all files, rising, in a slice of the call's own. -/
import Derived.Test.YtadokmihabfbjaaDkT
import Derived.Sort.OwnSorted
import Derived.Sort.KeysCollected
import Derived.Laws.IdiomRangeMap
namespace Go.Proofs.Ytadokmihabfbjaa
open Go.RowKit Go.Maps Go.Sort
open DM

theorem info_string : (Try.prog.info? 9).map (fun i => (i.zero, i.size, i.bytes)) = some (some (.string ⟨#[]⟩), 1, 16) := by kernel_rfl

def ListOut (w : World) (ss : List Bs) (e : Ending) (w' : World) : Prop := ∃ v, e = .returned v ∧ w'.ownsRow w.heap.size 9 1 v ss.length (ss.map encStr) ∧ Below w.heap.size w w'

/-- where the loop stands -/
structure ListRel (w : World) (b1 n : Nat) (D0 : DataW Unit) (left : Lit → Bool) (cnt : Nat) (ss : List Bs) (v : Value) (wr : World) : Prop where
  ranges : wr.ranges Try.prog 9 ptrElem b1 w.heap.size n D0 left cnt
  got : Collected D0 left ss
  row : wr.ownsRow w.heap.size 9 1 v ss.length (ss.map encStr)
  below : Below w.heap.size w wr
  few : ss.length + cnt ≤ 4096
  iter : w.heap.size < wr.heap.size

theorem one_cell (w : World) (v : Value) (t : TypeId) : ∀ j u, [v][j]? = some u → (w.alloc (.cells #[v] t)).cell? ((⟨w.heap.size, 0, none⟩ : Addr).add j) = some u := by
  intro j u hj
  match j, hj with
  | 0, hj => simp at hj; subst hj; simp [Addr.add]
  | j + 1, hj => simp at hj

theorem list_end {w : World} {b1 n : Nat} {blk : Nat → Nat} {l : Nm} {left : Lit → Bool} {cnt : Nat} {ss : List Bs} {v : Value} {wr : World} (h : ListRel w b1 n (D blk l) left cnt ss v wr) (hs : Sorted l) (hl : ∀ kl, left kl = false) : ss.mergeSort leB = l.map (·.1) := by
  have hp := h.got.perm h.ranges.owns keyLaw Try.underlying9 hl
  rw [mergeSort_of_perm hp, D_keys, keys_sorted hs]

set_option maxRecDepth 100000 in
set_option maxHeartbeats 2000000 in
theorem list_some {B : Nat} {w : World} {d : Nat} {s : St} {g : Gh} (h : Rep B w d s g) (ok : Ok s) {b1 : Nat} (e1 : g.m1 = some b1) :
    Calls Try.prog 10 #[.pointer (some ⟨d, 0, none⟩)] w (ListOut w (s.names.map (·.1))) := by
  obtain ⟨i0, hi, hz0, hz1, hz2⟩ := info_parts info_string
  have HOWN : Hid (OwnM w b1 s.names.length (D g.blk s.names)) := by
    rcases h.body.maps with ⟨e, _⟩ | ⟨b, b2, e, _, _, _, _, o1, _⟩
    · rw [e1] at e; cases e
    · rw [e1] at e; cases e
      exact o1
  have HS : Hid (Sorted s.names) := ok.gnames.sorted
  have HFEW : Hid (s.names.length ≤ 4096) := ok.gnames.few
  have HKEY : Hid (∀ p ∈ s.names, p.1.length ≤ 64) := fun p hp => (ok.gnames.key p hp).2
  have hc3 : w.cell? ⟨d, 3, none⟩ = some (.map (some b1)) := by
    have := h.cells.2.2.2.1
    rw [e1] at this
    exact this
  obtain ⟨P, hP⟩ : ∃ P, s.names = P := ⟨_, rfl⟩
  obtain ⟨blk, hblk⟩ : ∃ blk, g.blk = blk := ⟨_, rfl⟩
  rw [hP, hblk] at HOWN
  rw [hP] at HS HFEW HKEY ⊢
  clear h ok e1 hP hblk
  go_enter Try.func10, Try.ntmps10
  go_wp2_with (at_range; refine wpList_range_own _ rfl _ 43 rfl 9 76 keyLaw Try.underlying43 _ b1 P.length (D blk P) rfl HOWN.out ?_; intro w5 hrg5 hg5 hs5; have HG5 := Lib.hid hg5; have HRG5 := Lib.hid hrg5; have HS5 := Lib.hid hs5; clear hrg5 hg5 hs5)
  go_frame
  have HB1 : Hid (b1 < w.heap.size) := by
    obtain ⟨es, clock, hb, _⟩ := HOWN.out
    exact (Array.getElem?_eq_some_iff.1 hb).1
  have HSTART : Hid (ListRel w b1 P.length (D blk P) (Maps.has (D blk P)) (Maps.size (D blk P)) [] (.slice none 0 0) w5) :=
    ⟨by simpa using HRG5.out, Collected.start _, World.ownsRow_nil _ _ _ _, (Below.refl _ w).grown HG5.out (Nat.le_refl _) (fun k e => by cases e), by rw [D_size]; simpa using HFEW.out, by rw [HS5.out]; omega⟩
  clear HG5 HRG5 HS5 hc3
  go_loopw [3] (fun v wr => ∃ (left : Lit → Bool) (cnt : Nat) (ss : List Bs), ListRel w b1 P.length (D blk P) left cnt ss v wr) (fun _ wr => wr.rangeLeft b1 w.heap.size)
  case atStart => exact ⟨_, _, _, HSTART.out⟩
  case round =>
    obtain ⟨left, cnt, ss, hrel⟩ := hrel
    have HR := Lib.hid hrel
    have HRG := Lib.hid hrel.ranges
    clear hrel HSTART
    go_wp2_with (at_next; refine wpList_next_ranges _ rfl _ rfl 9 keyLaw ptrElem encStr mkP invK invV b1 w.heap.size _ _ left cnt rfl HRG.out ?_ ?_)
    · intro _ hl0
      have HE := Lib.hid (list_end HR.out HS.out hl0)
      have hrow := HR.out.row
      clear hl0
      rcases hrow.2 with ⟨hnil, hk0⟩ | ⟨g, cap, cur, hv, hbase, hb, h1, h2, h3, h4⟩
      · obtain rfl : ss = [] := List.eq_nil_of_length_eq_zero hk0
        subst hnil
        have HB := Lib.hid HR.out.below
        have hE : Hid (P.map (·.1) = []) := by
          have h0 := HE.out
          simp only [List.mergeSort_nil] at h0
          exact h0.symm
        clear hrow hk0 HR HRG
        go_wp2_with fail
        refine (Try.slices_Sort_string_none none 0 _).mono ?_
        rintro e w7 ⟨rfl, rfl⟩
        go_wp2
        go_ret
        refine ⟨_, rfl, ?_, HB.out⟩
        rw [hE.out]
        exact World.ownsRow_nil _ _ _ _
      · subst hv
        have hH : Holds encStr wr g 0 ss.toArray := holds_of_block hb (by simpa using h4)
        have hgl : g < wr.heap.size := (Array.getElem?_eq_some_iff.1 hb).1
        have hf := HR.out.few
        have HSORT := Lib.hid (Try.slices_Sort_string g 0 cap ss wr hH hgl (by omega))
        have hl2 : (P.map (·.1)).length = ss.length := by rw [← HE.out, List.length_mergeSort]
        have HFIN : Hid (∀ nn os, ListOut w (P.map (·.1)) (.returned (.slice (some ⟨g, 0, none⟩) ss.length cap)) (grow (putRow encStr (Sort.ahead wr nn) g 0 (P.map (·.1)).toArray) os)) := fun nn os => by
          have hg := grownBy_sorted (w := wr) (g := g) (n := nn) (os := os) (P.map (·.1)).toArray
          have hro := ownsRow_sorted (n := nn) (os := os) (ts := P.map (·.1)) hl2 hbase hb h1 h2 h3
          exact ⟨_, rfl, by rw [hl2]; exact hro, HR.out.below.grown hg (Nat.le_of_lt HR.out.iter) (fun k e => by cases e; exact hbase)⟩
        rw [show (fun x y : Bs => decide (x ≤ y)) = leB from rfl, HE.out] at HSORT
        clear hrow hb h1 h2 h3 h4 hH HR HRG HE
        go_wp2_with fail
        refine HSORT.out.mono ?_
        rintro e w7 ⟨rfl, nn, os, rfl⟩
        go_wp2
        go_ret
        exact HFIN.out nn os
    · intro x c kl yd yp w6 cnt2 hkey hlk hv hat hrg2 hlt2 hg2 hs2 hen
      obtain ⟨x', ex, rfl, hxl⟩ := Maps.keyOf_str Try.underlying9 hkey
      obtain rfl : x = x' := encStr_inj ex
      have hen' : (Instr.entry (.pointer (some ⟨w.heap.size, 0, none⟩))).run Try.prog w6 = .ok (.tuple #[.string ⟨x.toArray⟩, mkP c]) w6 := hen
      have hrow6 := HR.out.row.kept hg2 (by
        cases hob : u3.ownBlock with
        | none => exact Or.inl rfl
        | some g => exact Or.inr (fun e => row_ne_iter HR.out.row HRG.out (by rw [hob]; exact e.symm)))
      have HROW6 := Lib.hid hrow6
      have HB6 : Hid (Below w.heap.size w w6) := HR.out.below.grown hg2 (Nat.le_of_lt HR.out.iter) (fun k e => by cases e; exact Nat.le_refl _)
      have HGOT := Lib.hid (HR.out.got.step hlk hat)
      have HRG6 := Lib.hid hrg2
      have hfew := HR.out.few
      have HI6 : Hid (w.heap.size < w6.heap.size) := by show _ < _; rw [hs2]; exact HR.out.iter
      have HCNT : Hid (cnt2 < wr.rangeLeft b1 w.heap.size) := by rw [HRG.out.left_eq]; exact hlt2
      have hsz : (⟨x.toArray⟩ : ByteArray).size ≤ 281474976710656 := by
        have h64 : x.length ≤ 64 := by
          cases hf : find P x with
          | none =>
            have e1 := hat .nil
            have e2 := hat (.lit (.bool true))
            rw [D_at, hf] at e1 e2
            rw [← e1] at e2
            cases e2
          | some m => exact HKEY.out _ (find_some hf)
        rw [← size_list]
        simp
        omega
      clear hrow6 hlk hat hrg2 hg2 hs2 hen hkey ex hv HR HRG hxl
      obtain ⟨t, ht⟩ : ∃ t : ByteArray, (⟨x.toArray⟩ : ByteArray) = t := ⟨_, rfl⟩
      rw [ht] at hen' hsz
      go_wp2_with fail
      refine (clone_any t _ hsz).mono ?_
      rintro e w7 ⟨rfl, hB7⟩
      have hs7 := hB7.size
      have hg7 := grown_of_below hB7
      have HROW7 := Lib.hid (own_below HROW6.out hB7)
      have HB7 := Lib.hid (HB6.out.trans (hB7.mono (Nat.le_of_lt HI6.out)))
      have HRG7 := Lib.hid (HRG6.out.kept hg7 (by simp) (by simp))
      have HI7 : Hid (w.heap.size < w7.heap.size) := Nat.lt_of_lt_of_le HI6.out hs7
      clear hB7 hg7 HROW6 HB6 HRG6 HI6
      go_wp2_with (at_builtin; refine wpList_append_own _ rfl _ _ 34 rfl w.heap.size 9 i0 _ 1 16 Try.underlying34 hi hz0 hz1 hz2 rfl (by decide) _ _ _ rfl (own_below HROW7.out ((Below.refl _ _).alloc (Nat.le_refl _) _)) ⟨w7.heap.size, 0, none⟩ 1 1 [.string t] rfl ?c1 ?c2 ?c3 ?c4 ?c5 ?c6 ?_)
      case c1 => rfl
      case c2 => exact one_cell w7 _ _
      case c3 => intro u hu; simp at hu; subst hu; rfl
      case c4 => unfold maxLen; omega
      case c5 => omega
      case c6 =>
        have := HI7.out
        simp
        try omega
      intro v' w8 hown8 hgrow hnil
      clear hnil
      have HREL : Hid (ListRel w b1 P.length (D blk P) (fun z => left z && !z.sameKey (.string x)) cnt2 (ss ++ [x]) v' w8) := by
        have hrgA := HRG7.out.kept (World.grownBy_alloc w7 (.cells #[.string t] 9) none) (by simp) (by simp)
        have hrowA := own_below HROW7.out ((Below.refl _ _).alloc (Nat.le_refl _) (.cells #[.string t] 9))
        refine ⟨hrgA.kept hgrow (row_ne_low HROW7.out HB1.out) (row_ne_iter hrowA hrgA), HGOT.out, ?_, (HB7.out.alloc (Nat.le_of_lt HI7.out) _).grown hgrow (by simp; have := HI7.out; omega) (fun g hg => (HROW7.out.lt g hg).1), ?_, ?_⟩
        · rw [List.map_append, List.length_append]
          have hx : encStr x = .string t := by rw [← ht, encStr]
          simp only [List.map_cons, List.map_nil, hx]
          exact hown8
        · rw [List.length_append]; simp; omega
        · have := hgrow.size
          simp at this
          have := HI7.out
          omega
      clear hown8 hgrow HROW7 HB7 HRG7 HGOT
      go_wp2
      go_roundw
      case rel => exact ⟨_, _, _, HREL.out⟩
      case measure => rw [HREL.out.ranges.left_eq]; exact HCNT.out

set_option maxRecDepth 100000 in
set_option maxHeartbeats 2000000 in
theorem list_none {B : Nat} {w : World} {d : Nat} {s : St} {g : Gh} (h : Rep B w d s g) (e1 : g.m1 = none) :
    Calls Try.prog 10 #[.pointer (some ⟨d, 0, none⟩)] w (ListOut w (s.names.map (·.1))) := by
  have hnm : s.names = [] := by
    rcases h.body.maps with ⟨_, h4, h1, h2, h3⟩ | ⟨b1, b2, e, _⟩
    · exact h1
    · rw [e1] at e; cases e
  have hc3 : w.cell? ⟨d, 3, none⟩ = some (.map none) := by
    have := h.cells.2.2.2.1
    rw [e1] at this
    exact this
  rw [hnm]
  have HB : Hid (∀ W, W = w.alloc (.mapIter none 0 #[] 0) → Below w.heap.size w W) := fun W hW => by
    subst hW
    exact (Below.refl _ w).alloc (Nat.le_refl _) _
  have hrg := fun W : World => run_range_nilMap (P := Try.prog) W 43 9 76 Try.underlying43
  have hnx : ∀ ty, (Instr.next (.pointer (some ⟨w.heap.size, 0, none⟩)) false ty).run Try.prog (w.alloc (.mapIter none 0 #[] 0)) = _ := fun ty => run_next_nilMap w ty 0 0 #[]
  clear h e1 hnm
  go_enter Try.func10, Try.ntmps10
  go_wp2_with fail
  refine wp_loop_rounds 1 ?_
  rw [rounds_succ]
  go_wp2_with fail
  refine (Try.slices_Sort_string_none none 0 _).mono ?_
  rintro e w7 ⟨rfl, rfl⟩
  go_wp2
  go_ret
  exact ⟨_, rfl, World.ownsRow_nil _ _ _ _, HB.out _ rfl⟩

theorem list_any {B : Nat} {w : World} {d : Nat} {s : St} {g : Gh} (h : Rep B w d s g) (ok : Ok s) :
    Calls Try.prog 10 #[.pointer (some ⟨d, 0, none⟩)] w (ListOut w (s.names.map (·.1))) := by
  cases e : g.m1 with
  | none => exact list_none h e
  | some b => exact list_some h ok e
end Go.Proofs.Ytadokmihabfbjaa
