/- Texts joined by bundle.py: Wk, Lt. -/
import Derived.Test.YtnglaolbfpdgoaaGreatZbt
import Derived.Test.YtnglaolbfpdgoaaGreatZbp
import Derived.Test.YtnglaolbfpdgoaaGreatZbl
import Derived.Test.YtnglaolbfpdgoaaGreatZao
import Derived.Test.YtnglaolbfpdgoaaGreatZbk

/- wakes: a table that the document fixes. And tables that were made, opened and read by the program. -/
namespace Go.Proofs.YtnglaolbfpdgoaaGreat
open Go.ChangeShapes Go.WideShapes Go.ChangeAt Go.RowKit
open SK
open TB (Bs Sp)

theorem made_size {S b : Nat} {l : List E} (h : TB.Made S b l) : (⟨(TB.bytes S b l).toArray⟩ : ByteArray).size ≤ 8589934592 := by
  have h1 := h.len
  have h2 := h.body
  have h3 := h.ix
  have h4 := h.fl
  have h5 := TB.fr_len (TB.ixOf S l)
  have h6 := TB.fr_len (TB.flOf b l)
  rw [mk_size]
  omega

/-- a table that was made is opened -/
theorem open_made {S b : Nat} {l : List E} (h : TB.Made S b l) (x : Nat) (T : ByteArray) (hT : (⟨(TB.bytes S b l).toArray⟩ : ByteArray) = T) (w : World) (hx : w.heap[x]? = some (.cells #[.string T] 9 (0, 0))) :
    Calls Tryz.prog 15 #[srcV x, .int .i64 T.size] w fun e w' => ∃ t, e = .returned (.tuple #[.pointer (some ⟨t, 0, none⟩), .int .i64 0]) ∧ w.heap.size ≤ t ∧ Tab w' t x T (TB.sps 0 (TB.cuts S l)) ⟨(TB.flOf b l).toArray⟩ ∧ Below w.heap.size w w' := by
  have hs := made_size h
  rw [hT] at hs
  have ho := h.open_
  have hc := topen_any x T T.size w hx (by omega) (by omega) (by omega)
  rw [← hT, mk_list, mk_size, ho] at hc
  rw [← hT, mk_size]
  refine hc.mono ?_
  rintro e w' ⟨hb, t, rfl, ht, htab⟩
  exact ⟨t, rfl, ht, htab, hb⟩

theorem all_made {S b : Nat} {l : List E} (h : TB.Made S b l) (t x : Nat) (T key : ByteArray) (hT : (⟨(TB.bytes S b l).toArray⟩ : ByteArray) = T) (fl : ByteArray) (w : World) (ht : Tab w t x T (TB.sps 0 (TB.cuts S l)) fl) :
    Calls Tryz.prog 18 #[.pointer (some ⟨t, 0, none⟩), .string key] w fun e w' => ∃ A c, e = .returned (.tuple #[.slice A (SK.from_ l key).length c, .int .i64 0]) ∧ EntsIn w' A (SK.from_ l key) ∧ (SK.from_ l key).length ≤ c ∧ Below w.heap.size w w' := by
  have hs := made_size h
  rw [hT] at hs
  have hc := tall_any t x T (TB.sps 0 (TB.cuts S l)) fl key w ht (by omega)
  rw [← hT, mk_list, h.all_] at hc
  refine hc.mono ?_
  rintro e w' ⟨hb, A, c, rfl, hin, hvc⟩
  exact ⟨A, c, rfl, hin, hvc, hb⟩

theorem may_made {S b : Nat} {l : List E} (h : TB.Made S b l) {e : E} (he : e ∈ l) (t x : Nat) (T : ByteArray) (ss : List Sp) (w : World) (ht : Tab w t x T ss ⟨(TB.flOf b l).toArray⟩) :
    Calls Tryz.prog 13 #[.pointer (some ⟨t, 0, none⟩), .string e.key] w fun r w' => r = .returned (.bool true) ∧ Below w.heap.size w w' := by
  have hk := (h.fine e he).1.1
  have hf := h.fl
  have hc := tmay_any t x T ss ⟨(TB.flOf b l).toArray⟩ e.key w ht (by rw [mk_size]; omega) (by have h47 : Go.reachBytes = 140737488351232 := rfl; omega)
  rw [mk_list, TB.may_all b l he] at hc
  exact hc

def eW : E := ⟨⟨#[97]⟩, 1, false, ⟨#[120]⟩, 0⟩
theorem cuts_w : TB.cuts 9 [eW] = [[eW]] := by decide
theorem from_w : SK.from_ [eW] ⟨#[]⟩ = [eW] := by decide
theorem sps_w : TB.sps 0 (TB.cuts 9 [eW]) = [⟨⟨#[97]⟩, 0, (TB.fr (BK.buildB [eW] 16)).length⟩] := by rw [cuts_w]; rfl
theorem which_w : TB.which (TB.sps 0 (TB.cuts 9 [eW])) ⟨#[98]⟩ = 1 := by rw [sps_w]; decide

theorem enc_le {n : Int} (h0 : -9223372036854775808 ≤ n) (h1 : n ≤ 9223372036854775807) : (VM.enc n).length ≤ 10 := (VM.enc_len h0 h1).2

theorem made_w : TB.Made 9 10 [eW] ∧ TB.tabOut [eW] 9 10 = (TB.bytes 9 10 [eW], 0) := by
  have hwf : ∀ e ∈ [eW], e.wf := by intro e he; simp only [List.mem_cons, List.not_mem_nil, or_false] at he; subst he; exact ⟨by decide, by decide, by decide, by decide⟩
  have hok : BK.OkF [] [eW] := BK.okF_ord _ _ (by decide)
  have hc := TB.cutsF_blk (size := 9) (by decide) (by decide) 1 [eW] hok fun e he => ⟨hwf e he, BK.okF_all _ _ hok e he⟩
  have hb : (BK.buildB [eW] 16).length ≤ 65535 := (hc [eW] (by decide)).fits
  have hi : (TB.ixOf 9 [eW]).length ≤ 65535 := by
    unfold TB.ixOf
    rw [sps_w]
    unfold TB.idx TB.spB BK.textB
    have h1 := enc_le (n := ((1 : Nat) : Int)) (by decide) (by decide)
    have h0 := enc_le (n := ((0 : Nat) : Int)) (by decide) (by decide)
    have h4 := enc_le (n := ((0 + 1 : Nat) : Int)) (by decide) (by decide)
    have hfr := TB.fr_len (BK.buildB [eW] 16)
    have h2 := enc_le (n := (((TB.fr (BK.buildB [eW] 16)).length : Nat) : Int)) (by omega) (by omega)
    simp only [List.length_cons, List.length_nil, List.flatMap_cons, List.flatMap_nil, List.append_nil, List.length_append] at h1 ⊢
    have h3 : (⟨#[97]⟩ : ByteArray).size = 1 := rfl
    rw [h3]
    omega
  have hf : (TB.flOf 10 [eW]).length ≤ 65535 := by
    unfold TB.flOf
    rw [B9.BL.filter_len]
    have : (B9.keysOf (TB.keys [eW])).length = 1 := by decide
    rw [this]
    decide
  have h2 : TB.tabOut [eW] 9 10 = (TB.bytes 9 10 [eW], 0) := by
    unfold TB.tabOut
    rw [if_neg (by decide), if_neg (by decide), if_neg (by decide), if_neg]
    · rfl
    · show ¬(65535 < (TB.ixOf 9 [eW]).length ∨ 65535 < (TB.flOf 10 [eW]).length)
      omega
  exact ⟨(TB.made_of (l := [eW]) (size := 9) (bits := 10) (by decide) (by intro e he; simp only [List.mem_cons, List.not_mem_nil, or_false] at he; subst he; exact ⟨by decide, by decide, by decide, by decide⟩) (by rw [h2])).1, h2⟩

theorem wake_in (w : World) : EntsIn (w.alloc (.cells #[.string ⟨#[97]⟩, .int .i64 1, .bool false, .string ⟨#[120]⟩, .int .i64 0] 57)) (some ⟨w.heap.size, 0, none⟩) [eW] := by
  have hrow := heap_alloc_new w (.cells #[.string ⟨#[97]⟩, .int .i64 1, .bool false, .string ⟨#[120]⟩, .int .i64 0] 57)
  refine ⟨fun e he => ?_, fun _ => ⟨w.heap.size, 0, rfl, by simp, fun j hj => ?_⟩⟩
  · simp only [List.mem_cons, List.not_mem_nil, or_false] at he
    subst he
    exact ⟨by decide, by decide, by decide, by decide⟩
  · have h2 : j < 1 := hj
    match j, h2 with
    | 0, _ => exact ⟨cell_of_row _ _ _ _ _ _ hrow, cell_of_row _ _ _ _ _ _ hrow, cell_of_row _ _ _ _ _ _ hrow, cell_of_row _ _ _ _ _ _ hrow, cell_of_row _ _ _ _ _ _ hrow⟩

set_option maxRecDepth 100000 in
set_option maxHeartbeats 2000000 in
theorem wakes_any (w : World) : Calls Tryz.prog 9 #[] w fun e w' => e = .returned (.bool true) ∧ Below w.heap.size w w' := by
  obtain ⟨hM, hO⟩ := made_w
  have hwh := which_w
  have hsl : (TB.sps 0 (TB.cuts 9 [eW])).length = 1 := by rw [sps_w]; rfl
  have hmem : eW ∈ [eW] := by simp
  obtain ⟨T, hT⟩ : ∃ T : ByteArray, (⟨(TB.bytes 9 10 [eW]).toArray⟩ : ByteArray) = T := ⟨_, rfl⟩
  have hTs := made_size hM
  rw [hT] at hTs
  have HO : Hid (∀ W x, W.heap[x]? = some (.cells #[.string T] 9 (0, 0)) → Calls Tryz.prog 15 #[srcV x, .int .i64 T.size] W fun e w' => ∃ t, e = .returned (.tuple #[.pointer (some ⟨t, 0, none⟩), .int .i64 0]) ∧ W.heap.size ≤ t ∧ Tab w' t x T (TB.sps 0 (TB.cuts 9 [eW])) ⟨(TB.flOf 10 [eW]).toArray⟩ ∧ Below W.heap.size W w') := Lib.hid fun W x hx => open_made hM x T hT W hx
  have HA : Hid (∀ W t x fl, Tab W t x T (TB.sps 0 (TB.cuts 9 [eW])) fl → Calls Tryz.prog 18 #[.pointer (some ⟨t, 0, none⟩), .string ⟨#[]⟩] W fun e w' => ∃ A c, e = .returned (.tuple #[.slice A 1 c, .int .i64 0]) ∧ EntsIn w' A [eW] ∧ Below W.heap.size W w') := Lib.hid fun W t x fl ht => by
    have h := all_made hM t x T ⟨#[]⟩ hT fl W ht
    rw [from_w] at h
    exact h.mono fun e w' ⟨A, c, h1, h2, _, h3⟩ => ⟨A, c, h1, h2, h3⟩
  have HM : Hid (∀ W t x ss, Tab W t x T ss ⟨(TB.flOf 10 [eW]).toArray⟩ → Calls Tryz.prog 13 #[.pointer (some ⟨t, 0, none⟩), .string ⟨#[97]⟩] W fun r w' => r = .returned (.bool true) ∧ Below W.heap.size W w') := Lib.hid fun W t x ss ht => may_made hM hmem t x T ss W ht
  have HS : Hid (∀ W t x fl, Tab W t x T (TB.sps 0 (TB.cuts 9 [eW])) fl → Calls Tryz.prog 31 #[.pointer (some ⟨t, 0, none⟩)] W fun e w' => ∃ A c, e = .returned (.slice A 1 c) ∧ Below W.heap.size W w') := Lib.hid fun W t x fl ht => by
    have h := tspansof_any t x T _ fl W ht
    rw [hsl] at h
    exact h.mono fun e w' ⟨A, c, h1, _, h2⟩ => ⟨A, c, h1, h2⟩
  have HH : Hid (∀ W t x fl, Tab W t x T (TB.sps 0 (TB.cuts 9 [eW])) fl → Calls Tryz.prog 11 #[.pointer (some ⟨t, 0, none⟩), .string ⟨#[98]⟩] W fun e w' => e = .returned (.int .i64 1) ∧ Below W.heap.size W w') := Lib.hid fun W t x fl ht => by
    have h := twhich_any t x T _ fl ⟨#[98]⟩ W ht
    rw [hwh] at h
    exact h
  have hput := tbuild_any (some ⟨w.heap.size, 0, none⟩) 1 1 [eW] 9 10 _ rfl (Nat.le_refl _) (wake_in w) (by decide) (by decide) (by decide) (by decide) (by decide)
  rw [hO] at hput
  unfold buildV at hput
  simp only [hT] at hput
  have HPUT := Lib.hid hput
  have HBEL := Lib.hid ((Below.refl w.heap.size w).alloc (Nat.le_refl _) (.cells #[.string ⟨#[97]⟩, .int .i64 1, .bool false, .string ⟨#[120]⟩, .int .i64 0] 57))
  have HSZ : Hid (w.heap.size ≤ (w.alloc (.cells #[.string ⟨#[97]⟩, .int .i64 1, .bool false, .string ⟨#[120]⟩, .int .i64 0] 57)).heap.size) := Lib.hid (by simp)
  generalize TB.sps 0 (TB.cuts 9 [eW]) = ss at HO HA HM HS HH
  generalize (⟨(TB.flOf 10 [eW]).toArray⟩ : ByteArray) = fl at HO HA HM HS HH
  have HTS := Lib.hid hTs
  clear hput hM hO hwh hsl hmem hT hTs
  go_enter Tryz.func9, Tryz.ntmps9
  go_wp2_with fail
  refine HPUT.out.mono ?_
  rintro e w1 ⟨rfl, hb1⟩
  have HB1 : Hid (Below w.heap.size w w1) := Lib.hid (HBEL.out.trans (hb1.mono HSZ.out))
  clear hb1 HPUT HBEL HSZ
  go_wp2_with fail
  refine (source_any T w1).mono ?_
  rintro e w2 ⟨rfl, hx2, hb2⟩
  have HB2 : Hid (Below w.heap.size w w2) := Lib.hid (HB1.out.trans (hb2.mono HB1.out.size))
  have HX2 := Lib.hid hx2
  clear hb2 hx2
  go_wp2_with fail
  refine (HO.out _ _ HX2.out).mono ?_
  rintro e w3 ⟨t, rfl, ht, htab, hb3⟩
  have HB3 : Hid (Below w.heap.size w w3) := Lib.hid (HB2.out.trans (hb3.mono HB2.out.size))
  have HT3 := Lib.hid htab
  clear hb3 ht htab
  go_wp2_with fail
  refine (HA.out _ _ _ _ HT3.out).mono ?_
  rintro e w4 ⟨A, c, rfl, hin, hb4⟩
  have HB4 : Hid (Below w.heap.size w w4) := Lib.hid (HB3.out.trans (hb4.mono HB3.out.size))
  have HT4 := Lib.hid (HT3.out.below hb4)
  obtain ⟨b, off, rfl, hbl, hc⟩ := hin.at_ (by decide)
  obtain ⟨-, -, -, c3, -⟩ := hc 0 (by decide)
  simp only [eW, List.getElem_cons_zero, Nat.zero_mul, Nat.add_zero] at c3
  clear hb4 hin hc
  have g0 : (0 : Int) ≤ 0 := by decide
  clear HTS HX2 HT3 HO HA hbl
  go_wp2_with fail
  refine (HS.out _ _ _ _ HT4.out).mono ?_
  rintro e w5 ⟨A5, c5, rfl, hb5⟩
  have HB5 : Hid (Below w.heap.size w w5) := Lib.hid (HB4.out.trans (hb5.mono HB4.out.size))
  have HT5 := Lib.hid (HT4.out.below hb5)
  clear hb5 c3
  go_wp2_with fail
  refine (HM.out _ _ _ _ HT5.out).mono ?_
  rintro e w6 ⟨rfl, hb6⟩
  have HB6 : Hid (Below w.heap.size w w6) := Lib.hid (HB5.out.trans (hb6.mono HB5.out.size))
  have HT6 := Lib.hid (HT5.out.below hb6)
  clear hb6
  go_wp2_with fail
  refine (HH.out _ _ _ _ HT6.out).mono ?_
  rintro e w7 ⟨rfl, hb7⟩
  have HB7 : Hid (Below w.heap.size w w7) := Lib.hid (HB6.out.trans (hb7.mono HB6.out.size))
  clear hb7
  go_wp2
  go_ret
  exact ⟨rfl, HB7.out⟩
end Go.Proofs.YtnglaolbfpdgoaaGreat

/- lists: the first 3000 entries of both sides; its answers as slices. -/
namespace Go.Proofs.YtnglaolbfpdgoaaGreat
open Go.ChangeShapes Go.WideShapes Go.ChangeAt Go.RowKit
open SK
attribute [local go_sem ↓] Go.wp_at_zero Go.wp_at_succ

theorem slice_lents (W : World) (A : Option Addr) (n cap m : Nat) (h : m ≤ cap) : (Instr.slice 22 (.slice A n cap) none (some (.int .i64 (m : Int))) none).run Tryz.prog W = .ok (.slice A m cap) W := by
  have hs : ∀ w, (sizeOf (Tryz.prog.elem 22)).run Tryz.prog w = .ok 5 w := fun w => by kernel_rfl
  rw [run_slice_h W 22 A n cap (by kernel_rfl) .i64 (m : Int) (by omega) (by omega), hs]
  simp only [Result.andThen, sliced, Int.toNat_natCast, Nat.sub_zero, Nat.zero_mul, add_zero', Option.map_id']
  split <;> rfl

def ListsRel (n base : Nat) (l : List E) (w : World) (a b i : Value) (wr : World) : Prop :=
  ∃ k : Nat, k ≤ n ∧ i = .int .i64 k ∧ Two base 57 5 a k (ecs (l.take k)) 56 5 b k (ecs (l.take k)) w wr

set_option maxRecDepth 100000 in
set_option maxHeartbeats 1000000 in
theorem lists_any (A : Option Addr) (n0 cap n : Nat) (l : List E) (w : World) (hn : l.length = n) (hz : EntsIn w A l) (hcap : n0 ≤ cap) (hmin : n = min n0 3000) (hb0 : n0 ≤ 140737488351232) :
    Calls Tryz.prog 6 #[.slice A n0 cap] w fun e w' => ∃ a b, e = .returned (.tuple #[a, b]) ∧ Two w.heap.size 57 5 a n (ecs l) 56 5 b n (ecs l) w w' := by
  obtain ⟨i0, hi, hz0, hz1, hz2⟩ := info_parts info_ent
  obtain ⟨j0, hj, hy0, hy1, hy2⟩ := info_parts info_rent
  have HZ := Lib.hid hz
  have HN := Lib.hid hn
  have hsl := fun W => slice_lents W A n0 cap n (by omega)
  have hb : n * 56 ≤ 168000 := by omega
  have hmi : min (n0 : Int) 3000 = (n : Int) := by omega
  clear hz hn hmin
  go_enter Tryz.func6, Tryz.ntmps6
  go_wp2_with fail
  go_loopw [4, 5, 14] (fun a b i wr => ListsRel n w.heap.size l w a b i wr) (fun _ _ i _ => n - (intOf i).toNat)
  case atStart => exact ⟨0, by omega, rfl, World.ownsRow_nil _ _ _ _, World.ownsRow_nil _ _ _ _, Below.refl _ _, Nat.le_refl _⟩
  case round =>
    obtain ⟨k, hk, rfl, hT⟩ := hrel
    by_cases hlt : k < n
    · have hkl : k < l.length := by rw [HN.out]; exact hlt
      obtain ⟨b, off, hA, hbl, hc⟩ := (HZ.out.below hT.below).at_ (by omega)
      obtain ⟨hc0, hc1, hc2, hc3, hc4⟩ := hc k hkl
      have HSN := Lib.hid (ecs_take l k hkl)
      obtain ⟨p, hp⟩ : ∃ p, l[k] = p := ⟨_, rfl⟩
      rw [hp] at hc0 hc1 hc2 hc3 hc4 HSN
      obtain ⟨X, hX⟩ : ∃ X, ecs (l.take k) = X := ⟨_, rfl⟩
      rw [hX] at hT HSN
      have HT := Lib.hid hT
      have hBs := hT.below.size
      have hTo1 := hT.own1
      have hTo2 := hT.own2
      have HN1 := Lib.hid (fun B => @own_new _ _ _ _ _ _ _ hTo1 B)
      have HN2 := Lib.hid (fun B => @own_new _ _ _ _ _ _ _ hTo2 B)
      have hm1 : k + 1 ≤ maxLen := by unfold maxLen; omega
      have hm2 : (k + 1) * 56 ≤ 140737488355328 := by omega
      clear hT hTo1 hTo2 hc hp hX
      subst hA
      have HT1 := HT
      have HT2 := HT
      have hgrow1 : wr.grownBy wr none := World.grownBy.refl _ _
      have hgrow2 : wr.grownBy wr none := World.grownBy.refl _ _
      go_wp2_with fail
      go_region_held3 (fun w' => w'.cell? ⟨wr.heap.size, 0, none⟩ = some (.string p.key) ∧ w'.cell? ⟨wr.heap.size, 1, none⟩ = some (.int .i64 p.seq) ∧ w'.cell? ⟨wr.heap.size, 2, none⟩ = some (.bool p.gone) ∧ w'.cell? ⟨wr.heap.size, 3, none⟩ = some (.string p.value) ∧ w'.cell? ⟨wr.heap.size, 4, none⟩ = some (.int .i64 p.til))
        (first
          | go_keep
          | (go_split_ands; refine ⟨?_, ?_, ?_, ?_, ?_⟩ <;> (first | (rw [hgrow1.cell_far _ (by simp; omega) (HN1.out _ (by simp))]; assumption) | (rw [hgrow2.cell_far _ (by simp; omega) (HN2.out _ (by simp))]; assumption))))
        (first
          | (refine step_append_lies _ (by rfl) _ _ 23 (by rfl) w.heap.size 57 i0 _ 5 56 Tryz.underlying23 hi hz0 hz1 hz2 rfl (by omega) u4 k X (by rfl) ?_ _ 1 1 (E.cells p) (by rfl) (by rfl) ?_ (by simp [E.cells, Value.oneCell']) (by omega) hm1 hm2 ?_ _ (by rfl) ?_
             · repeat (first | exact HT.out.own1 | exact HT2.out.own1 | refine World.ownsRow.alloc ?_ _ | refine own_drew ?_ | fail)
             · refine World.news_of_block (cs := (E.cells p).toArray) (t := 57) (fr := (0, 0)) ?_
               first | exact drew_at _ _ _ (alloc_at _ _ _ (by simp)) | exact drew_at _ _ _ (alloc_old _ _ _ _ (alloc_at _ _ _ (by simp))) | exact alloc_at _ _ _ (by simp) | (refine (hgrow2.block _ (by simp <;> omega) (HN2.out _ (by omega))).trans ?_; first | exact drew_at _ _ _ (alloc_at _ _ _ (by simp)) | exact drew_at _ _ _ (alloc_old _ _ _ _ (alloc_at _ _ _ (by simp))) | fail) | fail
             · first | (simp; omega) | omega | fail
             intro g1 c1 w1 hown1 hgrow1 hat1 hlt1
             have hs1 : wr.heap.size < w1.heap.size := by
               have hgs := hgrow1.size
               first | omega | (simp at hgs; omega) | fail
             first | have HT1 := Lib.hid (Two.app1 ((HT.out.alloc _).alloc _).drew (by decide) hown1 hgrow1) | have HT1 := Lib.hid (Two.app1 (((HT.out.alloc _).alloc _).alloc _).drew (by decide) hown1 hgrow1) | have HT1 := Lib.hid (Two.app1 HT2.out (by decide) hown1 hgrow1) | have HT1 := Lib.hid (Two.app1 (HT2.out.alloc _) (by decide) hown1 hgrow1) | fail
             clear hat1 hlt1)
          | (refine step_append_lies _ (by rfl) _ _ 24 (by rfl) w.heap.size 56 j0 _ 5 56 Tryz.underlying24 hj hy0 hy1 hy2 rfl (by omega) u5 k X (by rfl) ?_ _ 1 1 (E.cells p) (by rfl) (by rfl) ?_ (by simp [E.cells, Value.oneCell']) (by omega) hm1 hm2 ?_ _ (by rfl) ?_
             · repeat (first | exact HT.out.own2 | exact HT1.out.own2 | refine World.ownsRow.alloc ?_ _ | refine own_drew ?_ | fail)
             · refine World.news_of_block (cs := (E.cells p).toArray) (t := 56) (fr := (0, 0)) ?_
               first | exact drew_at _ _ _ (alloc_at _ _ _ (by simp)) | exact drew_at _ _ _ (alloc_old _ _ _ _ (alloc_at _ _ _ (by simp))) | exact alloc_at _ _ _ (by simp) | (refine (hgrow1.block _ (by simp <;> omega) (HN1.out _ (by omega))).trans ?_; first | exact drew_at _ _ _ (alloc_at _ _ _ (by simp)) | exact drew_at _ _ _ (alloc_old _ _ _ _ (alloc_at _ _ _ (by simp))) | fail) | fail
             · first | (simp; omega) | omega | fail
             intro g2 c2 w2 hown2 hgrow2 hat2 hlt2
             have hs2 : wr.heap.size < w2.heap.size := by
               have hgs := hgrow2.size
               first | omega | (simp at hgs; omega) | fail
             first | have HT2 := Lib.hid (Two.app2 ((HT.out.alloc _).alloc _).drew (by decide) hown2 hgrow2) | have HT2 := Lib.hid (Two.app2 (((HT.out.alloc _).alloc _).alloc _).drew (by decide) hown2 hgrow2) | have HT2 := Lib.hid (Two.app2 HT1.out (by decide) hown2 hgrow2) | have HT2 := Lib.hid (Two.app2 (HT1.out.alloc _) (by decide) hown2 hgrow2) | fail
             clear hat2 hlt2)
          | fail)
      all_goals
        have HR := Lib.hid HT2.out
        rw [← HSN.out] at HR
        go_wp2
        go_roundw
        case rel => exact ⟨k + 1, by omega, by go_num, HR.out⟩
        case measure => simp [intOf]; omega
    · have hkn : k = n := by omega
      have htk : l.take k = l := List.take_of_length_le (by rw [HN.out]; omega)
      rw [htk] at hT
      subst hkn
      have HT := Lib.hid hT
      clear hT htk
      go_wp2
      go_ret2
      exact ⟨_, _, rfl, HT.out⟩


/-- lists, its answers as slices -/
theorem lists_in (A : Option Addr) (n0 cap n : Nat) (l : List E) (w : World) (hn : l.length = n) (hz : EntsIn w A l) (hcap : n0 ≤ cap) (hmin : n = min n0 3000) (hb : n0 ≤ 140737488351232) :
    Calls Tryz.prog 6 #[.slice A n0 cap] w fun e w' => ∃ A1 c1 A2 c2, e = .returned (.tuple #[.slice A1 n c1, .slice A2 n c2]) ∧ (EntsIn w' A1 l ∧ n ≤ c1) ∧ (EntsIn w' A2 l ∧ n ≤ c2) ∧ Below w.heap.size w w' ∧ w.heap.size ≤ w'.heap.size := by
  refine (lists_any A n0 cap n l w hn hz hcap hmin hb).mono ?_
  rintro e w1 ⟨a, b, rfl, ht⟩
  obtain ⟨A1, c1, rfl, h1, -, h1c⟩ := own_ents hz.wf hn ht.own1
  obtain ⟨A2, c2, rfl, h2, -, h2c⟩ := own_ents hz.wf hn ht.own2
  exact ⟨A1, c1, A2, c2, rfl, ⟨h1, h1c⟩, ⟨h2, h2c⟩, ht.below, ht.base_le⟩

end Go.Proofs.YtnglaolbfpdgoaaGreat

