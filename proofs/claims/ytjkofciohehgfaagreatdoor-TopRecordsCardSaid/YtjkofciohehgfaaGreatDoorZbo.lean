/- Texts joined by bundle.py: YMHz. -/
import Derived.Test.YtjkofciohehgfaaGreatDoorZbn
import Derived.Test.YtjkofciohehgfaaGreatDoorZbl
import Derived.Deep.LoopGhost

/- Merge. -/
namespace Go.Proofs.YtjkofciohehgfaaGreatDoor.L13
open Go.RowKit
open SK HP
attribute [local go_sem ↓] Go.wp_at_zero Go.wp_at_succ

theorem notSrc_ent {cs : Array Value} {fr : Nat × Nat} : ¬ isSrc (.cells cs 45 fr) := by
  rintro ⟨_, _, _, e1, e2⟩
  injection e1 with _ e1
  rw [← e1] at e2
  revert e2
  decide

theorem mclone_any (a : SK.E) (w : World) (ha : a.wf) : Calls Tryz.prog 63 #[a.val] w fun e w' => e = .returned a.val ∧ Below w.heap.size w w' :=
  eclone_any a w ⟨by have := ha.key; omega, by have := ha.value; omega⟩

theorem Hp.app {W0 w w' : World} {p : Nat} {vh v : Value} {S : List Src} {n : Nat} {xs : List Value} (h : Hp W0 w p vh S) (ho : w.ownsRow W0.heap.size 45 5 v n xs) (hg : w.grownBy w' v.ownBlock) : Hp W0 w' p vh S := by
  refine h.stay ?_
  rcases ho.2 with ⟨e, _⟩ | ⟨g, cap, cur, e, h2, h3, _⟩
  · rw [e] at hg
    exact .grown0 hg
  · rw [e] at hg
    refine .grown g hg h2 fun o ho => ?_
    rw [h3] at ho
    injection ho with ho
    rw [← ho]
    exact notSrc_ent

/-- what lies between two rounds of Merge -/
structure Mid (W0 w : World) (p : Nat) (R out : List SK.E) (S : List Src) (v : Value) : Prop where
  own : w.ownsRow W0.heap.size 45 5 v out.length (ecs out)
  hp : ∃ vh, Hp W0 w p vh S
  heap : From ltS 0 S.length (atL S)
  fine : FineN S
  inv : Inv R out S
  wf : ∀ e ∈ out, e.wf

set_option maxRecDepth 100000 in
set_option maxHeartbeats 4000000 in
theorem merge_any (A : Option Addr) (n c : Nat) (ls : List LE) (w : World) (hn : ls.length = n) (hz : ListsIn w A ls) (h6 : n ≤ 1000000) (hs : ∀ x ∈ ls, Sorted x.l) (ht6 : (ls.map (·.l)).flatten.length ≤ 1000000) :
    Calls Tryz.prog 19 #[.slice A n c] w fun e w' => ∃ v, e = .returned v ∧ w'.ownsRow w.heap.size 45 5 v (mrg (ls.map (·.l)).flatten).length (ecs (mrg (ls.map (·.l)).flatten)) ∧ Below w.heap.size w w' := by
  obtain ⟨i0, hi, hz0, hz1, hz2⟩ := info_parts info_ent
  have HSO := Lib.hid (sources_any A n c ls w hn hz h6)
  have hsr := mrg_sorted (ls.map (·.l)).flatten
  have HST : Hid (∀ w1 p vh S, Hp w w1 p vh S → SrcsOf ls n S → From ltS 0 S.length (atL S) → Mid w w1 p (mrg (ls.map (·.l)).flatten) [] S (.slice none 0 0) ∧ tot S ≤ 1000000) := Lib.hid fun w1 p vh S hp hS hF => by
    have hm : ∀ l ∈ ls.map (·.l), Sorted l := fun l hl => by
      obtain ⟨x, hx, rfl⟩ := List.mem_map.1 hl
      exact hs x hx
    refine ⟨⟨World.ownsRow_nil _ _ _ _, ⟨vh, hp⟩, hF, ⟨fun s hs => ?_, nodup_place hp.nodup hS.apart⟩, inv_start hm (fun s hs => ⟨(hS.from_ s hs).1, (hS.from_ s hs).2.2⟩) (fun i l hi hne => hS.all i l (by have := (List.getElem?_eq_some_iff.1 hi).1; simp at this; omega) hi hne), by simp⟩, ?_⟩
    · exact hm _ (List.mem_of_getElem? (hS.from_ s hs).2.2)
    · refine Nat.le_trans hS.sum (Nat.le_trans (Nat.le_of_eq ?_) ht6)
      rw [List.take_of_length_le (by simp; omega)]
  obtain ⟨R, hR⟩ : ∃ R, mrg (ls.map (·.l)).flatten = R := ⟨_, rfl⟩
  rw [hR] at HST hsr ⊢
  have HSR := Lib.hid hsr
  clear hn hz hs ht6 hR hsr
  go_enter Tryz.func19, Tryz.ntmps19
  go_wp2_with fail
  refine HSO.out.mono ?_
  rintro e w1 ⟨p, vh, S, rfl, hp1, hS1, hF1⟩
  obtain ⟨hmid, htot⟩ := HST.out w1 p vh S hp1 hS1 hF1
  have HMID := Lib.hid hmid
  have HTOT := Lib.hid htot
  clear hp1 hS1 hF1 hmid htot
  go_wp2_with fail
  go_loopg [3] (tot S) (fun gk v wr => ∃ (out : List SK.E) (T : List Src), Mid w wr p R out T v ∧ tot T ≤ gk ∧ out.length + gk ≤ 1000000)
  case atStart => exact ⟨[], S, HMID.out, Nat.le_refl _, by have := HTOT.out; simp; omega⟩
  case round =>
    obtain ⟨out, T, hmid, hgk, hlen⟩ := hrel
    obtain ⟨vr, hpr⟩ := hmid.hp
    have HM := Lib.hid hmid
    have HP1 := Lib.hid hpr
    have c0 := hpr.cell
    have HLN := Lib.hid (hlen_any hpr)
    by_cases hT : T = []
    · subst hT
      obtain rfl : R = out := hmid.inv.done HSR.out
      have HO := Lib.hid hmid.own
      have HB := Lib.hid hpr.below
      simp only [List.length_nil] at HLN
      clear hmid hpr hlen
      go_wp2_with fail
      refine HLN.out.mono ?_
      rintro e w2 ⟨rfl, rfl⟩
      go_wp2
      go_ret
      exact ⟨_, rfl, HO.out, HB.out⟩
    · have hTl : 0 < T.length := by
        cases T with
        | nil => exact absurd rfl hT
        | cons x T => simp
      have HNX := Lib.hid (next_any hpr hTl hmid.heap)
      obtain ⟨tl, htl⟩ : ∃ tl, T.length = tl := ⟨_, rfl⟩
      rw [htl] at HLN
      have htp : (0 : Int) < (tl : Int) := by omega
      have htd : decide (0 < tl) = true := decide_eq_true (by omega)
      have HENT : Hid (∀ s ∈ T, ∀ e ∈ s.left, e.wf) := Lib.hid fun s hs e he => (hpr.ents s hs).1.wf e he
      obtain ⟨vA, vc, rfl, -, -, -⟩ := own_ents hmid.wf rfl hmid.own
      clear hmid hpr hT htl hTl
      go_wp2_with fail
      refine HLN.out.mono ?_
      rintro e w2 ⟨rfl, rfl⟩
      go_wp2_with fail
      refine HNX.out.mono ?_
      rintro e w2 ⟨x, t, s, S', L', rfl, hN⟩
      obtain ⟨hfn, hA1, hB1, ht1⟩ := step_plain HM.out.inv HM.out.fine hN.perm hN.least hN.left hN.rest
      have hxw : x.wf := HENT.out s (hN.perm.mem_iff.1 (by simp)) x (by rw [hN.left]; simp)
      have HO2 := Lib.hid (own_kp (by decide) HM.out.own hN.kp)
      have HNN := Lib.hid hN
      have HFN := Lib.hid hfn
      have HCL : Hid (∀ W, Calls Tryz.prog 63 #[x.val] W fun e w' => e = .returned x.val ∧ Below W.heap.size W w') := Lib.hid fun W => mclone_any x W hxw
      have HBL : Hid (Below w.heap.size w w2) := Lib.hid (by obtain ⟨v', hv'⟩ := hN.hp; exact hv'.below)
      -- behind an append
      have HAPP : Hid (∀ W W' v', Below w2.heap.size w2 W → W'.ownsRow w.heap.size 45 5 v' (out.length + 1) (ecs out ++ x.cells) → W.grownBy W' (Value.slice vA out.length vc).ownBlock → (∀ o, out.getLast? = some o → less o x = true) → Mid w W' p R (out ++ [x]) L' v') := Lib.hid fun W W' v' hb ho hg ha => by
        obtain ⟨vh', hvh⟩ := hN.hp
        refine ⟨by rw [ecs_snoc, List.length_append]; exact ho, ⟨vh', (hvh.bel hb).app (own_below HO2.out hb) hg⟩, hN.heap, hfn, hA1 ha, fun e he => ?_⟩
        rcases List.mem_append.1 he with he | he
        · exact HM.out.wf e he
        · rw [List.mem_singleton.1 he]; exact hxw
      have HKEEP : Hid (∀ W o, Below w2.heap.size w2 W → out.getLast? = some o → less o x = false → Mid w W p R out L' (.slice vA out.length vc)) := Lib.hid fun W o hb ho hl => by
        obtain ⟨vh', hvh⟩ := hN.hp
        exact ⟨own_below HO2.out hb, ⟨vh', hvh.bel hb⟩, hN.heap, hfn, hB1 o ho hl, HM.out.wf⟩
      have HGK : Hid (tot L' + 1 = tot T) := Lib.hid ht1.symm
      have hgk2 : tot L' ≤ gk - 1 ∧ 1 ≤ gk := by omega
      have HENTS : Hid (EntsIn w2 vA out) := Lib.hid (by
        obtain ⟨A', c', he, h2, -, -⟩ := own_ents HM.out.wf rfl HO2.out
        injection he with he
        rw [he]
        exact h2)
      clear hN hfn hA1 hB1 ht1 hxw
      obtain ⟨xk, xq, xg, xv, xt⟩ := x
      simp only [SK.E.val] at HCL ⊢
      simp only [SK.E.cells] at HAPP
      obtain ⟨m, hm⟩ : ∃ m, out.length = m := ⟨_, rfl⟩
      rw [hm] at HAPP HKEEP hlen HO2
      rw [hm]
      have hrow := heap_alloc_new w2 (.cells #[.string xk, .int .i64 xq, .bool xg, .string xv, .int .i64 xt] 45)
      have hal : Below w2.heap.size w2 (w2.alloc (.cells #[.string xk, .int .i64 xq, .bool xg, .string xv, .int .i64 xt] 45)) := (Below.refl _ w2).alloc (Nat.le_refl _) _
      by_cases hm0 : m = 0
      · subst hm0
        have ho0 : out = [] := List.eq_nil_of_length_eq_zero hm
        have HLESS : Hid (∀ o, out.getLast? = some o → less o ⟨xk, xq, xg, xv, xt⟩ = true) := Lib.hid fun o ho => by rw [ho0] at ho; simp at ho
        clear ho0
        have hrowN := fun nq => (show ((w2.alloc (.cells #[.string xk, .int .i64 xq, .bool xg, .string xv, .int .i64 xt] 45)).drewN nq).heap[w2.heap.size]? = _ from hrow)
        have halN := fun nq => below_drewN hal nq
        go_wp2_with fail
        go_quiet (fail)
        have hx6 := hrowN nq
        have HB6 := Lib.hid (halN nq)
        generalize hq6 : World.drewN _ nq = w6 at hx6 HB6 ⊢
        clear hq6 hrowN halN hrow hal
        have X0 : w6.cell? ⟨w2.heap.size, 0, none⟩ = some (.string xk) := cell_of_row _ _ _ _ _ _ hx6
        have X1 : w6.cell? ⟨w2.heap.size, 1, none⟩ = some (.int .i64 xq) := cell_of_row _ _ _ _ _ _ hx6
        have X2 : w6.cell? ⟨w2.heap.size, 2, none⟩ = some (.bool xg) := cell_of_row _ _ _ _ _ _ hx6
        have X3 : w6.cell? ⟨w2.heap.size, 3, none⟩ = some (.string xv) := cell_of_row _ _ _ _ _ _ hx6
        have X4 : w6.cell? ⟨w2.heap.size, 4, none⟩ = some (.int .i64 xt) := cell_of_row _ _ _ _ _ _ hx6
        go_wp2_with fail
        refine (HCL.out _).mono ?_
        rintro e w7 ⟨rfl, hb7⟩
        have HB7 : Hid (Below w2.heap.size w2 w7) := Lib.hid (HB6.out.trans (hb7.mono HB6.out.size))
        have HO7 := Lib.hid (own_below HO2.out HB7.out)
        have hs7 : w.heap.size ≤ w7.heap.size := Nat.le_trans HBL.out.size HB7.out.size
        clear X0 X1 X2 X3 X4 hx6 hb7
        go_wp2_with (at_builtin; refine wpList_append_own _ rfl _ _ 33 rfl w.heap.size 45 i0 _ 5 56 Tryz.underlying33 hi hz0 hz1 hz2 rfl (by decide) _ _ _ rfl (own_below HO7.out ((Below.refl _ _).alloc (Nat.le_refl _) _)) ⟨w7.heap.size, 0, none⟩ 1 1 (SK.E.cells ⟨xk, xq, xg, xv, xt⟩) rfl ?c1 ?c2 ?c3 ?c4 ?c5 ?c6 ?_)
        case c1 => rfl
        case c2 => exact ent_cells w7 ⟨xk, xq, xg, xv, xt⟩ _
        case c3 => exact ent_one _
        case c4 => unfold maxLen; omega
        case c5 => omega
        case c6 => simp; omega
        intro v' w8 hown8 hgrow8 hnil
        clear hnil
        have HM8 := Lib.hid (HAPP.out _ w8 v' (HB7.out.alloc HB7.out.size _) hown8 hgrow8 HLESS.out)
        clear hown8 hgrow8 hs7
        go_wp2
        go_roundg (gk - 1)
        case measure => omega
        case rel => exact ⟨_, L', HM8.out, hgk2.1, by simp; omega⟩
      · obtain ⟨init, o, hio⟩ : ∃ init o, out = init ++ [o] := ⟨out.dropLast, out.getLast (by intro h; rw [h] at hm; simp at hm; omega), (List.dropLast_concat_getLast _).symm⟩
        have hgl : out.getLast? = some o := by rw [hio]; simp
        have him : init.length = m - 1 := by rw [hio] at hm; simp at hm; omega
        obtain ⟨b, off, hA, hbl, hc⟩ := HENTS.out.at_ (by omega)
        have hco := hc (m - 1) (by omega)
        have hoo : out[m - 1]'(by omega) = o := by subst hio; rw [List.getElem_append_right (by omega)]; simp
        rw [hoo] at hco
        have hnn := hm0
        obtain ⟨m1, hm1⟩ : ∃ m1, m - 1 = m1 := ⟨_, rfl⟩
        rw [hm1] at hco
        have hw1 : IntKind.i64.wrap ((m : Int) - 1) = (m1 : Int) := by rw [IntKind.wrap_i64]; omega
        have i0' : (0 : Int) ≤ (m1 : Int) := by omega
        have i1' : (m1 : Int) < (m : Int) := by omega
        have hmb : ((m : Int) == 0) = false := beq_eq_false_iff_ne.2 (by omega)
        have HLS : Hid (∀ W, Calls Tryz.prog 56 #[o.val, (⟨xk, xq, xg, xv, xt⟩ : SK.E).val] W fun e w' => e = .returned (.bool (less o ⟨xk, xq, xg, xv, xt⟩)) ∧ Below W.heap.size W w') := Lib.hid fun W => less_any _ _ W
        have HGL := Lib.hid hgl
        obtain ⟨BB, hBB⟩ : ∃ B, less o ⟨xk, xq, xg, xv, xt⟩ = B := ⟨_, rfl⟩
        have HBB := Lib.hid hBB
        rw [hBB] at HLS
        obtain ⟨ok, oq, og, ov, ot⟩ := o
        obtain ⟨z0, z1, z2, z3, z4⟩ := hco
        simp only [SK.E.val] at HLS
        simp only at z0 z1 z2 z3 z4
        subst hA
        have hal2 := hal
        have hrow2 := hrow
        have HAL := Lib.hid hal
        have HROW := Lib.hid hrow
        have HKP : Hid (∀ W, Below w2.heap.size w2 W → W.cell? ⟨b, off + m1 * 5, none⟩ = some (.string ok) ∧ W.cell? ⟨b, off + m1 * 5 + 1, none⟩ = some (.int .i64 oq) ∧ W.cell? ⟨b, off + m1 * 5 + 2, none⟩ = some (.bool og) ∧ W.cell? ⟨b, off + m1 * 5 + 3, none⟩ = some (.string ov) ∧ W.cell? ⟨b, off + m1 * 5 + 4, none⟩ = some (.int .i64 ot)) := Lib.hid fun W hW =>
          ⟨(hW.cell (p := ⟨b, _, none⟩) hbl).trans z0, (hW.cell (p := ⟨b, _, none⟩) hbl).trans z1, (hW.cell (p := ⟨b, _, none⟩) hbl).trans z2, (hW.cell (p := ⟨b, _, none⟩) hbl).trans z3, (hW.cell (p := ⟨b, _, none⟩) hbl).trans z4⟩
        clear hc hoo hio hgl hal hrow hBB him
        go_wp2_with fail
        generalize hq5 : w2.alloc (.cells #[.string xk, .int .i64 xq, .bool xg, .string xv, .int .i64 xt] 45) = w5 at HAL HROW hal2 hrow2 ⊢
        obtain ⟨z0', z1', z2', z3', z4'⟩ := HKP.out w5 HAL.out
        have X0 : w5.cell? ⟨w2.heap.size, 0, none⟩ = some (.string xk) := cell_of_row _ _ _ _ _ _ hrow2
        have X1 : w5.cell? ⟨w2.heap.size, 1, none⟩ = some (.int .i64 xq) := cell_of_row _ _ _ _ _ _ hrow2
        have X2 : w5.cell? ⟨w2.heap.size, 2, none⟩ = some (.bool xg) := cell_of_row _ _ _ _ _ _ hrow2
        have X3 : w5.cell? ⟨w2.heap.size, 3, none⟩ = some (.string xv) := cell_of_row _ _ _ _ _ _ hrow2
        have X4 : w5.cell? ⟨w2.heap.size, 4, none⟩ = some (.int .i64 xt) := cell_of_row _ _ _ _ _ _ hrow2
        clear hal2 hrow2 hq5 z0 z1 z2 z3 z4
        go_region_held3 (fun s => s.cell? ⟨b, off + m1 * 5, none⟩ = some (.string ok) ∧ s.cell? ⟨b, off + m1 * 5 + 1, none⟩ = some (.int .i64 oq) ∧ s.cell? ⟨b, off + m1 * 5 + 2, none⟩ = some (.bool og) ∧ s.cell? ⟨b, off + m1 * 5 + 3, none⟩ = some (.string ov) ∧ s.cell? ⟨b, off + m1 * 5 + 4, none⟩ = some (.int .i64 ot) ∧ s.cell? ⟨w2.heap.size, 0, none⟩ = some (.string xk) ∧ s.cell? ⟨w2.heap.size, 1, none⟩ = some (.int .i64 xq) ∧ s.cell? ⟨w2.heap.size, 2, none⟩ = some (.bool xg) ∧ s.cell? ⟨w2.heap.size, 3, none⟩ = some (.string xv) ∧ s.cell? ⟨w2.heap.size, 4, none⟩ = some (.int .i64 xt))
          (first | exact HS6.out | go_keep | fail)
          (first
            | (go_at_call 56; refine (HLS.out _).mono ?_; rintro r w6 ⟨rfl, hb6⟩
               have HB6 : Hid (Below w2.heap.size w2 w6) := Lib.hid ((Below.drew HAL.out).trans (hb6.mono (by have := HAL.out.size; first | exact this | simpa using this)))
               have hx6 := (hb6.block w2.heap.size (lt_of_at HROW.out)).trans HROW.out
               have HS6 : Hid (w6.cell? ⟨b, off + m1 * 5, none⟩ = some (.string ok) ∧ w6.cell? ⟨b, off + m1 * 5 + 1, none⟩ = some (.int .i64 oq) ∧ w6.cell? ⟨b, off + m1 * 5 + 2, none⟩ = some (.bool og) ∧ w6.cell? ⟨b, off + m1 * 5 + 3, none⟩ = some (.string ov) ∧ w6.cell? ⟨b, off + m1 * 5 + 4, none⟩ = some (.int .i64 ot) ∧ w6.cell? ⟨w2.heap.size, 0, none⟩ = some (.string xk) ∧ w6.cell? ⟨w2.heap.size, 1, none⟩ = some (.int .i64 xq) ∧ w6.cell? ⟨w2.heap.size, 2, none⟩ = some (.bool xg) ∧ w6.cell? ⟨w2.heap.size, 3, none⟩ = some (.string xv) ∧ w6.cell? ⟨w2.heap.size, 4, none⟩ = some (.int .i64 xt)) := Lib.hid (by
                 obtain ⟨q0, q1, q2, q3, q4⟩ := HKP.out w6 HB6.out
                 exact ⟨q0, q1, q2, q3, q4, cell_of_row _ _ _ _ _ _ hx6, cell_of_row _ _ _ _ _ _ hx6, cell_of_row _ _ _ _ _ _ hx6, cell_of_row _ _ _ _ _ _ hx6, cell_of_row _ _ _ _ _ _ hx6⟩)
               clear hb6)
            | fail)
        all_goals
          clear HS6 X0 X1 X2 X3 X4 z0' z1' z2' z3' z4'
          cases BB
          · have HM7 := Lib.hid (HKEEP.out w6 _ HB6.out HGL.out HBB.out)
            clear hx6
            go_wp2
            go_roundg (gk - 1)
            case measure => omega
            case rel => exact ⟨out, L', HM7.out, hgk2.1, by omega⟩
          · have HLESS : Hid (∀ o, out.getLast? = some o → less o ⟨xk, xq, xg, xv, xt⟩ = true) := Lib.hid fun o ho => by
              rw [HGL.out] at ho
              injection ho with ho
              rw [← ho]
              exact HBB.out
            have X0 : w6.cell? ⟨w2.heap.size, 0, none⟩ = some (.string xk) := cell_of_row _ _ _ _ _ _ hx6
            have X1 : w6.cell? ⟨w2.heap.size, 1, none⟩ = some (.int .i64 xq) := cell_of_row _ _ _ _ _ _ hx6
            have X2 : w6.cell? ⟨w2.heap.size, 2, none⟩ = some (.bool xg) := cell_of_row _ _ _ _ _ _ hx6
            have X3 : w6.cell? ⟨w2.heap.size, 3, none⟩ = some (.string xv) := cell_of_row _ _ _ _ _ _ hx6
            have X4 : w6.cell? ⟨w2.heap.size, 4, none⟩ = some (.int .i64 xt) := cell_of_row _ _ _ _ _ _ hx6
            go_wp2_with fail
            refine (HCL.out _).mono ?_
            rintro e w7 ⟨rfl, hb7⟩
            have HB7 : Hid (Below w2.heap.size w2 w7) := Lib.hid (HB6.out.trans (hb7.mono HB6.out.size))
            have HO7 := Lib.hid (own_below HO2.out HB7.out)
            have hs7 : w.heap.size ≤ w7.heap.size := Nat.le_trans HBL.out.size HB7.out.size
            clear X0 X1 X2 X3 X4 hx6 hb7
            go_wp2_with (at_builtin; refine wpList_append_own _ rfl _ _ 33 rfl w.heap.size 45 i0 _ 5 56 Tryz.underlying33 hi hz0 hz1 hz2 rfl (by decide) _ _ _ rfl (own_below HO7.out ((Below.refl _ _).alloc (Nat.le_refl _) _)) ⟨w7.heap.size, 0, none⟩ 1 1 (SK.E.cells ⟨xk, xq, xg, xv, xt⟩) rfl ?c1 ?c2 ?c3 ?c4 ?c5 ?c6 ?_)
            case c1 => rfl
            case c2 => exact ent_cells w7 ⟨xk, xq, xg, xv, xt⟩ _
            case c3 => exact ent_one _
            case c4 => unfold maxLen; omega
            case c5 => omega
            case c6 => simp; omega
            intro v' w8 hown8 hgrow8 hnil
            clear hnil
            have HM8 := Lib.hid (HAPP.out _ w8 v' (HB7.out.alloc HB7.out.size _) hown8 hgrow8 HLESS.out)
            clear hown8 hgrow8 hs7
            go_wp2
            go_roundg (gk - 1)
            case measure => omega
            case rel => exact ⟨_, L', HM8.out, hgk2.1, by simp; omega⟩
end Go.Proofs.YtjkofciohehgfaaGreatDoor.L13


