/- SkipGets: behind all puts each key's newest entry up to any number is the document's. For every coins, every puts and every asks. -/
import Derived.Test.YtgbpnicijllmoaaAp
namespace Go.Proofs.Ytgbpnicijllmoaa
open Go.ChangeShapes Go.WideShapes Go.ChangeAt Go.RowKit
open SK
namespace lawGets

set_option maxRecDepth 100000 in
set_option maxHeartbeats 8000000 in
theorem walk (cA : Option Addr) (cN cC : Nat) (cs : List Int) (pA : Option Addr) (pN pC : Nat) (ps : List E) (aA : Option Addr) (aN aC : Nat) (zs : List E) (w : World) (hcn : cs.length = cN) (hci : CoinsIn w cA cs) (hcb : cN * 8 ≤ reachBytes) (hpn : ps.length = pN) (hpi : EntsIn w pA ps) (hpb : pN * 56 ≤ reachBytes) (hpc : pN ≤ pC)
    (han : zs.length = aN) (hai : EntsIn w aA zs) (hac : aN ≤ aC) :
    Calls Try.prog 4 #[.slice cA cN cC, .slice pA pN pC, .slice aA aN aC] w fun e w' => e = .returned (.bool true) ∧ Below w.heap.size w w' := by
  have HL := Lib.hid (lists_any cA cN cC cs pA pN pC ps w hcn hci hcb hpn hpi hpc hpb)
  have HPI := Lib.hid hpi
  have HWP : Hid (∀ e ∈ ps, e.wf) := hpi.wf
  have HAI := Lib.hid hai
  have HPN := Lib.hid hpn
  have HAN := Lib.hid han
  clear hcn hci hcb hpi hpn hai han
  go_enter Try.func4, Try.ntmps4
  go_wp2_with fail
  refine HL.out.mono ?_
  rintro v w1 ⟨a, hb, l, r, CA, cc, LA, lc, rfl, hd⟩
  have HD1 := Lib.hid hd
  clear hd HL
  go_wp2_with fail
  refine (wakes_any _).mono ?_
  rintro v w2 ⟨rfl, hb2⟩
  have HD2 := Lib.hid (HD1.out.still hb2)
  clear hb2 HD1
  obtain ⟨m, hm⟩ : ∃ m, min pN 100 = m := ⟨_, rfl⟩
  obtain ⟨k, hk⟩ : ∃ k, min aN 100 = k := ⟨_, rfl⟩
  have hmin1 : min (pN : Int) 100 = (m : Int) := by omega
  have hmin2 : min (aN : Int) 100 = (k : Int) := by omega
  have hsl1 := fun W => ents_hm W pA pN pC m (by omega)
  have hsl2 := fun W => ents_head W aA aN aC k (by omega)
  have hbw2 := HD2.out.below
  have hpi2 := (HPI.out.below hbw2).take m
  have hai2 := (HAI.out.below hbw2).take k
  have hd2 : Below w2.heap.size w2 w2.drew := (Below.refl _ _).drew
  obtain ⟨XA, xc, w3, happ, hxi, hb3⟩ := run_app w2.drew pA m (ps.take m) aA k aC (zs.take k) (hpi2.below hd2) (by rw [List.length_take, HPN.out]; omega) (hai2.below hd2) (by rw [List.length_take, HAN.out]; omega) (by omega)
  have HXI := Lib.hid hxi
  have HXL : Hid ((ps.take m ++ zs.take k).length = m + k) := Lib.hid (by rw [List.length_append, List.length_take, List.length_take, HPN.out, HAN.out]; omega)
  have HD3 := Lib.hid (HD2.out.still (hd2.trans hb3))
  clear hpi2 hai2 hxi hb3 hd2 hbw2 hm hk HPI HAI HPN HAN
  go_wp2_with fail
  refine Code.wp_mono (Q := fun e a' w' => e = .normal ∧ a' = { tmps := #[.slice cA cN cC, .slice pA pN pC, .slice aA aN aC, undef, undef, undef, .bool false, .pointer (some ⟨a, 0, none⟩), .pointer (some ⟨r, 0, none⟩), .bool true, undef, undef, undef, undef, undef, undef, undef, undef, undef, .tuple #[.pointer (some ⟨a, 0, none⟩), .pointer (some ⟨r, 0, none⟩), .bool true], .slice cA cN cC, .slice pA pN pC, .tuple #[.pointer (some ⟨a, 0, none⟩), .pointer (some ⟨r, 0, none⟩), .bool true], .pointer (some ⟨a, 0, none⟩), .pointer (some ⟨r, 0, none⟩), .bool true, .bool true, .bool false, .bool false, .bool true, .bool false, .bool false, .slice pA pN pC, .slice pA pN pC, .int .i64 (pN : Int), .int .i64 (m : Int), .slice pA pN pC, .int .i64 (pN : Int), .int .i64 (m : Int), .slice pA m m, .slice aA aN aC, .slice aA aN aC, .int .i64 (aN : Int), .int .i64 (k : Int), .slice aA k aC, .slice XA (m + k) xc, .int .i64 ((m : Int) + (k : Int)), .int .i64 0] ++ Array.replicate 54 undef, defers := [] } ∧ w' = w3) ?mn ?rg
  case rg =>
    go_region_held3 (fun _ => True) (trivial) (first | (refine step_app (by rfl) _ _ (by rfl) (by rfl) _ _ (by rfl) (by rfl) _ _ happ ?_) | fail)
    all_goals exact ⟨rfl, by simp only [Array.replicate_succ, Array.replicate_zero, List.push_toArray, List.append_toArray, List.nil_append, List.cons_append], rfl⟩
  rintro e a' w' ⟨rfl, rfl, rfl⟩
  simp only [Array.replicate_succ, Array.replicate_zero, List.push_toArray, List.append_toArray, List.nil_append, List.cons_append]
  clear happ hsl1 hsl2 HD2
  obtain ⟨XS, hXS⟩ : ∃ XS, ps.take m ++ zs.take k = XS := ⟨_, rfl⟩
  rw [hXS] at HXI HXL
  clear hXS
  have HG1 : Hid (∀ W k' q', Below w'.heap.size w' W → Calls Try.prog 13 #[.pointer (some ⟨a, 0, none⟩), .string k', .int .i64 q'] W fun v w'' => v = .returned (.tuple #[(get (after cs (ps.take 100)).l k' q').1.val, .bool (get (after cs (ps.take 100)).l k' q').2]) ∧ Below W.heap.size W w'') := fun W k' q' hb => get_any (HD3.out.rep.below hb) HD3.out.oks k' q'
  have hlen : (after cs (ps.take 100)).l.length ≤ 1000000 := by
    have h1 := (after_ok cs (ps.take 100) (fun x hx => HWP.out x (List.mem_of_mem_take hx))).2
    have h2 : (ps.take 100).length ≤ 100 := List.length_take_le _ _
    omega
  have HG2 : Hid (∀ W k' q', Below w'.heap.size w' W → Calls Try.prog 14 #[.pointer (some ⟨r, 0, none⟩), .string k', .int .i64 q'] W fun v w'' => v = .returned (.tuple #[(get (after cs (ps.take 100)).l k' q').1.val, .bool (get (after cs (ps.take 100)).l k' q').2]) ∧ Below W.heap.size W w'') := fun W k' q' hb => rget_any (HD3.out.rrep.below hb) k' q' hlen
  obtain ⟨gt, hgt⟩ : ∃ gt, get (after cs (ps.take 100)).l = gt := ⟨_, rfl⟩
  rw [hgt] at HG1 HG2
  have HB3 := Lib.hid HD3.out.below
  have hle3 := HD3.out.le
  clear hlen hgt HD3
  go_wp2_with fail
  go_loopw [47] (fun i wr => ∃ j : Nat, j ≤ m + k ∧ i = .int .i64 j ∧ Below w'.heap.size w' wr) (fun i _ => m + k - (intOf i).toNat)
  case atStart => exact ⟨0, by omega, rfl, Below.refl _ _⟩
  case round =>
    obtain ⟨j, hj, rfl, hbw⟩ := hrel
    have HBW := Lib.hid hbw
    by_cases hlt : j < m + k
    · have hjl : j < XS.length := by rw [HXL.out]; exact hlt
      have hxi := HXI.out.below hbw
      obtain ⟨b, off, hA, hbl, hc⟩ := hxi.at_ (by omega)
      obtain ⟨z0, z1, z2, z3, z4⟩ := hc j hjl
      have hwf := hxi.wf _ (List.getElem_mem hjl)
      obtain ⟨e, he⟩ : ∃ e, XS[j] = e := ⟨_, rfl⟩
      rw [he] at z0 z1 z2 z3 z4 hwf
      subst hA
      obtain ⟨k1, q1, g1, v1, t1⟩ := e
      have hq := hwf.seq
      simp only at z0 z1 z2 z3 z4 hq
      have g0 : (0 : Int) ≤ (j : Int) := by omega
      have g1' : (j : Int) < (m : Int) + (k : Int) := by omega
      have hbs := hbw.size
      have hR0 : ((wr.alloc (.cells #[.string k1, .int .i64 q1, .bool g1, .string v1, .int .i64 t1] 36)).alloc (.cells #[.int .i64 0, .int .i64 (-1), .int .i64 1] 2)).heap[wr.heap.size]? = some (.cells #[.string k1, .int .i64 q1, .bool g1, .string v1, .int .i64 t1] 36 (0, 0)) := (Below.heap_alloc _ _ _ (by simp)).trans (heap_alloc_new wr _)
      have hR1 : ((wr.alloc (.cells #[.string k1, .int .i64 q1, .bool g1, .string v1, .int .i64 t1] 36)).alloc (.cells #[.int .i64 0, .int .i64 (-1), .int .i64 1] 2)).heap[wr.heap.size + 1]? = some (.cells #[.int .i64 0, .int .i64 (-1), .int .i64 1] 2 (0, 0)) := by
        have := heap_alloc_new (wr.alloc (.cells #[.string k1, .int .i64 q1, .bool g1, .string v1, .int .i64 t1] 36)) (.cells #[.int .i64 0, .int .i64 (-1), .int .i64 1] 2)
        simpa using this
      have hBI : Below w'.heap.size w' ((wr.alloc (.cells #[.string k1, .int .i64 q1, .bool g1, .string v1, .int .i64 t1] 36)).alloc (.cells #[.int .i64 0, .int .i64 (-1), .int .i64 1] 2)) := (hbw.alloc hbs _).alloc (by simp; omega) _
      have hzi : ((wr.alloc (.cells #[.string k1, .int .i64 q1, .bool g1, .string v1, .int .i64 t1] 36)).alloc (.cells #[.int .i64 0, .int .i64 (-1), .int .i64 1] 2)).heap.size = wr.heap.size + 2 := by simp
      clear hbw hxi hc hbl hwf he
      go_wp2_with fail
      generalize (wr.alloc (.cells #[.string k1, .int .i64 q1, .bool g1, .string v1, .int .i64 t1] 36)).alloc (.cells #[.int .i64 0, .int .i64 (-1), .int .i64 1] 2) = wi0 at hR0 hR1 hBI hzi ⊢
      obtain ⟨x, hx⟩ : ∃ x, wr.heap.size = x := ⟨_, rfl⟩
      rw [hx] at hR0 hR1 hzi hbs ⊢
      have HR0 := Lib.hid hR0
      have HR1 := Lib.hid hR1
      have HBI0 := Lib.hid hBI
      have HZI := Lib.hid hzi
      clear hR0 hR1 hBI hzi hx z0 z1 z2 z3 z4
      go_loopw [53] (fun i wi => ∃ y : Nat, y ≤ 3 ∧ i = .int .i64 y ∧ Below (x + 2) wi0 wi) (fun i _ => 3 - (intOf i).toNat)
      case atStart => exact ⟨0, by omega, rfl, Below.refl _ _⟩
      case round =>
        obtain ⟨y, hy, rfl, hbi⟩ := hrel
        have HBX := Lib.hid hbi
        have hwz : x + 2 ≤ wr.heap.size := by have := hbi.size; have := HZI.out; omega
        have HBI : Hid (Below w'.heap.size w' wr) := Lib.hid (HBI0.out.trans (hbi.mono (by omega)))
        have hr0 := (hbi.block x (by omega)).trans HR0.out
        have hr1 := (hbi.block (x + 1) (by omega)).trans HR1.out
        have a0 : wr.cell? ⟨x, 0, none⟩ = some (.string k1) := cell_of_row _ _ _ _ _ _ hr0
        have a1 : wr.cell? ⟨x, 1, none⟩ = some (.int .i64 q1) := cell_of_row _ _ _ _ _ _ hr0
        by_cases hy0 : y = 0
        · subst hy0
          have d0 : wr.cell? ⟨x + 1, 0, none⟩ = some (.int .i64 0) := cell_of_row _ _ _ _ _ _ hr1
          clear hbi hr0 hr1
          go_wp2_with fail
          refine (HG1.out _ _ _ HBI.out).mono ?_
          rintro v w5 ⟨rfl, hb5⟩
          generalize hp : gt k1 _ = p
          have HP := Lib.hid hp
          clear hp
          obtain ⟨⟨k3, q3, g3, v3, t3⟩, is3⟩ := p
          have hneq := fun W => rent_neq W k3 q3 g3 v3 t3
          have hr3 := heap_alloc_new w5 (.cells #[.string k3, .int .i64 q3, .bool g3, .string v3, .int .i64 t3] 38)
          have hsz5 : (w5.alloc (.cells #[.string k3, .int .i64 q3, .bool g3, .string v3, .int .i64 t3] 38)).heap.size = w5.heap.size + 1 := by simp
          have HB5 : Hid (Below w'.heap.size w' (w5.alloc (.cells #[.string k3, .int .i64 q3, .bool g3, .string v3, .int .i64 t3] 38))) := Lib.hid ((HBI.out.trans (hb5.mono HBI.out.size)).alloc (by have := HBI.out.size; have := hb5.size; omega) _)
          have HB5' : Hid (Below (x + 2) wi0 (w5.alloc (.cells #[.string k3, .int .i64 q3, .bool g3, .string v3, .int .i64 t3] 38))) := Lib.hid ((HBX.out.trans (hb5.mono (by have := hwz; omega))).alloc (by have := hb5.size; omega) _)
          have a0' : (w5.alloc (.cells #[.string k3, .int .i64 q3, .bool g3, .string v3, .int .i64 t3] 38)).cell? ⟨x, 0, none⟩ = some (.string k1) := (HB5'.out.cell (p := ⟨x, 0, none⟩) (show x < x + 2 by omega)).trans (cell_of_row _ _ _ _ _ _ HR0.out)
          simp only [E.val]
          clear hb5
          go_wp2_with fail
          generalize w5.alloc (.cells #[.string k3, .int .i64 q3, .bool g3, .string v3, .int .i64 t3] 38) = w6 at hr3 hsz5 HB5 HB5' a0' ⊢
          refine (HG2.out _ _ _ HB5.out).mono ?_
          rintro v w7 ⟨rfl, hb7⟩
          rw [HP.out]
          simp only [E.val]
          have hr7 := (hb7.block w5.heap.size (by omega)).trans hr3
          have h7s := hb7.size
          have hr8 : (w7.alloc (.cells #[.string k3, .int .i64 q3, .bool g3, .string v3, .int .i64 t3] 41)).heap[w5.heap.size]? = some (.cells #[.string k3, .int .i64 q3, .bool g3, .string v3, .int .i64 t3] 38 (0, 0)) := (Below.heap_alloc _ _ _ (by omega)).trans hr7
          have c0 : (w7.alloc (.cells #[.string k3, .int .i64 q3, .bool g3, .string v3, .int .i64 t3] 41)).cell? ⟨w5.heap.size, 0, none⟩ = some (.string k3) := cell_of_row _ _ _ _ _ _ hr8
          have c1 : (w7.alloc (.cells #[.string k3, .int .i64 q3, .bool g3, .string v3, .int .i64 t3] 41)).cell? ⟨w5.heap.size, 1, none⟩ = some (.int .i64 q3) := cell_of_row _ _ _ _ _ _ hr8
          have c2 : (w7.alloc (.cells #[.string k3, .int .i64 q3, .bool g3, .string v3, .int .i64 t3] 41)).cell? ⟨w5.heap.size, 2, none⟩ = some (.bool g3) := cell_of_row _ _ _ _ _ _ hr8
          have c3 : (w7.alloc (.cells #[.string k3, .int .i64 q3, .bool g3, .string v3, .int .i64 t3] 41)).cell? ⟨w5.heap.size, 3, none⟩ = some (.string v3) := cell_of_row _ _ _ _ _ _ hr8
          have c4 : (w7.alloc (.cells #[.string k3, .int .i64 q3, .bool g3, .string v3, .int .i64 t3] 41)).cell? ⟨w5.heap.size, 4, none⟩ = some (.int .i64 t3) := cell_of_row _ _ _ _ _ _ hr8
          have HB8 : Hid (Below (x + 2) wi0 (w7.alloc (.cells #[.string k3, .int .i64 q3, .bool g3, .string v3, .int .i64 t3] 41))) := Lib.hid ((HB5'.out.trans (hb7.mono (by have := HB5'.out.size; have := HZI.out; omega))).alloc (by have := HB5'.out.size; have := HZI.out; omega) _)
          clear hb7 hr7 hr8 hr3 HB5 HB5' HP
          go_wp2
          go_roundw
          case rel => exact ⟨1, by omega, by go_num, HB8.out⟩
          case measure => simp [intOf]
        · by_cases hy1 : y = 1
          · subst hy1
            have d0 : wr.cell? ⟨x + 1, 1, none⟩ = some (.int .i64 (-1)) := cell_of_row _ _ _ _ _ _ hr1
            clear hbi hr0 hr1
            by_cases hpos : 0 < q1
            · have hw1 : IntKind.i64.wrap (q1 + -1) = q1 + -1 := wrap_in _ (by omega)
              go_wp2_with fail
              refine (HG1.out _ _ _ HBI.out).mono ?_
              rintro v w5 ⟨rfl, hb5⟩
              generalize hp : gt k1 _ = p
              have HP := Lib.hid hp
              clear hp
              obtain ⟨⟨k3, q3, g3, v3, t3⟩, is3⟩ := p
              have hneq := fun W => rent_neq W k3 q3 g3 v3 t3
              have hr3 := heap_alloc_new w5 (.cells #[.string k3, .int .i64 q3, .bool g3, .string v3, .int .i64 t3] 38)
              have hsz5 : (w5.alloc (.cells #[.string k3, .int .i64 q3, .bool g3, .string v3, .int .i64 t3] 38)).heap.size = w5.heap.size + 1 := by simp
              have HB5 : Hid (Below w'.heap.size w' (w5.alloc (.cells #[.string k3, .int .i64 q3, .bool g3, .string v3, .int .i64 t3] 38))) := Lib.hid ((HBI.out.trans (hb5.mono HBI.out.size)).alloc (by have := HBI.out.size; have := hb5.size; omega) _)
              have HB5' : Hid (Below (x + 2) wi0 (w5.alloc (.cells #[.string k3, .int .i64 q3, .bool g3, .string v3, .int .i64 t3] 38))) := Lib.hid ((HBX.out.trans (hb5.mono (by have := hwz; omega))).alloc (by have := hb5.size; omega) _)
              have a0' : (w5.alloc (.cells #[.string k3, .int .i64 q3, .bool g3, .string v3, .int .i64 t3] 38)).cell? ⟨x, 0, none⟩ = some (.string k1) := (HB5'.out.cell (p := ⟨x, 0, none⟩) (show x < x + 2 by omega)).trans (cell_of_row _ _ _ _ _ _ HR0.out)
              simp only [E.val]
              clear hb5
              go_wp2_with fail
              generalize w5.alloc (.cells #[.string k3, .int .i64 q3, .bool g3, .string v3, .int .i64 t3] 38) = w6 at hr3 hsz5 HB5 HB5' a0' ⊢
              refine (HG2.out _ _ _ HB5.out).mono ?_
              rintro v w7 ⟨rfl, hb7⟩
              rw [HP.out]
              simp only [E.val]
              have hr7 := (hb7.block w5.heap.size (by omega)).trans hr3
              have h7s := hb7.size
              have hr8 : (w7.alloc (.cells #[.string k3, .int .i64 q3, .bool g3, .string v3, .int .i64 t3] 41)).heap[w5.heap.size]? = some (.cells #[.string k3, .int .i64 q3, .bool g3, .string v3, .int .i64 t3] 38 (0, 0)) := (Below.heap_alloc _ _ _ (by omega)).trans hr7
              have c0 : (w7.alloc (.cells #[.string k3, .int .i64 q3, .bool g3, .string v3, .int .i64 t3] 41)).cell? ⟨w5.heap.size, 0, none⟩ = some (.string k3) := cell_of_row _ _ _ _ _ _ hr8
              have c1 : (w7.alloc (.cells #[.string k3, .int .i64 q3, .bool g3, .string v3, .int .i64 t3] 41)).cell? ⟨w5.heap.size, 1, none⟩ = some (.int .i64 q3) := cell_of_row _ _ _ _ _ _ hr8
              have c2 : (w7.alloc (.cells #[.string k3, .int .i64 q3, .bool g3, .string v3, .int .i64 t3] 41)).cell? ⟨w5.heap.size, 2, none⟩ = some (.bool g3) := cell_of_row _ _ _ _ _ _ hr8
              have c3 : (w7.alloc (.cells #[.string k3, .int .i64 q3, .bool g3, .string v3, .int .i64 t3] 41)).cell? ⟨w5.heap.size, 3, none⟩ = some (.string v3) := cell_of_row _ _ _ _ _ _ hr8
              have c4 : (w7.alloc (.cells #[.string k3, .int .i64 q3, .bool g3, .string v3, .int .i64 t3] 41)).cell? ⟨w5.heap.size, 4, none⟩ = some (.int .i64 t3) := cell_of_row _ _ _ _ _ _ hr8
              have HB8 : Hid (Below (x + 2) wi0 (w7.alloc (.cells #[.string k3, .int .i64 q3, .bool g3, .string v3, .int .i64 t3] 41))) := Lib.hid ((HB5'.out.trans (hb7.mono (by have := HB5'.out.size; have := HZI.out; omega))).alloc (by have := HB5'.out.size; have := HZI.out; omega) _)
              clear hb7 hr7 hr8 hr3 HB5 HB5' HP
              go_wp2
              go_roundw
              case rel => exact ⟨2, by omega, by go_num, HB8.out⟩
              case measure => simp [intOf]
            · have hle : q1 ≤ 0 := by omega
              go_wp2_with fail
              refine (HG1.out _ _ _ HBI.out).mono ?_
              rintro v w5 ⟨rfl, hb5⟩
              generalize hp : gt k1 _ = p
              have HP := Lib.hid hp
              clear hp
              obtain ⟨⟨k3, q3, g3, v3, t3⟩, is3⟩ := p
              have hneq := fun W => rent_neq W k3 q3 g3 v3 t3
              have hr3 := heap_alloc_new w5 (.cells #[.string k3, .int .i64 q3, .bool g3, .string v3, .int .i64 t3] 38)
              have hsz5 : (w5.alloc (.cells #[.string k3, .int .i64 q3, .bool g3, .string v3, .int .i64 t3] 38)).heap.size = w5.heap.size + 1 := by simp
              have HB5 : Hid (Below w'.heap.size w' (w5.alloc (.cells #[.string k3, .int .i64 q3, .bool g3, .string v3, .int .i64 t3] 38))) := Lib.hid ((HBI.out.trans (hb5.mono HBI.out.size)).alloc (by have := HBI.out.size; have := hb5.size; omega) _)
              have HB5' : Hid (Below (x + 2) wi0 (w5.alloc (.cells #[.string k3, .int .i64 q3, .bool g3, .string v3, .int .i64 t3] 38))) := Lib.hid ((HBX.out.trans (hb5.mono (by have := hwz; omega))).alloc (by have := hb5.size; omega) _)
              have a0' : (w5.alloc (.cells #[.string k3, .int .i64 q3, .bool g3, .string v3, .int .i64 t3] 38)).cell? ⟨x, 0, none⟩ = some (.string k1) := (HB5'.out.cell (p := ⟨x, 0, none⟩) (show x < x + 2 by omega)).trans (cell_of_row _ _ _ _ _ _ HR0.out)
              simp only [E.val]
              clear hb5
              go_wp2_with fail
              generalize w5.alloc (.cells #[.string k3, .int .i64 q3, .bool g3, .string v3, .int .i64 t3] 38) = w6 at hr3 hsz5 HB5 HB5' a0' ⊢
              refine (HG2.out _ _ _ HB5.out).mono ?_
              rintro v w7 ⟨rfl, hb7⟩
              rw [HP.out]
              simp only [E.val]
              have hr7 := (hb7.block w5.heap.size (by omega)).trans hr3
              have h7s := hb7.size
              have hr8 : (w7.alloc (.cells #[.string k3, .int .i64 q3, .bool g3, .string v3, .int .i64 t3] 41)).heap[w5.heap.size]? = some (.cells #[.string k3, .int .i64 q3, .bool g3, .string v3, .int .i64 t3] 38 (0, 0)) := (Below.heap_alloc _ _ _ (by omega)).trans hr7
              have c0 : (w7.alloc (.cells #[.string k3, .int .i64 q3, .bool g3, .string v3, .int .i64 t3] 41)).cell? ⟨w5.heap.size, 0, none⟩ = some (.string k3) := cell_of_row _ _ _ _ _ _ hr8
              have c1 : (w7.alloc (.cells #[.string k3, .int .i64 q3, .bool g3, .string v3, .int .i64 t3] 41)).cell? ⟨w5.heap.size, 1, none⟩ = some (.int .i64 q3) := cell_of_row _ _ _ _ _ _ hr8
              have c2 : (w7.alloc (.cells #[.string k3, .int .i64 q3, .bool g3, .string v3, .int .i64 t3] 41)).cell? ⟨w5.heap.size, 2, none⟩ = some (.bool g3) := cell_of_row _ _ _ _ _ _ hr8
              have c3 : (w7.alloc (.cells #[.string k3, .int .i64 q3, .bool g3, .string v3, .int .i64 t3] 41)).cell? ⟨w5.heap.size, 3, none⟩ = some (.string v3) := cell_of_row _ _ _ _ _ _ hr8
              have c4 : (w7.alloc (.cells #[.string k3, .int .i64 q3, .bool g3, .string v3, .int .i64 t3] 41)).cell? ⟨w5.heap.size, 4, none⟩ = some (.int .i64 t3) := cell_of_row _ _ _ _ _ _ hr8
              have HB8 : Hid (Below (x + 2) wi0 (w7.alloc (.cells #[.string k3, .int .i64 q3, .bool g3, .string v3, .int .i64 t3] 41))) := Lib.hid ((HB5'.out.trans (hb7.mono (by have := HB5'.out.size; have := HZI.out; omega))).alloc (by have := HB5'.out.size; have := HZI.out; omega) _)
              clear hb7 hr7 hr8 hr3 HB5 HB5' HP
              go_wp2
              go_roundw
              case rel => exact ⟨2, by omega, by go_num, HB8.out⟩
              case measure => simp [intOf]
          · by_cases hy2 : y = 2
            · subst hy2
              have d0 : wr.cell? ⟨x + 1, 2, none⟩ = some (.int .i64 1) := cell_of_row _ _ _ _ _ _ hr1
              clear hbi hr0 hr1
              by_cases hpos : q1 < 4611686018427387904
              · have hw1 : IntKind.i64.wrap (q1 + 1) = q1 + 1 := wrap_in _ (by omega)
                go_wp2_with fail
                refine (HG1.out _ _ _ HBI.out).mono ?_
                rintro v w5 ⟨rfl, hb5⟩
                generalize hp : gt k1 _ = p
                have HP := Lib.hid hp
                clear hp
                obtain ⟨⟨k3, q3, g3, v3, t3⟩, is3⟩ := p
                have hneq := fun W => rent_neq W k3 q3 g3 v3 t3
                have hr3 := heap_alloc_new w5 (.cells #[.string k3, .int .i64 q3, .bool g3, .string v3, .int .i64 t3] 38)
                have hsz5 : (w5.alloc (.cells #[.string k3, .int .i64 q3, .bool g3, .string v3, .int .i64 t3] 38)).heap.size = w5.heap.size + 1 := by simp
                have HB5 : Hid (Below w'.heap.size w' (w5.alloc (.cells #[.string k3, .int .i64 q3, .bool g3, .string v3, .int .i64 t3] 38))) := Lib.hid ((HBI.out.trans (hb5.mono HBI.out.size)).alloc (by have := HBI.out.size; have := hb5.size; omega) _)
                have HB5' : Hid (Below (x + 2) wi0 (w5.alloc (.cells #[.string k3, .int .i64 q3, .bool g3, .string v3, .int .i64 t3] 38))) := Lib.hid ((HBX.out.trans (hb5.mono (by have := hwz; omega))).alloc (by have := hb5.size; omega) _)
                have a0' : (w5.alloc (.cells #[.string k3, .int .i64 q3, .bool g3, .string v3, .int .i64 t3] 38)).cell? ⟨x, 0, none⟩ = some (.string k1) := (HB5'.out.cell (p := ⟨x, 0, none⟩) (show x < x + 2 by omega)).trans (cell_of_row _ _ _ _ _ _ HR0.out)
                simp only [E.val]
                clear hb5
                go_wp2_with fail
                generalize w5.alloc (.cells #[.string k3, .int .i64 q3, .bool g3, .string v3, .int .i64 t3] 38) = w6 at hr3 hsz5 HB5 HB5' a0' ⊢
                refine (HG2.out _ _ _ HB5.out).mono ?_
                rintro v w7 ⟨rfl, hb7⟩
                rw [HP.out]
                simp only [E.val]
                have hr7 := (hb7.block w5.heap.size (by omega)).trans hr3
                have h7s := hb7.size
                have hr8 : (w7.alloc (.cells #[.string k3, .int .i64 q3, .bool g3, .string v3, .int .i64 t3] 41)).heap[w5.heap.size]? = some (.cells #[.string k3, .int .i64 q3, .bool g3, .string v3, .int .i64 t3] 38 (0, 0)) := (Below.heap_alloc _ _ _ (by omega)).trans hr7
                have c0 : (w7.alloc (.cells #[.string k3, .int .i64 q3, .bool g3, .string v3, .int .i64 t3] 41)).cell? ⟨w5.heap.size, 0, none⟩ = some (.string k3) := cell_of_row _ _ _ _ _ _ hr8
                have c1 : (w7.alloc (.cells #[.string k3, .int .i64 q3, .bool g3, .string v3, .int .i64 t3] 41)).cell? ⟨w5.heap.size, 1, none⟩ = some (.int .i64 q3) := cell_of_row _ _ _ _ _ _ hr8
                have c2 : (w7.alloc (.cells #[.string k3, .int .i64 q3, .bool g3, .string v3, .int .i64 t3] 41)).cell? ⟨w5.heap.size, 2, none⟩ = some (.bool g3) := cell_of_row _ _ _ _ _ _ hr8
                have c3 : (w7.alloc (.cells #[.string k3, .int .i64 q3, .bool g3, .string v3, .int .i64 t3] 41)).cell? ⟨w5.heap.size, 3, none⟩ = some (.string v3) := cell_of_row _ _ _ _ _ _ hr8
                have c4 : (w7.alloc (.cells #[.string k3, .int .i64 q3, .bool g3, .string v3, .int .i64 t3] 41)).cell? ⟨w5.heap.size, 4, none⟩ = some (.int .i64 t3) := cell_of_row _ _ _ _ _ _ hr8
                have HB8 : Hid (Below (x + 2) wi0 (w7.alloc (.cells #[.string k3, .int .i64 q3, .bool g3, .string v3, .int .i64 t3] 41))) := Lib.hid ((HB5'.out.trans (hb7.mono (by have := HB5'.out.size; have := HZI.out; omega))).alloc (by have := HB5'.out.size; have := HZI.out; omega) _)
                clear hb7 hr7 hr8 hr3 HB5 HB5' HP
                go_wp2
                go_roundw
                case rel => exact ⟨3, by omega, by go_num, HB8.out⟩
                case measure => simp [intOf]
              · have hle : 4611686018427387904 ≤ q1 := by omega
                go_wp2_with fail
                refine (HG1.out _ _ _ HBI.out).mono ?_
                rintro v w5 ⟨rfl, hb5⟩
                generalize hp : gt k1 _ = p
                have HP := Lib.hid hp
                clear hp
                obtain ⟨⟨k3, q3, g3, v3, t3⟩, is3⟩ := p
                have hneq := fun W => rent_neq W k3 q3 g3 v3 t3
                have hr3 := heap_alloc_new w5 (.cells #[.string k3, .int .i64 q3, .bool g3, .string v3, .int .i64 t3] 38)
                have hsz5 : (w5.alloc (.cells #[.string k3, .int .i64 q3, .bool g3, .string v3, .int .i64 t3] 38)).heap.size = w5.heap.size + 1 := by simp
                have HB5 : Hid (Below w'.heap.size w' (w5.alloc (.cells #[.string k3, .int .i64 q3, .bool g3, .string v3, .int .i64 t3] 38))) := Lib.hid ((HBI.out.trans (hb5.mono HBI.out.size)).alloc (by have := HBI.out.size; have := hb5.size; omega) _)
                have HB5' : Hid (Below (x + 2) wi0 (w5.alloc (.cells #[.string k3, .int .i64 q3, .bool g3, .string v3, .int .i64 t3] 38))) := Lib.hid ((HBX.out.trans (hb5.mono (by have := hwz; omega))).alloc (by have := hb5.size; omega) _)
                have a0' : (w5.alloc (.cells #[.string k3, .int .i64 q3, .bool g3, .string v3, .int .i64 t3] 38)).cell? ⟨x, 0, none⟩ = some (.string k1) := (HB5'.out.cell (p := ⟨x, 0, none⟩) (show x < x + 2 by omega)).trans (cell_of_row _ _ _ _ _ _ HR0.out)
                simp only [E.val]
                clear hb5
                go_wp2_with fail
                generalize w5.alloc (.cells #[.string k3, .int .i64 q3, .bool g3, .string v3, .int .i64 t3] 38) = w6 at hr3 hsz5 HB5 HB5' a0' ⊢
                refine (HG2.out _ _ _ HB5.out).mono ?_
                rintro v w7 ⟨rfl, hb7⟩
                rw [HP.out]
                simp only [E.val]
                have hr7 := (hb7.block w5.heap.size (by omega)).trans hr3
                have h7s := hb7.size
                have hr8 : (w7.alloc (.cells #[.string k3, .int .i64 q3, .bool g3, .string v3, .int .i64 t3] 41)).heap[w5.heap.size]? = some (.cells #[.string k3, .int .i64 q3, .bool g3, .string v3, .int .i64 t3] 38 (0, 0)) := (Below.heap_alloc _ _ _ (by omega)).trans hr7
                have c0 : (w7.alloc (.cells #[.string k3, .int .i64 q3, .bool g3, .string v3, .int .i64 t3] 41)).cell? ⟨w5.heap.size, 0, none⟩ = some (.string k3) := cell_of_row _ _ _ _ _ _ hr8
                have c1 : (w7.alloc (.cells #[.string k3, .int .i64 q3, .bool g3, .string v3, .int .i64 t3] 41)).cell? ⟨w5.heap.size, 1, none⟩ = some (.int .i64 q3) := cell_of_row _ _ _ _ _ _ hr8
                have c2 : (w7.alloc (.cells #[.string k3, .int .i64 q3, .bool g3, .string v3, .int .i64 t3] 41)).cell? ⟨w5.heap.size, 2, none⟩ = some (.bool g3) := cell_of_row _ _ _ _ _ _ hr8
                have c3 : (w7.alloc (.cells #[.string k3, .int .i64 q3, .bool g3, .string v3, .int .i64 t3] 41)).cell? ⟨w5.heap.size, 3, none⟩ = some (.string v3) := cell_of_row _ _ _ _ _ _ hr8
                have c4 : (w7.alloc (.cells #[.string k3, .int .i64 q3, .bool g3, .string v3, .int .i64 t3] 41)).cell? ⟨w5.heap.size, 4, none⟩ = some (.int .i64 t3) := cell_of_row _ _ _ _ _ _ hr8
                have HB8 : Hid (Below (x + 2) wi0 (w7.alloc (.cells #[.string k3, .int .i64 q3, .bool g3, .string v3, .int .i64 t3] 41))) := Lib.hid ((HB5'.out.trans (hb7.mono (by have := HB5'.out.size; have := HZI.out; omega))).alloc (by have := HB5'.out.size; have := HZI.out; omega) _)
                clear hb7 hr7 hr8 hr3 HB5 HB5' HP
                go_wp2
                go_roundw
                case rel => exact ⟨3, by omega, by go_num, HB8.out⟩
                case measure => simp [intOf]
            · have hy3 : y = 3 := by omega
              subst hy3
              clear hbi hr0 hr1
              go_wp2
              go_roundw
              case rel => exact ⟨j + 1, by omega, by go_num, HBI.out⟩
              case measure => simp [intOf]; omega
    · have hjn : j = m + k := by omega
      subst hjn
      have HE : Hid (Below w.heap.size w wr) := Lib.hid (HB3.out.trans (HBW.out.mono hle3))
      clear hbw
      go_wp2
      go_ret
      exact ⟨rfl, HE.out⟩

set_option maxRecDepth 100000 in
theorem contract (H : Type) (enc : TypeId × Value → H) (W : World) (base : Nat) (args : Array Value) (ds gs : List (DataW H)) (before : List MemPlace)
    (hval : ∀ (j : Nat) t v, Try.f4.params[j]? = some t → args[j]? = some v → Value.okWide Try.prog W .any base t v)
    (hW : DataW.Whole enc Try.prog Try.f4.params.toList Rows.skipGetsSpec.vars false W args.toList ds gs before)
    (hz : (DataW.weightsEach Try.prog Try.f4.params.toList (ds ++ gs)).all (· ≤ reachBytes) = true) :
    Calls Try.prog 4 args W fun e W' => ∃ v, e = .returned v ∧ Rows.skipGetsSpec.post enc Try.prog Try.f4 false true false false W args v W' := by
  have hW' := hW
  obtain ⟨p, q, hA0, hV, rfl, hfz, hnd⟩ := hW
  have hA : DataW.TrodAll enc Try.prog W 0 (fun _ => true) true Try.f4.params.toList args.toList ds p := hA0
  rw [Try.params4] at hA hval hz
  obtain ⟨v0, vs0, d0, ds0, p0, q0, hargs, rfl, rfl, h0, r0⟩ := trodAll_cons hA
  obtain ⟨v1, vs1, d1, ds1, p1, q1, rfl, rfl, rfl, h1, r1⟩ := trodAll_cons r0
  obtain ⟨v2, vs2, d2, ds2, p2, q2, rfl, rfl, rfl, h2, r2⟩ := trodAll_cons r1
  obtain ⟨rfl, rfl, rfl⟩ := trodAll_nil r2
  obtain rfl : args = #[v0, v1, v2] := by cases args; simp_all
  obtain ⟨rfl, rfl⟩ := trodVars_none hV
  obtain ⟨cA, cN, cC, c, rfl, hlenc, hinc, hbc⟩ := open_coins Try.underlying22 Try.underlying3 (by kernel_rfl) (by kernel_rfl) (hval 0 22 v0 rfl rfl) h0 (parts_sized hz (j := 0) rfl rfl)
  obtain ⟨pA, pN, pC, p, rfl, hlenp, hinp, hbp, hcapp⟩ := open_ents (hval 1 23 v1 rfl rfl) h1 (parts_sized hz (j := 1) rfl rfl)
  obtain ⟨aA, aN, aC, a, rfl, hlena, hina, hba, hcapa⟩ := open_ents (hval 2 23 v2 rfl rfl) h2 (parts_sized hz (j := 2) rfl rfl)
  refine (walk cA cN cC c pA pN pC p aA aN aC a W hlenc hinc hbc hlenp hinp hbp hcapp hlena hina hcapa).mono fun e W' ⟨he, hB⟩ => ?_
  subst he
  exact ⟨_, rfl, law_post Try.laidOut (by kernel_rfl) rfl rfl Try.underlying4 hW' rfl hB⟩

set_option maxRecDepth 100000 in
theorem lifted (os : Os) (started : os.Started) (H : Type) (enc : TypeId × Value → H) :
    ReturnsInHanded {} Try.checked os 4 .any (Rows.skipGetsSpec.pre6 enc Try.prog Try.f4 Rows.skipGetsRow.domain false) (Rows.skipGetsSpec.post enc Try.prog Try.f4 false true false false) := by
  refine returnsInHanded_of_change_sized (C := Try.checked) Try.own started (by kernel_rfl) Try.func4
    (ChangeSpec.witness6 (enc := enc) (C := Try.checked) false ⟨#[], #[.slice none 0 0, .slice none 0 0, .slice none 0 0], []⟩ 8 (by kernel_rfl) (by kernel_rfl) (by kernel_rfl) (by kernel_rfl)) ?_
  intro W base args ds gs before hval hW _ hz _
  exact contract H enc W base args ds gs before hval hW hz

theorem proved : Rows.SkipGetsSaid :=
  OpenClaim.holds_of_wide 4 Try.f4 rfl rfl rfl rfl rfl rfl rfl ⟨rfl, rfl, rfl, rfl, rfl⟩ rfl rfl rfl rfl rfl (by kernel_rfl) Try.func4 (by kernel_rfl)
    (of_decide_eq_true (by kernel_rfl)) (by unfold Func.isWrapper; first | (rw [if_pos (by decide +kernel)]; kernel_rfl) | (rw [if_neg (by decide +kernel)]; exact ⟨rfl, rfl⟩))
    (fun os started H enc _ => lifted os started H enc)
end lawGets
end Go.Proofs.Ytgbpnicijllmoaa
