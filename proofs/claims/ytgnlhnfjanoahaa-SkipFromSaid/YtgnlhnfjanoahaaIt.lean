/- The iterator that From makes: its contract. -/
import Derived.RangeFuncNested
import Derived.RangeFuncBound
import Derived.RangeFuncCalls
import Derived.RangeFuncLeaves
import Derived.Shelf.Abstract
import Derived.Shelf.RegionOpen
import Derived.WalkKit
import Derived.OwnWalkIn
import Derived.TacticsInMore
import Derived.LoopNIn
import Derived.LoopIn
import Derived.Test.YtgnlhnfjanoahaaPw
namespace Go.Proofs.Ytgnlhnfjanoahaa
open Go.RowKit Go.Shelf
open SK
attribute [local go_sem] Oper.semAt_some

/-- what a round leaves: all blocks below N but some -/
structure Kept (S : List Nat) (N : Nat) (w w' : World) : Prop where
  os : w'.os = w.os
  tape : w'.tape = w.tape
  output : w'.output = w.output
  size : w.heap.size ≤ w'.heap.size
  block : ∀ k, k < N → k ∉ S → w'.heap[k]? = w.heap[k]?

theorem Kept.of_below {S : List Nat} {N : Nat} {w w' : World} (h : Below N w w') : Kept S N w w' := ⟨h.os, h.tape, h.output, h.size, fun k hk _ => h.block k hk⟩
theorem Kept.refl (S : List Nat) (N : Nat) (w : World) : Kept S N w w := .of_below (Below.refl _ _)
theorem Kept.trans {S : List Nat} {N : Nat} {a b c : World} (h : Kept S N a b) (k : Kept S N b c) : Kept S N a c :=
  ⟨k.os.trans h.os, k.tape.trans h.tape, k.output.trans h.output, Nat.le_trans h.size k.size, fun x hx hn => (k.block x hx hn).trans (h.block x hx hn)⟩
theorem Kept.set {S : List Nat} {N : Nat} {w w1 : World} (h : Kept S N w w1) (b j : Nat) (v : Value) (hb : b ∈ S ∨ N ≤ b) : Kept S N w (w1.setCell ⟨b, j, none⟩ v) :=
  ⟨h.os, h.tape, h.output, by rw [setCell_size]; exact h.size, fun x hx hn => (Below.heap_setCell _ _ _ _ (by
    rcases hb with hb | hb
    · exact fun e => hn (e ▸ hb)
    · show x ≠ b
      omega)).trans (h.block x hx hn)⟩
theorem Kept.cell {S : List Nat} {N : Nat} {w w' : World} (h : Kept S N w w') {b j : Nat} (hb : b < N) (hn : b ∉ S) : w'.cell? ⟨b, j, none⟩ = w.cell? ⟨b, j, none⟩ := World.cell?_of_block (h.block b hb hn)
theorem Kept.put {S : List Nat} {N : Nat} {w : World} (W : World) (l : Nat) (o o' : Obj) (hN : N ≤ w.heap.size) (hl : w.heap.size ≤ l) (h : W.heap[l]? = some o) (_ : o.isCells = false) (_ : o.isWalk = false) : Kept S N W (W.putObj l o') :=
  .of_below ((Below.refl N W).grown (grownBy_putObj' W l o') (by have := (Array.getElem?_eq_some_iff.1 h).1; omega) (fun k e => by cases e; omega))

/-- how many nodes are to come, by the place of the node at hand -/
def leftOf (post : List ND) (v : Value) : Nat := match v with | .pointer (some a) => post.length - (post.map (·.b)).idxOf a.block | _ => 0

theorem leftOf_at {p r : List ND} {d : ND} (h : ((p ++ d :: r).map (·.b)).Nodup) : leftOf (p ++ d :: r) (pv (some d.b)) = r.length + 1 := by
  have hn : d.b ∉ p.map (·.b) := fun hm => by
    rw [List.map_append, List.map_cons] at h
    exact (List.nodup_append.1 h).2.2 _ hm _ (by simp) rfl
  simp only [leftOf, pv, Option.map_some, List.map_append, List.map_cons]
  rw [List.idxOf_append, if_neg hn, List.idxOf_cons_self]
  simp

theorem blocks_nodup {l : List ND} (h : (blks l).Nodup) : (l.map (·.b)).Nodup := by
  induction l with
  | nil => simp
  | cons d r ih =>
    rw [blks_cons, List.nodup_cons, List.nodup_cons] at h
    refine List.nodup_cons.2 ⟨fun hm => h.1 ?_, ih h.2.2⟩
    obtain ⟨x, hx, he⟩ := List.mem_map.1 hm
    have he' : d.b = x.b := he.symm
    rw [he']
    refine List.mem_cons_of_mem _ ?_
    unfold blks
    exact List.mem_flatMap.2 ⟨x, hx, by simp⟩

theorem leftOf_none (post : List ND) : leftOf post (pv none) = 0 := rfl
theorem leftOf_next {post p r : List ND} {d : ND} (hp : post = p ++ d :: r) (h : (post.map (·.b)).Nodup) : leftOf post (pv (r.head?.map (·.b))) < leftOf post (pv (some d.b)) := by
  subst hp
  rw [leftOf_at h]
  cases r with
  | nil => simp [leftOf_none]
  | cons x r =>
    have e : p ++ d :: x :: r = (p ++ [d]) ++ x :: r := by simp
    rw [e] at h ⊢
    simp only [List.head?_cons, Option.map_some]
    rw [leftOf_at h]
    simp

set_option maxRecDepth 100000 in
set_option maxHeartbeats 4000000 in
theorem iter_any {B : Nat} {W : World} {a hb : Nat} {cs : List Int} {l : List ND} {s : St} (h : Rep B W a hb cs l s) (ok : Ok s) (S0 : List Nat) (n₀ b0 b1 : Nat) (hb0 : b0 < n₀) (hb1 : b1 < n₀) (hlt : ∀ x ∈ a :: hb :: blks l, x < n₀ ∧ x ∉ S0) (hn₀ : n₀ ≤ W.heap.size) (k : ByteArray)
    (n : Nat) (id : Nat) (J Jx : List E → World → Prop) (hJ : AbidesFrom W.heap.size J)
    (hY : ∀ pre x W1, J pre W1 → pre.length < (from_ s.l k).length → YieldAt Fence.wide (n - 1) Try.prog id #[x.val] W1 fun e W' =>
      (e = .returned (.bool true) ∧ J (pre ++ [x]) W' ∧ Kept S0 n₀ W1 W') ∨ (e = .returned (.bool false) ∧ Jx (pre ++ [x]) W'))
    (c0 : W.cell? ⟨b0, 0, none⟩ = some (.pointer (some ⟨a, 0, none⟩))) (c1 : W.cell? ⟨b1, 0, none⟩ = some (.string k)) (h0 : J [] W) :
    CallsIn Fence.wide n Try.prog 19 #[.func (.yield id) #[] #[], .pointer (some ⟨b0, 0, none⟩), .pointer (some ⟨b1, 0, none⟩)] W fun e W' => (∃ v, e = .returned v) ∧
      ((∃ ys, ys = from_ s.l k ∧ J ys W') ∨ (∃ pre, pre <+: from_ s.l k ∧ Jx pre W')) := by
  obtain ⟨pre0, post, hl, h1, h2, -, h4⟩ := h.split ok.sorted (askE k 9223372036854775807)
  have hfr : from_ s.l k = post.map (·.e) := by rw [from_rest ok.sorted (fun x hx => (ok.wf x hx).seq.2) k, h4]
  have HFI : Hid (∀ w', Below W.heap.size W w' → Calls Try.prog 20 #[.pointer (some ⟨a, 0, none⟩), (askE k 9223372036854775807).val] w' fun r w'' => r = .returned (pv (post.head?.map (·.b))) ∧ Below w'.heap.size w' w'') := fun w' hB => find_any (h.below hB) _ pre0 post hl h1 h2
  have HNE : Hid (∀ w', Calls Try.prog 21 #[.string k] w' fun r w'' => r = .returned (askE k 9223372036854775807).val ∧ Below w'.heap.size w' w'') := fun w' => newest_any k w'
  simp only [askE, E.val] at HFI HNE
  obtain ⟨ph, hph⟩ : ∃ ph, (post.head?.map (·.b)).map (fun b => (⟨b, 0, none⟩ : Addr)) = ph := ⟨_, rfl⟩
  have hpv : pv (post.head?.map (·.b)) = .pointer ph := by rw [← hph]; rfl
  rw [hpv] at HFI
  have HPV := Lib.hid hpv
  rw [hfr] at hY ⊢
  have HY := Lib.hid hY
  have HJ := Lib.hid hJ
  have HJ0 := Lib.hid h0
  have HREP := Lib.hid h
  have HLT := Lib.hid hlt
  have HWF : Hid (∀ d ∈ post, d.e.key.size ≤ 281474976710656 ∧ d.e.value.size ≤ 281474976710656) := Lib.hid fun d hd => by
    have := ok.wf d.e (by rw [← h.ents, hl]; exact List.mem_map_of_mem (List.mem_append_right _ hd))
    exact ⟨by have := this.key; omega, by have := this.value; omega⟩
  have HND : Hid ((post.map (·.b)).Nodup) := Lib.hid (by
    have := h.nodup
    rw [List.nodup_cons, List.nodup_cons, hl, blks_app] at this
    exact blocks_nodup (List.nodup_append.1 this.2.2).2.1)
  have HL := Lib.hid hl
  clear hY hJ h0 hlt h1 h2 h4 hfr ok hl hph hpv h
  refine callsIn_of_wp Try.func19 rfl trivial ?_ rfl
  simp only [Try.ntmps19, List.size_toArray, List.length_cons, List.length_nil, Nat.reduceAdd, Nat.reduceSub, Array.replicate_succ, Array.replicate_zero, List.push_toArray, List.append_toArray, List.nil_append, List.cons_append]
  refine wpIn_wide.2 ?_
  go_wp2_with fail
  have hlt0 : b0 < W.heap.size := by omega
  have hlt1 : b1 < W.heap.size := by omega
  go_region_held3 (fun w' => w'.cell? ⟨b0, 0, none⟩ = some (.pointer (some ⟨a, 0, none⟩)) ∧ w'.cell? ⟨b1, 0, none⟩ = some (.string k))
    (first | go_keep | exact HS1.out | exact HS2.out | fail)
    (first
      | (go_at_call 21; refine (HNE.out _).mono ?_; rintro r w1 ⟨rfl, hb'⟩
         have HB1 : Hid (Below W.heap.size W w1) := Lib.hid (Below.trans ((Below.refl _ W).drew) hb')
         have d0 : w1.cell? ⟨b0, 0, none⟩ = some (.pointer (some ⟨a, 0, none⟩)) := (HB1.out.cell (p := ⟨b0, 0, none⟩) hlt0).trans c0
         have d1 : w1.cell? ⟨b1, 0, none⟩ = some (.string k) := (HB1.out.cell (p := ⟨b1, 0, none⟩) hlt1).trans c1
         have HS1 : Hid (w1.cell? ⟨b0, 0, none⟩ = some (.pointer (some ⟨a, 0, none⟩)) ∧ w1.cell? ⟨b1, 0, none⟩ = some (.string k)) := Lib.hid ⟨d0, d1⟩
         clear hb')
      | (go_at_call 20; refine (HFI.out _ HB1.out).mono ?_; rintro r w2 ⟨rfl, hb'⟩
         have HB2 : Hid (Below W.heap.size W w2) := Lib.hid (HB1.out.trans (hb'.mono HB1.out.size))
         have HS2 : Hid (w2.cell? ⟨b0, 0, none⟩ = some (.pointer (some ⟨a, 0, none⟩)) ∧ w2.cell? ⟨b1, 0, none⟩ = some (.string k)) := Lib.hid ⟨(HB2.out.cell (p := ⟨b0, 0, none⟩) hlt0).trans c0, (HB2.out.cell (p := ⟨b1, 0, none⟩) hlt1).trans c1⟩
         clear hb')
      | fail)
  all_goals
    have HJ2 : Hid (J [] w2) := Lib.hid (HJ.out [] W w2 none HJ0.out (grown_below HB2.out) (fun r e => by cases e))
    clear HS1 HS2 HNE HFI
    go_wp2_with fail
    refine (wpIn_wide (n := n)).1 ?_
    gi_loopw [4] (fun p wr => ∃ (done rest : List ND), post = done ++ rest ∧ p = pv (rest.head?.map (·.b)) ∧ Kept S0 n₀ W wr ∧ W.heap.size ≤ wr.heap.size ∧ J (done.map (·.e)) wr) (fun p _ => leftOf post p)
    case atStart => exact ⟨[], post, rfl, HPV.out.symm, Kept.of_below (HB2.out.mono hn₀), HB2.out.size, HJ2.out⟩
    case round =>
      obtain ⟨done, rest, hpost, rfl, hbw, hsz, hjs⟩ := hrel
      have HPOST := Lib.hid hpost
      have HBW := Lib.hid hbw
      have HSZ := Lib.hid hsz
      have HJS := Lib.hid hjs
      clear hbw hsz hjs
      cases rest with
      | nil =>
        simp only [List.head?_nil, Option.map_none, pv]
        gi_wp2
        go_end0
        exact ⟨⟨_, rfl⟩, .inl ⟨done.map (·.e), by rw [HPOST.out]; simp, HJS.out⟩⟩
      | cons d rest =>
        simp only [List.head?_cons, Option.map_some, pv]
        have hrw : Rep B wr a hb cs l s := HREP.out.same (fun x hx => HBW.out.block x (HLT.out x hx).1 (HLT.out x hx).2) HBW.out.size
        have hdl : d ∈ l := by rw [HL.out, hpost]; simp
        have hnd := hrw.node hdl
        have hfull := HREP.out.full
        have hl2 : l = (pre0 ++ done ++ [d]) ++ rest := by rw [HL.out, hpost]; simp
        obtain ⟨htow, htn, -⟩ := hrw.tower (pre0 ++ done ++ [d]) rest hl2 0 (fun d' hd => by simp at hd; rw [← hd]; have := (hfull d hdl).2.1; omega) (by omega)
        rw [nx0_head fun d' hd => (hfull d' (by rw [hl2]; simp [hd])).2.1] at htow
        simp only [List.getLast?_append, List.getLast?_singleton, Option.some_or, towerB, towerO, towerN, Nat.zero_add] at htow htn
        have HCL : Hid (∀ w', Calls Try.prog 22 #[d.e.val] w' fun r w'' => r = .returned d.e.val ∧ Below w'.heap.size w' w'') := fun w' => eclone_any d.e w' (HWF.out d (by rw [hpost]; simp))
        have hdn : d.b < n₀ ∧ d.b ∉ S0 := HLT.out _ (by rw [hl2]; simp [blks])
        have htn0 : d.t < n₀ ∧ d.t ∉ S0 := HLT.out _ (by rw [hl2]; simp [blks])
        have HLEFT : Hid (leftOf post (pv (rest.head?.map (·.b))) < leftOf post (.pointer (some ⟨d.b, 0, none⟩))) := Lib.hid (leftOf_next hpost HND.out)
        have hlen : (done.map (·.e)).length < (post.map (·.e)).length := by rw [hpost]; simp
        have HDE : Hid ((done.map (·.e)) ++ [d.e] = (done ++ [d]).map (·.e)) := Lib.hid (by simp)
        have HPRE : Hid (((done.map (·.e)) ++ [d.e]) <+: post.map (·.e)) := Lib.hid ⟨rest.map (·.e), by rw [hpost]; simp⟩
        have HPO2 : Hid (post = (done ++ [d]) ++ rest) := Lib.hid (by rw [hpost]; simp)
        obtain ⟨pn, hpn⟩ : ∃ pn, (rest.head?.map (·.b)).map (fun b => (⟨b, 0, none⟩ : Addr)) = pn := ⟨_, rfl⟩
        have hpv2 : pv (rest.head?.map (·.b)) = .pointer pn := by rw [← hpn]; rfl
        rw [hpv2] at htow HLEFT
        have HPV2 := Lib.hid hpv2
        obtain ⟨bd, hbd⟩ : ∃ b, d.b = b := ⟨_, rfl⟩
        obtain ⟨tw, htw⟩ : ∃ b, d.t = b := ⟨_, rfl⟩
        obtain ⟨dc, hdc⟩ : ∃ b, d.c = b := ⟨_, rfl⟩
        obtain ⟨de, hde⟩ : ∃ b, d.e = b := ⟨_, rfl⟩
        unfold ncells at hnd
        rw [hbd] at hnd hdn HLEFT ⊢
        rw [htw] at hnd htow htn0
        rw [hdc] at hnd htn
        rw [hde] at hnd HCL HDE HPRE
        have HYD := Lib.hid (fun w' hj => HY.out (done.map (·.e)) de w' hj hlen)
        obtain ⟨k2, q2, g2, v2, t2⟩ := de
        simp only [E.val] at hnd HCL HYD
        have hdlt : bd < wr.heap.size := (Array.getElem?_eq_some_iff.1 hnd).1
        have z0 : wr.cell? ⟨bd, 0, none⟩ = some (.string k2) := cell_of_row _ _ _ _ _ _ hnd
        have z1 : wr.cell? ⟨bd, 1, none⟩ = some (.int .i64 q2) := cell_of_row _ _ _ _ _ _ hnd
        have z2 : wr.cell? ⟨bd, 2, none⟩ = some (.bool g2) := cell_of_row _ _ _ _ _ _ hnd
        have z3 : wr.cell? ⟨bd, 3, none⟩ = some (.string v2) := cell_of_row _ _ _ _ _ _ hnd
        have z4 : wr.cell? ⟨bd, 4, none⟩ = some (.int .i64 t2) := cell_of_row _ _ _ _ _ _ hnd
        have z5 : wr.cell? ⟨bd, 5, none⟩ = some (.slice (some ⟨tw, 0, none⟩) dc dc) := cell_of_row _ _ _ _ _ _ hnd
        have hn1 : n₀ ≤ wr.heap.size := Nat.le_trans hn₀ HSZ.out
        have hdc0 : (0 : Int) < (dc : Int) := by omega
        have HTW := Lib.hid htow
        have HZ5 := Lib.hid z5
        clear hrw hdl hnd hfull hl2 htow htn hpn hpv2 hbd htw hdc hde hlen hpost z5 c0 c1
        gi_wp2_with fail
        refine ⟨trivial, fun h => by simp [Fence.wide] at h, ?_⟩
        refine (callsIn_wide.2 (HCL.out _)).mono ?_
        rintro r w3 ⟨rfl, hb3⟩
        have HB3 := Lib.hid hb3
        obtain ⟨fn, tmps, assign, body, hy, hR⟩ := HYD.out w3 (HJ.out _ wr w3 none HJS.out (grown_below hb3) (fun r e => by cases e))
        have HRR := Lib.hid hR
        clear hb3 hR HYD HJS HCL
        gi_wp2_with fail
        refine ⟨fun h => by simp [Fence.wide] at h, ?_⟩
        refine HRR.out.mono ?_
        rintro e W3 (⟨rfl, hJ3, hk3⟩ | ⟨rfl, hJx3⟩)
        · have y5 : W3.cell? ⟨bd, 5, none⟩ = some (.slice (some ⟨tw, 0, none⟩) dc dc) := (hk3.cell hdn.1 hdn.2).trans ((HB3.out.cell (p := ⟨bd, 5, none⟩) (Nat.lt_of_lt_of_le hdn.1 hn1)).trans HZ5.out)
          have yt : W3.cell? ⟨tw, 0, none⟩ = some (.pointer pn) := (hk3.cell htn0.1 htn0.2).trans ((HB3.out.cell (p := ⟨tw, 0, none⟩) (Nat.lt_of_lt_of_le htn0.1 hn1)).trans HTW.out)
          have HJ3 : Hid (J ((done ++ [d]).map (·.e)) W3) := Lib.hid (by rw [← HDE.out]; exact hJ3)
          have HBW3 : Hid (Kept S0 n₀ W W3) := Lib.hid ((HBW.out.trans (Kept.of_below (HB3.out.mono hn1))).trans hk3)
          have HSZ3 : Hid (W.heap.size ≤ W3.heap.size) := Lib.hid (by have := HSZ.out; have := HB3.out.size; have := hk3.size; omega)
          clear hJ3 hk3 HRR hy z0 z1 z2 z3 z4
          gi_wp2
          go_roundw
          case rel => exact ⟨done ++ [d], rest, HPO2.out, HPV2.out.symm, HBW3.out, HSZ3.out, HJ3.out⟩
          case measure =>
            have := HLEFT.out
            simpa using this
        · have HJX : Hid (Jx (done.map (·.e) ++ [⟨k2, q2, g2, v2, t2⟩]) W3) := Lib.hid hJx3
          clear hJx3 HRR hy
          gi_wp2
          refine bodyPost_ret (results_none rfl _ _ _) rfl ?_
          exact ⟨⟨_, rfl⟩, .inr ⟨_, HPRE.out, HJX.out⟩⟩

set_option maxRecDepth 100000 in
set_option maxHeartbeats 1000000 in
theorem iter_nil {W : World} (b0 b1 : Nat) (hb0 : b0 < W.heap.size) (hb1 : b1 < W.heap.size) (k : ByteArray) (n : Nat) (id : Nat) (J : List E → World → Prop) (hJ : AbidesFrom W.heap.size J)
    (c0 : W.cell? ⟨b0, 0, none⟩ = some (.pointer none)) (c1 : W.cell? ⟨b1, 0, none⟩ = some (.string k)) (h0 : J [] W) :
    CallsIn Fence.wide n Try.prog 19 #[.func (.yield id) #[] #[], .pointer (some ⟨b0, 0, none⟩), .pointer (some ⟨b1, 0, none⟩)] W fun e W' => (∃ v, e = .returned v) ∧ J [] W' := by
  have HFI : Hid (∀ w', Calls Try.prog 20 #[.pointer none, (askE k 9223372036854775807).val] w' fun r w'' => r = .returned (.pointer none) ∧ Below w'.heap.size w' w'') := fun w' => find_nil _ w'
  have HNE : Hid (∀ w', Calls Try.prog 21 #[.string k] w' fun r w'' => r = .returned (askE k 9223372036854775807).val ∧ Below w'.heap.size w' w'') := fun w' => newest_any k w'
  simp only [askE, E.val] at HFI HNE
  have HJ := Lib.hid hJ
  have HJ0 := Lib.hid h0
  clear hJ h0
  refine callsIn_of_wp Try.func19 rfl trivial ?_ rfl
  simp only [Try.ntmps19, List.size_toArray, List.length_cons, List.length_nil, Nat.reduceAdd, Nat.reduceSub, Array.replicate_succ, Array.replicate_zero, List.push_toArray, List.append_toArray, List.nil_append, List.cons_append]
  refine wpIn_wide.2 ?_
  go_wp2_with fail
  go_region_held3 (fun w' => w'.cell? ⟨b0, 0, none⟩ = some (.pointer none) ∧ w'.cell? ⟨b1, 0, none⟩ = some (.string k))
    (first | go_keep | exact HS1.out | exact HS2.out | fail)
    (first
      | (go_at_call 21; refine (HNE.out _).mono ?_; rintro r w1 ⟨rfl, hb'⟩
         have HB1 : Hid (Below W.heap.size W w1) := Lib.hid (Below.trans ((Below.refl _ W).drew) hb')
         have d0 : w1.cell? ⟨b0, 0, none⟩ = some (.pointer none) := (HB1.out.cell (p := ⟨b0, 0, none⟩) hb0).trans c0
         have d1 : w1.cell? ⟨b1, 0, none⟩ = some (.string k) := (HB1.out.cell (p := ⟨b1, 0, none⟩) hb1).trans c1
         have HS1 : Hid (w1.cell? ⟨b0, 0, none⟩ = some (.pointer none) ∧ w1.cell? ⟨b1, 0, none⟩ = some (.string k)) := Lib.hid ⟨d0, d1⟩
         clear hb')
      | (go_at_call 20; refine (HFI.out _).mono ?_; rintro r w2 ⟨rfl, hb'⟩
         have HB2 : Hid (Below W.heap.size W w2) := Lib.hid (HB1.out.trans (hb'.mono HB1.out.size))
         have HS2 : Hid (w2.cell? ⟨b0, 0, none⟩ = some (.pointer none) ∧ w2.cell? ⟨b1, 0, none⟩ = some (.string k)) := Lib.hid ⟨(HB2.out.cell (p := ⟨b0, 0, none⟩) hb0).trans c0, (HB2.out.cell (p := ⟨b1, 0, none⟩) hb1).trans c1⟩
         clear hb')
      | fail)
  all_goals
    have HJ2 : Hid (J [] w2) := Lib.hid (HJ.out [] W w2 none HJ0.out (grown_below HB2.out) (fun r e => by cases e))
    clear HS1 HS2 HNE HFI
    go_wp2_with fail
    go_loopw [4] (fun p wr => p = .pointer none ∧ wr = w2) (fun _ _ => 0)
    case atStart => exact ⟨rfl, rfl⟩
    case round =>
      obtain ⟨rfl, rfl⟩ := hrel
      go_wp2
      go_end0
      exact ⟨⟨_, rfl⟩, HJ2.out⟩

theorem from_stops {B : Nat} {w0 : World} {a hb : Nat} {cs : List Int} {l : List ND} {s : St} (h : Rep B w0 a hb cs l s) (ok : Ok s) (S0 : List Nat) (n₀ b0 b1 : Nat) (hb0 : b0 < n₀) (hb1 : b1 < n₀) (hlt : ∀ x ∈ a :: hb :: blks l, x < n₀ ∧ x ∉ S0) (hn₀ : n₀ ≤ w0.heap.size) (k : ByteArray) (n : Nat)
    (c0 : w0.cell? ⟨b0, 0, none⟩ = some (.pointer (some ⟨a, 0, none⟩))) (c1 : w0.cell? ⟨b1, 0, none⟩ = some (.string k)) :
    SeqStopsK Fence.wide n Try.prog 19 #[.pointer (some ⟨b0, 0, none⟩), .pointer (some ⟨b1, 0, none⟩)] (fun e : E => #[e.val]) (Kept S0 n₀) (fun ys => ys = from_ s.l k) (fun pre => pre <+: from_ s.l k) (from_ s.l k).length w0 :=
  fun id J Jx W hW hJ _ hY h0 => iter_any (h.below hW) ok S0 n₀ b0 b1 hb0 hb1 hlt (Nat.le_trans hn₀ hW.size) k n id J Jx hJ hY ((hW.cell (p := ⟨b0, 0, none⟩) (by show b0 < _; omega)).trans c0) ((hW.cell (p := ⟨b1, 0, none⟩) (by show b1 < _; omega)).trans c1) h0

theorem nil_stops {w0 : World} (b0 b1 : Nat) (hb0 : b0 < w0.heap.size) (hb1 : b1 < w0.heap.size) (k : ByteArray) (n : Nat) (Kp : World → World → Prop)
    (c0 : w0.cell? ⟨b0, 0, none⟩ = some (.pointer none)) (c1 : w0.cell? ⟨b1, 0, none⟩ = some (.string k)) :
    SeqStopsK Fence.wide n Try.prog 19 #[.pointer (some ⟨b0, 0, none⟩), .pointer (some ⟨b1, 0, none⟩)] (fun e : E => #[e.val]) Kp (fun ys => ys = []) (fun _ => False) 0 w0 :=
  fun id J _ _ hW hJ _ _ h0 => (iter_nil b0 b1 (Nat.lt_of_lt_of_le hb0 hW.size) (Nat.lt_of_lt_of_le hb1 hW.size) k n id J hJ ((hW.cell (p := ⟨b0, 0, none⟩) hb0).trans c0) ((hW.cell (p := ⟨b1, 0, none⟩) hb1).trans c1) h0).mono fun _ _ ⟨h1, h2⟩ => ⟨h1, .inl ⟨[], rfl, h2⟩⟩
end Go.Proofs.Ytgnlhnfjanoahaa
