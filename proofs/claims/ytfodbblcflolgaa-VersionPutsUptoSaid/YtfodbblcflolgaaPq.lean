/- An edit is read: the document's. -/
import Derived.Test.YtfodbblcflolgaaPp
namespace Go.Proofs.Ytfodbblcflolgaa
open Go.RowKit
open VS
attribute [local go_sem ↓] Go.wp_at_zero Go.wp_at_succ

/-- an append whose end is known, at a plain statement -/
theorem list_app {ops : Array Oper} {rest : List Oper} {o : Oper} {a : Act} {Q : Exit → Act → World → Prop} {w : World} (hgd : o.guard = none) (s x : Operand) (ty : TypeId) (ho : o.op = .call { callee := .builtin .append, args := #[s, x], argTypes := #[ty, ty] }) (hty : o.type = ty)
    (v1 v2 : Value) (hs : a.eval s = v1) (hx : a.eval x = v2) (v' : Value) (w' : World) (happ : (Builtin.append_ #[ty, ty] ty #[v1, v2]).run Try.prog w = .ok v' w') (h : wpList Try.prog ops Q rest (a.put o.dst v') w') : wpList Try.prog ops Q (o :: rest) a w := by
  refine wpList_plain hgd fun K hK => ?_
  unfold Oper.wp execOp
  simp only [ho, hty, resolve, invoke, builtin, Sem.run_bind, Sem.run_pure, Result.andThen_ok, List.map_toArray, List.map_cons, List.map_nil, hs, hx, happ]
  exact hK _ _ h

/-- in the midst of reading an edit (the document's) -/
def RMid (w : World) (b x y : Nat) (s : ByteArray) (lg nx sq : Int) (st : RS) (adds : List M) (drops : List Int) (W : World) : Prop :=
  ∃ va vd, Rd 97 W b s st ∧ GE 38 66 y W va vd adds drops lg nx sq ∧ Below w.heap.size w W ∧ W.heap[x]? = some (.cells #[.slice none 0 0, .slice none 0 0, .int .i64 0, .int .i64 0, .int .i64 0] 38 (0, 0))

theorem below_call {w W W' : World} {b : Nat} (h : Below w.heap.size w W) (hg : W.grownBy W' (some b)) (hb : w.heap.size ≤ b) : Below w.heap.size w W' :=
  h.grown hg h.size (fun k e => by cases e; exact hb)

set_option maxRecDepth 100000 in
set_option maxHeartbeats 4000000 in
theorem rget14_any (s : ByteArray) (w : World) (hs : s.size ≤ 140737488351232) :
    Calls Try.prog 15 #[.string s] w fun r w' => (∃ A n c D m d, r = .returned (.tuple #[.agg #[.slice A n c, .slice D m d, .int .i64 (rget s.data.toList).1.log, .int .i64 (rget s.data.toList).1.next, .int .i64 (rget s.data.toList).1.seq], .int .i64 (rget s.data.toList).2]) ∧ EdIn w' A n c D m d (rget s.data.toList).1) ∧ Below w.heap.size w w' := by
  obtain ⟨b, hbw⟩ : ∃ b, w.heap.size + 1 = b := ⟨_, rfl⟩
  obtain ⟨i0, hi0, hz0, hz1, hz2⟩ := info_parts info_rmeta
  have f0 : VS.Fair s.data.toList (.ok 0) := ⟨by omega, by omega⟩
  have f1 := rn_fair f0
  have f2 := rn_fair f1.1
  have f3 := rn_fair f2.1
  have f4 := rb_fair (most := 4096) (by decide) f3.1
  have f5 := rds_fair (rb s.data.toList 4096 (rn s.data.toList (rn s.data.toList (rn s.data.toList (.ok 0)).2).2).2).1.toNat f4.1
  have H0 := Lib.hid (fun W (hW : Rd 97 W b s (.ok 0)) => rnumber_any W b s (.ok 0) hW f0 hs)
  have H1 := Lib.hid (fun W (hW : Rd 97 W b s _) => rnumber_any W b s (rn s.data.toList (.ok 0)).2 hW f1.1 hs)
  have H2 := Lib.hid (fun W (hW : Rd 97 W b s _) => rnumber_any W b s (rn s.data.toList (rn s.data.toList (.ok 0)).2).2 hW f2.1 hs)
  have H3 : Hid (∀ W, Rd 97 W b s (rn s.data.toList (rn s.data.toList (rn s.data.toList (.ok 0)).2).2).2 → Calls Try.prog 37 #[.pointer (some ⟨b, 0, none⟩), .int .i64 4097] W fun r w' => r = .returned (.int .i64 (rb s.data.toList 4096 (rn s.data.toList (rn s.data.toList (rn s.data.toList (.ok 0)).2).2).2).1) ∧ Rd 97 w' b s (rb s.data.toList 4096 (rn s.data.toList (rn s.data.toList (rn s.data.toList (.ok 0)).2).2).2).2 ∧ W.grownBy w' (some b)) := Lib.hid fun W hW => below_any W b s (rn s.data.toList (rn s.data.toList (rn s.data.toList (.ok 0)).2).2).2 4096 hW f3.1 hs
  have HOK := Lib.hid (re_fair s.data.toList)
  have HRE : Hid (re s.data.toList = (let x0 := rn s.data.toList (.ok 0); let x1 := rn s.data.toList x0.2; let x2 := rn s.data.toList x1.2; let x3 := rb s.data.toList 4096 x2.2; let x4 := rds s.data.toList x3.1.toNat x3.2; let x5 := rb s.data.toList 4096 x4.2; let x6 := rps s.data.toList x5.1.toNat x5.2; (⟨x6.1, x4.1, x0.1, x1.1, x2.1⟩, x6.2))) := Lib.hid rfl
  have HRG : Hid (rget s.data.toList = rgetk s.data.toList (re s.data.toList).1 (re s.data.toList).2) := Lib.hid rfl
  obtain ⟨G, hG⟩ : ∃ G, rget s.data.toList = G := ⟨_, rfl⟩
  rw [hG] at HRG ⊢
  obtain ⟨R, hR⟩ : ∃ R, re s.data.toList = R := ⟨_, rfl⟩
  rw [hR] at HRE HOK HRG
  obtain ⟨v0, hv0⟩ : ∃ x, rn s.data.toList (.ok 0) = x := ⟨_, rfl⟩
  rw [hv0] at H0 H1 H2 H3 HRE f1 f2 f3 f4 f5
  obtain ⟨n0, st0⟩ := v0
  simp only at H0 H1 H2 H3 HRE f1 f2 f3 f4 f5
  obtain ⟨v1, hv1⟩ : ∃ x, rn s.data.toList st0 = x := ⟨_, rfl⟩
  rw [hv1] at H1 H2 H3 HRE f2 f3 f4 f5
  obtain ⟨n1, st1⟩ := v1
  simp only at H1 H2 H3 HRE f2 f3 f4 f5
  obtain ⟨v2, hv2⟩ : ∃ x, rn s.data.toList st1 = x := ⟨_, rfl⟩
  rw [hv2] at H2 H3 HRE f3 f4 f5
  obtain ⟨n2, st2⟩ := v2
  simp only at H2 H3 HRE f3 f4 f5
  obtain ⟨v3, hv3⟩ : ∃ x, rb s.data.toList 4096 st2 = x := ⟨_, rfl⟩
  rw [hv3] at H3 HRE f4 f5
  obtain ⟨n3, st3⟩ := v3
  simp only at H3 HRE f4 f5
  obtain ⟨K3, hK3⟩ : ∃ K3 : Nat, n3 = K3 := ⟨n3.toNat, by omega⟩
  subst hK3
  have hK3b : K3 ≤ 4096 := by omega
  rw [Int.toNat_natCast] at HRE f5
  have HF3 := Lib.hid f4.1
  have HI012 : Hid (i64 n0 ∧ i64 n1 ∧ i64 n2) := Lib.hid ⟨f1.2, f2.2, f3.2⟩
  obtain ⟨v4, hv4⟩ : ∃ x, rds s.data.toList K3 st3 = x := ⟨_, rfl⟩
  have HV4 := Lib.hid hv4
  rw [hv4] at HRE f5
  obtain ⟨d4, st4⟩ := v4
  simp only at HRE f5
  have HF4 := Lib.hid f5
  have H5 : Hid (∀ W, Rd 97 W b s st4 → Calls Try.prog 37 #[.pointer (some ⟨b, 0, none⟩), .int .i64 4097] W fun r w' => r = .returned (.int .i64 (rb s.data.toList 4096 st4).1) ∧ Rd 97 w' b s (rb s.data.toList 4096 st4).2 ∧ W.grownBy w' (some b)) := Lib.hid fun W hW => below_any W b s st4 4096 hW f5.1 hs
  have f6 := rb_fair (most := 4096) (by decide) f5.1
  obtain ⟨v5, hv5⟩ : ∃ x, rb s.data.toList 4096 st4 = x := ⟨_, rfl⟩
  rw [hv5] at H5 HRE f6
  obtain ⟨n5, st5⟩ := v5
  simp only at H5 HRE f6
  obtain ⟨K5, hK5⟩ : ∃ K5 : Nat, n5 = K5 := ⟨n5.toNat, by omega⟩
  subst hK5
  have hK5b : K5 ≤ 4096 := by omega
  rw [Int.toNat_natCast] at HRE
  have HF5 := Lib.hid f6.1
  have f7 := rps_fair (l := s.data.toList) K5 f6.1
  obtain ⟨v6, hv6⟩ : ∃ x, rps s.data.toList K5 st5 = x := ⟨_, rfl⟩
  have HV6 := Lib.hid hv6
  rw [hv6] at HRE f7
  obtain ⟨a6, st6⟩ := v6
  simp only at HRE f7
  have HF6 := Lib.hid f7
  have hRR := HRE.out
  subst hRR
  have HBW : Hid (w.heap.size + 1 = b) := Lib.hid hbw
  have hsl : s.data.toList.length = s.size := by simp
  have HSL : Hid (s.data.toList.length = s.size) := Lib.hid hsl
  clear f0 f1 f2 f3 f4 f5 f6 f7 hv0 hv1 hv2 hv3 hv4 hv5 hv6 hR HRE hG hbw hsl
  go_enter Try.func15, Try.ntmps15
  go_upto_region 3 with fail
  have hb2 : Below w.heap.size w (((w.alloc (.cells #[.slice none 0 0, .slice none 0 0, .int .i64 0, .int .i64 0, .int .i64 0] 38)).alloc (.cells #[.string s, .int .i64 0, .int .i64 0] 97)).alloc (.cells #[.slice none 0 0, .slice none 0 0, .int .i64 0, .int .i64 0, .int .i64 0] 38)) := (((Below.refl _ w).alloc (Nat.le_refl _) _).alloc (by simp) _).alloc (by simp <;> omega) _
  have hrx : (((w.alloc (.cells #[.slice none 0 0, .slice none 0 0, .int .i64 0, .int .i64 0, .int .i64 0] 38)).alloc (.cells #[.string s, .int .i64 0, .int .i64 0] 97)).alloc (.cells #[.slice none 0 0, .slice none 0 0, .int .i64 0, .int .i64 0, .int .i64 0] 38)).heap[w.heap.size]? = some (.cells #[.slice none 0 0, .slice none 0 0, .int .i64 0, .int .i64 0, .int .i64 0] 38 (0, 0)) := by
    rw [Below.heap_alloc _ _ _ (by simp <;> omega), Below.heap_alloc _ _ _ (by simp <;> omega)]
    exact heap_alloc_new w _
  have hrb : (((w.alloc (.cells #[.slice none 0 0, .slice none 0 0, .int .i64 0, .int .i64 0, .int .i64 0] 38)).alloc (.cells #[.string s, .int .i64 0, .int .i64 0] 97)).alloc (.cells #[.slice none 0 0, .slice none 0 0, .int .i64 0, .int .i64 0, .int .i64 0] 38)).heap[w.heap.size + 1]? = some (.cells #[.string s, .int .i64 0, .int .i64 0] 97 (0, 0)) := by
    rw [Below.heap_alloc _ _ _ (by simp <;> omega)]
    have := heap_alloc_new (w.alloc (.cells #[.slice none 0 0, .slice none 0 0, .int .i64 0, .int .i64 0, .int .i64 0] 38)) (.cells #[.string s, .int .i64 0, .int .i64 0] 97)
    simpa using this
  have hry : (((w.alloc (.cells #[.slice none 0 0, .slice none 0 0, .int .i64 0, .int .i64 0, .int .i64 0] 38)).alloc (.cells #[.string s, .int .i64 0, .int .i64 0] 97)).alloc (.cells #[.slice none 0 0, .slice none 0 0, .int .i64 0, .int .i64 0, .int .i64 0] 38)).heap[w.heap.size + 2]? = some (.cells #[.slice none 0 0, .slice none 0 0, .int .i64 0, .int .i64 0, .int .i64 0] 38 (0, 0)) := by
    have := heap_alloc_new ((w.alloc (.cells #[.slice none 0 0, .slice none 0 0, .int .i64 0, .int .i64 0, .int .i64 0] 38)).alloc (.cells #[.string s, .int .i64 0, .int .i64 0] 97)) (.cells #[.slice none 0 0, .slice none 0 0, .int .i64 0, .int .i64 0, .int .i64 0] 38)
    simpa using this
  have hsz : (((w.alloc (.cells #[.slice none 0 0, .slice none 0 0, .int .i64 0, .int .i64 0, .int .i64 0] 38)).alloc (.cells #[.string s, .int .i64 0, .int .i64 0] 97)).alloc (.cells #[.slice none 0 0, .slice none 0 0, .int .i64 0, .int .i64 0, .int .i64 0] 38)).heap.size = w.heap.size + 3 := by simp
  generalize ((w.alloc (.cells #[.slice none 0 0, .slice none 0 0, .int .i64 0, .int .i64 0, .int .i64 0] 38)).alloc (.cells #[.string s, .int .i64 0, .int .i64 0] 97)).alloc (.cells #[.slice none 0 0, .slice none 0 0, .int .i64 0, .int .i64 0, .int .i64 0] 38) = w2 at hb2 hrx hrb hry hsz ⊢
  obtain ⟨x, hx⟩ : ∃ x, w.heap.size = x := ⟨_, rfl⟩
  obtain ⟨y, hy⟩ : ∃ y, x + 2 = y := ⟨_, rfl⟩
  have hbx : x + 1 = b := by have := HBW.out; omega
  have HX : Hid (w.heap.size = x ∧ x < b ∧ b < y ∧ x < y) := Lib.hid ⟨hx, by omega, by omega, by omega⟩
  have HNB : Hid (y ≠ b ∧ x ≠ b ∧ y ≠ x) := Lib.hid (by omega)
  have HWB : Hid (w.heap.size ≤ b ∧ w.heap.size ≤ y ∧ w.heap.size ≤ x) := Lib.hid (by omega)
  rw [hx] at hrx hrb hry hsz ⊢
  rw [hbx] at hrb ⊢
  rw [hy] at hry
  rw [show b + 1 = y by omega]
  have HB2 := Lib.hid hb2
  have HRX2 := Lib.hid hrx
  have HRD2 : Hid (Rd 97 w2 b s (.ok 0)) := Lib.hid ⟨0, 0, hrb, rfl, rfl⟩
  have HRY2 := Lib.hid hry
  clear hb2 hrx hrb hry hsz hx hy hbx HBW
  go_wp2_with fail
  refine (H0.out _ HRD2.out).mono ?_
  rintro r wz ⟨rfl, hrd, hg⟩
  have hry := (hg.block y (Array.getElem?_eq_some_iff.1 HRY2.out).1 (fun e => HNB.out.1 (by cases e; rfl))).trans HRY2.out
  have hrx := (hg.block x (Array.getElem?_eq_some_iff.1 HRX2.out).1 (fun e => HNB.out.2.1 (by cases e; rfl))).trans HRX2.out
  have hbz := below_call HB2.out hg HWB.out.1
  have cy : wz.cell? ⟨y, 2, none⟩ = some (.int .i64 0) := cell_of_row _ _ _ _ _ _ hry
  have fy : wz.frozen? ⟨y, 2, none⟩ = false := frozen_of_row _ _ _ _ _ hry
  have HRD3 : Hid (Rd 97 (wz.setCell ⟨y, 2, none⟩ (.int .i64 n0)) b s _) := Lib.hid (hrd.new HNB.out.1 _ _)
  have HRY3 : Hid ((wz.setCell ⟨y, 2, none⟩ (.int .i64 n0)).heap[y]? = some (.cells #[.slice none 0 0, .slice none 0 0, .int .i64 n0, .int .i64 0, .int .i64 0] 38 (0, 0))) := Lib.hid (heap_set_fr hry 2 (.int .i64 n0))
  have HRX3 : Hid ((wz.setCell ⟨y, 2, none⟩ (.int .i64 n0)).heap[x]? = some (.cells #[.slice none 0 0, .slice none 0 0, .int .i64 0, .int .i64 0, .int .i64 0] 38 (0, 0))) := Lib.hid (by rw [Below.heap_setCell _ _ _ _ (Ne.symm HNB.out.2.2)]; exact hrx)
  have HB3 : Hid (Below w.heap.size w (wz.setCell ⟨y, 2, none⟩ (.int .i64 n0))) := Lib.hid (hbz.setCell (p := ⟨y, 2, none⟩) HWB.out.2.1 _)
  clear hrd hg hry hrx hbz
  go_wp2_with fail
  generalize wz.setCell ⟨y, 2, none⟩ (.int .i64 n0) = w3 at HRD3 HRY3 HRX3 HB3 ⊢
  clear cy fy
  refine (H1.out _ HRD3.out).mono ?_
  rintro r wz ⟨rfl, hrd, hg⟩
  have hry := (hg.block y (Array.getElem?_eq_some_iff.1 HRY3.out).1 (fun e => HNB.out.1 (by cases e; rfl))).trans HRY3.out
  have hrx := (hg.block x (Array.getElem?_eq_some_iff.1 HRX3.out).1 (fun e => HNB.out.2.1 (by cases e; rfl))).trans HRX3.out
  have hbz := below_call HB3.out hg HWB.out.1
  have cy : wz.cell? ⟨y, 3, none⟩ = some (.int .i64 0) := cell_of_row _ _ _ _ _ _ hry
  have fy : wz.frozen? ⟨y, 3, none⟩ = false := frozen_of_row _ _ _ _ _ hry
  have HRD4 : Hid (Rd 97 (wz.setCell ⟨y, 3, none⟩ (.int .i64 n1)) b s _) := Lib.hid (hrd.new HNB.out.1 _ _)
  have HRY4 : Hid ((wz.setCell ⟨y, 3, none⟩ (.int .i64 n1)).heap[y]? = some (.cells #[.slice none 0 0, .slice none 0 0, .int .i64 n0, .int .i64 n1, .int .i64 0] 38 (0, 0))) := Lib.hid (heap_set_fr hry 3 (.int .i64 n1))
  have HRX4 : Hid ((wz.setCell ⟨y, 3, none⟩ (.int .i64 n1)).heap[x]? = some (.cells #[.slice none 0 0, .slice none 0 0, .int .i64 0, .int .i64 0, .int .i64 0] 38 (0, 0))) := Lib.hid (by rw [Below.heap_setCell _ _ _ _ (Ne.symm HNB.out.2.2)]; exact hrx)
  have HB4 : Hid (Below w.heap.size w (wz.setCell ⟨y, 3, none⟩ (.int .i64 n1))) := Lib.hid (hbz.setCell (p := ⟨y, 3, none⟩) HWB.out.2.1 _)
  clear hrd hg hry hrx hbz
  go_wp2_with fail
  generalize wz.setCell ⟨y, 3, none⟩ (.int .i64 n1) = w4 at HRD4 HRY4 HRX4 HB4 ⊢
  clear cy fy
  refine (H2.out _ HRD4.out).mono ?_
  rintro r wz ⟨rfl, hrd, hg⟩
  have hry := (hg.block y (Array.getElem?_eq_some_iff.1 HRY4.out).1 (fun e => HNB.out.1 (by cases e; rfl))).trans HRY4.out
  have hrx := (hg.block x (Array.getElem?_eq_some_iff.1 HRX4.out).1 (fun e => HNB.out.2.1 (by cases e; rfl))).trans HRX4.out
  have hbz := below_call HB4.out hg HWB.out.1
  have cy : wz.cell? ⟨y, 4, none⟩ = some (.int .i64 0) := cell_of_row _ _ _ _ _ _ hry
  have fy : wz.frozen? ⟨y, 4, none⟩ = false := frozen_of_row _ _ _ _ _ hry
  have HRD5 : Hid (Rd 97 (wz.setCell ⟨y, 4, none⟩ (.int .i64 n2)) b s _) := Lib.hid (hrd.new HNB.out.1 _ _)
  have HRY5 : Hid ((wz.setCell ⟨y, 4, none⟩ (.int .i64 n2)).heap[y]? = some (.cells #[.slice none 0 0, .slice none 0 0, .int .i64 n0, .int .i64 n1, .int .i64 n2] 38 (0, 0))) := Lib.hid (heap_set_fr hry 4 (.int .i64 n2))
  have HRX5 : Hid ((wz.setCell ⟨y, 4, none⟩ (.int .i64 n2)).heap[x]? = some (.cells #[.slice none 0 0, .slice none 0 0, .int .i64 0, .int .i64 0, .int .i64 0] 38 (0, 0))) := Lib.hid (by rw [Below.heap_setCell _ _ _ _ (Ne.symm HNB.out.2.2)]; exact hrx)
  have HB5 : Hid (Below w.heap.size w (wz.setCell ⟨y, 4, none⟩ (.int .i64 n2))) := Lib.hid (hbz.setCell (p := ⟨y, 4, none⟩) HWB.out.2.1 _)
  clear hrd hg hry hrx hbz
  go_wp2_with fail
  generalize wz.setCell ⟨y, 4, none⟩ (.int .i64 n2) = w5 at HRD5 HRY5 HRX5 HB5 ⊢
  clear cy fy
  refine (H3.out _ HRD5.out).mono ?_
  rintro r w6 ⟨rfl, hrd, hg⟩
  have hry := (hg.block y (Array.getElem?_eq_some_iff.1 HRY5.out).1 (fun e => HNB.out.1 (by cases e; rfl))).trans HRY5.out
  have hrx := (hg.block x (Array.getElem?_eq_some_iff.1 HRX5.out).1 (fun e => HNB.out.2.1 (by cases e; rfl))).trans HRX5.out
  have HMID6 : Hid (RMid w b x y s n0 n1 n2 st3 [] [] w6) := Lib.hid ⟨_, _, hrd, ⟨hry, World.ownsRow_nil _ _ _ _, World.ownsRow_nil _ _ _ _, fun g hg => by cases hg⟩, below_call HB5.out hg HWB.out.1, hrx⟩
  clear hrd hg hry hrx HRD2 HRD3 HRD4 HRD5 HRY2 HRY3 HRY4 HRY5 HRX2 HRX3 HRX4 HRX5 HB2 HB3 HB4 HB5
  go_upto_block 0 with fail
  go_cut [7, 8] from 28 to 48 (fun i f wc => RMid w b x y s n0 n1 n2 st4 [] d4 wc)
  case first =>
    go_wp2_with fail
    go_loopw [7] (fun n wr => ∃ (i k : Nat) (st : RS) (d : List Int), n = .int .i64 i ∧ i + k = K3 ∧ d.length = i ∧ Hid (VS.Fair s.data.toList st) ∧ Hid (∃ r, rds s.data.toList k st = (r, st4) ∧ d ++ r = d4) ∧ RMid w b x y s n0 n1 n2 st [] d wr) (fun n _ => K3 - (intOf n).toNat)
    case atStart => exact ⟨0, K3, st3, [], rfl, by omega, rfl, HF3, Lib.hid ⟨d4, HV4.out, rfl⟩, HMID6.out⟩
    case round =>
      obtain ⟨i, k, st, d, rfl, hk, hdk, HFA, HRR, va, vd, hrd, hge, hbl, hrx⟩ := hrel
      obtain ⟨a, f, -, -, c2, hst⟩ := hrd.c
      have HRD := Lib.hid hrd
      have HGE := Lib.hid hge
      have HB := Lib.hid hbl
      have HRX := Lib.hid hrx
      clear hrd hge hbl hrx
      cases k with
      | zero =>
        have HM : Hid (RMid w b x y s n0 n1 n2 st4 [] d4 wr) := Lib.hid (by
          obtain ⟨r, h1, h2⟩ := HRR.out
          have h3 : rds s.data.toList 0 st = ([], st) := rfl
          rw [h3] at h1
          cases h1
          rw [List.append_nil] at h2
          subst h2
          exact ⟨va, vd, HRD.out, HGE.out, HB.out, HRX.out⟩)
        have d0 : decide ((i : Int) < (K3 : Int)) = false := decide_eq_false (by omega)
        have d1 : decide (i < K3) = false := decide_eq_false (by omega)
        clear hst hk hdk
        go_wp2
        go_meet
        exact HM.out
      | succ j =>
        have d0 : decide ((i : Int) < (K3 : Int)) = true := decide_eq_true (by omega)
        have d1 : decide (i < K3) = true := decide_eq_true (by omega)
        cases st with
        | error c =>
          obtain rfl : f = c := hst
          have hc : (f == 0) = false := by have := HFA.out.1; simp; omega
          have HM : Hid (RMid w b x y s n0 n1 n2 st4 [] d4 wr) := Lib.hid (by
            obtain ⟨r, h1, h2⟩ := HRR.out
            rw [rds_bad] at h1
            cases h1
            rw [List.append_nil] at h2
            subst h2
            exact ⟨va, vd, HRD.out, HGE.out, HB.out, HRX.out⟩)
          clear hk hdk
          go_wp2
          go_meet
          exact HM.out
        | ok p =>
          obtain ⟨rfl, rfl⟩ := hst
          have hfn := rn_fair HFA.out
          have HNC := Lib.hid (fun W (hW : Rd 97 W b s (.ok a)) => rnumber_any W b s (.ok a) hW HFA.out (by have := HSL.out; omega))
          have HRR2 : Hid (∃ r, rds s.data.toList j (rn s.data.toList (.ok a)).2 = (r, st4) ∧ (d ++ [(rn s.data.toList (.ok a)).1]) ++ r = d4) := Lib.hid (by
            obtain ⟨r, h1, h2⟩ := HRR.out
            rw [rds_more] at h1
            cases h1
            exact ⟨_, rfl, by rw [← h2]; simp⟩)
          obtain ⟨v, hv⟩ : ∃ x, rn s.data.toList (.ok a) = x := ⟨_, rfl⟩
          rw [hv] at hfn HNC HRR2
          obtain ⟨z, st'⟩ := v
          simp only at hfn HNC HRR2
          have HFN := Lib.hid hfn.1
          have hdl : d.length ≤ 10000000 := by omega
          have HIK : Hid (i + (j + 1) = K3 ∧ d.length = i) := Lib.hid ⟨hk, hdk⟩
          have hib : i + 1 ≤ 4096 := by omega
          have HAP := Lib.hid (fun W (hW : GE 38 66 y W va vd [] d n0 n1 n2) => hW.appD hdl z)
          clear hv hfn HRR hdl hk hdk
          go_wp2_with fail
          refine (HNC.out _ HRD.out).mono ?_
          rintro r w1 ⟨rfl, hrd1, hg1⟩
          have hge1 := HGE.out.grown hg1 HX.out.2.2.1
          have z0 := hge1.c.2.1
          obtain ⟨A6, c6, w8, happ, e1, e2, hb8, hge8⟩ := HAP.out w1 hge1
          have HAPP := Lib.hid happ
          have HGE8 := Lib.hid hge8
          have HB8 := Lib.hid hb8
          have HRD1 := Lib.hid hrd1
          have HBB1 := Lib.hid (below_call HB.out hg1 HWB.out.1)
          have HRX1 := Lib.hid ((hg1.block x (Array.getElem?_eq_some_iff.1 HRX.out).1 (fun e => HNB.out.2.1 (by cases e; rfl))).trans HRX.out)
          clear hrd1 hg1 hge1 happ hge8 hb8 c2
          go_wp2_with (at_builtin; refine list_app rfl _ _ 31 rfl rfl _ _ rfl rfl _ _ HAPP.out ?_)
          clear HAP HAPP
          go_roundw
          case rel => exact ⟨i + 1, j, st', d ++ [z], by go_num, by have := HIK.out; omega, by rw [List.length_append, HIK.out.2]; rfl, HFN, HRR2, _, _, HRD1.out.low HB8.out HX.out.2.2.1, HGE8.out, HBB1.out.trans (HB8.out.mono HWB.out.2.1), (HB8.out.block x HX.out.2.2.2).trans HRX1.out⟩
          case measure => have := HIK.out; simp [intOf]; omega
  case rest =>
  obtain ⟨va, vd, hrd, hge, hbl, hrx⟩ := hcut
  have HRD6 := Lib.hid hrd
  have HGE6 := Lib.hid hge
  have HB6 := Lib.hid hbl
  have HRX6 := Lib.hid hrx
  clear hrd hge hbl hrx HMID6
  go_wp2_with fail
  refine (H5.out _ HRD6.out).mono ?_
  rintro r w7 ⟨rfl, hrd, hg⟩
  have HMID7 : Hid (RMid w b x y s n0 n1 n2 st5 [] d4 w7) := Lib.hid ⟨_, _, hrd, HGE6.out.grown hg HX.out.2.2.1, below_call HB6.out hg HWB.out.1, (hg.block x (Array.getElem?_eq_some_iff.1 HRX6.out).1 (fun e => HNB.out.2.1 (by cases e; rfl))).trans HRX6.out⟩
  clear hrd hg HRD6 HGE6 HB6 HRX6
  go_upto_block 2 with fail
  go_cut [10, 11, 12] from 50 to 85 (fun i f g wc => RMid w b x y s n0 n1 n2 st6 a6 d4 wc)
  case first =>
    go_wp2_with fail
    go_loopw [10] (fun n wr => ∃ (i k : Nat) (st : RS) (d : List M), n = .int .i64 i ∧ i + k = K5 ∧ d.length = i ∧ Hid (VS.Fair s.data.toList st) ∧ Hid (∃ r, rps s.data.toList k st = (r, st6) ∧ d ++ r = a6) ∧ RMid w b x y s n0 n1 n2 st d d4 wr) (fun n _ => K5 - (intOf n).toNat)
    case atStart => exact ⟨0, K5, st5, [], rfl, by omega, rfl, HF5, Lib.hid ⟨a6, HV6.out, rfl⟩, HMID7.out⟩
    case round =>
      obtain ⟨i, k, st, d, rfl, hk, hdk, HFA, HRR, va, vd, hrd, hge, hbl, hrx⟩ := hrel
      obtain ⟨a, f, -, -, c2, hst⟩ := hrd.c
      have HRD := Lib.hid hrd
      have HGE := Lib.hid hge
      have HB := Lib.hid hbl
      have HRX := Lib.hid hrx
      clear hrd hge hbl hrx
      cases k with
      | zero =>
        have HM : Hid (RMid w b x y s n0 n1 n2 st6 a6 d4 wr) := Lib.hid (by
          obtain ⟨r, h1, h2⟩ := HRR.out
          have h3 : rps s.data.toList 0 st = ([], st) := rfl
          rw [h3] at h1
          cases h1
          rw [List.append_nil] at h2
          subst h2
          exact ⟨va, vd, HRD.out, HGE.out, HB.out, HRX.out⟩)
        have d0 : decide ((i : Int) < (K5 : Int)) = false := decide_eq_false (by omega)
        have d1 : decide (i < K5) = false := decide_eq_false (by omega)
        clear hst hk hdk
        go_wp2
        go_meet
        exact HM.out
      | succ j =>
        have d0 : decide ((i : Int) < (K5 : Int)) = true := decide_eq_true (by omega)
        have d1 : decide (i < K5) = true := decide_eq_true (by omega)
        cases st with
        | error c =>
          obtain rfl : f = c := hst
          have hc : (f == 0) = false := by have := HFA.out.1; simp; omega
          have HM : Hid (RMid w b x y s n0 n1 n2 st6 a6 d4 wr) := Lib.hid (by
            obtain ⟨r, h1, h2⟩ := HRR.out
            rw [rps_bad] at h1
            cases h1
            rw [List.append_nil] at h2
            subst h2
            exact ⟨va, vd, HRD.out, HGE.out, HB.out, HRX.out⟩)
          clear hk hdk
          go_wp2
          go_meet
          exact HM.out
        | ok p =>
          obtain ⟨rfl, rfl⟩ := hst
          have hfp := rp_fair HFA.out
          have HRR2 : Hid (∃ r, rps s.data.toList j (rp s.data.toList (.ok a)).2 = (r, st6) ∧ (d ++ [(rp s.data.toList (.ok a)).1]) ++ r = a6) := Lib.hid (by
            obtain ⟨r, h1, h2⟩ := HRR.out
            rw [rps_more] at h1
            cases h1
            exact ⟨_, rfl, by rw [← h2]; simp⟩)
          have HFN := Lib.hid hfp.1
          have g0 := rb_fair (most := 3) (by decide) HFA.out
          have g1 := rn_fair g0.1
          have g2 := rn_fair g1.1
          have g3 := rt_fair g2.1
          have C0 : Hid (∀ W, Rd 97 W b s (.ok a) → Calls Try.prog 37 #[.pointer (some ⟨b, 0, none⟩), .int .i64 4] W fun r w' => r = .returned (.int .i64 (rb s.data.toList 3 (.ok a)).1) ∧ Rd 97 w' b s (rb s.data.toList 3 (.ok a)).2 ∧ W.grownBy w' (some b)) := Lib.hid fun W hW => below_any W b s (.ok a) 3 hW HFA.out (by have := HSL.out; omega)
          have C1 := Lib.hid (fun W (hW : Rd 97 W b s _) => rnumber_any W b s (rb s.data.toList 3 (.ok a)).2 hW g0.1 (by have := HSL.out; omega))
          have C2 := Lib.hid (fun W (hW : Rd 97 W b s _) => rnumber_any W b s (rn s.data.toList (rb s.data.toList 3 (.ok a)).2).2 hW g1.1 (by have := HSL.out; omega))
          have C3 := Lib.hid (fun W (hW : Rd 97 W b s _) => words_any W b s (rn s.data.toList (rn s.data.toList (rb s.data.toList 3 (.ok a)).2).2).2 hW g2.1 (by have := HSL.out; omega))
          have C4 := Lib.hid (fun W (hW : Rd 97 W b s _) => words_any W b s (rt s.data.toList (rn s.data.toList (rn s.data.toList (rb s.data.toList 3 (.ok a)).2).2).2).2 hW g3.1 (by have := HSL.out; omega))
          unfold rp at HRR2 HFN
          obtain ⟨v0, hv0⟩ : ∃ x, rb s.data.toList 3 (.ok a) = x := ⟨_, rfl⟩
          rw [hv0] at C0 C1 C2 C3 C4 HRR2 HFN
          obtain ⟨z0, t0⟩ := v0
          simp only at C0 C1 C2 C3 C4 HRR2 HFN
          obtain ⟨v1, hv1⟩ : ∃ x, rn s.data.toList t0 = x := ⟨_, rfl⟩
          rw [hv1] at C1 C2 C3 C4 HRR2 HFN
          obtain ⟨z1, t1⟩ := v1
          simp only at C1 C2 C3 C4 HRR2 HFN
          obtain ⟨v2, hv2⟩ : ∃ x, rn s.data.toList t1 = x := ⟨_, rfl⟩
          rw [hv2] at C2 C3 C4 HRR2 HFN
          obtain ⟨z2, t2⟩ := v2
          simp only at C2 C3 C4 HRR2 HFN
          obtain ⟨v3, hv3⟩ : ∃ x, rt s.data.toList t2 = x := ⟨_, rfl⟩
          rw [hv3] at C3 C4 HRR2 HFN
          obtain ⟨z3, t3⟩ := v3
          simp only at C3 C4 HRR2 HFN
          obtain ⟨v4, hv4⟩ : ∃ x, rt s.data.toList t3 = x := ⟨_, rfl⟩
          rw [hv4] at C4 HRR2 HFN
          obtain ⟨z4, t4⟩ := v4
          simp only at C4 HRR2 HFN
          have hdl : d.length ≤ 10000000 := by omega
          have HIK : Hid (i + (j + 1) = K5 ∧ d.length = i) := Lib.hid ⟨hk, hdk⟩
          have hib : i + 1 ≤ 4096 := by omega
          have HAP := Lib.hid (fun W (hW : GE 38 66 y W va vd d d4 n0 n1 n2) => hW.appA hdl ⟨z0, z1, z2, z3, z4⟩ Try.underlying27 hi0 hz0 hz1 hz2 rfl)
          have HMB : Hid (wr.heap.size ≠ b ∧ x < wr.heap.size ∧ y < wr.heap.size) := Lib.hid ⟨by have := HRD.out.lt; omega, (Array.getElem?_eq_some_iff.1 HRX.out).1, HGE.out.lt⟩
          clear hv0 hv1 hv2 hv3 hv4 g0 g1 g2 g3 hfp HRR hdl hk hdk
          go_wp2_with fail
          have hal := (Below.refl wr.heap.size wr).alloc (Nat.le_refl _) (.cells #[.int .i64 0, .int .i64 0, .int .i64 0, .string ⟨#[]⟩, .string ⟨#[]⟩] 66)
          have hm := heap_alloc_new wr (.cells #[.int .i64 0, .int .i64 0, .int .i64 0, .string ⟨#[]⟩, .string ⟨#[]⟩] 66)
          have HRDa := Lib.hid (HRD.out.below hal)
          have HGa := Lib.hid (grown_alloc' (grown_refl wr (some b)) (.cells #[.int .i64 0, .int .i64 0, .int .i64 0, .string ⟨#[]⟩, .string ⟨#[]⟩] 66))
          generalize wr.alloc (.cells #[.int .i64 0, .int .i64 0, .int .i64 0, .string ⟨#[]⟩, .string ⟨#[]⟩] 66) = wa at hal hm HRDa HGa ⊢
          obtain ⟨mb, hmb⟩ : ∃ mb, wr.heap.size = mb := ⟨_, rfl⟩
          have HSZ : Hid (wr.heap.size ≤ mb) := Lib.hid (by omega)
          rw [hmb] at hm HMB ⊢
          have HMa : Hid (wa.heap[mb]? = some (.cells #[.int .i64 0, .int .i64 0, .int .i64 0, .string ⟨#[]⟩, .string ⟨#[]⟩] 66 (0, 0))) := Lib.hid hm
          clear hal hm hmb c2
          refine (C0.out _ HRDa.out).mono ?_
          rintro r wz ⟨rfl, hrd, hg⟩
          have hm := (hg.block mb (Array.getElem?_eq_some_iff.1 HMa.out).1 (fun e => HMB.out.1 (by cases e; rfl))).trans HMa.out
          have hgz := grown_trans HGa.out hg
          have cm : wz.cell? ⟨mb, 0, none⟩ = some (.int .i64 0) := cell_of_row _ _ _ _ _ _ hm
          have fm : wz.frozen? ⟨mb, 0, none⟩ = false := frozen_of_row _ _ _ _ _ hm
          have HRDb : Hid (Rd 97 (wz.setCell ⟨mb, 0, none⟩ (.int .i64 z0)) b s t0) := Lib.hid (hrd.new HMB.out.1 _ _)
          have HMb : Hid ((wz.setCell ⟨mb, 0, none⟩ (.int .i64 z0)).heap[mb]? = some (.cells #[.int .i64 z0, .int .i64 0, .int .i64 0, .string ⟨#[]⟩, .string ⟨#[]⟩] 66 (0, 0))) := Lib.hid (heap_set_fr hm 0 (.int .i64 z0))
          have HGb : Hid (wr.grownBy (wz.setCell ⟨mb, 0, none⟩ (.int .i64 z0)) (some b)) := Lib.hid (grown_new hgz HSZ.out _ _)
          clear hrd hg hm hgz
          go_wp2_with fail
          generalize wz.setCell ⟨mb, 0, none⟩ (.int .i64 z0) = wb at HRDb HMb HGb ⊢
          clear cm fm HRDa HMa HGa
          refine (C1.out _ HRDb.out).mono ?_
          rintro r wz ⟨rfl, hrd, hg⟩
          have hm := (hg.block mb (Array.getElem?_eq_some_iff.1 HMb.out).1 (fun e => HMB.out.1 (by cases e; rfl))).trans HMb.out
          have hgz := grown_trans HGb.out hg
          have cm : wz.cell? ⟨mb, 1, none⟩ = some (.int .i64 0) := cell_of_row _ _ _ _ _ _ hm
          have fm : wz.frozen? ⟨mb, 1, none⟩ = false := frozen_of_row _ _ _ _ _ hm
          have HRDc : Hid (Rd 97 (wz.setCell ⟨mb, 1, none⟩ (.int .i64 z1)) b s t1) := Lib.hid (hrd.new HMB.out.1 _ _)
          have HMc : Hid ((wz.setCell ⟨mb, 1, none⟩ (.int .i64 z1)).heap[mb]? = some (.cells #[.int .i64 z0, .int .i64 z1, .int .i64 0, .string ⟨#[]⟩, .string ⟨#[]⟩] 66 (0, 0))) := Lib.hid (heap_set_fr hm 1 (.int .i64 z1))
          have HGc : Hid (wr.grownBy (wz.setCell ⟨mb, 1, none⟩ (.int .i64 z1)) (some b)) := Lib.hid (grown_new hgz HSZ.out _ _)
          clear hrd hg hm hgz
          go_wp2_with fail
          generalize wz.setCell ⟨mb, 1, none⟩ (.int .i64 z1) = wc at HRDc HMc HGc ⊢
          clear cm fm HRDb HMb HGb
          refine (C2.out _ HRDc.out).mono ?_
          rintro r wz ⟨rfl, hrd, hg⟩
          have hm := (hg.block mb (Array.getElem?_eq_some_iff.1 HMc.out).1 (fun e => HMB.out.1 (by cases e; rfl))).trans HMc.out
          have hgz := grown_trans HGc.out hg
          have cm : wz.cell? ⟨mb, 2, none⟩ = some (.int .i64 0) := cell_of_row _ _ _ _ _ _ hm
          have fm : wz.frozen? ⟨mb, 2, none⟩ = false := frozen_of_row _ _ _ _ _ hm
          have HRDd : Hid (Rd 97 (wz.setCell ⟨mb, 2, none⟩ (.int .i64 z2)) b s t2) := Lib.hid (hrd.new HMB.out.1 _ _)
          have HMd : Hid ((wz.setCell ⟨mb, 2, none⟩ (.int .i64 z2)).heap[mb]? = some (.cells #[.int .i64 z0, .int .i64 z1, .int .i64 z2, .string ⟨#[]⟩, .string ⟨#[]⟩] 66 (0, 0))) := Lib.hid (heap_set_fr hm 2 (.int .i64 z2))
          have HGd : Hid (wr.grownBy (wz.setCell ⟨mb, 2, none⟩ (.int .i64 z2)) (some b)) := Lib.hid (grown_new hgz HSZ.out _ _)
          clear hrd hg hm hgz
          go_wp2_with fail
          generalize wz.setCell ⟨mb, 2, none⟩ (.int .i64 z2) = wd at HRDd HMd HGd ⊢
          clear cm fm HRDc HMc HGc
          refine (C3.out _ HRDd.out).mono ?_
          rintro r wz ⟨rfl, hrd, hg⟩
          have hm := (hg.block mb (Array.getElem?_eq_some_iff.1 HMd.out).1 (fun e => HMB.out.1 (by cases e; rfl))).trans HMd.out
          have hgz := grown_trans HGd.out hg
          have cm : wz.cell? ⟨mb, 3, none⟩ = some (.string ⟨#[]⟩) := cell_of_row _ _ _ _ _ _ hm
          have fm : wz.frozen? ⟨mb, 3, none⟩ = false := frozen_of_row _ _ _ _ _ hm
          have HRDe : Hid (Rd 97 (wz.setCell ⟨mb, 3, none⟩ (.string z3)) b s t3) := Lib.hid (hrd.new HMB.out.1 _ _)
          have HMe : Hid ((wz.setCell ⟨mb, 3, none⟩ (.string z3)).heap[mb]? = some (.cells #[.int .i64 z0, .int .i64 z1, .int .i64 z2, .string z3, .string ⟨#[]⟩] 66 (0, 0))) := Lib.hid (heap_set_fr hm 3 (.string z3))
          have HGe : Hid (wr.grownBy (wz.setCell ⟨mb, 3, none⟩ (.string z3)) (some b)) := Lib.hid (grown_new hgz HSZ.out _ _)
          clear hrd hg hm hgz
          go_wp2_with fail
          generalize wz.setCell ⟨mb, 3, none⟩ (.string z3) = we at HRDe HMe HGe ⊢
          clear cm fm HRDd HMd HGd
          refine (C4.out _ HRDe.out).mono ?_
          rintro r wz ⟨rfl, hrd, hg⟩
          have hm := (hg.block mb (Array.getElem?_eq_some_iff.1 HMe.out).1 (fun e => HMB.out.1 (by cases e; rfl))).trans HMe.out
          have hgz := grown_trans HGe.out hg
          have cm : wz.cell? ⟨mb, 4, none⟩ = some (.string ⟨#[]⟩) := cell_of_row _ _ _ _ _ _ hm
          have fm : wz.frozen? ⟨mb, 4, none⟩ = false := frozen_of_row _ _ _ _ _ hm
          have HRDf : Hid (Rd 97 (wz.setCell ⟨mb, 4, none⟩ (.string z4)) b s t4) := Lib.hid (hrd.new HMB.out.1 _ _)
          have HMf : Hid ((wz.setCell ⟨mb, 4, none⟩ (.string z4)).heap[mb]? = some (.cells #[.int .i64 z0, .int .i64 z1, .int .i64 z2, .string z3, .string z4] 66 (0, 0))) := Lib.hid (heap_set_fr hm 4 (.string z4))
          have HGf : Hid (wr.grownBy (wz.setCell ⟨mb, 4, none⟩ (.string z4)) (some b)) := Lib.hid (grown_new hgz HSZ.out _ _)
          clear hrd hg hm hgz
          go_upto_region 23 with fail
          generalize wz.setCell ⟨mb, 4, none⟩ (.string z4) = wf at HRDf HMf HGf ⊢
          clear cm fm HRDe HMe HGe
          have hge1 := HGE.out.grown HGf.out HX.out.2.2.1
          have zz := hge1.c.1
          have k0 : wf.cell? ⟨mb, 0, none⟩ = some (.int .i64 z0) := cell_of_row _ _ _ _ _ _ HMf.out
          have k1 : wf.cell? ⟨mb, 1, none⟩ = some (.int .i64 z1) := cell_of_row _ _ _ _ _ _ HMf.out
          have k2 : wf.cell? ⟨mb, 2, none⟩ = some (.int .i64 z2) := cell_of_row _ _ _ _ _ _ HMf.out
          have k3 : wf.cell? ⟨mb, 3, none⟩ = some (.string z3) := cell_of_row _ _ _ _ _ _ HMf.out
          have k4 : wf.cell? ⟨mb, 4, none⟩ = some (.string z4) := cell_of_row _ _ _ _ _ _ HMf.out
          obtain ⟨A6, c6, w8, happ, e1, e2, hb8, hge8⟩ := HAP.out wf hge1
          have HAPP := Lib.hid happ
          have HGE8 := Lib.hid hge8
          have HB8 := Lib.hid hb8
          have HBB1 := Lib.hid (below_call HB.out HGf.out HWB.out.1)
          have HRX1 := Lib.hid ((HGf.out.block x (Array.getElem?_eq_some_iff.1 HRX.out).1 (fun e => HNB.out.2.1 (by cases e; rfl))).trans HRX.out)
          clear hge1 happ hge8 hb8
          go_wp2_with (at_builtin; refine list_app rfl _ _ 27 rfl rfl _ _ rfl rfl _ _ HAPP.out ?_)
          clear HAP HAPP
          go_roundw
          case rel => exact ⟨i + 1, j, t4, d ++ [⟨z0, z1, z2, z3, z4⟩], by go_num, by have := HIK.out; omega, by rw [List.length_append, HIK.out.2]; rfl, HFN, HRR2, _, _, HRDf.out.low HB8.out HX.out.2.2.1, HGE8.out, HBB1.out.trans (HB8.out.mono HWB.out.2.1), (HB8.out.block x HX.out.2.2.2).trans HRX1.out⟩
          case measure => have := HIK.out; simp [intOf]; omega
  case rest =>
  obtain ⟨va, vd, hrd, hge, hbl, hrx⟩ := hcut
  obtain ⟨a, f, -, c1, c2, hst⟩ := hrd.c
  obtain ⟨An, cn, rfl⟩ := own_shape hge.oa
  obtain ⟨Dn, dn, rfl⟩ := own_shape hge.od
  have HGE7 := Lib.hid hge
  have HB7 := Lib.hid hbl
  obtain ⟨e0, e1, e2, e3, e4⟩ := hge.c
  have k0 : wc.cell? ⟨x, 0, none⟩ = some (.slice none 0 0) := cell_of_row _ _ _ _ _ _ hrx
  have k1 : wc.cell? ⟨x, 1, none⟩ = some (.slice none 0 0) := cell_of_row _ _ _ _ _ _ hrx
  have k2 : wc.cell? ⟨x, 2, none⟩ = some (.int .i64 0) := cell_of_row _ _ _ _ _ _ hrx
  have k3 : wc.cell? ⟨x, 3, none⟩ = some (.int .i64 0) := cell_of_row _ _ _ _ _ _ hrx
  have k4 : wc.cell? ⟨x, 4, none⟩ = some (.int .i64 0) := cell_of_row _ _ _ _ _ _ hrx
  have g0 : wc.frozen? ⟨x, 0, none⟩ = false := frozen_of_row _ _ _ _ _ hrx
  have g1 : wc.frozen? ⟨x, 1, none⟩ = false := frozen_of_row _ _ _ _ _ hrx
  have g2 : wc.frozen? ⟨x, 2, none⟩ = false := frozen_of_row _ _ _ _ _ hrx
  have g3 : wc.frozen? ⟨x, 3, none⟩ = false := frozen_of_row _ _ _ _ _ hrx
  have g4 : wc.frozen? ⟨x, 4, none⟩ = false := frozen_of_row _ _ _ _ _ hrx
  have HXY1 : Hid (x < y + 1) := Lib.hid (by have := HX.out; omega)
  obtain ⟨na, hna⟩ : ∃ n, a6.length = n := ⟨_, rfl⟩
  obtain ⟨nd, hnd⟩ : ∃ n, d4.length = n := ⟨_, rfl⟩
  rw [hna] at e0 HGE7
  rw [hnd] at e1 HGE7
  have HNA := Lib.hid hna
  have HND := Lib.hid hnd
  have HFIN : Hid (∀ v0 v1 v2 v3 v4, Below w.heap.size w (((((wc.setCell ⟨x, 0, none⟩ v0).setCell ⟨x, 1, none⟩ v1).setCell ⟨x, 2, none⟩ v2).setCell ⟨x, 3, none⟩ v3).setCell ⟨x, 4, none⟩ v4)) := Lib.hid fun v0 v1 v2 v3 v4 => five_below HB7.out x HWB.out.2.2 v0 v1 v2 v3 v4
  have HFIND : Hid (∀ n v0 v1 v2 v3 v4, Below w.heap.size w ((((((wc.drewN n).setCell ⟨x, 0, none⟩ v0).setCell ⟨x, 1, none⟩ v1).setCell ⟨x, 2, none⟩ v2).setCell ⟨x, 3, none⟩ v3).setCell ⟨x, 4, none⟩ v4)) := Lib.hid fun n v0 v1 v2 v3 v4 => five_below (below_drewN HB7.out n) x HWB.out.2.2 v0 v1 v2 v3 v4
  clear hrd hge hbl hrx hna hnd
  have HEN : Hid (∀ W, EdIn W none 0 0 none 0 0 noEd) := Lib.hid fun W => ⟨In5.nil _ _, rfl, Nat.le_refl _, ⟨by simp [noEd], by simp [noEd]⟩, rfl, Nat.le_refl _, i64_zero, i64_zero, i64_zero⟩
  cases st6 with
  | error c =>
    obtain rfl : f = c := hst
    have hG : G = (noEd, f) := HRG.out
    subst hG
    have hc : (f != 0) = true := by have := HOK.out.1.1; simp; omega
    clear HRG
    have hne : x ≠ b := HNB.out.2.1
    have hne2 : b ≠ x := Ne.symm hne
    have u2 := five_ne wc x b 2 hne2 (.slice none 0 0) (.slice none 0 0) (.int .i64 0) (.int .i64 0) (.int .i64 0) _ c2
    go_wp2_with fail
    go_region
    all_goals
      go_wp2
      refine bodyPost_ret (v := .tuple #[.agg #[.slice none 0 0, .slice none 0 0, .int .i64 0, .int .i64 0, .int .i64 0], .int .i64 f]) (by simp [results, Try.results15, go_sem, *]) rfl ⟨⟨none, 0, 0, none, 0, 0, rfl, HEN.out _⟩, ?_⟩
      first | exact HFIND.out 1 _ _ _ _ _ | exact below_drewN (HFIN.out _ _ _ _ _) 1 | exact HFIN.out _ _ _ _ _
  | ok p =>
    obtain ⟨rfl, rfl⟩ := hst
    have HSZL := HSL.out
    by_cases hlt : a < (s.size : Int)
    · have hG : G = (noEd, 4) := by rw [HRG.out]; unfold rgetk; simp only; rw [if_pos (by rw [HSZL]; exact hlt)]
      subst hG
      clear HRG HSZL
      go_wp2
      refine bodyPost_ret (v := .tuple #[.agg #[.slice none 0 0, .slice none 0 0, .int .i64 0, .int .i64 0, .int .i64 0], .int .i64 4]) (by simp [results, Try.results15, go_sem, *]) rfl ⟨⟨none, 0, 0, none, 0, 0, rfl, HEN.out _⟩, ?_⟩
      exact HFIN.out _ _ _ _ _
    · have hG : G = (⟨a6, d4, n0, n1, n2⟩, 0) := by rw [HRG.out]; unfold rgetk; simp only; rw [if_neg (by rw [HSZL]; exact hlt)]
      subst hG
      clear HRG HSZL
      go_wp2
      refine bodyPost_ret (v := .tuple #[.agg #[.slice An na cn, .slice Dn nd dn, .int .i64 n0, .int .i64 n1, .int .i64 n2], .int .i64 0]) (by simp [results, Try.results15, go_sem, *]) rfl ⟨⟨An, na, cn, Dn, nd, dn, rfl, ?_⟩, ?_⟩
      · have ho := own_set (own_set (own_set (own_set (own_set HGE7.out.oa HXY1.out 0 (.slice An na cn)) HXY1.out 1 (.slice Dn nd dn)) HXY1.out 2 (.int .i64 n0)) HXY1.out 3 (.int .i64 n1)) HXY1.out 4 (.int .i64 n2)
        have hd := own_set (own_set (own_set (own_set (own_set HGE7.out.od HXY1.out 0 (.slice An na cn)) HXY1.out 1 (.slice Dn nd dn)) HXY1.out 2 (.int .i64 n0)) HXY1.out 3 (.int .i64 n1)) HXY1.out 4 (.int .i64 n2)
        rw [HNA.out] at ho
        rw [HND.out] at hd
        obtain ⟨A', c', e, hin, -, hle⟩ := own5 (fun m hm => HOK.out.2.add m hm) HNA.out ho
        obtain ⟨D', d', e', hin', -, hle'⟩ := own_nums (fun z hz => HOK.out.2.drop z hz) HND.out hd
        cases e
        cases e'
        exact ⟨hin, HNA.out, hle, hin', HND.out, hle', HI012.out.1, HI012.out.2.1, HI012.out.2.2⟩
      · exact HFIN.out _ _ _ _ _
end Go.Proofs.Ytfodbblcflolgaa
