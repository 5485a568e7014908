/- ordered: entries brought in order; both sides' lists compared. -/
import Derived.Test.YtfbhdggmefacjaaRc
import Derived.Test.YtfbhdggmefacjaaEq
namespace Go.Proofs.Ytfbhdggmefacjaa
open Go.RowKit
open SK HP VB

theorem add_zero' (a : Addr) : a.add 0 = a := by
  obtain ⟨b, o, x⟩ := a
  simp [Addr.add]
theorem lents_head (W : World) (A : Option Addr) (n cap m : Nat) (h : m ≤ cap) : (Instr.slice 22 (.slice A n cap) none (some (.int .i64 (m : Int))) none).run Try.prog W = .ok (.slice A m cap) W := by
  have hs : ∀ w, (sizeOf (Try.prog.elem 22)).run Try.prog w = .ok 5 w := fun w => by kernel_rfl
  rw [run_slice_h W 22 A n cap (by kernel_rfl) .i64 (m : Int) (by omega) (by omega), hs]
  simp only [Result.andThen, sliced, Int.toNat_natCast, Nat.sub_zero, Nat.zero_mul, add_zero', Option.map_id']
  split <;> rfl

theorem own_keep {w w' : World} {B : Nat} {e : TypeId} {s : Nat} {v : Value} {n : Nat} {xs : List Value} (h : w.ownsRow B e s v n xs) (hk : ∀ (b : Nat) (c : Array Value) (fr : Nat × Nat), w.heap[b]? = some (Obj.cells c e fr) → w'.heap[b]? = some (Obj.cells c e fr)) : w'.ownsRow B e s v n xs := by
  refine ⟨h.1, ?_⟩
  rcases h.2 with h2 | ⟨g, cap, cur, h1, h2, h3, h4⟩
  · exact .inl h2
  · exact .inr ⟨g, cap, cur, h1, h2, hk _ _ _ h3, h4⟩

theorem own_shape {w : World} {B : Nat} {e : TypeId} {s : Nat} {v : Value} {n : Nat} {xs : List Value} (h : w.ownsRow B e s v n xs) : ∃ A c, v = .slice A n c := by
  rcases h.2 with ⟨rfl, h0⟩ | ⟨g, cap, cur, rfl, _⟩
  · exact ⟨none, 0, by rw [h0]⟩
  · exact ⟨_, _, rfl⟩

/-- a box whose value is an own row of the document's entries -/
structure RBox (y : Nat) (w : World) (v : Value) (l : List SK.E) : Prop where
  box : w.heap[y]? = some (.cells #[v] 32 (0, 0))
  own : w.ownsRow (y + 1) 39 5 v l.length (ecs l)

theorem RBox.below {y : Nat} {w w' : World} {v : Value} {l : List SK.E} (h : RBox y w v l) (hb : Below w.heap.size w w') : RBox y w' v l :=
  ⟨(hb.block y (Array.getElem?_eq_some_iff.1 h.box).1).trans h.box, own_below h.own hb⟩
theorem RBox.put {y : Nat} {w w' : World} {v v' : Value} {l l' : List SK.E} (h : RBox y w v l) (hg : w.grownBy w' v.ownBlock) (ho : w'.ownsRow (y + 1) 39 5 v' l'.length (ecs l')) :
    w'.heap[y]? = some (.cells #[v] 32 (0, 0)) ∧ RBox y (w'.setCell ⟨y, 0, none⟩ v') v' l' := by
  have hb : w'.heap[y]? = some (.cells #[v] 32 (0, 0)) := (hg.block y (Array.getElem?_eq_some_iff.1 h.box).1 (fun e => by have := (h.own.lt y e.symm).1; omega)).trans h.box
  refine ⟨hb, by rw [heap_set_fr hb]; rfl, own_keep ho (fun b c fr hx => (Below.heap_setCell _ _ _ _ (fun e => by
    subst e
    rw [hb] at hx
    injection hx with hx
    injection hx with _ hx
    revert hx
    decide)).trans hx)⟩

def od (l : List SK.E) : List SK.E := mrg (l.take 100)
theorem od_sorted (l : List SK.E) : Sorted (od l) := mrg_sorted _
theorem od_len (l : List SK.E) : (od l).length ≤ 100 := by
  have := mrg_len (l.take 100)
  unfold od
  rw [List.length_take] at this
  omega

set_option maxRecDepth 100000 in
set_option maxHeartbeats 4000000 in
theorem ordered_any (A : Option Addr) (n cap : Nat) (l : List SK.E) (w : World) (hn : l.length = n) (hin : EntsIn w A l) (hcap : n ≤ cap) (hb : n ≤ 140737488351232) :
    Calls Try.prog 9 #[.slice A n cap] w fun e w' => ∃ A1 c1 A2 c2, e = .returned (.tuple #[.slice A1 (od l).length c1, .slice A2 (od l).length c2]) ∧ EntsIn w' A1 (od l) ∧ (od l).length ≤ c1 ∧ EntsIn w' A2 (od l) ∧ (od l).length ≤ c2 ∧ Below w.heap.size w w' := by
  obtain ⟨i0, hi, hz0, hz1, hz2⟩ := info_parts info_ent
  obtain ⟨j0, hj, hy0, hy1, hy2⟩ := info_parts info_rent
  obtain ⟨M, hM⟩ : ∃ M, min n 100 = M := ⟨_, rfl⟩
  have hmin : min (n : Int) 100 = (M : Int) := by omega
  have hmax : max (M : Int) 0 = (M : Int) := by omega
  have hsl := fun W => lents_head W A n cap M (by omega)
  have hln : (l.take 100).length = M := by rw [List.length_take, hn]; omega
  have hodl := od_len l
  have hodw : ∀ x ∈ od l, x.wf := fun x hx => hin.wf x (List.mem_of_mem_take (mrg_sub _ x hx))
  have hin2 := hin.take 100
  have hM2 : M ≤ 100 := by omega
  have HRM : Hid (∀ W A' c', EntsIn W A' (l.take 100) → M ≤ c' → ∀ b, b < W.heap.size → W.cell? ⟨b, 0, none⟩ = some (.slice A' M c') → Calls Try.prog 13 #[.slice (some ⟨b, 0, none⟩) 1 1] W fun e w' => ∃ A2 c2, e = .returned (.slice A2 (od l).length c2) ∧ EntsIn w' A2 (od l) ∧ (od l).length ≤ c2 ∧ Below W.heap.size W w') := Lib.hid fun W A' c' he hc b hb hcell => by
    refine (rmerge_any (some ⟨b, 0, none⟩) 1 1 [⟨A', c', l.take 100⟩] W rfl ⟨fun x hx => ?_, fun _ => ⟨b, 0, rfl, hb, fun j hj => ?_⟩⟩ (by omega) (by simp; omega)).mono ?_
    · obtain rfl : x = ⟨A', c', l.take 100⟩ := by simpa using hx
      exact ⟨he, by simp only [hln]; exact hc⟩
    · obtain rfl : j = 0 := by simpa using hj
      simp only [List.getElem_cons_zero, hln]
      exact hcell
    · rintro e w' ⟨v, rfl, ho, hbb⟩
      have hfl : (List.map (fun (x : LE) => x.l) [⟨A', c', l.take 100⟩]).flatten = l.take 100 := by simp
      rw [hfl] at ho
      obtain ⟨A2, c2, rfl, h1, -, h2⟩ := own_ents hodw rfl ho
      exact ⟨A2, c2, rfl, h1, h2, hbb⟩
  obtain ⟨L, hL⟩ : ∃ L, l.take 100 = L := ⟨_, rfl⟩
  rw [hL] at hln hin2 HRM
  obtain ⟨o, ho⟩ : ∃ o, od l = o := ⟨_, rfl⟩
  rw [ho] at hodl hodw HRM ⊢
  have HIN := Lib.hid hin2
  have HLN := Lib.hid hln
  have HOW := Lib.hid hodw
  have hrow := heap_alloc_new w (.cells #[.slice none 0 0] 32)
  have hb1 := (Below.refl w.heap.size w).alloc (Nat.le_refl _) (.cells #[.slice none 0 0] 32)
  have hsz1 : (w.alloc (.cells #[.slice none 0 0] 32)).heap.size = w.heap.size + 1 := by simp
  clear hin hin2 hln hodw ho hL hM hn
  go_enter Try.func9, Try.ntmps9
  go_wp2_with fail
  generalize w.alloc (.cells #[.slice none 0 0] 32) = W1 at hrow hb1 hsz1 ⊢
  obtain ⟨y, hy⟩ : ∃ y, w.heap.size = y := ⟨_, rfl⟩
  have HY := Lib.hid hy
  rw [hy] at hrow hb1 hsz1 ⊢
  clear hy
  go_loopw [17] (fun i wr => ∃ (k : Nat) (v : Value), k ≤ M ∧ i = .int .i64 k ∧ Below y w wr ∧ y + 1 ≤ wr.heap.size ∧ RBox y wr v (L.take k)) (fun i _ => M - (intOf i).toNat)
  case atStart => exact ⟨0, _, by omega, rfl, hb1, by omega, hrow, by simpa [ecs] using World.ownsRow_nil _ _ _ _⟩
  case round =>
    obtain ⟨k, v, hk, rfl, hbel, hsz, hbox⟩ := hrel
    have HB := Lib.hid hbel
    have HBX := Lib.hid hbox
    have c0 : wr.cell? ⟨y, 0, none⟩ = some v := cell_of_row _ _ _ _ _ _ hbox.box
    have hlk : (L.take k).length = k := by rw [List.length_take, HLN.out]; omega
    by_cases hlt : k < M
    · have hkl : k < L.length := by rw [HLN.out]; exact hlt
      obtain ⟨b, off, hA, hbl, hc⟩ := (HIN.out.below (by rw [HY.out]; exact hbel)).at_ (by omega)
      obtain ⟨z0, z1, z2, z3, z4⟩ := hc k hkl
      have htk := List.take_succ_eq_append_getElem hkl
      obtain ⟨e, he⟩ : ∃ e, L[k] = e := ⟨_, rfl⟩
      rw [he] at z0 z1 z2 z3 z4 htk
      have hec := ecs_snoc (L.take k) e
      obtain ⟨X, hX⟩ : ∃ X, L.take k = X := ⟨_, rfl⟩
      rw [hX] at HBX htk hec hlk
      obtain ⟨k2, q2, g2, v2, t2⟩ := e
      simp only [SK.E.cells] at z0 z1 z2 z3 z4 hec
      have HEC := Lib.hid hec
      have HTK := Lib.hid htk
      have g0 : (0 : Int) ≤ (k : Int) := by omega
      have g1 : (k : Int) < (M : Int) := by omega
      have hyl : ¬ y = wr.heap.size := by omega
      have hyl2 : y < wr.heap.size := by omega
      subst hA
      have hbA := (Below.refl wr.heap.size wr).alloc (Nat.le_refl _) (.cells #[.string k2, .int .i64 q2, .bool g2, .string v2, .int .i64 t2] 54)
      have hsA : (wr.alloc (.cells #[.string k2, .int .i64 q2, .bool g2, .string v2, .int .i64 t2] 54)).heap.size = wr.heap.size + 1 := by simp
      have HBX2 := Lib.hid (HBX.out.below hbA)
      have HBW : Hid (Below y w (wr.alloc (.cells #[.string k2, .int .i64 q2, .bool g2, .string v2, .int .i64 t2] 54))) := Lib.hid (hbel.trans (hbA.mono (by omega)))
      clear hc he hX hbel hbox hec htk hbA HB HBX
      have HFC : Hid (∀ j u, [.string k2, .int .i64 q2, .bool g2, .string v2, .int .i64 t2][j]? = some u → ((wr.alloc (.cells #[.string k2, .int .i64 q2, .bool g2, .string v2, .int .i64 t2] 54)).alloc (.cells #[.string k2, .int .i64 q2, .bool g2, .string v2, .int .i64 t2] 39)).cell? ((⟨wr.heap.size + 1, 0, none⟩ : Addr).add j) = some u) := Lib.hid (by
        have h := five_cells (wr.alloc (.cells #[.string k2, .int .i64 q2, .bool g2, .string v2, .int .i64 t2] 54)) (.string k2) (.int .i64 q2) (.bool g2) (.string v2) (.int .i64 t2) 39
        rw [hsA] at h
        exact h)
      go_wp2_with (at_builtin; refine wpList_append_own _ rfl _ _ 24 rfl (y + 1) 39 j0 _ 5 56 Try.underlying24 hj hy0 hy1 hy2 rfl (by decide) _ _ _ rfl (own_below HBX2.out.own ((Below.refl _ _).alloc (Nat.le_refl _) _)) ⟨wr.heap.size + 1, 0, none⟩ 1 1 [.string k2, .int .i64 q2, .bool g2, .string v2, .int .i64 t2] rfl ?c1 ?c2 ?c3 ?c4 ?c5 ?c6 ?_)
      case c1 => rfl
      case c2 => exact HFC.out
      case c3 => intro u hu; simp at hu; rcases hu with rfl | rfl | rfl | rfl | rfl <;> rfl
      case c4 => unfold maxLen; omega
      case c5 => omega
      case c6 =>
        simp
        try omega
      intro v' w3 hown3 hgrow hnil
      clear hnil
      obtain ⟨Av, cv, rfl⟩ := own_shape hown3
      have HP := (HBX2.out.below ((Below.refl _ _).alloc (Nat.le_refl _) (.cells #[.string k2, .int .i64 q2, .bool g2, .string v2, .int .i64 t2] 39))).put (l' := X ++ [⟨k2, q2, g2, v2, t2⟩]) hgrow (by
        rw [HEC.out, List.length_append, hlk]
        exact hown3)
      obtain ⟨hbx3, HP3⟩ := HP
      have HR := Lib.hid HP3
      have c3 : w3.cell? ⟨y, 0, none⟩ = some v := cell_of_row _ _ _ _ _ _ hbx3
      have f3 : w3.frozen? ⟨y, 0, none⟩ = false := frozen_of_row _ _ _ _ _ hbx3
      have HB3 : Hid (Below y w (w3.setCell ⟨y, 0, none⟩ (.slice Av (k + 1) cv))) := Lib.hid (((HBW.out.alloc (by omega) _).grown hgrow (by simp; omega) (fun g hg => by have := (HBX2.out.own.lt g hg).1; omega)).setCell (p := ⟨y, 0, none⟩) (Nat.le_refl _) (.slice Av (k + 1) cv))
      have hs3 : wr.heap.size + 1 ≤ w3.heap.size := by have := hgrow.size; rw [World.size_alloc, hsA] at this; omega
      clear HP3 hown3 hgrow hbx3
      go_wp2
      go_roundw
      case rel => exact ⟨k + 1, _, by omega, by go_num, HB3.out, by rw [setCell_size]; omega, by rw [HTK.out]; exact HR.out⟩
      case measure => simp [intOf]; omega
    · have hkm : k = M := by omega
      subst hkm
      rw [List.take_of_length_le (by rw [HLN.out]; omega)] at hbox
      have hv := hbox.own
      rw [HLN.out] at hv
      obtain ⟨A', c', rfl, hen, -, hcc⟩ := own_ents HIN.out.wf HLN.out hv
      have hbA := (Below.refl wr.heap.size wr).alloc (Nat.le_refl _) (.cells #[.slice A' k c'] 32)
      have hrA := heap_alloc_new wr (.cells #[.slice A' k c'] 32)
      have HRM2 := Lib.hid (HRM.out (wr.alloc (.cells #[.slice A' k c'] 32)) A' c' (hen.below hbA) hcc wr.heap.size (by simp) (cell_of_row _ _ _ _ _ _ hrA))
      have hyl : y < wr.heap.size := by omega
      clear hbox hv hen hrA
      go_wp2_with fail
      refine HRM2.out.mono ?_
      rintro e w3 ⟨A2, c2, rfl, he2, hc2, hb3⟩
      have HE2 := Lib.hid he2
      have HB3 : Hid (Below y w w3) := Lib.hid (HB.out.trans ((hbA.trans (hb3.mono (by simp))).mono (by omega)))
      have hs3 : y ≤ w3.heap.size := by have := HB3.out.size; rw [HY.out] at this; exact this
      clear he2 hb3 hbA HRM2 HBX c0
      obtain ⟨N, hN⟩ : ∃ N, o.length = N := ⟨_, rfl⟩
      have HN := Lib.hid hN
      rw [hN] at hc2 hodl ⊢
      clear hN
      obtain ⟨W3, hW3⟩ : ∃ W3, w3 = W3 := ⟨_, rfl⟩
      rw [hW3] at HE2 HB3 hs3 ⊢
      clear hW3
      go_wp2_with fail
      go_loopw [8, 33] (fun v i wr => ∃ q : Nat, q ≤ N ∧ i = .int .i64 q ∧ Below W3.heap.size W3 wr ∧ wr.ownsRow W3.heap.size 37 5 v (o.take q).length (ecs (o.take q))) (fun _ i _ => N - (intOf i).toNat)
      case atStart => exact ⟨0, by omega, rfl, Below.refl _ _, by simpa [ecs] using World.ownsRow_nil _ _ _ _⟩
      case round =>
        obtain ⟨q, hq, rfl, hbm, hom⟩ := hrel
        have htl : (o.take q).length = q := by rw [List.length_take, HN.out]; omega
        by_cases hlt4 : q < N
        · have hql : q < o.length := by rw [HN.out]; exact hlt4
          obtain ⟨b, off, hA2, hbl, hc⟩ := (HE2.out.below hbm).at_ (by omega)
          obtain ⟨z0, z1, z2, z3, z4⟩ := hc q hql
          have htk := List.take_succ_eq_append_getElem hql
          obtain ⟨e, he⟩ : ∃ e, o[q] = e := ⟨_, rfl⟩
          rw [he] at z0 z1 z2 z3 z4 htk
          have hec := ecs_snoc (o.take q) e
          obtain ⟨X, hX⟩ : ∃ X, o.take q = X := ⟨_, rfl⟩
          rw [hX] at hom htk hec htl
          obtain ⟨k2, q2, g2, v2, t2⟩ := e
          simp only [SK.E.cells] at z0 z1 z2 z3 z4 hec
          have HEC := Lib.hid hec
          have HTK := Lib.hid htk
          have g0 : (0 : Int) ≤ (q : Int) := by omega
          have g1 : (q : Int) < (N : Int) := by omega
          have hsz := hbm.size
          subst hA2
          have hbA := (Below.refl wr.heap.size wr).alloc (Nat.le_refl _) (.cells #[.string k2, .int .i64 q2, .bool g2, .string v2, .int .i64 t2] 39)
          have hsA : (wr.alloc (.cells #[.string k2, .int .i64 q2, .bool g2, .string v2, .int .i64 t2] 39)).heap.size = wr.heap.size + 1 := by simp
          have HO2 := Lib.hid (own_below hom hbA)
          have HBW : Hid (Below W3.heap.size W3 (wr.alloc (.cells #[.string k2, .int .i64 q2, .bool g2, .string v2, .int .i64 t2] 39))) := Lib.hid (hbm.trans (hbA.mono (by omega)))
          have HFC : Hid (∀ j u, [.string k2, .int .i64 q2, .bool g2, .string v2, .int .i64 t2][j]? = some u → ((wr.alloc (.cells #[.string k2, .int .i64 q2, .bool g2, .string v2, .int .i64 t2] 39)).alloc (.cells #[.string k2, .int .i64 q2, .bool g2, .string v2, .int .i64 t2] 37)).cell? ((⟨wr.heap.size + 1, 0, none⟩ : Addr).add j) = some u) := Lib.hid (by
            have h := five_cells (wr.alloc (.cells #[.string k2, .int .i64 q2, .bool g2, .string v2, .int .i64 t2] 39)) (.string k2) (.int .i64 q2) (.bool g2) (.string v2) (.int .i64 t2) 37
            rw [hsA] at h
            exact h)
          clear hc he hX hbm hom hec htk hbA
          go_wp2_with (at_builtin; refine wpList_append_own _ rfl _ _ 23 rfl (W3.heap.size) 37 i0 _ 5 56 Try.underlying23 hi hz0 hz1 hz2 rfl (by decide) _ _ _ rfl (own_below HO2.out ((Below.refl _ _).alloc (Nat.le_refl _) _)) ⟨wr.heap.size + 1, 0, none⟩ 1 1 [.string k2, .int .i64 q2, .bool g2, .string v2, .int .i64 t2] rfl ?c1 ?c2 ?c3 ?c4 ?c5 ?c6 ?_)
          case c1 => rfl
          case c2 => exact HFC.out
          case c3 => intro u hu; simp at hu; rcases hu with rfl | rfl | rfl | rfl | rfl <;> rfl
          case c4 => unfold maxLen; omega
          case c5 => omega
          case c6 =>
            simp
            try omega
          intro v' w4 hown3 hgrow hnil
          clear hnil
          have HR : Hid (w4.ownsRow W3.heap.size 37 5 v' (o.take (q + 1)).length (ecs (o.take (q + 1)))) := Lib.hid (by
            rw [HTK.out, HEC.out, List.length_append, htl]
            exact hown3)
          have HB4 : Hid (Below W3.heap.size W3 w4) := Lib.hid (((HBW.out.alloc (by omega) _)).grown hgrow (by simp; omega) (fun g hg => (HO2.out.lt g hg).1))
          clear hown3 hgrow
          go_wp2
          go_roundw
          case rel => exact ⟨q + 1, by omega, by go_num, HB4.out, HR.out⟩
          case measure => simp [intOf]; omega
        · have hqn : q = N := by omega
          have htk : o.take q = o := List.take_of_length_le (by rw [HN.out]; omega)
          rw [htk, HN.out] at hom
          obtain ⟨A1, c1, rfl, he1, -, hc1⟩ := own_ents HOW.out HN.out hom
          have HE1 := Lib.hid he1
          have HE3 := Lib.hid (HE2.out.below hbm)
          have HBE : Hid (Below w.heap.size w wr) := Lib.hid (by rw [HY.out]; exact HB3.out.trans (hbm.mono hs3))
          subst hqn
          clear hom he1 hbm htl htk
          go_wp2
          go_ret2
          exact ⟨A1, c1, A2, c2, by rw [HN.out]; rfl, HE1.out, by rw [HN.out]; exact hc1, HE3.out, by rw [HN.out]; exact hc2, HBE.out⟩
end Go.Proofs.Ytfbhdggmefacjaa
