/- MergeTwice: what was compacted and is compacted again, with the same snaps, stays as it is. For every entries and numbers. -/
import Derived.Test.YtfbhdggmefacjaaWk
import Derived.Test.YtfbhdggmefacjaaRe
import Derived.Test.YtfbhdggmefacjaaRg
import Derived.Test.YtfbhdggmefacjaaOq
import Derived.Test.YtfbhdggmefacjaaLaw
namespace Go.Proofs.Ytfbhdggmefacjaa
open Go.ChangeShapes Go.WideShapes Go.ChangeAt Go.RowKit Go.Shelf
open SK HP VB

theorem i64_head (W : World) (A : Option Addr) (n cap m : Nat) (h : m ≤ cap) : (Instr.slice 43 (.slice A n cap) none (some (.int .i64 (m : Int))) none).run Try.prog W = .ok (.slice A m cap) W := by
  have hs : ∀ w, (sizeOf (Try.prog.elem 43)).run Try.prog w = .ok 1 w := fun w => by kernel_rfl
  rw [run_slice_h W 43 A n cap (by kernel_rfl) .i64 (m : Int) (by omega) (by omega), hs]
  simp only [Result.andThen, sliced, Int.toNat_natCast, Nat.sub_zero, Nat.zero_mul, add_zero', Option.map_id']
  split <;> rfl

/-- Compact of entries in order, as the laws call it -/
theorem compact_in {W : World} {B X : Option Addr} {c m d : Nat} {L : List SK.E} {xs : List Int} {now : Int} {bot : Bool} (hs : Sorted L) (hL : L.length ≤ 100) (hc : L.length ≤ c) (hm : xs.length = m) (hm6 : m ≤ 1000000) (he : EntsIn W B L) (hx : I64In W X xs) :
    Calls Try.prog 18 #[.slice B L.length c, .slice X m d, .int .i64 now, .bool bot] W fun e w' => ∃ B' c', e = .returned (.slice B' (cpt xs now bot L).length c') ∧ EntsIn w' B' (cpt xs now bot L) ∧ (cpt xs now bot L).length ≤ c' ∧ Below W.heap.size W w' :=
  (compact_any B X L.length c m d L xs now bot W rfl hc (by omega) hm hm6 he hx).mono fun e w' ⟨v, h1, h2, h3⟩ => by
    obtain ⟨B', c', rfl, h4, -, h5⟩ := own_ents (fun x hx => he.wf x ((cpt_sub xs now bot hs).subset hx)) rfl h2
    exact ⟨B', c', h1, h4, h5, h3⟩

namespace lawTwice

set_option maxRecDepth 100000 in
set_option maxHeartbeats 4000000 in
theorem walk (A : Option Addr) (n cap : Nat) (l : List E) (X : Option Addr) (m0 d : Nat) (ys : List Int) (now : Int) (w : World) (hn : l.length = n) (hin : EntsIn w A l) (hb : n * 56 ≤ reachBytes) (hc : n ≤ cap) (hm0 : ys.length = m0) (hx : I64In w X ys) (hb8 : m0 * 8 ≤ reachBytes) (hd : m0 ≤ d) :
    Calls Try.prog 8 #[.slice A n cap, .slice X m0 d, .int .i64 now] w fun e w' => e = .returned (.bool true) ∧ Below w.heap.size w w' := by
  have HO1 := Lib.hid (ordered_any A n cap l w hn hin hc (by unfold reachBytes at hb; omega))
  have hso := od_sorted l
  have hol := od_len l
  obtain ⟨o, ho⟩ : ∃ o, od l = o := ⟨_, rfl⟩
  rw [ho] at HO1 hso hol
  obtain ⟨m, hm⟩ : ∃ m, min m0 20 = m := ⟨_, rfl⟩
  have hmin : min (m0 : Int) 20 = (m : Int) := by omega
  have hsl := fun W => i64_head W X m0 d m (by omega)
  have hx2 := hx.take m
  obtain ⟨xs, hxs⟩ : ∃ xs, ys.take m = xs := ⟨_, rfl⟩
  have hxm : xs.length = m := by rw [← hxs, List.length_take]; omega
  rw [hxs] at hx2
  have hm6 : m ≤ 20 := by omega
  have hm47 : m0 ≤ 140737488351232 := by unfold reachBytes at hb8; omega
  have k0 := cpt_sub xs now false hso
  have k1 := cpt_sub xs now true hso
  have k2 := cpt_sub xs now true (sorted_sub k1 hso)
  have ka := cpt_again xs now hso
  have s0 := sorted_sub k0 hso
  have s1 := sorted_sub k1 hso
  have HC0 : Hid (∀ W B c, Below w.heap.size w W → EntsIn W B o → o.length ≤ c → Calls Try.prog 18 #[.slice B o.length c, .slice X m d, .int .i64 now, .bool false] W fun e w' => ∃ B' c', e = .returned (.slice B' (cpt xs now false o).length c') ∧ EntsIn w' B' (cpt xs now false o) ∧ (cpt xs now false o).length ≤ c' ∧ Below W.heap.size W w') := Lib.hid fun W B c hW he hc => compact_in hso (by omega) hc hxm (by omega) he (hx2.below hW)
  have HC1 : Hid (∀ W B c, Below w.heap.size w W → EntsIn W B o → o.length ≤ c → Calls Try.prog 18 #[.slice B o.length c, .slice X m d, .int .i64 now, .bool true] W fun e w' => ∃ B' c', e = .returned (.slice B' (cpt xs now true o).length c') ∧ EntsIn w' B' (cpt xs now true o) ∧ (cpt xs now true o).length ≤ c' ∧ Below W.heap.size W w') := Lib.hid fun W B c hW he hc => compact_in hso (by omega) hc hxm (by omega) he (hx2.below hW)
  have HD0 : Hid (∀ W B c, Below w.heap.size w W → EntsIn W B (cpt xs now false o) → (cpt xs now false o).length ≤ c → Calls Try.prog 18 #[.slice B (cpt xs now false o).length c, .slice X m d, .int .i64 now, .bool false] W fun e w' => ∃ B' c', e = .returned (.slice B' (cpt xs now false o).length c') ∧ EntsIn w' B' (cpt xs now false o) ∧ Below W.heap.size W w') := Lib.hid fun W B c hW he hc => by
    have := compact_in (now := now) (bot := false) s0 (by have := k0.length_le; omega) hc hxm (by omega) he (hx2.below hW) (d := d)
    rw [ka] at this
    exact this.mono fun e w' ⟨B', c', h1, h2, h3, h4⟩ => ⟨B', c', h1, h2, h4⟩
  have HD1 : Hid (∀ W B c, Below w.heap.size w W → EntsIn W B (cpt xs now true o) → (cpt xs now true o).length ≤ c → Calls Try.prog 18 #[.slice B (cpt xs now true o).length c, .slice X m d, .int .i64 now, .bool true] W fun e w' => ∃ B' c', e = .returned (.slice B' (cpt xs now true (cpt xs now true o)).length c') ∧ Below W.heap.size W w') := Lib.hid fun W B c hW he hc =>
    (compact_in (now := now) (bot := true) s1 (by have := k1.length_le; omega) hc hxm (by omega) he (hx2.below hW) (d := d)).mono fun e w' ⟨B', c', h1, h2, h3, h4⟩ => ⟨B', c', h1, h4⟩
  have HAK : Hid (∀ W B c B' c', EntsIn W B (cpt xs now false o) → EntsIn W B' (cpt xs now false o) → Calls Try.prog 20 #[.slice B (cpt xs now false o).length c, .slice B' (cpt xs now false o).length c'] W fun e w' => e = .returned (.bool true) ∧ Below W.heap.size W w') := Lib.hid fun W B c B' c' h1 h2 => alike_any B B' _ c c' _ W rfl h1 h2 (by have := k0.length_le; omega)
  have l0 := k0.length_le
  have l1 := k1.length_le
  have l2 := k2.length_le
  obtain ⟨K0, hK0⟩ : ∃ K, cpt xs now false o = K := ⟨_, rfl⟩
  obtain ⟨K1, hK1⟩ : ∃ K, cpt xs now true o = K := ⟨_, rfl⟩
  rw [hK0] at HC0 HD0 HAK l0
  rw [hK1] at HC1 HD1 l1 l2
  obtain ⟨n2, hn2⟩ : ∃ k, (cpt xs now true K1).length = k := ⟨_, rfl⟩
  obtain ⟨n0, hn0⟩ : ∃ k, K0.length = k := ⟨_, rfl⟩
  obtain ⟨n1, hn1⟩ : ∃ k, K1.length = k := ⟨_, rfl⟩
  obtain ⟨N, hN⟩ : ∃ k, o.length = k := ⟨_, rfl⟩
  rw [hn0] at HC0 HD0 HAK l0
  rw [hn1] at HC1 HD1 l1 l2
  rw [hn2] at HD1 l2
  rw [hN] at HO1 HC0 HC1 l0 l1 hol
  have HW := Lib.hid wakes_any
  clear hn hin hb hc hm0 hx hd hb8 hso ho hx2 hxs hxm k0 k1 k2 ka s0 s1 hK0 hK1 hn0 hn1 hn2 hN hm
  go_enter Try.func8, Try.ntmps8
  go_wp2_with fail
  refine HO1.out.mono ?_
  rintro e w1 ⟨A1, c1, D1, d1, rfl, h1, q1, r1, t1, hb1⟩
  have HB1 := Lib.hid hb1
  have H1 := Lib.hid h1
  have hs1 := hb1.size
  clear HO1 h1 r1 hb1 t1
  go_wp2_with fail
  have hrow := heap_alloc_new w1 (.cells #[.bool false, .bool true] 4)
  have hbr : Below w1.heap.size w1 (w1.alloc (.cells #[.bool false, .bool true] 4)) := (Below.refl _ w1).alloc (Nat.le_refl _) _
  generalize w1.alloc (.cells #[.bool false, .bool true] 4) = w2 at hrow hbr ⊢
  obtain ⟨y, hy⟩ : ∃ y, w1.heap.size = y := ⟨_, rfl⟩
  rw [hy] at hrow ⊢
  have hyl := (Array.getElem?_eq_some_iff.1 hrow).1
  have HROW := Lib.hid hrow
  have HBR := Lib.hid hbr
  have HY := Lib.hid hy
  clear hrow hbr hy hs1
  go_loopw [25] (fun i wr => ∃ j : Nat, j ≤ 2 ∧ i = .int .i64 j ∧ Below w2.heap.size w2 wr) (fun i _ => 2 - (intOf i).toNat)
  case atStart => exact ⟨0, by omega, rfl, Below.refl _ _⟩
  case round =>
    obtain ⟨j, hj, rfl, hbq⟩ := hrel
    have HBQ := Lib.hid hbq
    have HBW : Hid (Below w.heap.size w wr) := Lib.hid (HB1.out.trans ((HBR.out.trans (hbq.mono HBR.out.size)).mono HB1.out.size))
    have HE := Lib.hid (H1.out.below (HBR.out.trans (hbq.mono HBR.out.size)))
    have hr9 := (hbq.block y hyl).trans HROW.out
    have z0 : wr.cell? ⟨y, 0, none⟩ = some (.bool false) := cell_of_row _ _ _ _ _ _ hr9
    have z1 : wr.cell? ⟨y, 1, none⟩ = some (.bool true) := cell_of_row _ _ _ _ _ _ hr9
    clear hbq hr9
    rcases (by omega : j = 0 ∨ j = 1 ∨ j = 2) with rfl | rfl | rfl
    · go_wp2_with fail
      refine (HC0.out _ _ _ HBW.out HE.out q1).mono ?_
      rintro e w3 ⟨B3, c3, rfl, he3, q3, hb3⟩
      have HB3 := Lib.hid (HBW.out.trans (hb3.mono HBW.out.size))
      have HQ3 := Lib.hid (HBQ.out.trans (hb3.mono HBQ.out.size))
      have HE3 := Lib.hid he3
      clear he3 hb3 z0 z1
      go_wp2_with fail
      refine (HD0.out _ _ _ HB3.out HE3.out q3).mono ?_
      rintro e w4 ⟨B4, c4, rfl, he4, hb4⟩
      have HQ4 := Lib.hid (HQ3.out.trans (hb4.mono HQ3.out.size))
      have HE3 := Lib.hid (HE3.out.below hb4)
      have HE4 := Lib.hid he4
      clear he4 hb4
      go_wp2_with fail
      refine (HAK.out _ _ _ _ _ HE3.out HE4.out).mono ?_
      rintro e w5 ⟨rfl, hb5⟩
      have HQ5 := Lib.hid (HQ4.out.trans (hb5.mono HQ4.out.size))
      clear hb5
      go_wp2
      go_roundw
      case rel => exact ⟨1, by omega, rfl, HQ5.out⟩
      case measure => simp [intOf]
    · go_wp2_with fail
      refine (HC1.out _ _ _ HBW.out HE.out q1).mono ?_
      rintro e w3 ⟨B3, c3, rfl, he3, q3, hb3⟩
      have HB3 := Lib.hid (HBW.out.trans (hb3.mono HBW.out.size))
      have HQ3 := Lib.hid (HBQ.out.trans (hb3.mono HBQ.out.size))
      have HE3 := Lib.hid he3
      clear he3 hb3 z0 z1
      go_wp2_with fail
      refine (HD1.out _ _ _ HB3.out HE3.out q3).mono ?_
      rintro e w4 ⟨B4, c4, rfl, hb4⟩
      have HQ4 := Lib.hid (HQ3.out.trans (hb4.mono HQ3.out.size))
      clear hb4
      go_wp2
      go_roundw
      case rel => exact ⟨2, by omega, rfl, HQ4.out⟩
      case measure => simp [intOf]
    · clear z0 z1
      go_wp2_with fail
      refine (HW.out _).mono ?_
      rintro e w3 ⟨rfl, hb3⟩
      have HB3 := Lib.hid (HBW.out.trans (hb3.mono HBW.out.size))
      clear hb3
      go_wp2
      go_ret
      exact ⟨rfl, HB3.out⟩

set_option maxRecDepth 100000 in
theorem contract (H : Type) (enc : TypeId × Value → H) (W : World) (base : Nat) (args : Array Value) (ds gs : List (DataW H)) (before : List MemPlace)
    (hval : ∀ (j : Nat) t v, Try.f8.params[j]? = some t → args[j]? = some v → Value.okWide Try.prog W .any base t v)
    (hW : DataW.Whole enc Try.prog Try.f8.params.toList Rows.mergeTwiceSpec.vars false W args.toList ds gs before)
    (hz : (DataW.weightsEach Try.prog Try.f8.params.toList (ds ++ gs)).all (· ≤ reachBytes) = true) :
    Calls Try.prog 8 args W fun e W' => ∃ v, e = .returned v ∧ Rows.mergeTwiceSpec.post enc Try.prog Try.f8 false true false false W args v W' := by
  have hW' := hW
  obtain ⟨p, q, hA0, hV, rfl, hfz, hnd⟩ := hW
  have hA : DataW.TrodAll enc Try.prog W 0 (fun _ => true) true Try.f8.params.toList args.toList ds p := hA0
  rw [Try.params8] at hA hval hz
  obtain ⟨v0, vs0, d0, ds0, p0, q0, hargs, rfl, rfl, h0, r0⟩ := trodAll_cons hA
  obtain ⟨v1, vs1, d1, ds1, p1, q1, rfl, rfl, rfl, h1, r1⟩ := trodAll_cons r0
  obtain ⟨v2, vs2, d2, ds2, p2, q2, rfl, rfl, rfl, h2, r2⟩ := trodAll_cons r1
  obtain ⟨rfl, rfl, rfl⟩ := trodAll_nil r2
  obtain rfl : args = #[v0, v1, v2] := by cases args; simp_all
  obtain ⟨rfl, rfl⟩ := trodVars_none hV
  obtain ⟨lA, lN, lC, l, rfl, hlenl, hinl, hbl, hcapl⟩ := open_ents (hval 0 22 v0 rfl rfl) h0 (parts_sized hz (j := 0) rfl rfl)
  obtain ⟨sA, sN, sC, s, rfl, hlens, hins, hfits, hbs, hcaps⟩ := open_n64 Try.underlying43 Try.underlying2 (by kernel_rfl) (by kernel_rfl) (hval 1 43 v1 rfl rfl) h1 (parts_sized hz (j := 1) rfl rfl)
  obtain ⟨t, rfl, rfl, rfl, wt⟩ := open_int Try.underlying2 (hval 2 2 v2 rfl rfl) h2
  have ht : -9223372036854775808 ≤ t ∧ t ≤ 9223372036854775807 := by simpa [Lit.wf, IntKind.min, IntKind.max, IntKind.signed, IntKind.bits] using wt
  refine (walk lA lN lC l sA sN sC s t W hlenl hinl hbl hcapl hlens hins hbs hcaps).mono fun e W' ⟨he, hB⟩ => ?_
  subst he
  exact ⟨_, rfl, law_post Try.laidOut (by kernel_rfl) rfl rfl Try.underlying4 hW' rfl hB⟩

set_option maxRecDepth 100000 in
theorem lifted (os : Os) (started : os.Started) (H : Type) (enc : TypeId × Value → H) :
    ReturnsInHanded {} Try.checked os 8 .any (Rows.mergeTwiceSpec.pre6 enc Try.prog Try.f8 Rows.mergeTwiceRow.domain false) (Rows.mergeTwiceSpec.post enc Try.prog Try.f8 false true false false) := by
  refine returnsInHanded_of_change_sized (C := Try.checked) Try.own started (by kernel_rfl) Try.func8
    (ChangeSpec.witness6 (enc := enc) (C := Try.checked) false ⟨#[], #[.slice none 0 0, .slice none 0 0, .int .i64 0], []⟩ 8 (by kernel_rfl) (by kernel_rfl) (by kernel_rfl) (by kernel_rfl)) ?_
  intro W base args ds gs before hval hW _ hz _
  exact contract H enc W base args ds gs before hval hW hz

theorem proved : Rows.MergeTwiceSaid :=
  OpenClaim.holds_of_wide 8 Try.f8 rfl rfl rfl rfl rfl rfl rfl ⟨rfl, rfl, rfl, rfl, rfl⟩ rfl rfl rfl rfl rfl (by kernel_rfl) Try.func8 (by kernel_rfl)
    (of_decide_eq_true (by kernel_rfl)) (by unfold Func.isWrapper; first | (rw [if_pos (by decide +kernel)]; kernel_rfl) | (rw [if_neg (by decide +kernel)]; exact ⟨rfl, rfl⟩))
    (fun os started H enc _ => lifted os started H enc)
end lawTwice
end Go.Proofs.Ytfbhdggmefacjaa
