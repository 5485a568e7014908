/- Texts joined by bundle.py: Uh. -/
import Derived.Test.YtnglaolbfpdgoaaGreatZbu
import Derived.Test.YtnglaolbfpdgoaaGreatZbh

/- Build. -/
namespace Go.Proofs.YtnglaolbfpdgoaaGreat
open Go.RowKit
open SK
open TB (Bs Sp)

def BldIn (w : World) (x S b : Nat) (l : List E) (e : Ending) (w' : World) : Prop :=
  w.grownBy w' (some x) ∧ if 65535 < (TB.ixOf S l).length ∨ 65535 < (TB.flOf b l).length then e = .panicked (tfault 5) ∧ w'.heap[x]? = w.heap[x]? else e = .returned (.tuple #[]) ∧ w'.heap[x]? = some (.cells #[.string ⟨(TB.bytes S b l).toArray⟩] 9 (0, 0))

set_option maxRecDepth 100000 in
set_option maxHeartbeats 1000000 in
theorem tbuild1_any (w : World) (p q r x : Nat) (A : Option Addr) (n cap S b : Nat) (l : List E) (hp : w.heap[p]? = some (.cells #[.slice A n cap] 23 (0, 0))) (hq : w.heap[q]? = some (.cells #[.int .i64 S] 3 (0, 0))) (hr : w.heap[r]? = some (.cells #[.int .i64 b] 3 (0, 0))) (hx : w.heap[x]? = some (.cells #[.string ⟨#[]⟩] 9 (0, 0)))
    (hn : l.length = n) (hcap : n ≤ cap) (hin : EntsIn w A l) (hf : Fine l) (hok : BK.OkF [] l) (hb : n ≤ 65536) (hS : 1 ≤ S) (hS2 : S ≤ 4096) (hb1 : 1 ≤ b) (hb2 : b ≤ 16) :
    Calls Tryz.prog 22 #[.pointer (some ⟨p, 0, none⟩), .pointer (some ⟨q, 0, none⟩), .pointer (some ⟨r, 0, none⟩), .pointer (some ⟨x, 0, none⟩)] w fun e w' => BldIn w x S b l e w' := by
  have cp : w.cell? ⟨p, 0, none⟩ = some (.slice A n cap) := cell_of_row _ _ _ _ _ _ hp
  have cq : w.cell? ⟨q, 0, none⟩ = some (.int .i64 S) := cell_of_row _ _ _ _ _ _ hq
  have cr : w.cell? ⟨r, 0, none⟩ = some (.int .i64 b) := cell_of_row _ _ _ _ _ _ hr
  have HX := Lib.hid hx
  have HXL := Lib.hid (Array.getElem?_eq_some_iff.1 hx).1
  have HC := Lib.hid (tbytes_any A n cap S b l w hn hcap hin hf hok hb hS hS2 hb1 hb2)
  obtain ⟨ix, hix⟩ : ∃ ix, TB.ixOf S l = ix := ⟨_, rfl⟩
  obtain ⟨fl, hfl⟩ : ∃ fl, TB.flOf b l = fl := ⟨_, rfl⟩
  obtain ⟨R, hR⟩ : ∃ R, TB.bytes S b l = R := ⟨_, rfl⟩
  unfold BytesOr at HC
  unfold BldIn
  simp only [hix, hfl, hR] at HC ⊢
  clear hix hfl hR hp hq hr hx hn hcap hin hf hok
  by_cases hbad : 65535 < ix.length ∨ 65535 < fl.length
  · simp only [if_pos hbad] at HC ⊢
    go_enter Tryz.func22, Tryz.ntmps22
    go_wp2_with fail
    refine HC.out.mono ?_
    rintro e w1 ⟨hb, rfl⟩
    exact ⟨rfl, grown_below hb, rfl, hb.block x HXL.out⟩
  · simp only [if_neg hbad] at HC ⊢
    go_enter Tryz.func22, Tryz.ntmps22
    go_wp2_with fail
    refine HC.out.mono ?_
    rintro e w1 ⟨hb, rfl⟩
    have hrow1 := (hb.block x HXL.out).trans HX.out
    have cb : w1.cell? ⟨x, 0, none⟩ = some (.string ⟨#[]⟩) := cell_of_row _ _ _ _ _ _ hrow1
    have fb' : w1.frozen? ⟨x, 0, none⟩ = false := frozen_of_row _ _ _ _ _ hrow1
    have HG : Hid (w.grownBy (w1.setCell ⟨x, 0, none⟩ (.string ⟨R.toArray⟩)) (some x)) := Lib.hid (grown_set (grown_below hb) 0 _)
    have HR : Hid ((w1.setCell ⟨x, 0, none⟩ (.string ⟨R.toArray⟩)).heap[x]? = some (.cells #[.string ⟨R.toArray⟩] 9 (0, 0))) := Lib.hid (heap_set_fr hrow1 0 _)
    clear hb hrow1 HC
    go_wp2
    go_end0
    exact ⟨HG.out, rfl, HR.out⟩

/-- what Build tells -/
def buildV (x : Bs × Int) : Value := .tuple #[.string ⟨x.1.toArray⟩, .int .i64 x.2]

set_option maxRecDepth 100000 in
set_option maxHeartbeats 4000000 in
theorem tbuild_any (A : Option Addr) (n cap : Nat) (l : List E) (size bits : Int) (w : World) (hn : l.length = n) (hcap : n ≤ cap) (hin : EntsIn w A l) (hb : n ≤ 65536) (s0 : -9223372036854775808 ≤ size) (s1 : size ≤ 9223372036854775807) (b0 : -9223372036854775808 ≤ bits) (b1 : bits ≤ 9223372036854775807) :
    Calls Tryz.prog 7 #[.slice A n cap, .int .i64 size, .int .i64 bits] w fun e w' => e = .returned (buildV (TB.tabOut l size bits)) ∧ Below w.heap.size w w' := by
  have hmf : ∀ (fn : Fn) (first cap : Array Value) (w : World), (Instr.makeFunc fn first cap).run Tryz.prog w = .ok (.func fn first cap) w := fun _ _ _ _ => rfl
  obtain ⟨a, haa⟩ : ∃ a, w.heap.size = a := ⟨_, rfl⟩
  have HB3 : Hid (Below a w (((w.alloc (.cells #[.slice A n cap] 23)).alloc (.cells #[.int .i64 size] 3)).alloc (.cells #[.int .i64 bits] 3))) := Lib.hid ((((Below.refl _ w).alloc (by omega) _).alloc (by simp; omega) _).alloc (by simp; omega) _)
  have hX : TB.tabOut l size bits = if size < 1 ∨ 4096 < size ∨ bits < 1 ∨ 16 < bits then ([], 2) else if (BK.ord l).2 ≠ 0 then ([], (BK.ord l).2) else if 65535 < (TB.ixOf size.toNat l).length ∨ 65535 < (TB.flOf bits.toNat l).length then ([], 5) else (TB.bytes size.toNat bits.toNat l, 0) := by
    unfold TB.tabOut
    rw [if_neg (c := 65536 < l.length) (by omega)]
  obtain ⟨X, hXX⟩ : ∃ X, TB.tabOut l size bits = X := ⟨_, rfl⟩
  rw [hXX] at hX ⊢
  have HX := Lib.hid hX
  simp only [haa]
  have HIN := Lib.hid hin
  have HN := Lib.hid hn
  clear hX hXX hin hn
  have bad : ∀ (_ : size < 1 ∨ 4096 < size ∨ bits < 1 ∨ 16 < bits), X = ([], 2) := fun h => by rw [HX.out, if_pos h]
  have BAD := Lib.hid bad
  clear bad
  by_cases c1 : size < 1
  · have hF := BAD.out (Or.inl c1)
    have d1 : decide (size < 1) = true := by simpa using c1
    clear HX BAD
    subst hF
    go_enter Tryz.func7, Tryz.ntmps7
    go_wp2
    go_ret2
    exact ⟨rfl, HB3.out⟩
  · have d1 : decide (size < 1) = false := by simpa using c1
    by_cases c2 : 4096 < size
    · have hF := BAD.out (Or.inr (Or.inl c2))
      have d2 : decide (4096 < size) = true := by simpa using c2
      clear HX BAD
      subst hF
      go_enter Tryz.func7, Tryz.ntmps7
      go_wp2
      go_ret2
      exact ⟨rfl, HB3.out⟩
    · have d2 : decide (4096 < size) = false := by simpa using c2
      by_cases c3 : bits < 1
      · have hF := BAD.out (Or.inr (Or.inr (Or.inl c3)))
        have d3 : decide (bits < 1) = true := by simpa using c3
        clear HX BAD
        subst hF
        go_enter Tryz.func7, Tryz.ntmps7
        go_wp2
        go_ret2
        exact ⟨rfl, HB3.out⟩
      · have d3 : decide (bits < 1) = false := by simpa using c3
        by_cases c4 : 16 < bits
        · have hF := BAD.out (Or.inr (Or.inr (Or.inr c4)))
          have d4 : decide (16 < bits) = true := by simpa using c4
          clear HX BAD
          subst hF
          go_enter Tryz.func7, Tryz.ntmps7
          go_wp2
          go_ret2
          exact ⟨rfl, HB3.out⟩
        · have d4 : decide (16 < bits) = false := by simpa using c4
          obtain ⟨S, rfl⟩ := Int.eq_ofNat_of_zero_le (show 0 ≤ size by omega)
          obtain ⟨b, rfl⟩ := Int.eq_ofNat_of_zero_le (show 0 ≤ bits by omega)
          have HX2 : Hid (X = if (BK.ord l).2 ≠ 0 then ([], (BK.ord l).2) else if 65535 < (TB.ixOf S l).length ∨ 65535 < (TB.flOf b l).length then ([], 5) else (TB.bytes S b l, 0)) := Lib.hid (by rw [HX.out, if_neg (by omega), Int.toNat_natCast, Int.toNat_natCast])
          have d5 : decide (65536 < (n : Int)) = false := by simp; omega
          have d5' : decide (65536 < n) = false := by simp; omega
          obtain ⟨O1, O2, hO⟩ : ∃ O1 O2, BK.ord l = (O1, O2) := ⟨_, _, rfl⟩
          have HORD : Hid (∀ W, Below a w W → Calls Tryz.prog 20 #[.slice A n cap] W fun r w' => r = .returned (.tuple #[.int .i64 O1, .int .i64 O2]) ∧ Below W.heap.size W w') := Lib.hid fun W hW => by
            have := bord_any A n cap l W HN.out hcap (HIN.out.below (by rw [haa]; exact hW)) (by omega)
            rw [hO] at this
            exact this
          have HOO := Lib.hid hO
          clear HX BAD hO
          obtain ⟨r0, r1, r2⟩ := heap_new3 w (.cells #[.slice A n cap] 23) (.cells #[.int .i64 S] 3) (.cells #[.int .i64 b] 3)
          rw [haa] at r0 r1 r2
          have HS3 : Hid ((((w.alloc (.cells #[.slice A n cap] 23)).alloc (.cells #[.int .i64 S] 3)).alloc (.cells #[.int .i64 b] 3)).heap.size = a + 3) := Lib.hid (by simp; omega)
          go_enter Tryz.func7, Tryz.ntmps7
          go_wp2_with fail
          generalize ((w.alloc (.cells #[.slice A n cap] 23)).alloc (.cells #[.int .i64 S] 3)).alloc (.cells #[.int .i64 b] 3) = w0 at r0 r1 r2 HB3 HS3 ⊢
          refine (HORD.out w0 HB3.out).mono ?_
          rintro e w1 ⟨rfl, hb1⟩
          have HB4 := Lib.hid (below_seq HB3.out hb1 (by have := HS3.out; omega))
          have HR0 := Lib.hid ((hb1.block a (by have := HS3.out; omega)).trans r0)
          have HR1 := Lib.hid ((hb1.block (a + 1) (by have := HS3.out; omega)).trans r1)
          have HR2 := Lib.hid ((hb1.block (a + 2) (by have := HS3.out; omega)).trans r2)
          have HS4 : Hid (a + 3 ≤ w1.heap.size) := Lib.hid (by have := hb1.size; have := HS3.out; omega)
          clear hb1 r0 r1 r2 HB3 HS3 HORD
          by_cases ho : O2 = 0
          · have hok : BK.OkF [] l := BK.okF_ord _ _ (by have := HOO.out; unfold BK.ord at this; rw [this]; exact ho)
            subst ho
            have HX3 : Hid (X = if 65535 < (TB.ixOf S l).length ∨ 65535 < (TB.flOf b l).length then ([], 5) else (TB.bytes S b l, 0)) := Lib.hid (by rw [HX2.out, HOO.out]; simp)
            have hfine : Fine l := fun e he => ⟨HIN.out.wf e he, BK.okF_all _ _ hok e he⟩
            have HFI := Lib.hid hfine
            have HOK := Lib.hid hok
            clear hfine hok HX2 HOO
            obtain ⟨x, hx⟩ : ∃ x, w1.heap.size = x := ⟨_, rfl⟩
            have hr3 : (w1.alloc (.cells #[.string ⟨#[]⟩] 9)).heap[x]? = some (.cells #[.string ⟨#[]⟩] 9 (0, 0)) := by rw [← hx]; exact heap_alloc_new w1 _
            have hbl : Below w1.heap.size w1 (w1.alloc (.cells #[.string ⟨#[]⟩] 9)) := (Below.refl _ _).alloc (Nat.le_refl _) _
            have hs5 : (w1.alloc (.cells #[.string ⟨#[]⟩] 9)).heap.size = x + 1 := by simp; omega
            go_wp2_with fail
            generalize w1.alloc (.cells #[.string ⟨#[]⟩] 9) = w2 at hr3 hbl hs5 ⊢
            have HS4' := HS4.out
            have hal : ∀ k, k < x + 1 → (w2.alloc (.cells #[.int .i64 0] 27)).heap[k]? = w2.heap[k]? := fun k hk => Below.heap_alloc _ _ _ (by omega)
            have hB2 : Below a w w2 := below_seq HB4.out hbl (by omega)
            have HC := tbuild1_any (w2.alloc (.cells #[.int .i64 0] 27)) a (a + 1) (a + 2) x A n cap S b l
              ((hal a (by omega)).trans ((hbl.block a (by omega)).trans HR0.out)) ((hal (a + 1) (by omega)).trans ((hbl.block (a + 1) (by omega)).trans HR1.out)) ((hal (a + 2) (by omega)).trans ((hbl.block (a + 2) (by omega)).trans HR2.out)) ((hal x (by omega)).trans hr3)
              HN.out hcap (HIN.out.below (by rw [haa]; exact hB2.alloc (by omega) _)) HFI.out HOK.out hb (by omega) (by omega) (by omega) (by omega)
            unfold BldIn at HC
            obtain ⟨ix, hix⟩ : ∃ ix, TB.ixOf S l = ix := ⟨_, rfl⟩
            obtain ⟨fl, hfl⟩ : ∃ fl, TB.flOf b l = fl := ⟨_, rfl⟩
            obtain ⟨R, hR⟩ : ∃ R, TB.bytes S b l = R := ⟨_, rfl⟩
            simp only [hix, hfl, hR] at HC
            rw [hix, hfl, hR] at HX3
            have hcf : ∀ W, (callFunc 22 #[.pointer (some ⟨a, 0, none⟩), .pointer (some ⟨a + 1, 0, none⟩), .pointer (some ⟨a + 2, 0, none⟩), .pointer (some ⟨x, 0, none⟩)]).run Tryz.prog W = .ok (.enter 22 #[.pointer (some ⟨a, 0, none⟩), .pointer (some ⟨a + 1, 0, none⟩), .pointer (some ⟨a + 2, 0, none⟩), .pointer (some ⟨x, 0, none⟩)]) W := fun W => cf_any (fn := Tryz.f22) (by kernel_rfl) (by kernel_rfl) (by kernel_rfl) _ W
            have HBW := Lib.hid hB2
            have HS2 := Lib.hid hs5
            have HAX : Hid (a + 3 ≤ x) := Lib.hid (by omega)
            have HAL2 : Hid ((w2.alloc (.cells #[.int .i64 0] 27)).heap[x]? = some (.cells #[.string ⟨#[]⟩] 9 (0, 0))) := Lib.hid ((hal x (by omega)).trans hr3)
            have HCF := Lib.hid hcf
            clear hr3 hbl hs5 hal hB2 hcf hix hfl hR hx HR0 HR1 HR2 HS4 HS4' HB4
            by_cases hbad : 65535 < ix.length ∨ 65535 < fl.length
            · simp only [if_pos hbad] at HC
              have hF : X = ([], 5) := by rw [HX3.out, if_pos hbad]
              have HHC := Lib.hid HC
              clear HC HX3
              subst hF
              refine (tcaught_bad w2 22 _ 5 (fun w' => Below a w w' ∧ w'.heap[x]? = some (.cells #[.string ⟨#[]⟩] 9 (0, 0))) HCF.out (HHC.out.mono ?_)).mono ?_
              · rintro e w' ⟨hg, rfl, hrb⟩
                refine ⟨rfl, noErr_grown hg (by have := HS2.out; omega), ?_, ?_⟩
                · refine below_via (y := w2.heap.size) (w1 := w') ?_ (grownBy_setCell _ _ _) (by have := hg.size; simp at this; have := HS2.out; have := HAX.out; omega) (by have := HS2.out; have := HAX.out; omega)
                  exact below_via (y := x) (HBW.out.alloc (by have := HS2.out; have := HAX.out; omega) _) hg (by have := HS2.out; have := HAX.out; simp; omega) (by have := HAX.out; omega)
                · exact (Below.heap_setCell _ _ _ _ (by have := HS2.out; simp; omega)).trans (hrb.trans HAL2.out)
              · rintro e w4 ⟨rfl, hB, hr⟩
                have cx : w4.cell? ⟨x, 0, none⟩ = some (.string ⟨#[]⟩) := cell_of_row _ _ _ _ _ _ hr
                have HB := Lib.hid hB
                clear hB HHC hr
                go_wp2
                go_ret2
                exact ⟨rfl, HB.out⟩
            · simp only [if_neg hbad] at HC
              have hF : X = (R, 0) := by rw [HX3.out, if_neg hbad]
              have HHC := Lib.hid HC
              clear HC HX3
              subst hF
              refine (tcaught_ok w2 22 _ (fun w' => Below a w w' ∧ w'.heap[x]? = some (.cells #[.string ⟨R.toArray⟩] 9 (0, 0))) HCF.out (HHC.out.mono ?_)).mono ?_
              · rintro e w' ⟨hg, rfl, hrb⟩
                exact ⟨rfl, noErr_grown hg (by have := HS2.out; omega), below_via (y := x) (HBW.out.alloc (by have := HS2.out; have := HAX.out; omega) _) hg (by have := HS2.out; have := HAX.out; simp; omega) (by have := HAX.out; omega), hrb⟩
              · rintro e w4 ⟨rfl, hB, hr⟩
                have cx : w4.cell? ⟨x, 0, none⟩ = some (.string ⟨R.toArray⟩) := cell_of_row _ _ _ _ _ _ hr
                have HB := Lib.hid hB
                clear hB HHC hr
                go_wp2
                go_ret2
                exact ⟨rfl, HB.out⟩
          · have hF : X = ([], O2) := by rw [HX2.out, HOO.out, if_pos ho]
            have e1 : (O2 == 0) = false := by simpa using ho
            have e2 : (O2 != 0) = true := by simpa using ho
            clear HX2
            subst hF
            go_wp2
            go_ret2
            exact ⟨rfl, HB4.out⟩
end Go.Proofs.YtnglaolbfpdgoaaGreat

