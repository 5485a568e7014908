/- BudgetKinds: what one kind holds makes no difference to another one but for the room that is left. For every four numbers.  -/
import Derived.Test.YtapncnbildampaaBl
import Derived.Test.YtapncnbildampaaLaw
namespace Go.Proofs.Ytapncnbildampaa
open Go.ChangeShapes Go.WideShapes Go.ChangeAt Go.RowKit
open BM
namespace lawKinds

/-- two budgets beside a block that stays -/
structure KR (w wr : World) (x b c : Nat) (C : Array Value) (T : TypeId) (s t : S) : Prop where
  box : wr.heap[x]? = some (.cells C T (0, 0))
  b_ : Lv w wr b s
  c_ : Lv w wr c t
  xb : x ≠ b
  xc : x ≠ c
  bc : b ≠ c

section
variable {w wr : World} {x b c : Nat} {C : Array Value} {T : TypeId} {s t : S}
theorem KR.reserve (h : KR w wr x b c C T s t) (k n : Int) (hn : n ≤ 9223372036854775807) {r : Int × S} (hr : BM.reserve k n s = r) :
    Calls Try.prog 14 #[.pointer (some ⟨b, 0, none⟩), .int .i64 k, .int .i64 n] wr fun e w' => e = .returned (.int .i64 r.1) ∧ KR w w' x b c C T r.2 t := by
  subst hr
  refine (reserve_any h.b_.at_ h.b_.ok k n hn).mono fun e w' ho => ⟨ho.1, ?_, (h.b_.of_out (ok_reserve h.b_.ok k n) ho).2, h.c_.grown ho.2.2 h.b_.le h.bc.symm, h.xb, h.xc, h.bc⟩
  exact (ho.2.2.block x (Array.getElem?_eq_some_iff.1 h.box).1 (by simpa using h.xb)).trans h.box
theorem KR.change (h : KR w wr x b c C T s t) (k n : Int) (hn : n ≤ 9223372036854775807) {r : Int × S} (hr : BM.change k n t = r) :
    Calls Try.prog 16 #[.pointer (some ⟨c, 0, none⟩), .int .i64 k, .int .i64 n] wr fun e w' => e = .returned (.int .i64 r.1) ∧ KR w w' x b c C T s r.2 := by
  subst hr
  refine (change_any h.c_.at_ h.c_.ok k n hn).mono fun e w' ho => ⟨ho.1, ?_, h.b_.grown ho.2.2 h.c_.le h.bc, (h.c_.of_out (ok_change h.c_.ok k n) ho).2, h.xb, h.xc, h.bc⟩
  exact (ho.2.2.block x (Array.getElem?_eq_some_iff.1 h.box).1 (by simpa using h.xc)).trans h.box
theorem KR.cell (h : KR w wr x b c C T s t) (j : Nat) : wr.cell? ⟨x, j, none⟩ = C[j]? := cell_of_row _ _ _ _ _ _ h.box
end

def X (n : Int) : Int := (max 0 n).tmod 274877906944
theorem X_rng (n : Int) : 0 ≤ X n ∧ X n < 274877906944 := by
  unfold X
  have h0 : 0 ≤ max 0 n := by omega
  exact ⟨Int.tmod_nonneg _ h0, Int.tmod_lt_of_pos _ (by omega)⟩

def V (x0 x1 x2 x3 : Int) : S := ⟨1099511627776, x0 + x1 + x2 + x3, x0, x1, x2, x3⟩
theorem V_new : new 1099511627776 = V 0 0 0 0 := by kernel_rfl

section
variable {x0 x1 x2 x3 : Int} (h0 : 0 ≤ x0 ∧ x0 < 274877906944) (h1 : 0 ≤ x1 ∧ x1 < 274877906944) (h2 : 0 ≤ x2 ∧ x2 < 274877906944) (h3 : 0 ≤ x3 ∧ x3 < 274877906944)
include h0 in
theorem up0 : BM.reserve 0 x0 (V 0 0 0 0) = (0, V x0 0 0 0) := by
  unfold BM.reserve
  rw [if_neg (show ¬ bad 0 x0 by unfold bad known; omega), if_neg (by simp [V, S.used]; omega)]
  simp [V, S.put, S.set, S.of, S.used]
  omega
include h0 h1 h2 h3 in
theorem dn0 : BM.change 0 x0 (V 0 x1 x2 x3) = (0, V x0 x1 x2 x3) := by
  unfold BM.change
  rw [if_neg (show ¬ bad 0 x0 by unfold bad known; omega), if_neg (by simp [V, S.used, S.of]; omega)]
  simp [V, S.put, S.set, S.used]
  omega
include h0 h1 in
theorem up1 : BM.reserve 1 x1 (V x0 0 0 0) = (0, V x0 x1 0 0) := by
  unfold BM.reserve
  rw [if_neg (show ¬ bad 1 x1 by unfold bad known; omega), if_neg (by simp [V, S.used]; omega)]
  simp [V, S.put, S.set, S.of, S.used]
  omega
include h1 h2 h3 in
theorem dn1 : BM.change 1 x1 (V 0 0 x2 x3) = (0, V 0 x1 x2 x3) := by
  unfold BM.change
  rw [if_neg (show ¬ bad 1 x1 by unfold bad known; omega), if_neg (by simp [V, S.used, S.of]; omega)]
  simp [V, S.put, S.set, S.used]
  omega
include h0 h1 h2 in
theorem up2 : BM.reserve 2 x2 (V x0 x1 0 0) = (0, V x0 x1 x2 0) := by
  unfold BM.reserve
  rw [if_neg (show ¬ bad 2 x2 by unfold bad known; omega), if_neg (by simp [V, S.used]; omega)]
  simp [V, S.put, S.set, S.of, S.used]
  omega
include h2 h3 in
theorem dn2 : BM.change 2 x2 (V 0 0 0 x3) = (0, V 0 0 x2 x3) := by
  unfold BM.change
  rw [if_neg (show ¬ bad 2 x2 by unfold bad known; omega), if_neg (by simp [V, S.used, S.of]; omega)]
  simp [V, S.put, S.set, S.used]
  omega
include h0 h1 h2 h3 in
theorem up3 : BM.reserve 3 x3 (V x0 x1 x2 0) = (0, V x0 x1 x2 x3) := by
  unfold BM.reserve
  rw [if_neg (show ¬ bad 3 x3 by unfold bad known; omega), if_neg (by simp [V, S.used]; omega)]
  simp [V, S.put, S.set, S.of, S.used]
  omega
include h3 in
theorem dn3 : BM.change 3 x3 (V 0 0 0 0) = (0, V 0 0 0 x3) := by
  unfold BM.change
  rw [if_neg (show ¬ bad 3 x3 by unfold bad known; omega), if_neg (by simp [V, S.used, S.of]; omega)]
  simp [V, S.put, S.set, S.used]
  omega
end

set_option maxRecDepth 100000 in
set_option maxHeartbeats 4000000 in
theorem walk (n0 n1 n2 n3 : Int) (w : World) (f0 : -9223372036854775808 ≤ n0 ∧ n0 ≤ 9223372036854775807) (f1 : -9223372036854775808 ≤ n1 ∧ n1 ≤ 9223372036854775807) (f2 : -9223372036854775808 ≤ n2 ∧ n2 ≤ 9223372036854775807) (f3 : -9223372036854775808 ≤ n3 ∧ n3 ≤ 9223372036854775807) :
    Calls Try.prog 7 #[.agg #[.int .i64 n0, .int .i64 n1, .int .i64 n2, .int .i64 n3]] w fun e w' => e = .returned (.bool true) ∧ Below w.heap.size w w' := by
  obtain ⟨x0, hx0⟩ : ∃ x, X n0 = x := ⟨_, rfl⟩
  have r0 := X_rng n0
  rw [hx0] at r0
  obtain ⟨x1, hx1⟩ : ∃ x, X n1 = x := ⟨_, rfl⟩
  have r1 := X_rng n1
  rw [hx1] at r1
  obtain ⟨x2, hx2⟩ : ∃ x, X n2 = x := ⟨_, rfl⟩
  have r2 := X_rng n2
  rw [hx2] at r2
  obtain ⟨x3, hx3⟩ : ∃ x, X n3 = x := ⟨_, rfl⟩
  have r3 := X_rng n3
  rw [hx3] at r3
  have HU0 := Lib.hid (@up0 x0 r0)
  have HD0 := Lib.hid (@dn0 x0 x1 x2 x3 r0 r1 r2 r3)
  have HU1 := Lib.hid (@up1 x0 x1 r0 r1)
  have HD1 := Lib.hid (@dn1 x1 x2 x3 r1 r2 r3)
  have HU2 := Lib.hid (@up2 x0 x1 x2 r0 r1 r2)
  have HD2 := Lib.hid (@dn2 x2 x3 r2 r3)
  have HU3 := Lib.hid (@up3 x0 x1 x2 x3 r0 r1 r2 r3)
  have HD3 := Lib.hid (@dn3 x3 r3)
  obtain ⟨C, hC⟩ : ∃ C, (#[.int .i64 n0, .int .i64 n1, .int .i64 n2, .int .i64 n3] : Array Value) = C := ⟨_, rfl⟩
  have HBX : Hid ((w.alloc (.cells #[.int .i64 n0, .int .i64 n1, .int .i64 n2, .int .i64 n3] 40)).heap[w.heap.size]? = some (.cells C 40 (0, 0))) := by rw [← hC]; exact heap_alloc_new w _
  have HC0 : Hid (C[0]? = some (.int .i64 n0)) := by rw [← hC]; rfl
  have HC1 : Hid (C[1]? = some (.int .i64 n1)) := by rw [← hC]; rfl
  have HC2 : Hid (C[2]? = some (.int .i64 n2)) := by rw [← hC]; rfl
  have HC3 : Hid (C[3]? = some (.int .i64 n3)) := by rw [← hC]; rfl
  have HA0 : Hid (0 ≤ n0 → n0 % 274877906944 = x0) := fun h => by
    rw [← hx0]; unfold X; rw [show max 0 n0 = n0 from by omega, Int.tmod_eq_emod_of_nonneg h]
  have HB0 : Hid (n0 ≤ 0 → x0 = 0) := fun h => by
    rw [← hx0]; unfold X; rw [show max 0 n0 = 0 from by omega]; rfl
  have HA1 : Hid (0 ≤ n1 → n1 % 274877906944 = x1) := fun h => by
    rw [← hx1]; unfold X; rw [show max 0 n1 = n1 from by omega, Int.tmod_eq_emod_of_nonneg h]
  have HB1 : Hid (n1 ≤ 0 → x1 = 0) := fun h => by
    rw [← hx1]; unfold X; rw [show max 0 n1 = 0 from by omega]; rfl
  have HA2 : Hid (0 ≤ n2 → n2 % 274877906944 = x2) := fun h => by
    rw [← hx2]; unfold X; rw [show max 0 n2 = n2 from by omega, Int.tmod_eq_emod_of_nonneg h]
  have HB2 : Hid (n2 ≤ 0 → x2 = 0) := fun h => by
    rw [← hx2]; unfold X; rw [show max 0 n2 = 0 from by omega]; rfl
  have HA3 : Hid (0 ≤ n3 → n3 % 274877906944 = x3) := fun h => by
    rw [← hx3]; unfold X; rw [show max 0 n3 = n3 from by omega, Int.tmod_eq_emod_of_nonneg h]
  have HB3 : Hid (n3 ≤ 0 → x3 = 0) := fun h => by
    rw [← hx3]; unfold X; rw [show max 0 n3 = 0 from by omega]; rfl
  clear hC hx0 hx1 hx2 hx3
  go_enter Try.func7, Try.ntmps7
  go_wp2_with fail
  refine (lv_made ((Below.refl _ w).alloc (Nat.le_refl _) _) 1099511627776).mono ?_
  rintro e w1 ⟨b, rfl, h1, hb, hB1⟩
  have H1 := Lib.hid h1
  have HX1 : Hid (w1.heap[w.heap.size]? = some (.cells C 40 (0, 0))) := (hB1.block _ (by simp)).trans HBX.out
  have hb' : w.heap.size < b := by simp at hb; omega
  clear h1 hB1 hb HBX
  go_wp2_with fail
  refine (lv_made H1.out.below 1099511627776).mono ?_
  rintro e w2 ⟨c, rfl, h2, hc, hB2⟩
  have hbl := H1.out.at_.lt
  have hc' : b < c := by omega
  have hK : KR w w2 w.heap.size b c C 40 (V 0 0 0 0) (V 0 0 0 0) := ⟨(hB2.block _ (by omega)).trans HX1.out, V_new ▸ H1.out.trans hB2, V_new ▸ h2, by omega, by omega, by omega⟩
  have HK := Lib.hid hK
  obtain ⟨x, hxx⟩ : ∃ x, w.heap.size = x := ⟨_, rfl⟩
  rw [hxx] at HK
  clear hK h2 hc hB2 hbl hc' HX1 H1 hb'
  go_wp2_with fail
  go_loopw [5] (fun i wr => (i = .int .i64 0 ∧ KR w wr x b c C 40 (V 0 0 0 0) (V 0 0 0 0)) ∨ (i = .int .i64 1 ∧ KR w wr x b c C 40 (V x0 0 0 0) (V 0 0 0 0)) ∨ (i = .int .i64 2 ∧ KR w wr x b c C 40 (V x0 x1 0 0) (V 0 0 0 0)) ∨ (i = .int .i64 3 ∧ KR w wr x b c C 40 (V x0 x1 x2 0) (V 0 0 0 0)) ∨ (i = .int .i64 4 ∧ KR w wr x b c C 40 (V x0 x1 x2 x3) (V 0 0 0 0))) (fun i _ => 4 - (intOf i).toNat)
  case atStart => exact Or.inl ⟨rfl, HK.out⟩
  case round =>
    rcases hrel with ⟨rfl, h⟩ | ⟨rfl, h⟩ | ⟨rfl, h⟩ | ⟨rfl, h⟩ | ⟨rfl, h⟩
    · have HK := Lib.hid h
      have c0 := (h.cell 0).trans HC0.out
      clear h
      go_wp2_with fail
      · rw [HA0.out (by omega)]
        refine (HK.out.reserve 0 x0 (by omega) HU0.out).mono ?_
        rintro e w3 ⟨rfl, h3⟩
        have HK3 := Lib.hid h3
        clear h3
        go_wp2
        go_roundw
        case rel => exact Or.inr (Or.inl (⟨rfl, HK3.out⟩))
        case measure => simp [intOf]
      · obtain rfl : x0 = 0 := HB0.out (by omega)
        refine (HK.out.reserve 0 0 (by omega) HU0.out).mono ?_
        rintro e w3 ⟨rfl, h3⟩
        have HK3 := Lib.hid h3
        clear h3
        go_wp2
        go_roundw
        case rel => exact Or.inr (Or.inl (⟨rfl, HK3.out⟩))
        case measure => simp [intOf]
    · have HK := Lib.hid h
      have c0 := (h.cell 1).trans HC1.out
      clear h
      go_wp2_with fail
      · rw [HA1.out (by omega)]
        refine (HK.out.reserve 1 x1 (by omega) HU1.out).mono ?_
        rintro e w3 ⟨rfl, h3⟩
        have HK3 := Lib.hid h3
        clear h3
        go_wp2
        go_roundw
        case rel => exact Or.inr (Or.inr (Or.inl (⟨rfl, HK3.out⟩)))
        case measure => simp [intOf]
      · obtain rfl : x1 = 0 := HB1.out (by omega)
        refine (HK.out.reserve 1 0 (by omega) HU1.out).mono ?_
        rintro e w3 ⟨rfl, h3⟩
        have HK3 := Lib.hid h3
        clear h3
        go_wp2
        go_roundw
        case rel => exact Or.inr (Or.inr (Or.inl (⟨rfl, HK3.out⟩)))
        case measure => simp [intOf]
    · have HK := Lib.hid h
      have c0 := (h.cell 2).trans HC2.out
      clear h
      go_wp2_with fail
      · rw [HA2.out (by omega)]
        refine (HK.out.reserve 2 x2 (by omega) HU2.out).mono ?_
        rintro e w3 ⟨rfl, h3⟩
        have HK3 := Lib.hid h3
        clear h3
        go_wp2
        go_roundw
        case rel => exact Or.inr (Or.inr (Or.inr (Or.inl (⟨rfl, HK3.out⟩))))
        case measure => simp [intOf]
      · obtain rfl : x2 = 0 := HB2.out (by omega)
        refine (HK.out.reserve 2 0 (by omega) HU2.out).mono ?_
        rintro e w3 ⟨rfl, h3⟩
        have HK3 := Lib.hid h3
        clear h3
        go_wp2
        go_roundw
        case rel => exact Or.inr (Or.inr (Or.inr (Or.inl (⟨rfl, HK3.out⟩))))
        case measure => simp [intOf]
    · have HK := Lib.hid h
      have c0 := (h.cell 3).trans HC3.out
      clear h
      go_wp2_with fail
      · rw [HA3.out (by omega)]
        refine (HK.out.reserve 3 x3 (by omega) HU3.out).mono ?_
        rintro e w3 ⟨rfl, h3⟩
        have HK3 := Lib.hid h3
        clear h3
        go_wp2
        go_roundw
        case rel => exact Or.inr (Or.inr (Or.inr (Or.inr (⟨rfl, HK3.out⟩))))
        case measure => simp [intOf]
      · obtain rfl : x3 = 0 := HB3.out (by omega)
        refine (HK.out.reserve 3 0 (by omega) HU3.out).mono ?_
        rintro e w3 ⟨rfl, h3⟩
        have HK3 := Lib.hid h3
        clear h3
        go_wp2
        go_roundw
        case rel => exact Or.inr (Or.inr (Or.inr (Or.inr (⟨rfl, HK3.out⟩))))
        case measure => simp [intOf]
    · have HK := Lib.hid h
      clear h
      go_wp2_with fail
      go_loopw [7] (fun i wr => (i = .int .i64 3 ∧ KR w wr x b c C 40 (V x0 x1 x2 x3) (V 0 0 0 0)) ∨ (i = .int .i64 2 ∧ KR w wr x b c C 40 (V x0 x1 x2 x3) (V 0 0 0 x3)) ∨ (i = .int .i64 1 ∧ KR w wr x b c C 40 (V x0 x1 x2 x3) (V 0 0 x2 x3)) ∨ (i = .int .i64 0 ∧ KR w wr x b c C 40 (V x0 x1 x2 x3) (V 0 x1 x2 x3)) ∨ (i = .int .i64 (-1) ∧ KR w wr x b c C 40 (V x0 x1 x2 x3) (V x0 x1 x2 x3))) (fun i _ => match i with | .int _ z => (z + 1).toNat | _ => 0)
      case atStart => exact Or.inl ⟨rfl, HK.out⟩
      case round =>
        rcases hrel with ⟨rfl, h⟩ | ⟨rfl, h⟩ | ⟨rfl, h⟩ | ⟨rfl, h⟩ | ⟨rfl, h⟩
        · have HK := Lib.hid h
          have c0 := (h.cell 3).trans HC3.out
          clear h
          go_wp2_with fail
          · rw [HA3.out (by omega)]
            refine (HK.out.change 3 x3 (by omega) HD3.out).mono ?_
            rintro e w3 ⟨rfl, h3⟩
            have HK3 := Lib.hid h3
            have HOB : Hid (Calls Try.prog 13 #[.pointer (some ⟨b, 0, none⟩), .int .i64 3] w3 fun e w' => e = .returned (.int .i64 x3) ∧ w3 = w') := of_any h3.b_.at_ 3
            have HOC : Hid (Calls Try.prog 13 #[.pointer (some ⟨c, 0, none⟩), .int .i64 3] w3 fun e w' => e = .returned (.int .i64 x3) ∧ w3 = w') := of_any h3.c_.at_ 3
            clear h3
            go_wp2_with fail
            refine HOB.out.mono ?_
            rintro e w4 ⟨rfl, rfl⟩
            go_wp2_with fail
            refine HOC.out.mono ?_
            rintro e w4 ⟨rfl, rfl⟩
            go_wp2
            go_roundw
            case rel => exact Or.inr (Or.inl (⟨rfl, HK3.out⟩))
            case measure => simp
          · obtain rfl : x3 = 0 := HB3.out (by omega)
            refine (HK.out.change 3 0 (by omega) HD3.out).mono ?_
            rintro e w3 ⟨rfl, h3⟩
            have HK3 := Lib.hid h3
            have HOB : Hid (Calls Try.prog 13 #[.pointer (some ⟨b, 0, none⟩), .int .i64 3] w3 fun e w' => e = .returned (.int .i64 0) ∧ w3 = w') := of_any h3.b_.at_ 3
            have HOC : Hid (Calls Try.prog 13 #[.pointer (some ⟨c, 0, none⟩), .int .i64 3] w3 fun e w' => e = .returned (.int .i64 0) ∧ w3 = w') := of_any h3.c_.at_ 3
            clear h3
            go_wp2_with fail
            refine HOB.out.mono ?_
            rintro e w4 ⟨rfl, rfl⟩
            go_wp2_with fail
            refine HOC.out.mono ?_
            rintro e w4 ⟨rfl, rfl⟩
            go_wp2
            go_roundw
            case rel => exact Or.inr (Or.inl (⟨rfl, HK3.out⟩))
            case measure => simp
        · have HK := Lib.hid h
          have c0 := (h.cell 2).trans HC2.out
          clear h
          go_wp2_with fail
          · rw [HA2.out (by omega)]
            refine (HK.out.change 2 x2 (by omega) HD2.out).mono ?_
            rintro e w3 ⟨rfl, h3⟩
            have HK3 := Lib.hid h3
            have HOB : Hid (Calls Try.prog 13 #[.pointer (some ⟨b, 0, none⟩), .int .i64 2] w3 fun e w' => e = .returned (.int .i64 x2) ∧ w3 = w') := of_any h3.b_.at_ 2
            have HOC : Hid (Calls Try.prog 13 #[.pointer (some ⟨c, 0, none⟩), .int .i64 2] w3 fun e w' => e = .returned (.int .i64 x2) ∧ w3 = w') := of_any h3.c_.at_ 2
            clear h3
            go_wp2_with fail
            refine HOB.out.mono ?_
            rintro e w4 ⟨rfl, rfl⟩
            go_wp2_with fail
            refine HOC.out.mono ?_
            rintro e w4 ⟨rfl, rfl⟩
            go_wp2
            go_roundw
            case rel => exact Or.inr (Or.inr (Or.inl (⟨rfl, HK3.out⟩)))
            case measure => simp
          · obtain rfl : x2 = 0 := HB2.out (by omega)
            refine (HK.out.change 2 0 (by omega) HD2.out).mono ?_
            rintro e w3 ⟨rfl, h3⟩
            have HK3 := Lib.hid h3
            have HOB : Hid (Calls Try.prog 13 #[.pointer (some ⟨b, 0, none⟩), .int .i64 2] w3 fun e w' => e = .returned (.int .i64 0) ∧ w3 = w') := of_any h3.b_.at_ 2
            have HOC : Hid (Calls Try.prog 13 #[.pointer (some ⟨c, 0, none⟩), .int .i64 2] w3 fun e w' => e = .returned (.int .i64 0) ∧ w3 = w') := of_any h3.c_.at_ 2
            clear h3
            go_wp2_with fail
            refine HOB.out.mono ?_
            rintro e w4 ⟨rfl, rfl⟩
            go_wp2_with fail
            refine HOC.out.mono ?_
            rintro e w4 ⟨rfl, rfl⟩
            go_wp2
            go_roundw
            case rel => exact Or.inr (Or.inr (Or.inl (⟨rfl, HK3.out⟩)))
            case measure => simp
        · have HK := Lib.hid h
          have c0 := (h.cell 1).trans HC1.out
          clear h
          go_wp2_with fail
          · rw [HA1.out (by omega)]
            refine (HK.out.change 1 x1 (by omega) HD1.out).mono ?_
            rintro e w3 ⟨rfl, h3⟩
            have HK3 := Lib.hid h3
            have HOB : Hid (Calls Try.prog 13 #[.pointer (some ⟨b, 0, none⟩), .int .i64 1] w3 fun e w' => e = .returned (.int .i64 x1) ∧ w3 = w') := of_any h3.b_.at_ 1
            have HOC : Hid (Calls Try.prog 13 #[.pointer (some ⟨c, 0, none⟩), .int .i64 1] w3 fun e w' => e = .returned (.int .i64 x1) ∧ w3 = w') := of_any h3.c_.at_ 1
            clear h3
            go_wp2_with fail
            refine HOB.out.mono ?_
            rintro e w4 ⟨rfl, rfl⟩
            go_wp2_with fail
            refine HOC.out.mono ?_
            rintro e w4 ⟨rfl, rfl⟩
            go_wp2
            go_roundw
            case rel => exact Or.inr (Or.inr (Or.inr (Or.inl (⟨rfl, HK3.out⟩))))
            case measure => simp
          · obtain rfl : x1 = 0 := HB1.out (by omega)
            refine (HK.out.change 1 0 (by omega) HD1.out).mono ?_
            rintro e w3 ⟨rfl, h3⟩
            have HK3 := Lib.hid h3
            have HOB : Hid (Calls Try.prog 13 #[.pointer (some ⟨b, 0, none⟩), .int .i64 1] w3 fun e w' => e = .returned (.int .i64 0) ∧ w3 = w') := of_any h3.b_.at_ 1
            have HOC : Hid (Calls Try.prog 13 #[.pointer (some ⟨c, 0, none⟩), .int .i64 1] w3 fun e w' => e = .returned (.int .i64 0) ∧ w3 = w') := of_any h3.c_.at_ 1
            clear h3
            go_wp2_with fail
            refine HOB.out.mono ?_
            rintro e w4 ⟨rfl, rfl⟩
            go_wp2_with fail
            refine HOC.out.mono ?_
            rintro e w4 ⟨rfl, rfl⟩
            go_wp2
            go_roundw
            case rel => exact Or.inr (Or.inr (Or.inr (Or.inl (⟨rfl, HK3.out⟩))))
            case measure => simp
        · have HK := Lib.hid h
          have c0 := (h.cell 0).trans HC0.out
          clear h
          go_wp2_with fail
          · rw [HA0.out (by omega)]
            refine (HK.out.change 0 x0 (by omega) HD0.out).mono ?_
            rintro e w3 ⟨rfl, h3⟩
            have HK3 := Lib.hid h3
            have HOB : Hid (Calls Try.prog 13 #[.pointer (some ⟨b, 0, none⟩), .int .i64 0] w3 fun e w' => e = .returned (.int .i64 x0) ∧ w3 = w') := of_any h3.b_.at_ 0
            have HOC : Hid (Calls Try.prog 13 #[.pointer (some ⟨c, 0, none⟩), .int .i64 0] w3 fun e w' => e = .returned (.int .i64 x0) ∧ w3 = w') := of_any h3.c_.at_ 0
            clear h3
            go_wp2_with fail
            refine HOB.out.mono ?_
            rintro e w4 ⟨rfl, rfl⟩
            go_wp2_with fail
            refine HOC.out.mono ?_
            rintro e w4 ⟨rfl, rfl⟩
            go_wp2
            go_roundw
            case rel => exact Or.inr (Or.inr (Or.inr (Or.inr (⟨rfl, HK3.out⟩))))
            case measure => simp
          · obtain rfl : x0 = 0 := HB0.out (by omega)
            refine (HK.out.change 0 0 (by omega) HD0.out).mono ?_
            rintro e w3 ⟨rfl, h3⟩
            have HK3 := Lib.hid h3
            have HOB : Hid (Calls Try.prog 13 #[.pointer (some ⟨b, 0, none⟩), .int .i64 0] w3 fun e w' => e = .returned (.int .i64 0) ∧ w3 = w') := of_any h3.b_.at_ 0
            have HOC : Hid (Calls Try.prog 13 #[.pointer (some ⟨c, 0, none⟩), .int .i64 0] w3 fun e w' => e = .returned (.int .i64 0) ∧ w3 = w') := of_any h3.c_.at_ 0
            clear h3
            go_wp2_with fail
            refine HOB.out.mono ?_
            rintro e w4 ⟨rfl, rfl⟩
            go_wp2_with fail
            refine HOC.out.mono ?_
            rintro e w4 ⟨rfl, rfl⟩
            go_wp2
            go_roundw
            case rel => exact Or.inr (Or.inr (Or.inr (Or.inr (⟨rfl, HK3.out⟩))))
            case measure => simp
        · have HK := Lib.hid h
          clear h
          obtain ⟨S4, hS⟩ : ∃ S4, V x0 x1 x2 x3 = S4 := ⟨_, rfl⟩
          rw [hS] at HK
          go_wp2_with fail
          refine (wakes_any _).mono ?_
          rintro e w5 ⟨rfl, hB⟩
          have HB := Lib.hid (HK.out.b_.trans hB)
          have HCC := Lib.hid (HK.out.c_.trans hB)
          clear hB
          go_wp2_with fail
          refine (used_any HB.out.at_).mono ?_
          rintro e w6 ⟨rfl, rfl⟩
          go_wp2_with fail
          refine (used_any HCC.out.at_).mono ?_
          rintro e w6 ⟨rfl, rfl⟩
          go_wp2_with fail
          refine (high_any HB.out.at_).mono ?_
          rintro e w6 ⟨rfl, rfl⟩
          go_wp2_with fail
          refine (high_any HCC.out.at_).mono ?_
          rintro e w6 ⟨rfl, rfl⟩
          go_wp2_with fail
          refine (left_any HB.out.at_ HB.out.ok).mono ?_
          rintro e w6 ⟨rfl, hB1⟩
          have HC2 := Lib.hid (HCC.out.trans hB1)
          clear hB1
          go_wp2_with fail
          refine (left_any HC2.out.at_ HC2.out.ok).mono ?_
          rintro e w7 ⟨rfl, hB1⟩
          have HC3 := Lib.hid (HC2.out.trans hB1)
          clear hB1
          go_wp2
          go_ret
          exact ⟨rfl, HC3.out.below⟩

section
variable {H : Type} {enc : TypeId × Value → H} {P : Program} {w : World} {base : Nat} {spare : Nat → Bool} {held : Bool}
theorem open_ints4 {r : Reach} {b0 : Nat} {t e : TypeId} {v : Value} {d : DataW H} {p : List MemPlace} (ht : P.underlying t = some (.array 4 e)) (he : P.underlying e = some (.int .i64)) (hc : P.cellsOf e = 1) (hC : P.cellsOf t = 4)
    (hv : Value.okWide P w r b0 t v) (h : DataW.Trod enc P w base spare held t v d p) :
    ∃ a0 a1 a2 a3 : Int, v = .agg #[.int .i64 a0, .int .i64 a1, .int .i64 a2, .int .i64 a3] ∧ p = [] ∧ (-9223372036854775808 ≤ a0 ∧ a0 ≤ 9223372036854775807) ∧ (-9223372036854775808 ≤ a1 ∧ a1 ≤ 9223372036854775807) ∧ (-9223372036854775808 ≤ a2 ∧ a2 ≤ 9223372036854775807) ∧ (-9223372036854775808 ≤ a3 ∧ a3 ≤ 9223372036854775807) := by
  unfold Value.okWide at hv
  rw [ht] at hv
  obtain ⟨cs, rfl, hsz, -⟩ := hv
  have hs4 : cs.size = 4 := hsz.trans hC
  obtain ⟨c0, c1, c2, c3, rfl⟩ : ∃ c0 c1 c2 c3, cs = #[c0, c1, c2, c3] := by
    obtain ⟨l⟩ := cs
    match l, hs4 with
    | [a, b, c, d], _ => exact ⟨a, b, c, d, rfl⟩
  obtain ⟨fuel, hf⟩ := h
  obtain ⟨xs, m, -, hx, -, hlen, hel⟩ := DataW.trod_array ht hf
  match xs, hlen with
  | [y0, y1, y2, y3], _ =>
    have e0 := hel 0 (by decide)
    have e1 := hel 1 (by decide)
    have e2 := hel 2 (by decide)
    have e3 := hel 3 (by decide)
    rw [hc] at e0 e1 e2 e3
    simp only [Value.cells, List.getElem?_cons_zero, List.getElem?_cons_succ, Nat.mul_one, List.drop_zero, List.drop_succ_cons, List.take_succ_cons, List.take_zero] at e0 e1 e2 e3
    obtain ⟨a0, ha0, hx0, hs0⟩ := DataW.trod_int he e0
    obtain ⟨a1, ha1, hx1, hs1⟩ := DataW.trod_int he e1
    obtain ⟨a2, ha2, hx2, hs2⟩ := DataW.trod_int he e2
    obtain ⟨a3, ha3, hx3, hs3⟩ := DataW.trod_int he e3
    simp at ha0 ha1 ha2 ha3
    subst ha0 ha1 ha2 ha3 hx0 hx1 hx2 hx3
    simp only [Prod.mk.injEq, List.map_cons, List.map_nil, List.flatMap_cons, List.flatMap_nil, List.append_nil] at hx
    refine ⟨a0, a1, a2, a3, rfl, hx.2, ?_, ?_, ?_, ?_⟩
    · simpa [Lit.wf, IntKind.min, IntKind.max, IntKind.signed, IntKind.bits] using hs0
    · simpa [Lit.wf, IntKind.min, IntKind.max, IntKind.signed, IntKind.bits] using hs1
    · simpa [Lit.wf, IntKind.min, IntKind.max, IntKind.signed, IntKind.bits] using hs2
    · simpa [Lit.wf, IntKind.min, IntKind.max, IntKind.signed, IntKind.bits] using hs3
end

set_option maxRecDepth 100000 in
theorem contract (H : Type) (enc : TypeId × Value → H) (W : World) (base : Nat) (args : Array Value) (ds gs : List (DataW H)) (before : List MemPlace)
    (hval : ∀ (j : Nat) t v, Try.f7.params[j]? = some t → args[j]? = some v → Value.okWide Try.prog W .any base t v)
    (hW : DataW.Whole enc Try.prog Try.f7.params.toList Rows.budgetKindsSpec.vars false W args.toList ds gs before)
    (hz : (DataW.weightsEach Try.prog Try.f7.params.toList (ds ++ gs)).all (· ≤ reachBytes) = true) :
    Calls Try.prog 7 args W fun e W' => ∃ v, e = .returned v ∧ Rows.budgetKindsSpec.post enc Try.prog Try.f7 false true false false W args v W' := by
  have hW' := hW
  obtain ⟨p, q, hA0, hV, rfl, hfz, hnd⟩ := hW
  have hA : DataW.TrodAll enc Try.prog W 0 (fun _ => true) true Try.f7.params.toList args.toList ds p := hA0
  rw [Try.params7] at hA hval hz
  obtain ⟨v0, vs0, d0, ds0, p0, q0, hargs, rfl, rfl, h0, r0⟩ := trodAll_cons hA
  obtain ⟨rfl, rfl, rfl⟩ := trodAll_nil r0
  obtain rfl : args = #[v0] := by cases args; simp_all
  obtain ⟨rfl, rfl⟩ := trodVars_none hV
  obtain ⟨n0, n1, n2, n3, rfl, rfl, hfn0, hfn1, hfn2, hfn3⟩ := open_ints4 Try.underlying40 Try.underlying2 (by kernel_rfl) (by kernel_rfl) (hval 0 40 v0 rfl rfl) h0
  refine (walk n0 n1 n2 n3 W hfn0 hfn1 hfn2 hfn3).mono fun e W' ⟨he, hB⟩ => ?_
  subst he
  exact ⟨_, rfl, law_post Try.laidOut (by kernel_rfl) rfl rfl Try.underlying4 hW' rfl hB⟩

set_option maxRecDepth 100000 in
theorem lifted (os : Os) (started : os.Started) (H : Type) (enc : TypeId × Value → H) :
    ReturnsInHanded {} Try.checked os 7 .any (Rows.budgetKindsSpec.pre6 enc Try.prog Try.f7 Rows.budgetKindsRow.domain false) (Rows.budgetKindsSpec.post enc Try.prog Try.f7 false true false false) := by
  refine returnsInHanded_of_change_sized (C := Try.checked) Try.own started (by kernel_rfl) Try.func7
    (ChangeSpec.witness6 (enc := enc) (C := Try.checked) false ⟨#[], #[.agg #[.int .i64 0, .int .i64 0, .int .i64 0, .int .i64 0]], []⟩ 8 (by kernel_rfl) (by kernel_rfl) (by kernel_rfl) (by kernel_rfl)) ?_
  intro W base args ds gs before hval hW _ hz _
  exact contract H enc W base args ds gs before hval hW hz

theorem proved : Rows.BudgetKindsSaid :=
  OpenClaim.holds_of_wide 7 Try.f7 rfl rfl rfl rfl rfl rfl rfl ⟨rfl, rfl, rfl, rfl, rfl⟩ rfl rfl rfl rfl rfl (by kernel_rfl) Try.func7 (by kernel_rfl)
    (of_decide_eq_true (by kernel_rfl)) (by unfold Func.isWrapper; first | (rw [if_pos (by decide +kernel)]; kernel_rfl) | (rw [if_neg (by decide +kernel)]; exact ⟨rfl, rfl⟩))
    (fun os started H enc _ => lifted os started H enc)
end lawKinds
end Go.Proofs.Ytapncnbildampaa
