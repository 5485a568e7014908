/- Texts joined by bundle.py: Lk, Lv. -/
import Derived.Test.YtmiihbklneegbaaZbp
import Derived.Test.YtmiihbklneegbaaZbc

/- TableBack: entries are read back from their table, from every key on, whatever the sizes; every key may be there. For every entries, numbers and text. -/
namespace Go.Proofs.Ytmiihbklneegbaa
open Go.ChangeShapes Go.WideShapes Go.ChangeAt Go.RowKit
open SK
open TB (Bs Sp)

section
variable {H : Type} {enc : TypeId × Value → H} {P : Program} {w : World} {base : Nat} {spare : Nat → Bool} {held : Bool}
/-- an array of two numbers, opened -/
theorem open_ints2 {r : Reach} {b0 : Nat} {t e : TypeId} {v : Value} {d : DataW H} {p : List MemPlace} (ht : P.underlying t = some (.array 2 e)) (he : P.underlying e = some (.int .i64)) (hc : P.cellsOf e = 1) (hC : P.cellsOf t = 2)
    (hv : Value.okWide P w r b0 t v) (h : DataW.Trod enc P w base spare held t v d p) :
    ∃ a b : Int, v = .agg #[.int .i64 a, .int .i64 b] ∧ p = [] ∧ (-9223372036854775808 ≤ a ∧ a ≤ 9223372036854775807) ∧ (-9223372036854775808 ≤ b ∧ b ≤ 9223372036854775807) := by
  unfold Value.okWide at hv
  rw [ht] at hv
  obtain ⟨cs, rfl, hsz, -⟩ := hv
  obtain ⟨c0, c1, rfl⟩ := _root_.Go.Joins.array2 (hsz.trans hC)
  obtain ⟨fuel, hf⟩ := h
  obtain ⟨xs, m, -, hx, -, hlen, hel⟩ := DataW.trod_array ht hf
  match xs, hlen with
  | [y0, y1], _ =>
    have e0 := hel 0 (by decide)
    have e1 := hel 1 (by decide)
    rw [hc] at e0 e1
    simp only [Value.cells, List.getElem?_cons_zero, List.getElem?_cons_succ, Nat.zero_mul, Nat.one_mul, List.drop_zero, List.drop_succ_cons, List.take_succ_cons, List.take_zero] at e0 e1
    obtain ⟨a, ha, hxa, hsa⟩ := DataW.trod_int he e0
    obtain ⟨b, hb, hxb, hsb⟩ := DataW.trod_int he e1
    simp at ha hb
    subst ha; subst hb; subst hxa; subst hxb
    simp only [Prod.mk.injEq, List.map_cons, List.map_nil, List.flatMap_cons, List.flatMap_nil, List.append_nil] at hx
    exact ⟨a, b, rfl, hx.2, by simpa [Lit.wf, IntKind.min, IntKind.max, IntKind.signed, IntKind.bits] using hsa, by simpa [Lit.wf, IntKind.min, IntKind.max, IntKind.signed, IntKind.bits] using hsb⟩
end

/-- what is left from a key on, an entry further -/
theorem from_drop {l : List E} {j : Nat} (hj : j < l.length) (key : ByteArray) :
    SK.from_ (l.drop j) key = if Go.bytesBefore l[j].key.data.toList key.data.toList = true then SK.from_ (l.drop (j + 1)) key else l[j] :: SK.from_ (l.drop (j + 1)) key := by
  rw [List.drop_eq_getElem_cons hj]
  unfold SK.from_
  rw [List.filter_cons]
  by_cases hb : Go.bytesBefore l[j].key.data.toList key.data.toList = true
  · simp [hb]
  · simp [hb]

namespace lawBack

set_option maxRecDepth 100000 in
set_option maxHeartbeats 4000000 in
theorem walk0 (A : Option Addr) (n0 cap n : Nat) (l : List E) (x0 x1 : Int) (key : ByteArray) (w : World) (hn : l.length = n) (hin : EntsIn w A l) (hcap : n0 ≤ cap) (hmin : n = min n0 3000) (hb : n0 ≤ 140737488351232)
    (hx0 : -9223372036854775808 ≤ x0 ∧ x0 ≤ 9223372036854775807) (hx1 : -9223372036854775808 ≤ x1 ∧ x1 ≤ 9223372036854775807) :
    Calls Try.prog 3 #[.slice A n0 cap, .agg #[.int .i64 x0, .int .i64 x1], .string key] w fun e w' => e = .returned (.bool true) ∧ Below w.heap.size w w' := by
  have hbel0 := (Below.refl w.heap.size w).alloc (Nat.le_refl _) (.cells #[.int .i64 x0, .int .i64 x1] 23)
  have hrow0 := heap_alloc_new w (.cells #[.int .i64 x0, .int .i64 x1] 23)
  have hsz0 : (w.alloc (.cells #[.int .i64 x0, .int .i64 x1] 23)).heap.size = w.heap.size + 1 := by simp
  have hls := lists_in A n0 cap n l (w.alloc (.cells #[.int .i64 x0, .int .i64 x1] 23)) hn (hin.below hbel0) hcap hmin hb
  have HL := Lib.hid hls
  have HBEL0 := Lib.hid hbel0
  have HROW0 := Lib.hid hrow0
  have HSZ0 := Lib.hid hsz0
  have HW : Hid (∀ W, Calls Try.prog 8 #[] W fun r w' => r = .returned (.bool true) ∧ Below W.heap.size W w') := fun W => wakes_any W
  have hn3 : n ≤ 3000 := by omega
  have HP : Hid (∀ W A1 c1, EntsIn W A1 l ∧ n ≤ c1 → Calls Try.prog 7 #[.slice A1 n c1, .int .i64 x0, .int .i64 x1] W fun e w' => e = .returned (.tuple #[.string ⟨(TB.tabOut l x0 x1).1.toArray⟩, .int .i64 (TB.tabOut l x0 x1).2]) ∧ Below W.heap.size W w') := fun W A1 c1 h => tbuild_any A1 n c1 l x0 x1 W hn h.2 h.1 (by omega) hx0.1 hx0.2 hx1.1 hx1.2
  have hmd : (TB.tabOut l x0 x1).2 = 0 → TB.Made x0.toNat x1.toNat l ∧ TB.bytes x0.toNat x1.toNat l = (TB.tabOut l x0 x1).1 := fun h => by
    obtain ⟨h1, h2⟩ := TB.made_of (by omega) hin.wf h
    exact ⟨h1, by rw [h2]⟩
  obtain ⟨T, hT⟩ : ∃ T : ByteArray, (⟨(TB.tabOut l x0 x1).1.toArray⟩ : ByteArray) = T := ⟨_, rfl⟩
  obtain ⟨C, hC⟩ : ∃ C, (TB.tabOut l x0 x1).2 = C := ⟨_, rfl⟩
  rw [hT, hC] at HP
  rw [hC] at hmd
  have HMD : Hid (C = 0 → TB.Made x0.toNat x1.toNat l ∧ (⟨(TB.bytes x0.toNat x1.toNat l).toArray⟩ : ByteArray) = T) := Lib.hid fun h => ⟨(hmd h).1, by rw [(hmd h).2]; exact hT⟩
  have HN := Lib.hid hn
  have HN3 := Lib.hid hn3
  clear hT hC hmd hn hin hmin hb hx0 hx1 hls hbel0 hrow0 hsz0 hn3 hcap
  go_enter Try.func3, Try.ntmps3
  go_wp2_with fail
  refine HL.out.mono ?_
  rintro e w1 ⟨A1, c1, A2, c2, rfl, h1, -, hb1, hs1⟩
  have HS1 : Hid (w.heap.size + 1 ≤ w1.heap.size) := Lib.hid (by rw [← HSZ0.out]; exact hs1)
  have HB1 : Hid (Below w.heap.size w w1) := Lib.hid (HBEL0.out.trans (hb1.mono (by rw [HSZ0.out]; omega)))
  have hrow1 := (hb1.block w.heap.size (by rw [HSZ0.out]; omega)).trans HROW0.out
  have H1 := Lib.hid h1
  have r0 : w1.cell? ⟨w.heap.size, 0, none⟩ = some (.int .i64 x0) := cell_of_row _ _ _ _ _ _ hrow1
  have r1 : w1.cell? ⟨w.heap.size, 1, none⟩ = some (.int .i64 x1) := cell_of_row _ _ _ _ _ _ hrow1
  clear h1 hb1 hs1 HL HBEL0 HROW0 HSZ0 hrow1
  go_wp2_with fail
  refine (HP.out _ _ _ H1.out).mono ?_
  rintro e w2 ⟨rfl, hb2⟩
  have H12 : Hid (EntsIn w2 A1 l) := Lib.hid (H1.out.1.below hb2)
  have HB2 : Hid (Below w.heap.size w w2) := Lib.hid (HB1.out.trans (hb2.mono HB1.out.size))
  clear hb2 HP r0 r1 H1 HB1 HS1
  go_wp2_with fail
  refine (HW.out _).mono ?_
  rintro r w3 ⟨rfl, hb3⟩
  have H13 : Hid (EntsIn w3 A1 l) := Lib.hid (H12.out.below hb3)
  have HB3 : Hid (Below w.heap.size w w3) := Lib.hid (HB2.out.trans (hb3.mono HB2.out.size))
  clear hb3 H12 HB2
  by_cases h0 : C = 0
  · subst h0
    obtain ⟨hM, hT⟩ := HMD.out rfl
    have HO := Lib.hid fun W x hx => open_made hM x T hT W hx
    have HA := Lib.hid fun t x fl W ht => all_made hM t x T key hT fl W ht
    have HM := Lib.hid fun (j : Nat) (hj : j < l.length) t x ss W ht => may_made hM (List.getElem_mem hj) t x T ss W ht
    generalize TB.sps 0 (TB.cuts x0.toNat l) = ss at HO HA
    generalize (⟨(TB.flOf x1.toNat l).toArray⟩ : ByteArray) = fl at HO HM
    clear hM hT HMD HW
    go_wp2_with fail
    refine (source_any T w3).mono ?_
    rintro e w4 ⟨rfl, hx4, hb4⟩
    have H14 : Hid (EntsIn w4 A1 l) := Lib.hid (H13.out.below hb4)
    have HB4 : Hid (Below w.heap.size w w4) := Lib.hid (HB3.out.trans (hb4.mono HB3.out.size))
    have HX4 := Lib.hid hx4
    clear hb4 hx4 H13 HB3
    go_wp2_with fail
    refine (HO.out _ _ HX4.out).mono ?_
    rintro e w5 ⟨t, rfl, ht, htab, hb5⟩
    have H15 : Hid (EntsIn w5 A1 l) := Lib.hid (H14.out.below hb5)
    have HB5 : Hid (Below w.heap.size w w5) := Lib.hid (HB4.out.trans (hb5.mono HB4.out.size))
    have HT5 := Lib.hid htab
    clear hb5 ht htab H14 HB4 HX4 HO
    go_wp2_with fail
    refine (HA.out _ _ _ _ HT5.out).mono ?_
    rintro e w6 ⟨A3, c3, rfl, hin3, hvc3, hb6⟩
    have HVC3 := Lib.hid hvc3
    have H16 : Hid (EntsIn w6 A1 l) := Lib.hid (H15.out.below hb6)
    have HB6 : Hid (Below w.heap.size w w6) := Lib.hid (HB5.out.trans (hb6.mono HB5.out.size))
    have HT6 := Lib.hid (HT5.out.below hb6)
    have H36 := Lib.hid hin3
    clear hb6 hin3 hvc3 H15 HB5 HT5 HA
    obtain ⟨K3, hK3⟩ : ∃ K, (SK.from_ l key).length = K := ⟨_, rfl⟩
    rw [hK3] at HVC3 ⊢
    have HK3 := Lib.hid hK3
    clear hK3
    go_wp2_with fail
    go_loopw [13, 60] (fun m i wr => ∃ (j : Nat) (A4 : Option Addr) (c4 k : Nat), j ≤ n ∧ i = .int .i64 j ∧ m = .slice A4 k c4 ∧ (SK.from_ (l.drop j) key).length = k ∧ k ≤ c4 ∧ EntsIn wr A4 (SK.from_ (l.drop j) key) ∧ Below w.heap.size w wr ∧ Below w6.heap.size w6 wr) (fun _ i _ => n - (intOf i).toNat)
    case atStart => exact ⟨0, A3, c3, K3, by omega, rfl, rfl, by rw [List.drop_zero]; exact HK3.out, HVC3.out, by rw [List.drop_zero]; exact H36.out, HB6.out, Below.refl _ _⟩
    case round =>
      obtain ⟨j, A4, c4, k, hj, rfl, rfl, hkl, hkc, hin4, hbw, hk6⟩ := hrel
      by_cases hlt : j < n
      · have hjl : j < l.length := by rw [HN.out]; exact hlt
        have HMJ := Lib.hid (fun W (h : Below w6.heap.size w6 W) => HM.out j hjl t _ ss W (HT6.out.below h))
        have hfd := from_drop hjl key
        have hwf := H16.out.wf l[j] (List.getElem_mem hjl)
        obtain ⟨b, off, hA, hbl, hc⟩ := (H16.out.below hk6).at_ (by omega)
        obtain ⟨z0, z1, z2, z3, z4⟩ := hc j hjl
        obtain ⟨e, he⟩ : ∃ e, l[j] = e := ⟨_, rfl⟩
        rw [he] at z0 z1 z2 z3 z4 HMJ hfd
        subst hA
        obtain ⟨k2, q2, g2, v2, t2⟩ := e
        simp only at z0 z1 z2 z3 z4 HMJ hfd
        have hee1 := fun W => ent_any W k2 k2 q2 q2 g2 g2 v2 v2 t2 t2
        have heq1 : eqB ⟨k2, q2, g2, v2, t2⟩ ⟨k2, q2, g2, v2, t2⟩ = true := (eqB_iff _ _).2 rfl
        simp only [heq1, Bool.not_true] at hee1
        have g0 : (0 : Int) ≤ (j : Int) := by omega
        have g1 : (j : Int) < (n : Int) := by omega
        have hn4 : n ≤ 3000 := HN3.out
        have HBX : Hid (Below w6.heap.size w6 (wr.alloc (.cells #[.string k2, .int .i64 q2, .bool g2, .string v2, .int .i64 t2] 41))) := Lib.hid (hk6.alloc hk6.size _)
        have HBY : Hid (Below w.heap.size w (wr.alloc (.cells #[.string k2, .int .i64 q2, .bool g2, .string v2, .int .i64 t2] 41))) := Lib.hid (hbw.alloc hbw.size _)
        have HIN4 : Hid (EntsIn (wr.alloc (.cells #[.string k2, .int .i64 q2, .bool g2, .string v2, .int .i64 t2] 41)) A4 (SK.from_ (l.drop j) key)) := Lib.hid (hin4.below ((Below.refl _ _).alloc (Nat.le_refl _) _))
        have HRX : Hid ((wr.alloc (.cells #[.string k2, .int .i64 q2, .bool g2, .string v2, .int .i64 t2] 41)).heap[wr.heap.size]? = some (.cells #[.string k2, .int .i64 q2, .bool g2, .string v2, .int .i64 t2] 41 (0, 0))) := Lib.hid (heap_alloc_new wr _)
        have HFD := Lib.hid hfd
        have HKL := Lib.hid hkl
        have HKC := Lib.hid hkc
        clear hfd hkl hkc hin4 hbw hk6 hwf hbl hc he heq1
        go_wp2_with fail
        have HSX : Hid (wr.heap.size < (wr.alloc (.cells #[.string k2, .int .i64 q2, .bool g2, .string v2, .int .i64 t2] 41)).heap.size) := Lib.hid (by simp)
        generalize wr.alloc (.cells #[.string k2, .int .i64 q2, .bool g2, .string v2, .int .i64 t2] 41) = wx at HBX HBY HIN4 HRX HSX ⊢
        obtain ⟨x, hx⟩ : ∃ x, wr.heap.size = x := ⟨_, rfl⟩
        rw [hx] at HRX HSX ⊢
        clear hx z0 z1 z2 z3 z4
        refine (HMJ.out _ HBX.out).mono ?_
        rintro r w7 ⟨rfl, hb7⟩
        have HBX7 : Hid (Below w6.heap.size w6 w7) := Lib.hid (HBX.out.trans (hb7.mono HBX.out.size))
        have HBY7 : Hid (Below w.heap.size w w7) := Lib.hid (HBY.out.trans (hb7.mono HBY.out.size))
        have HIN7 : Hid (EntsIn w7 A4 (SK.from_ (l.drop j) key)) := Lib.hid (HIN4.out.below hb7)
        have HRX7 := Lib.hid ((hb7.block x HSX.out).trans HRX.out)
        have r0 : w7.cell? ⟨x, 0, none⟩ = some (.string k2) := cell_of_row _ _ _ _ _ _ HRX7.out
        clear hb7 HBX HBY HIN4 HRX HSX
        by_cases hbf : Go.bytesBefore k2.data.toList key.data.toList = true
        · have hd : Op.bytesLess k2.toList key.toList = true := by rw [text_less]; exact hbf
          rw [if_pos hbf] at HFD
          rw [HFD.out] at HIN7 HKL
          clear hbf HFD
          go_wp2
          go_roundw
          case rel => exact ⟨j + 1, A4, c4, k, by omega, by go_num, rfl, HKL.out, HKC.out, HIN7.out, HBY7.out, HBX7.out⟩
          case measure => simp [intOf]; omega
        · have hd : Op.bytesLess k2.toList key.toList = false := by rw [text_less]; simpa using hbf
          rw [if_neg hbf] at HFD
          rw [HFD.out] at HIN7 HKL
          have hk1 : (SK.from_ (l.drop (j + 1)) key).length + 1 = k := by simpa using HKL.out
          have HKL1 : Hid ((SK.from_ (l.drop (j + 1)) key).length = k - 1) := Lib.hid (by omega)
          obtain ⟨b4, o4, hA4, hbl4, hc4⟩ := HIN7.out.at_ (by simp)
          obtain ⟨y0, y1, y2, y3, y4⟩ := hc4 0 (by simp)
          simp only [List.getElem_cons_zero, Nat.zero_mul, Nat.add_zero] at y0 y1 y2 y3 y4
          subst hA4
          have hA5 : 1 < k → (if c4 = 1 then some ⟨b4, o4, none⟩ else some ⟨b4, o4 + 5, none⟩ : Option Addr) = some ⟨b4, o4 + 5, none⟩ := fun h => if_neg (by have := HKC.out; omega)
          have HIN8 : Hid (∀ W, Below w7.heap.size w7 W → EntsIn W (if c4 = 1 then some ⟨b4, o4, none⟩ else some ⟨b4, o4 + 5, none⟩) (SK.from_ (l.drop (j + 1)) key)) := Lib.hid fun W hW => by
            by_cases h1 : 1 < k
            · rw [hA5 h1]
              have := ents_drop (k := 1) (HIN7.out.below hW)
              simpa using this
            · refine ⟨fun e he => HIN7.out.wf e (List.mem_cons_of_mem _ he), fun h => ?_⟩
              omega
          have HKC1 : Hid (k - 1 ≤ c4 - 1) := Lib.hid (by have := HKC.out; omega)
          have d2 : ((k : Int) == 0) = false := beq_eq_false_iff_ne.2 (by omega)
          have m0 : (0 : Int) ≤ 0 := by decide
          have m1 : (0 : Int) < (k : Int) := by omega
          have r1 : w7.cell? ⟨x, 1, none⟩ = some (.int .i64 q2) := cell_of_row _ _ _ _ _ _ HRX7.out
          have r2 : w7.cell? ⟨x, 2, none⟩ = some (.bool g2) := cell_of_row _ _ _ _ _ _ HRX7.out
          have r3 : w7.cell? ⟨x, 3, none⟩ = some (.string v2) := cell_of_row _ _ _ _ _ _ HRX7.out
          have r4 : w7.cell? ⟨x, 4, none⟩ = some (.int .i64 t2) := cell_of_row _ _ _ _ _ _ HRX7.out
          clear hbf HFD hk1 hbl4 hc4 hA5 HIN7 HKL
          go_wp2_with fail
          go_quiet (fail)
          go_wp2
          go_roundw
          case rel => exact ⟨j + 1, _, c4 - 1, k - 1, by omega, by go_num, rfl, HKL1.out, HKC1.out, HIN8.out _ (below_drewN (Below.refl _ _) _), below_drewN HBY7.out _, below_drewN HBX7.out _⟩
          case measure => simp [intOf]; omega
      · have hjn : j = n := by omega
        have hd0 : l.drop j = [] := List.drop_eq_nil_of_le (by rw [HN.out]; omega)
        rw [hd0] at hkl
        have hk0 : k = 0 := by rw [← hkl]; rfl
        subst hk0 hjn
        have HBW := Lib.hid hbw
        clear hkl hkc hin4 hbw hk6 hd0
        go_wp2
        go_ret
        exact ⟨rfl, HBW.out⟩
  · have hbe : (C == 0) = false := by simpa using h0
    have hbn : (C != 0) = true := by simpa using h0
    go_wp2_with (go_at_call 8; refine (HW.out _).mono ?_; rintro r w5 ⟨rfl, hb5⟩
                 have HB5 : Hid (Below w.heap.size w w5) := Lib.hid (HB3.out.trans (hb5.mono HB3.out.size))
                 clear hb5)
    go_ret
    exact ⟨rfl, HB5.out⟩

set_option maxRecDepth 100000 in
set_option maxHeartbeats 1000000 in
theorem walk (A : Option Addr) (n cap : Nat) (l : List E) (x0 x1 : Int) (key : ByteArray) (w : World) (hn : l.length = n) (hin : EntsIn w A l) (hcap : n ≤ cap) (hb : n * 56 ≤ reachBytes)
    (hx0 : -9223372036854775808 ≤ x0 ∧ x0 ≤ 9223372036854775807) (hx1 : -9223372036854775808 ≤ x1 ∧ x1 ≤ 9223372036854775807) :
    Calls Try.prog 3 #[.slice A n cap, .agg #[.int .i64 x0, .int .i64 x1], .string key] w fun e w' => e = .returned (.bool true) ∧ Below w.heap.size w w' :=
  walk0 A n cap (min n 3000) (l.take 3000) x0 x1 key w (by rw [List.length_take]; omega) (hin.take 3000) hcap rfl (by unfold reachBytes at hb; omega) hx0 hx1

set_option maxRecDepth 100000 in
theorem contract (H : Type) (enc : TypeId × Value → H) (W : World) (base : Nat) (args : Array Value) (ds gs : List (DataW H)) (before : List MemPlace)
    (hval : ∀ (j : Nat) t v, Try.f3.params[j]? = some t → args[j]? = some v → Value.okWide Try.prog W .any base t v)
    (hW : DataW.Whole enc Try.prog Try.f3.params.toList Rows.tableBackSpec.vars false W args.toList ds gs before)
    (hz : (DataW.weightsEach Try.prog Try.f3.params.toList (ds ++ gs)).all (· ≤ reachBytes) = true) :
    Calls Try.prog 3 args W fun e W' => ∃ v, e = .returned v ∧ Rows.tableBackSpec.post enc Try.prog Try.f3 false true false false W args v W' := by
  have hW' := hW
  obtain ⟨p, q, hA0, hV, rfl, hfz, hnd⟩ := hW
  have hA : DataW.TrodAll enc Try.prog W 0 (fun _ => true) true Try.f3.params.toList args.toList ds p := hA0
  rw [Try.params3] at hA hval hz
  obtain ⟨v0, vs0, d0, ds0, p0, q0, hargs, rfl, rfl, h0, r0⟩ := trodAll_cons hA
  obtain ⟨v1, vs1, d1, ds1, p1, q1, rfl, rfl, rfl, h1, r1⟩ := trodAll_cons r0
  obtain ⟨v2, vs2, d2, ds2, p2, q2, rfl, rfl, rfl, h2, r2⟩ := trodAll_cons r1
  obtain ⟨rfl, rfl, rfl⟩ := trodAll_nil r2
  obtain rfl : args = #[v0, v1, v2] := by cases args; simp_all
  obtain ⟨rfl, rfl⟩ := trodVars_none hV
  obtain ⟨lA, lN, lC, l, rfl, hlenl, hinl, hbl, hcapl⟩ := open_ents (hval 0 22 v0 rfl rfl) h0 (parts_sized hz (j := 0) rfl rfl)
  obtain ⟨x0, x1, rfl, rfl, hfx0, hfx1⟩ := open_ints2 Try.underlying23 Try.underlying3 (by kernel_rfl) (by kernel_rfl) (hval 1 23 v1 rfl rfl) h1
  obtain ⟨key, rfl, rfl, rfl, hmax2⟩ := Go.ChangeMaps.open_string Try.underlying9 (hval 2 9 v2 rfl rfl) h2
  have hkey : key.size ≤ 140737488351232 := by
    have h := sized_string hz (j := 2) rfl rfl
    have hl : key.data.toList.length = key.size := by simp
    unfold reachBytes at h
    omega
  refine (walk lA lN lC l x0 x1 key W hlenl hinl hcapl hbl hfx0 hfx1).mono fun e W' ⟨he, hB⟩ => ?_
  subst he
  exact ⟨_, rfl, law_post Try.laidOut (by kernel_rfl) rfl rfl Try.underlying4 hW' rfl hB⟩

set_option maxRecDepth 100000 in
theorem lifted (os : Os) (started : os.Started) (H : Type) (enc : TypeId × Value → H) :
    ReturnsInHanded {} Try.checked os 3 .any (Rows.tableBackSpec.pre6 enc Try.prog Try.f3 Rows.tableBackRow.domain false) (Rows.tableBackSpec.post enc Try.prog Try.f3 false true false false) := by
  refine returnsInHanded_of_change_sized (C := Try.checked) Try.own started (by kernel_rfl) Try.func3
    (ChangeSpec.witness6 (enc := enc) (C := Try.checked) false ⟨#[], #[.slice none 0 0, .agg #[.int .i64 0, .int .i64 0], .string ⟨#[]⟩], []⟩ 8 (by kernel_rfl) (by kernel_rfl) (by kernel_rfl) (by kernel_rfl)) ?_
  intro W base args ds gs before hval hW _ hz _
  exact contract H enc W base args ds gs before hval hW hz

theorem proved : Rows.TableBackSaid :=
  OpenClaim.holds_of_wide 3 Try.f3 rfl rfl rfl rfl rfl rfl rfl ⟨rfl, rfl, rfl, rfl, rfl⟩ rfl rfl rfl rfl rfl (by kernel_rfl) Try.func3 (by kernel_rfl)
    (of_decide_eq_true (by kernel_rfl)) (by unfold Func.isWrapper; first | (rw [if_pos (by decide +kernel)]; kernel_rfl) | (rw [if_neg (by decide +kernel)]; exact ⟨rfl, rfl⟩))
    (fun os started H enc _ => lifted os started H enc)
end lawBack
end Go.Proofs.Ytmiihbklneegbaa

/- TableBits: a table in which one bit is turned. For every entries, every number and text. -/
namespace Go.Proofs.Ytmiihbklneegbaa
open Go.ChangeShapes Go.WideShapes Go.ChangeAt Go.RowKit
open SK
open TB (Bs Sp)

theorem fromS_err {s : Bs} {key : ByteArray} : ∀ (L : List Sp) (a acc : List E) {c : Int}, TB.fromS s key L a acc = .error c → c ≠ 0
  | [], _, _, _, h => by cases h
  | sp :: r, a, acc, c, h => by
    simp only [TB.fromS] at h
    cases hr : TB.rd s sp with
    | error d => rw [hr] at h; simp only [Except.error.injEq] at h; rw [← h]; exact rd_err hr
    | ok es =>
      rw [hr] at h
      simp only at h
      split at h
      · exact fromS_err r es _ h
      · simp only [Except.error.injEq] at h; rw [← h]; decide
theorem allS_err {s : Bs} {ss : List Sp} {key : ByteArray} {c : Int} (h : TB.allS s ss key = .error c) : c ≠ 0 := fromS_err _ _ _ h

namespace lawBits

theorem bit_turned (x : UInt8) (R : Nat) (h : R < 8) : ∃ y : UInt8, x ≠ y ∧ bits .xor .u8 (x.toNat : Int) ((2 : Int) ^ R % 256) = (y.toNat : Int) := by
  have hx := x.toNat_lt
  have h2 : (2 : Nat) ^ R < 256 := by
    have : (2 : Nat) ^ R < 2 ^ 8 := Nat.pow_lt_pow_right (by decide) h
    omega
  have e : (2 : Int) ^ R % 256 = ((2 ^ R : Nat) : Int) := by
    have : R = 0 ∨ R = 1 ∨ R = 2 ∨ R = 3 ∨ R = 4 ∨ R = 5 ∨ R = 6 ∨ R = 7 := by omega
    rcases this with rfl | rfl | rfl | rfl | rfl | rfl | rfl | rfl <;> decide
  have hlt : x.toNat ^^^ 2 ^ R < 256 := Nat.xor_lt_two_pow (n := 8) (by omega) h2
  refine ⟨(x.toNat ^^^ 2 ^ R).toUInt8, fun he => ?_, ?_⟩
  · have h1 := congrArg UInt8.toNat he
    rw [F3.FM.nat_byte hlt] at h1
    have h3 := congrArg (fun n : Nat => n.testBit R) h1
    simp [Nat.testBit_xor, Nat.testBit_two_pow_self] at h3
  · rw [e, u8_xor_nat _ _ (by omega) h2, byte_toNat _ hlt]

/-- a text of which one byte was turned, in its row -/
theorem turned_string (W : World) (g G J : Nat) (S : ByteArray) (y : UInt8) (cs : Array Value) (fr : Nat × Nat) (hrow : W.heap[g]? = some (.cells cs 5 fr))
    (hat : ∀ j, (h : j < S.size) → cs[j]? = some (.int .u8 (S[j].toNat : Int)) ∧ W.frozen? ⟨g, j, none⟩ = false) :
    (convert 44 9 (.slice (some ⟨g, 0, none⟩) S.size G)).run Try.prog (W.setCell ⟨g, J, none⟩ (.int .u8 (y.toNat : Int))).drew = .ok (.string ⟨(S.data.toList.set J y).toArray⟩) (W.setCell ⟨g, J, none⟩ (.int .u8 (y.toNat : Int))).drew := by
  have hl : (⟨(S.data.toList.set J y).toArray⟩ : ByteArray).size = S.size := by
    show (S.data.toList.set J y).toArray.size = S.size
    rw [List.size_toArray, List.length_set, size_list]
  have h2 := heap_set_fr hrow J (.int .u8 (y.toNat : Int))
  have hb : Lib.Bytes (W.setCell ⟨g, J, none⟩ (.int .u8 (y.toNat : Int))).drew g 0 ⟨(S.data.toList.set J y).toArray⟩ := by
    intro i hi
    have hi' : i < S.size := by rw [← hl]; exact hi
    rw [Nat.zero_add, cell_of_row _ _ _ _ _ _ (drew_at _ _ _ h2)]
    have hY : (⟨(S.data.toList.set J y).toArray⟩ : ByteArray)[i] = (S.data.toList.set J y)[i]'(by rw [List.length_set, size_list]; exact hi') := rfl
    rw [hY, List.getElem_set]
    by_cases hij : J = i
    · subst hij
      have hlt : J < cs.size := (Array.getElem?_eq_some_iff.1 (hat J hi').1).1
      simp [hlt]
    · rw [if_neg hij, byte_of S i hi', ← (hat i hi').1]
      simp [hij]
  have h := Lib.run_convert_whole (P := Try.prog) _ 44 5 9 Try.underlying44 Try.underlying5 Try.underlying9 g 0 _ hb G
  rw [hl] at h
  exact h

set_option maxRecDepth 100000 in
set_option maxHeartbeats 4000000 in
theorem walk0 (A : Option Addr) (n0 cap n : Nat) (l : List E) (p : Int) (key : ByteArray) (w : World) (hn : l.length = n) (hin : EntsIn w A l) (hcap : n0 ≤ cap) (hmin : n = min n0 3000) (hb : n0 ≤ 140737488351232)
    (hp0 : -9223372036854775808 ≤ p) (hp1 : p ≤ 9223372036854775807) :
    Calls Try.prog 4 #[.slice A n0 cap, .int .i64 p, .string key] w fun e w' => e = .returned (.bool true) ∧ Below w.heap.size w w' := by
  have HL := Lib.hid (lists_in A n0 cap n l w hn hin hcap hmin hb)
  have HW : Hid (∀ W, Calls Try.prog 8 #[] W fun r w' => r = .returned (.bool true) ∧ Below W.heap.size W w') := fun W => wakes_any W
  have hn3 : n ≤ 3000 := by omega
  have HP : Hid (∀ W A1 c1, EntsIn W A1 l ∧ n ≤ c1 → Calls Try.prog 7 #[.slice A1 n c1, .int .i64 40, .int .i64 10] W fun e w' => e = .returned (.tuple #[.string ⟨(TB.tabOut l 40 10).1.toArray⟩, .int .i64 (TB.tabOut l 40 10).2]) ∧ Below W.heap.size W w') := fun W A1 c1 h => tbuild_any A1 n c1 l 40 10 W hn h.2 h.1 (by omega) (by decide) (by decide) (by decide) (by decide)
  have hmd : (TB.tabOut l 40 10).2 = 0 → TB.Made 40 10 l ∧ TB.bytes 40 10 l = (TB.tabOut l 40 10).1 := fun h => by
    obtain ⟨h1, h2⟩ := TB.made_of (by omega) hin.wf h
    exact ⟨h1, by rw [h2]; rfl⟩
  obtain ⟨T, hT⟩ : ∃ T : ByteArray, (⟨(TB.tabOut l 40 10).1.toArray⟩ : ByteArray) = T := ⟨_, rfl⟩
  obtain ⟨C, hC⟩ : ∃ C, (TB.tabOut l 40 10).2 = C := ⟨_, rfl⟩
  rw [hT, hC] at HP
  rw [hC] at hmd
  have HMD : Hid (C = 0 → TB.Made 40 10 l ∧ (⟨(TB.bytes 40 10 l).toArray⟩ : ByteArray) = T) := Lib.hid fun h => ⟨(hmd h).1, by rw [(hmd h).2]; exact hT⟩
  have HN := Lib.hid hn
  have HN3 := Lib.hid hn3
  have hmaxp : ∃ P : Nat, p.toNat = P := ⟨_, rfl⟩
  obtain ⟨P, hP⟩ := hmaxp
  have hmax' : max (0 : Int) p = (P : Int) := by omega
  clear hT hC hmd hn hin hmin hb hn3 hcap hP
  go_enter Try.func4, Try.ntmps4
  go_wp2_with fail
  refine HL.out.mono ?_
  rintro e w1 ⟨A1, c1, A2, c2, rfl, h1, -, hb1, hs1⟩
  have HB1 := Lib.hid hb1
  have H1 := Lib.hid h1
  clear h1 hb1 hs1 HL
  go_wp2_with fail
  refine (HP.out _ _ _ H1.out).mono ?_
  rintro e w2 ⟨rfl, hb2⟩
  have H12 : Hid (EntsIn w2 A1 l) := Lib.hid (H1.out.1.below hb2)
  have HB2 : Hid (Below w.heap.size w w2) := Lib.hid (HB1.out.trans (hb2.mono HB1.out.size))
  clear hb2 HP H1 HB1
  go_wp2_with fail
  refine (HW.out _).mono ?_
  rintro r w3 ⟨rfl, hb3⟩
  have H13 : Hid (EntsIn w3 A1 l) := Lib.hid (H12.out.below hb3)
  have HB3 : Hid (Below w.heap.size w w3) := Lib.hid (HB2.out.trans (hb3.mono HB2.out.size))
  clear hb3 H12 HB2
  by_cases h0 : C = 0
  · subst h0
    obtain ⟨hM, hT⟩ := HMD.out rfl
    have hTd : T.data.toList = TB.bytes 40 10 l := by rw [← hT]
    have hTz : T.size = (TB.bytes 40 10 l).length := by rw [← hT, mk_size]
    have hTs := made_size hM
    rw [hT] at hTs
    have hT24 : 24 ≤ T.size := by rw [hTz, hM.len]; omega
    have hne : ((T.size : Int) == 0) = false := beq_eq_false_iff_ne.2 (by omega)
    obtain ⟨C, hC⟩ : ∃ C, P % (8 * T.size) = C := ⟨_, rfl⟩
    have hCS : C < 8 * T.size := by
      have := Nat.mod_lt P (show 8 * T.size > 0 by omega)
      omega
    have hrem : (P : Int) % (8 * (T.size : Int)) = (C : Int) := by rw [← hC, Int.natCast_emod, Int.natCast_mul]; rfl
    have h8 : ¬ (8 * (T.size : Int)) = 0 := by omega
    obtain ⟨J, hJ⟩ : ∃ J, C / 8 = J := ⟨_, rfl⟩
    have hJi : (C : Int) / 8 = (J : Int) := by omega
    obtain ⟨R, hR⟩ : ∃ R, C % 8 = R := ⟨_, rfl⟩
    have hRi : (C : Int) % 8 = (R : Int) := by omega
    have hJS : J < T.size := by omega
    have hR8 : R < 8 := by omega
    have HTD := Lib.hid hTd
    have HTZ := Lib.hid hTz
    have HM := Lib.hid hM
    clear hC hJ hR hT hTd hTz hM HMD HW
    obtain ⟨G, W1, cs, fr, hcv, hrow, hat, hBW⟩ := bytes_of_text w3 T
    have hW1s : w3.heap.size < W1.heap.size := (Array.getElem?_eq_some_iff.1 hrow).1
    obtain ⟨hcJ, hfJ⟩ := hat J hJS
    have hcell : W1.cell? ⟨w3.heap.size, J, none⟩ = some (.int .u8 (T[J].toNat : Int)) := by rw [cell_of_row _ _ _ _ _ _ hrow]; exact hcJ
    obtain ⟨x, hx⟩ : ∃ x, T[J] = x := ⟨_, rfl⟩
    rw [hx] at hcell
    have HX := Lib.hid hx
    have HROW := Lib.hid hrow
    have HAT := Lib.hid hat
    have HBW := Lib.hid hBW
    have i0 : (0 : Int) ≤ (J : Int) := by omega
    have i1 : (J : Int) < (T.size : Int) := by omega
    clear hrow hat hBW hcJ hx
    obtain ⟨y, hxy, hbit⟩ := bit_turned x R hR8
    have hY := fun W (h : W = (W1.setCell ⟨w3.heap.size, J, none⟩ (.int .u8 (y.toNat : Int))).drew) => h ▸ turned_string W1 w3.heap.size G J T y cs fr HROW.out HAT.out
    obtain ⟨Y, hYd⟩ : ∃ Y : ByteArray, (⟨(T.data.toList.set J y).toArray⟩ : ByteArray) = Y := ⟨_, rfl⟩
    rw [hYd] at hY
    have hYl : Y.data.toList = (TB.bytes 40 10 l).set J y := by rw [← hYd, HTD.out]
    have hYs : Y.size = T.size := by rw [← size_list Y, hYl, List.length_set, ← HTZ.out]
    have hgd : (TB.bytes 40 10 l).getD J 0 ≠ y := by
      rw [← HTD.out, List.getD_eq_getElem?_getD, List.getElem?_eq_getElem (by rw [size_list]; exact hJS), Option.getD_some, byte_of T J hJS, HX.out]
      exact hxy
    have htn := HM.out.turned J y (by rw [← HTZ.out]; exact hJS) hgd
    rw [← hYl, ← HTZ.out] at htn
    have HTN := Lib.hid htn
    have HO := Lib.hid (fun W b (h : W.heap[b]? = some (.cells #[.string Y] 9 (0, 0))) => topen_any b Y T.size W h (by omega) (by omega) (by omega))
    have HYS := Lib.hid hYs
    have HTS := Lib.hid hTs
    have HBW2 : Hid (Below w3.heap.size w3 (W1.setCell ⟨w3.heap.size, J, none⟩ (.int .u8 (y.toNat : Int))).drew) := (HBW.out.setCell (p := ⟨w3.heap.size, J, none⟩) (Nat.le_refl _) _).drew
    clear hYd hYl hgd hxy htn hYs HTD HM HX HROW HAT
    go_wp2_with fail
    simp only [hrem]
    go_region
    obtain ⟨W2, hW2⟩ : ∃ W2, (W1.setCell ⟨w3.heap.size, J, none⟩ (.int .u8 (y.toNat : Int))).drew = W2 := ⟨_, rfl⟩
    rw [hW2] at HBW2 ⊢
    have hcv2 := hY W2 hW2.symm
    have HB2 : Hid (Below w.heap.size w W2) := Lib.hid (HB3.out.trans (HBW2.out.mono HB3.out.size))
    have H1b : Hid (EntsIn W2 A1 l) := Lib.hid (H13.out.below HBW2.out)
    clear hY hW2 hcv hcell hfJ hbit HB3 H13 HBW HBW2 hW1s
    go_wp2_with fail
    refine (source_any Y W2).mono ?_
    rintro e w4 ⟨rfl, hx4, hb4⟩
    have H14 : Hid (EntsIn w4 A1 l) := Lib.hid (H1b.out.below hb4)
    have HB4 : Hid (Below w.heap.size w w4) := Lib.hid (HB2.out.trans (hb4.mono HB2.out.size))
    have HO4 := Lib.hid (HO.out _ _ hx4)
    clear hb4 hx4 H1b HB2 HO hcv2
    go_wp2_with fail
    refine HO4.out.mono ?_
    rintro e w5 ⟨hb5, hr5⟩
    have H15 : Hid (EntsIn w5 A1 l) := Lib.hid (H14.out.below hb5)
    have HB5 : Hid (Below w.heap.size w w5) := Lib.hid (HB4.out.trans (hb5.mono HB4.out.size))
    clear hb5 H14 HB4 HO4
    rcases HTN.out with ⟨c, hc⟩ | ⟨hok, hall⟩
    · have hc0 := openS_err hc
      rw [hc] at hr5
      simp only at hr5
      subst hr5
      have hbn : (c != 0) = true := by simpa using hc0
      have hbe : (c == 0) = false := by simpa using hc0
      clear HTN hc hc0
      go_wp2
      go_ret
      exact ⟨rfl, HB5.out⟩
    · rw [hok] at hr5
      simp only at hr5
      obtain ⟨t, rfl, -, htab⟩ := hr5
      have HALL := Lib.hid (hall key)
      have HTA := Lib.hid (tall_any t _ Y _ _ key w5 htab (by have := HYS.out; have := HTS.out; omega))
      clear HTN hok hall htab
      go_wp2_with fail
      refine HTA.out.mono ?_
      rintro e w6 ⟨hb6, hr6⟩
      have H16 : Hid (EntsIn w6 A1 l) := Lib.hid (H15.out.below hb6)
      have HB6 : Hid (Below w.heap.size w w6) := Lib.hid (HB5.out.trans (hb6.mono HB5.out.size))
      clear hb6 H15 HB5 HTA
      rcases HALL.out with ⟨c, hc⟩ | hok
      · have hc0 := allS_err hc
        rw [hc] at hr6
        simp only at hr6
        subst hr6
        have hbn : (c != 0) = true := by simpa using hc0
        have hbe : (c == 0) = false := by simpa using hc0
        clear HALL hc hc0
        go_wp2
        go_ret
        exact ⟨rfl, HB6.out⟩
      · rw [hok] at hr6
        simp only at hr6
        obtain ⟨A3, c3, rfl, hin3, hvc3⟩ := hr6
        have HVC3 := Lib.hid hvc3
        have H36 := Lib.hid hin3
        clear HALL hok hin3 hvc3 HTS HYS HTZ
        obtain ⟨K3, hK3⟩ : ∃ K, (SK.from_ l key).length = K := ⟨_, rfl⟩
        rw [hK3] at HVC3 ⊢
        have HK3 := Lib.hid hK3
        clear hK3
        go_wp2_with fail
        go_loopw [14, 84] (fun m i wr => ∃ (j : Nat) (A4 : Option Addr) (c4 k : Nat), j ≤ n ∧ i = .int .i64 j ∧ m = .slice A4 k c4 ∧ (SK.from_ (l.drop j) key).length = k ∧ k ≤ c4 ∧ EntsIn wr A4 (SK.from_ (l.drop j) key) ∧ Below w.heap.size w wr ∧ Below w6.heap.size w6 wr) (fun _ i _ => n - (intOf i).toNat)
        case atStart => exact ⟨0, A3, c3, K3, by omega, rfl, rfl, by rw [List.drop_zero]; exact HK3.out, HVC3.out, by rw [List.drop_zero]; exact H36.out, HB6.out, Below.refl _ _⟩
        case round =>
          obtain ⟨j, A4, c4, k, hj, rfl, rfl, hkl, hkc, hin4, hbw, hk6⟩ := hrel
          by_cases hlt : j < n
          · have hjl : j < l.length := by rw [HN.out]; exact hlt
            have hfd := from_drop hjl key
            have hwf := H16.out.wf l[j] (List.getElem_mem hjl)
            obtain ⟨b, off, hA, hbl, hc⟩ := (H16.out.below hk6).at_ (by omega)
            obtain ⟨z0, z1, z2, z3, z4⟩ := hc j hjl
            obtain ⟨e, he⟩ : ∃ e, l[j] = e := ⟨_, rfl⟩
            rw [he] at z0 z1 z2 z3 z4 hfd
            subst hA
            obtain ⟨k2, q2, g2, v2, t2⟩ := e
            simp only at z0 z1 z2 z3 z4 hfd
            have hee1 := fun W => ent_any W k2 k2 q2 q2 g2 g2 v2 v2 t2 t2
            have heq1 : eqB ⟨k2, q2, g2, v2, t2⟩ ⟨k2, q2, g2, v2, t2⟩ = true := (eqB_iff _ _).2 rfl
            simp only [heq1, Bool.not_true] at hee1
            have g0 : (0 : Int) ≤ (j : Int) := by omega
            have g1 : (j : Int) < (n : Int) := by omega
            have hn4 : n ≤ 3000 := HN3.out
            have HBX : Hid (Below w6.heap.size w6 (wr.alloc (.cells #[.string k2, .int .i64 q2, .bool g2, .string v2, .int .i64 t2] 41))) := Lib.hid (hk6.alloc hk6.size _)
            have HBY : Hid (Below w.heap.size w (wr.alloc (.cells #[.string k2, .int .i64 q2, .bool g2, .string v2, .int .i64 t2] 41))) := Lib.hid (hbw.alloc hbw.size _)
            have HIN4 : Hid (EntsIn (wr.alloc (.cells #[.string k2, .int .i64 q2, .bool g2, .string v2, .int .i64 t2] 41)) A4 (SK.from_ (l.drop j) key)) := Lib.hid (hin4.below ((Below.refl _ _).alloc (Nat.le_refl _) _))
            have HRX : Hid ((wr.alloc (.cells #[.string k2, .int .i64 q2, .bool g2, .string v2, .int .i64 t2] 41)).heap[wr.heap.size]? = some (.cells #[.string k2, .int .i64 q2, .bool g2, .string v2, .int .i64 t2] 41 (0, 0))) := Lib.hid (heap_alloc_new wr _)
            have HFD := Lib.hid hfd
            have HKL := Lib.hid hkl
            have HKC := Lib.hid hkc
            clear hfd hkl hkc hin4 hbw hk6 hwf hbl hc he heq1
            have r0 : (wr.alloc (.cells #[.string k2, .int .i64 q2, .bool g2, .string v2, .int .i64 t2] 41)).cell? ⟨wr.heap.size, 0, none⟩ = some (.string k2) := cell_of_row _ _ _ _ _ _ HRX.out
            by_cases hbf : Go.bytesBefore k2.data.toList key.data.toList = true
            · have hd : Op.bytesLess k2.toList key.toList = true := by rw [text_less]; exact hbf
              rw [if_pos hbf] at HFD
              rw [HFD.out] at HIN4 HKL
              clear hbf HFD
              go_wp2
              go_roundw
              case rel => exact ⟨j + 1, A4, c4, k, by omega, by go_num, rfl, HKL.out, HKC.out, HIN4.out, HBY.out, HBX.out⟩
              case measure => simp [intOf]; omega
            · have hd : Op.bytesLess k2.toList key.toList = false := by rw [text_less]; simpa using hbf
              rw [if_neg hbf] at HFD
              rw [HFD.out] at HIN4 HKL
              have hk1 : (SK.from_ (l.drop (j + 1)) key).length + 1 = k := by simpa using HKL.out
              have HKL1 : Hid ((SK.from_ (l.drop (j + 1)) key).length = k - 1) := Lib.hid (by omega)
              obtain ⟨b4, o4, hA4, hbl4, hc4⟩ := HIN4.out.at_ (by simp)
              obtain ⟨y0, y1, y2, y3, y4⟩ := hc4 0 (by simp)
              simp only [List.getElem_cons_zero, Nat.zero_mul, Nat.add_zero] at y0 y1 y2 y3 y4
              subst hA4
              have hA5 : 1 < k → (if c4 = 1 then some ⟨b4, o4, none⟩ else some ⟨b4, o4 + 5, none⟩ : Option Addr) = some ⟨b4, o4 + 5, none⟩ := fun h => if_neg (by have := HKC.out; omega)
              have HIN8 : Hid (∀ W, Below (wr.alloc (.cells #[.string k2, .int .i64 q2, .bool g2, .string v2, .int .i64 t2] 41)).heap.size (wr.alloc (.cells #[.string k2, .int .i64 q2, .bool g2, .string v2, .int .i64 t2] 41)) W → EntsIn W (if c4 = 1 then some ⟨b4, o4, none⟩ else some ⟨b4, o4 + 5, none⟩) (SK.from_ (l.drop (j + 1)) key)) := Lib.hid fun W hW => by
                by_cases h1 : 1 < k
                · rw [hA5 h1]
                  have := ents_drop (k := 1) (HIN4.out.below hW)
                  simpa using this
                · refine ⟨fun e he => HIN4.out.wf e (List.mem_cons_of_mem _ he), fun h => ?_⟩
                  omega
              have HKC1 : Hid (k - 1 ≤ c4 - 1) := Lib.hid (by have := HKC.out; omega)
              have d2 : ((k : Int) == 0) = false := beq_eq_false_iff_ne.2 (by omega)
              have m0 : (0 : Int) ≤ 0 := by decide
              have m1 : (0 : Int) < (k : Int) := by omega
              have r1 : (wr.alloc (.cells #[.string k2, .int .i64 q2, .bool g2, .string v2, .int .i64 t2] 41)).cell? ⟨wr.heap.size, 1, none⟩ = some (.int .i64 q2) := cell_of_row _ _ _ _ _ _ HRX.out
              have r2 : (wr.alloc (.cells #[.string k2, .int .i64 q2, .bool g2, .string v2, .int .i64 t2] 41)).cell? ⟨wr.heap.size, 2, none⟩ = some (.bool g2) := cell_of_row _ _ _ _ _ _ HRX.out
              have r3 : (wr.alloc (.cells #[.string k2, .int .i64 q2, .bool g2, .string v2, .int .i64 t2] 41)).cell? ⟨wr.heap.size, 3, none⟩ = some (.string v2) := cell_of_row _ _ _ _ _ _ HRX.out
              have r4 : (wr.alloc (.cells #[.string k2, .int .i64 q2, .bool g2, .string v2, .int .i64 t2] 41)).cell? ⟨wr.heap.size, 4, none⟩ = some (.int .i64 t2) := cell_of_row _ _ _ _ _ _ HRX.out
              clear hbf HFD hk1 hbl4 hc4 hA5 HIN4 HKL
              go_wp2_with fail
              generalize wr.alloc (.cells #[.string k2, .int .i64 q2, .bool g2, .string v2, .int .i64 t2] 41) = wx at y0 y1 y2 y3 y4 r0 r1 r2 r3 r4 HIN8 HBX HBY ⊢
              go_quiet (fail)
              go_wp2
              go_roundw
              case rel => exact ⟨j + 1, _, c4 - 1, k - 1, by omega, by go_num, rfl, HKL1.out, HKC1.out, HIN8.out _ (below_drewN (Below.refl _ _) _), below_drewN HBY.out _, below_drewN HBX.out _⟩
              case measure => simp [intOf]; omega
          · have hjn : j = n := by omega
            have hd0 : l.drop j = [] := List.drop_eq_nil_of_le (by rw [HN.out]; omega)
            rw [hd0] at hkl
            have hk0 : k = 0 := by rw [← hkl]; rfl
            subst hk0 hjn
            have HBW := Lib.hid hbw
            clear hkl hkc hin4 hbw hk6 hd0
            go_wp2
            go_ret
            exact ⟨rfl, HBW.out⟩
  · have hbe : (C == 0) = false := by simpa using h0
    have hbn : (C != 0) = true := by simpa using h0
    go_wp2_with (go_at_call 8; refine (HW.out _).mono ?_; rintro r w5 ⟨rfl, hb5⟩
                 have HB5 : Hid (Below w.heap.size w w5) := Lib.hid (HB3.out.trans (hb5.mono HB3.out.size))
                 clear hb5)
    go_ret
    exact ⟨rfl, HB5.out⟩

set_option maxRecDepth 100000 in
set_option maxHeartbeats 1000000 in
theorem walk (A : Option Addr) (n cap : Nat) (l : List E) (p : Int) (key : ByteArray) (w : World) (hn : l.length = n) (hin : EntsIn w A l) (hcap : n ≤ cap) (hb : n * 56 ≤ reachBytes)
    (hp : -9223372036854775808 ≤ p ∧ p ≤ 9223372036854775807) :
    Calls Try.prog 4 #[.slice A n cap, .int .i64 p, .string key] w fun e w' => e = .returned (.bool true) ∧ Below w.heap.size w w' :=
  walk0 A n cap (min n 3000) (l.take 3000) p key w (by rw [List.length_take]; omega) (hin.take 3000) hcap rfl (by unfold reachBytes at hb; omega) hp.1 hp.2

set_option maxRecDepth 100000 in
theorem contract (H : Type) (enc : TypeId × Value → H) (W : World) (base : Nat) (args : Array Value) (ds gs : List (DataW H)) (before : List MemPlace)
    (hval : ∀ (j : Nat) t v, Try.f4.params[j]? = some t → args[j]? = some v → Value.okWide Try.prog W .any base t v)
    (hW : DataW.Whole enc Try.prog Try.f4.params.toList Rows.tableBitsSpec.vars false W args.toList ds gs before)
    (hz : (DataW.weightsEach Try.prog Try.f4.params.toList (ds ++ gs)).all (· ≤ reachBytes) = true) :
    Calls Try.prog 4 args W fun e W' => ∃ v, e = .returned v ∧ Rows.tableBitsSpec.post enc Try.prog Try.f4 false true false false W args v W' := by
  have hW' := hW
  obtain ⟨p, q, hA0, hV, rfl, hfz, hnd⟩ := hW
  have hA : DataW.TrodAll enc Try.prog W 0 (fun _ => true) true Try.f4.params.toList args.toList ds p := hA0
  rw [Try.params4] at hA hval hz
  obtain ⟨v0, vs0, d0, ds0, p0, q0, hargs, rfl, rfl, h0, r0⟩ := trodAll_cons hA
  obtain ⟨v1, vs1, d1, ds1, p1, q1, rfl, rfl, rfl, h1, r1⟩ := trodAll_cons r0
  obtain ⟨v2, vs2, d2, ds2, p2, q2, rfl, rfl, rfl, h2, r2⟩ := trodAll_cons r1
  obtain ⟨rfl, rfl, rfl⟩ := trodAll_nil r2
  obtain rfl : args = #[v0, v1, v2] := by cases args; simp_all
  obtain ⟨rfl, rfl⟩ := trodVars_none hV
  obtain ⟨lA, lN, lC, l, rfl, hlenl, hinl, hbl, hcapl⟩ := open_ents (hval 0 22 v0 rfl rfl) h0 (parts_sized hz (j := 0) rfl rfl)
  obtain ⟨bit, rfl, rfl, rfl, wbit⟩ := open_int Try.underlying3 (hval 1 3 v1 rfl rfl) h1
  have hbit : -9223372036854775808 ≤ bit ∧ bit ≤ 9223372036854775807 := by simpa [Lit.wf, IntKind.min, IntKind.max, IntKind.signed, IntKind.bits] using wbit
  obtain ⟨key, rfl, rfl, rfl, hmax2⟩ := Go.ChangeMaps.open_string Try.underlying9 (hval 2 9 v2 rfl rfl) h2
  have hkey : key.size ≤ 140737488351232 := by
    have h := sized_string hz (j := 2) rfl rfl
    have hl : key.data.toList.length = key.size := by simp
    unfold reachBytes at h
    omega
  refine (walk lA lN lC l bit key W hlenl hinl hcapl hbl hbit).mono fun e W' ⟨he, hB⟩ => ?_
  subst he
  exact ⟨_, rfl, law_post Try.laidOut (by kernel_rfl) rfl rfl Try.underlying4 hW' rfl hB⟩

set_option maxRecDepth 100000 in
theorem lifted (os : Os) (started : os.Started) (H : Type) (enc : TypeId × Value → H) :
    ReturnsInHanded {} Try.checked os 4 .any (Rows.tableBitsSpec.pre6 enc Try.prog Try.f4 Rows.tableBitsRow.domain false) (Rows.tableBitsSpec.post enc Try.prog Try.f4 false true false false) := by
  refine returnsInHanded_of_change_sized (C := Try.checked) Try.own started (by kernel_rfl) Try.func4
    (ChangeSpec.witness6 (enc := enc) (C := Try.checked) false ⟨#[], #[.slice none 0 0, .int .i64 0, .string ⟨#[]⟩], []⟩ 8 (by kernel_rfl) (by kernel_rfl) (by kernel_rfl) (by kernel_rfl)) ?_
  intro W base args ds gs before hval hW _ hz _
  exact contract H enc W base args ds gs before hval hW hz

theorem proved : Rows.TableBitsSaid :=
  OpenClaim.holds_of_wide 4 Try.f4 rfl rfl rfl rfl rfl rfl rfl ⟨rfl, rfl, rfl, rfl, rfl⟩ rfl rfl rfl rfl rfl (by kernel_rfl) Try.func4 (by kernel_rfl)
    (of_decide_eq_true (by kernel_rfl)) (by unfold Func.isWrapper; first | (rw [if_pos (by decide +kernel)]; kernel_rfl) | (rw [if_neg (by decide +kernel)]; exact ⟨rfl, rfl⟩))
    (fun os started H enc _ => lifted os started H enc)
end lawBits
end Go.Proofs.Ytmiihbklneegbaa

