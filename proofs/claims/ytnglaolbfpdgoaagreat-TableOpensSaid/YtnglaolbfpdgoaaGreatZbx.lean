/- Texts joined by bundle.py: Lo. -/
import Derived.Test.YtnglaolbfpdgoaaGreatZbn
import Derived.Test.YtnglaolbfpdgoaaGreatZbj
import Derived.Test.YtnglaolbfpdgoaaGreatZbo
import Derived.Test.YtnglaolbfpdgoaaGreatZbw

/- TableOpens: every bytes, of whatever size they are said to be, are the document's table, or its error. For every two texts and every number. -/
namespace Go.Proofs.YtnglaolbfpdgoaaGreat
open Go.ChangeShapes Go.WideShapes Go.ChangeAt Go.RowKit
open SK
open TB (Bs Sp)

theorem openS_ok {s : Bs} {size : Int} {ss : List Sp} {fl : Bs} (h : TB.openS s size = .ok (ss, fl)) : fl.length ≤ 65535 ∧ ∃ ix x, TB.spansOf ix x = .ok ss ∧ x ≤ s.length := by
  unfold TB.openS at h
  split at h
  · cases h
  · unfold TB.readS at h
    generalize (size - 24).toNat = z at h
    cases h0 : TB.bodyOf s z 24 with
    | error d => rw [h0] at h; cases h
    | ok ft =>
      rw [h0] at h
      obtain ⟨-, -, -, hz⟩ := TB.bodyOf_ok h0
      simp only [TB.rest0] at h
      split at h
      · rename_i hxy
        cases h1 : TB.bodyOf s (TB.big (ft.take 8)) ((TB.big (ft.drop 8) : Int) - TB.big (ft.take 8)) with
        | error d => rw [h1] at h; cases h
        | ok ix =>
          rw [h1] at h
          simp only [TB.rest1] at h
          cases h2 : TB.bodyOf s (TB.big (ft.drop 8)) ((z : Int) - TB.big (ft.drop 8)) with
          | error d => rw [h2] at h; cases h
          | ok fl2 =>
            rw [h2] at h
            simp only [TB.rest2] at h
            cases h3 : TB.spansOf ix (TB.big (ft.take 8)) with
            | error d => rw [h3] at h; cases h
            | ok ss2 =>
              rw [h3] at h
              simp only [TB.rest3, Except.ok.injEq, Prod.mk.injEq] at h
              obtain ⟨rfl, rfl⟩ := h
              exact ⟨(TB.bodyOf_ok h2).1, ix, _, h3, by omega⟩
      · cases h

namespace lawOpens

set_option maxRecDepth 100000 in
set_option maxHeartbeats 4000000 in
theorem walk (s : ByteArray) (size : Int) (key : ByteArray) (w : World) (hs : s.size ≤ 140737488351232) (h0 : -9223372036854775808 ≤ size) (h1 : size ≤ 9223372036854775807) (hk : key.size ≤ 140737488351232) :
    Calls Tryz.prog 4 #[.string s, .int .i64 size, .string key] w fun e w' => e = .returned (.bool true) ∧ Below w.heap.size w w' := by
  have HT : Hid (∀ (N : Int) W, -9223372036854775808 ≤ N → N ≤ 9223372036854775807 → Calls Tryz.prog 10 #[.string s, .int .i64 N] W fun e w' => TablesOut W s (TB.openS s.data.toList N) e w') := Lib.hid fun N W a b => tables_any s N W (by omega) a b
  have HW : Hid (∀ W, Calls Tryz.prog 9 #[] W fun r w' => r = .returned (.bool true) ∧ Below W.heap.size W w') := fun W => wakes_any W
  obtain ⟨x, hx⟩ : ∃ x, w.heap.size = x := ⟨_, rfl⟩
  have hrow := heap_alloc_new w (.cells #[.int .i64 (s.size : Int), .int .i64 size] 3)
  rw [hx] at hrow
  have HROW := Lib.hid hrow
  have HB0 : Hid (Below x w (w.alloc (.cells #[.int .i64 (s.size : Int), .int .i64 size] 3))) := Lib.hid ((Below.refl _ _).alloc (by omega) _)
  have HN : Hid (∀ j : Nat, j < 2 → ∃ N : Int, (#[Value.int .i64 (s.size : Int), .int .i64 size])[j]? = some (.int .i64 N) ∧ -9223372036854775808 ≤ N ∧ N ≤ 9223372036854775807) := Lib.hid fun j hj => by
    match j, hj with
    | 0, _ => exact ⟨_, rfl, by omega, by omega⟩
    | 1, _ => exact ⟨_, rfl, h0, h1⟩
  have HK := Lib.hid hk
  have HNIL := Lib.hid (fun W => topen_nil size W)
  clear hs h0 h1 hk hrow
  rw [hx]
  go_enter Tryz.func4, Tryz.ntmps4
  go_wp2_with fail
  generalize w.alloc (.cells #[.int .i64 (s.size : Int), .int .i64 size] 3) = w0 at HROW HB0 ⊢
  go_loopw [19] (fun i wr => ∃ j : Nat, j ≤ 2 ∧ i = .int .i64 j ∧ Below x w wr ∧ wr.heap[x]? = some (.cells #[.int .i64 (s.size : Int), .int .i64 size] 3 (0, 0))) (fun i _ => 2 - (intOf i).toNat)
  case atStart => exact ⟨0, by omega, rfl, HB0.out, HROW.out⟩
  case round =>
    obtain ⟨j, hj, rfl, hb, hrow⟩ := hrel
    have hxl := (Array.getElem?_eq_some_iff.1 hrow).1
    by_cases hlt : j < 2
    · obtain ⟨N, hN, n0, n1⟩ := HN.out j hlt
      have c0 : wr.cell? ⟨x, j, none⟩ = some (.int .i64 N) := (cell_of_row _ _ _ _ _ _ hrow).trans hN
      have HC := HT.out N wr n0 n1
      obtain ⟨X, hX⟩ : ∃ X, TB.openS s.data.toList N = X := ⟨_, rfl⟩
      rw [hX] at HC
      unfold TablesOut at HC
      have HB := Lib.hid hb
      have HR := Lib.hid hrow
      have HXL := Lib.hid hxl
      have d0 : decide ((j : Int) < 2) = true := decide_eq_true (by omega)
      have g0 : (0 : Int) ≤ (j : Int) := by omega
      have g1 : (j : Int) < 2 := by omega
      clear hb hrow hN n0 n1 hxl
      go_wp2_with fail
      refine HC.mono ?_
      cases X with
      | error c =>
        rintro e w1 ⟨hb1, rfl⟩
        have HB1 := Lib.hid (below_seq HB.out hb1 (by have := HXL.out; omega))
        have HR1 := Lib.hid ((hb1.block x HXL.out).trans HR.out)
        clear hb1 HC hX c0
        go_wp2
        go_roundw
        case rel => exact ⟨j + 1, by omega, by go_num, HB1.out, HR1.out⟩
        case measure => simp [intOf]; omega
      | ok y =>
        obtain ⟨ss, fl⟩ := y
        rintro e w1 ⟨hb1, t, x2, q, rfl, ht, hq⟩
        have HB1 := Lib.hid (below_seq HB.out hb1 (by have := HXL.out; omega))
        have HR1 := Lib.hid ((hb1.block x HXL.out).trans HR.out)
        have HXL1 : Hid (x < w1.heap.size) := Lib.hid (by have := HXL.out; have := hb1.size; omega)
        have hfl := (openS_ok hX).1
        have HT1 := Lib.hid ht
        have HQ1 := Lib.hid hq
        have hflz : (⟨fl.toArray⟩ : ByteArray).size ≤ 140737488351232 := by rw [mk_size]; omega
        obtain ⟨FL, hFL⟩ : ∃ FL : ByteArray, ⟨fl.toArray⟩ = FL := ⟨_, rfl⟩
        rw [hFL] at HT1 HQ1 hflz
        obtain ⟨A, c, hqr, -⟩ := HQ1.out.row
        have hql := (Array.getElem?_eq_some_iff.1 hqr).1
        have c2 : w1.cell? ⟨q, 2, none⟩ = some (.string FL) := cell_of_row _ _ _ _ _ _ hqr
        have HS : Hid (∀ W, Below w1.heap.size w1 W → W.cell? ⟨q, 2, none⟩ = some (.string FL)) := Lib.hid fun W hW => (hW.cell (p := ⟨q, 2, none⟩) hql).trans c2
        obtain ⟨k, hkk⟩ : ∃ k, TB.which ss key = k := ⟨_, rfl⟩
        obtain ⟨B, hB⟩ : ∃ B, B9.BL.has FL.data.toList key.data.toList = B := ⟨_, rfl⟩
        have HC1 : Hid (∀ W, Below w1.heap.size w1 W → Calls Tryz.prog 11 #[.pointer (some ⟨t, 0, none⟩), .string key] W fun e w' => e = .returned (.int .i64 k) ∧ Below w1.heap.size w1 w') := Lib.hid fun W hW => (twhich_any t x2 s ss FL key W (HT1.out.below hW)).mono fun e w' h => ⟨by rw [← hkk]; exact h.1, below_seq hW h.2 hW.size⟩
        have HC2 : Hid (∀ W, Below w1.heap.size w1 W → Calls Tryz.prog 12 #[.pointer (some ⟨q, 0, none⟩), .string key] W fun e w' => e = .returned (.int .i64 k) ∧ Below w1.heap.size w1 w') := Lib.hid fun W hW => (rwhich_any q s ss FL key W (HQ1.out.below hW)).mono fun e w' h => ⟨by rw [← hkk]; exact h.1, below_seq hW h.2 hW.size⟩
        have HC3 : Hid (∀ W, Below w1.heap.size w1 W → Calls Tryz.prog 13 #[.pointer (some ⟨t, 0, none⟩), .string key] W fun e w' => e = .returned (.bool B) ∧ Below w1.heap.size w1 w') := Lib.hid fun W hW => (tmay_any t x2 s ss FL key W (HT1.out.below hW) hflz HK.out).mono fun e w' h => ⟨by rw [← hB]; exact h.1, below_seq hW h.2 hW.size⟩
        have HC4 : Hid (∀ W, Below w1.heap.size w1 W → Calls Tryz.prog 14 #[.string FL, .string key] W fun e w' => e = .returned (.bool B) ∧ Below w1.heap.size w1 w') := Lib.hid fun W hW => (B9.rhas_any FL key W hflz HK.out).mono fun e w' h => ⟨by rw [← hB]; exact h.1, below_seq hW h.2 hW.size⟩
        have HBD : Hid (Below w1.heap.size w1 w1.drew) := Lib.hid (below_drewN (Below.refl _ w1) 1)
        have e1 : ((k : Int) != (k : Int)) = false := by simp
        have e1' : ((k : Int) == (k : Int)) = true := beq_self_eq_true _
        have e2 : (B != B) = false := by simp
        have e2' : (B == B) = true := beq_self_eq_true _
        clear hb1 HC hX c0 hfl ht hq hflz hFL hqr hql hkk hB HT1 HQ1
        go_wp2_with fail
        go_region_held3 (fun W => W.cell? ⟨q, 2, none⟩ = some (.string FL))
          (first | exact HS4.out | exact HS3.out | exact HS2.out | exact HS1.out | go_keep | fail)
          (first
            | (go_at_call 11; refine (HC1.out _ HBD.out).mono ?_; rintro e2 w2 ⟨rfl, hb2⟩
               have HB2 := Lib.hid hb2
               have HS1 := Lib.hid (HS.out _ hb2)
               clear hb2)
            | (go_at_call 12; refine (HC2.out _ HB2.out).mono ?_; rintro e3 w3 ⟨rfl, hb3⟩
               have HB3 := Lib.hid hb3
               have HS2 := Lib.hid (HS.out _ hb3)
               clear hb3)
            | (go_at_call 13; refine (HC3.out _ HB3.out).mono ?_; rintro e4 w4 ⟨rfl, hb4⟩
               have HB4 := Lib.hid hb4
               have HS3 := Lib.hid (HS.out _ hb4)
               clear hb4)
            | (go_at_call 14; refine (HC4.out _ HB4.out).mono ?_; rintro e5 w5 ⟨rfl, hb5⟩
               have HB5 := Lib.hid hb5
               have HS4 := Lib.hid (HS.out _ hb5)
               clear hb5)
            | fail)
        all_goals
          have HB6 := Lib.hid (below_seq HB1.out HB5.out (by have := HXL1.out; omega))
          have HR6 := Lib.hid ((HB5.out.block x HXL1.out).trans HR1.out)
          go_wp2
          go_roundw
          case rel => exact ⟨j + 1, by omega, by go_num, HB6.out, HR6.out⟩
          case measure => simp [intOf]; omega
    · obtain rfl : j = 2 := by omega
      have HB := Lib.hid hb
      have HXL := Lib.hid hxl
      clear hb hrow hxl
      go_wp2_with fail
      refine (HNIL.out _).mono ?_
      rintro e w1 ⟨rfl, hb1⟩
      have HB1 := Lib.hid (below_seq HB.out hb1 (by have := HXL.out; omega))
      have HXL1 : Hid (x < w1.heap.size) := Lib.hid (by have := HXL.out; have := hb1.size; omega)
      clear hb1
      go_wp2_with fail
      refine (HW.out _).mono ?_
      rintro e w2 ⟨rfl, hb2⟩
      have HB2 := Lib.hid (below_seq HB1.out hb2 (by have := HXL1.out; omega))
      clear hb2
      go_wp2
      go_ret
      exact ⟨rfl, HB2.out⟩

set_option maxRecDepth 100000 in
theorem contract (H : Type) (enc : TypeId × Value → H) (W : World) (base : Nat) (args : Array Value) (ds gs : List (DataW H)) (before : List MemPlace)
    (hval : ∀ (j : Nat) t v, Tryz.f4.params[j]? = some t → args[j]? = some v → Value.okWide Tryz.prog W .any base t v)
    (hW : DataW.Whole enc Tryz.prog Tryz.f4.params.toList Rows.tableOpensSpec.vars false W args.toList ds gs before)
    (hz : (DataW.weightsEach Tryz.prog Tryz.f4.params.toList (ds ++ gs)).all (· ≤ reachBytes) = true) :
    Calls Tryz.prog 4 args W fun e W' => ∃ v, e = .returned v ∧ Rows.tableOpensSpec.post enc Tryz.prog Tryz.f4 false true false false W args v W' := by
  have hW' := hW
  obtain ⟨p, q, hA0, hV, rfl, hfz, hnd⟩ := hW
  have hA : DataW.TrodAll enc Tryz.prog W 0 (fun _ => true) true Tryz.f4.params.toList args.toList ds p := hA0
  rw [Tryz.params4] at hA hval hz
  obtain ⟨v0, vs0, d0, ds0, p0, q0, hargs, rfl, rfl, h0, r0⟩ := trodAll_cons hA
  obtain ⟨v1, vs1, d1, ds1, p1, q1, rfl, rfl, rfl, h1, r1⟩ := trodAll_cons r0
  obtain ⟨v2, vs2, d2, ds2, p2, q2, rfl, rfl, rfl, h2, r2⟩ := trodAll_cons r1
  obtain ⟨rfl, rfl, rfl⟩ := trodAll_nil r2
  obtain rfl : args = #[v0, v1, v2] := by cases args; simp_all
  obtain ⟨rfl, rfl⟩ := trodVars_none hV
  obtain ⟨s, rfl, rfl, rfl, hmax0⟩ := Go.ChangeMaps.open_string Tryz.underlying9 (hval 0 9 v0 rfl rfl) h0
  have hs : s.size ≤ 140737488351232 := by
    have h := sized_string hz (j := 0) rfl rfl
    have hl : s.data.toList.length = s.size := by simp
    unfold reachBytes at h
    omega
  obtain ⟨size, rfl, rfl, rfl, wsize⟩ := open_int Tryz.underlying3 (hval 1 3 v1 rfl rfl) h1
  have hsize : -9223372036854775808 ≤ size ∧ size ≤ 9223372036854775807 := by simpa [Lit.wf, IntKind.min, IntKind.max, IntKind.signed, IntKind.bits] using wsize
  obtain ⟨key, rfl, rfl, rfl, hmax2⟩ := Go.ChangeMaps.open_string Tryz.underlying9 (hval 2 9 v2 rfl rfl) h2
  have hkey : key.size ≤ 140737488351232 := by
    have h := sized_string hz (j := 2) rfl rfl
    have hl : key.data.toList.length = key.size := by simp
    unfold reachBytes at h
    omega
  refine (walk s size key W hs hsize.1 hsize.2 hkey).mono fun e W' ⟨he, hB⟩ => ?_
  subst he
  exact ⟨_, rfl, law_post Tryz.laidOut (by kernel_rfl) rfl rfl Tryz.underlying4 hW' rfl hB⟩

set_option maxRecDepth 100000 in
theorem lifted (os : Os) (started : os.Started) (H : Type) (enc : TypeId × Value → H) :
    ReturnsInHanded {} Tryz.checked os 4 .any (Rows.tableOpensSpec.pre6 enc Tryz.prog Tryz.f4 Rows.tableOpensRow.domain false) (Rows.tableOpensSpec.post enc Tryz.prog Tryz.f4 false true false false) := by
  refine returnsInHanded_of_change_sized (C := Tryz.checked) Tryz.own started (by kernel_rfl) Tryz.func4
    (ChangeSpec.witness6 (enc := enc) (C := Tryz.checked) false ⟨#[], #[.string ⟨#[]⟩, .int .i64 0, .string ⟨#[]⟩], []⟩ 8 (by kernel_rfl) (by kernel_rfl) (by kernel_rfl) (by kernel_rfl)) ?_
  intro W base args ds gs before hval hW _ hz _
  exact contract H enc W base args ds gs before hval hW hz

theorem proved : Rows.TableOpensSaid :=
  OpenClaim.holds_of_wide 4 Tryz.f4 rfl rfl rfl rfl rfl rfl rfl ⟨rfl, rfl, rfl, rfl, rfl⟩ rfl rfl rfl rfl rfl (by kernel_rfl) Tryz.func4 (by kernel_rfl)
    (of_decide_eq_true (by kernel_rfl)) (by unfold Func.isWrapper; first | (rw [if_pos (by decide +kernel)]; kernel_rfl) | (rw [if_neg (by decide +kernel)]; exact ⟨rfl, rfl⟩))
    (fun os started H enc _ => lifted os started H enc)
end lawOpens
end Go.Proofs.YtnglaolbfpdgoaaGreat

