/- The walk of the document's Put. -/
import Derived.Test.YtonoapgajgcjlaaPb
namespace Go.Proofs.Ytonoapgajgcjlaa
open Go.RowKit
open SK

theorem mk_size (l : List UInt8) : (⟨l.toArray⟩ : ByteArray).size = l.length := by show l.toArray.size = _; rw [List.size_toArray]

set_option maxRecDepth 100000 in
set_option maxHeartbeats 4000000 in
theorem rput_any (A : Option Addr) (n cap : Nat) (l : List E) (w : World) (hn : l.length = n) (hin : EntsIn w A l) :
    Calls Try.prog 10 #[.slice A n cap] w fun e w' => e = .returned (.tuple #[.string ⟨(BK.putOut l).1.toArray⟩, .int .i64 (BK.putOut l).2]) ∧ Below w.heap.size w w' := by
  by_cases hlong : 64 < n
  · have HP : Hid (BK.putOut l = ([], 5)) := Lib.hid (by unfold BK.putOut; rw [if_pos (by omega)])
    have hi : (64 : Int) < (n : Int) := by omega
    rw [HP.out]
    clear hin hn
    go_enter Try.func10, Try.ntmps10
    go_wp2
    go_ret2
    exact ⟨rfl, Below.refl _ _⟩
  · have HPO : Hid (BK.putOut l = if BK.bad l ≠ 0 then ([], BK.bad l) else (BK.putB l, 0)) := Lib.hid (by unfold BK.putOut; rw [if_neg (by omega)])
    have hi : ¬ (64 : Int) < (n : Int) := by omega
    have hen := (VM.enc_len (n := (n : Int)) (by omega) (by omega)).2
    have HN := Lib.hid (fun W => refPut_any (n : Int) W (by omega) (by omega))
    have HPB : Hid (BK.putB l = VM.enc (n : Int) ++ BK.allB l) := Lib.hid (by unfold BK.putB; rw [hn])
    obtain ⟨N, hN⟩ : ∃ N, VM.enc (n : Int) = N := ⟨_, rfl⟩
    obtain ⟨R, hR⟩ : ∃ R, BK.putOut l = R := ⟨_, rfl⟩
    rw [hN] at hen HN HPB
    rw [hR] at HPO ⊢
    have HIN := Lib.hid hin
    have HLN := Lib.hid hn
    have HEN := Lib.hid hen
    have HLG : Hid (n ≤ 64) := Lib.hid (by omega)
    clear hN hR hin hn hen hlong
    go_enter Try.func10, Try.ntmps10
    go_wp2_with fail
    refine (HN.out _).mono ?_
    rintro e w1 ⟨rfl, hbel1⟩
    obtain ⟨B, hB⟩ : ∃ B, w.heap.size = B := ⟨_, rfl⟩
    have HB := Lib.hid hB
    rw [hB] at hbel1
    have hs1 : B ≤ w1.heap.size := by have := hbel1.size; omega
    clear hB
    go_wp2_with fail
    go_loopw [4, 5] (fun s i wr => ∃ j : Nat, j ≤ n ∧ i = .int .i64 j ∧ s = .string ⟨(N ++ BK.allB (l.take j)).toArray⟩ ∧ BK.Upto l j ∧ Below B w wr ∧ B ≤ wr.heap.size) (fun _ i _ => n - (intOf i).toNat)
    case atStart => exact ⟨0, by omega, rfl, by simp [BK.allB], BK.upto_zero l, hbel1, hs1⟩
    case round =>
      obtain ⟨j, hj, rfl, rfl, hup, hbel, hsz⟩ := hrel
      by_cases hlt : j < n
      · have hjl : j < l.length := by rw [HLN.out]; omega
        have hbelw : Below w.heap.size w wr := by rw [HB.out]; exact hbel
        obtain ⟨b, off, hA, hbl, hc⟩ := (HIN.out.below hbelw).at_ (by omega)
        obtain ⟨z0, z1, z2, z3, z4⟩ := hc j hjl
        have hwf := HIN.out.wf _ (List.getElem_mem hjl)
        have hUP1 := Lib.hid (fun hb => BK.upto_step hup hjl hb)
        have hUPB := Lib.hid (fun hb => BK.upto_bad hup hjl hb)
        have hALL := Lib.hid (BK.allB_take l j hjl)
        have hLEN : Hid ((N ++ BK.allB (l.take j)).length ≤ 40000) := Lib.hid (by
          have h1 := BK.allB_len (l := l.take j) (fun e he => ⟨hup.2 e he, (HIN.out.wf e (List.mem_of_mem_take he)).til.2⟩)
          have h2 : (l.take j).length ≤ 64 := by rw [List.length_take]; have := HLG.out; omega
          have h3 := HEN.out
          rw [List.length_append]; omega)
        obtain ⟨e, he⟩ : ∃ e, l[j] = e := ⟨_, rfl⟩
        rw [he] at z0 z1 z2 z3 z4 hwf hUP1 hUPB hALL
        obtain ⟨S, hS⟩ : ∃ S, N ++ BK.allB (l.take j) = S := ⟨_, rfl⟩
        rw [hS] at hLEN ⊢
        have HS2 : Hid (N ++ BK.allB (l.take (j + 1)) = S ++ BK.itemB e) := Lib.hid (by rw [hALL.out, ← List.append_assoc, hS])
        have HBG := Lib.hid (fun W => rbad_any e W hwf)
        have HTK := Lib.hid (fun W => rtext_any e.key W (by have := hwf.key; omega))
        have HTV := Lib.hid (fun W => rtext_any e.value W (by have := hwf.value; omega))
        have HIT : Hid (BK.itemB e = BK.textB e.key ++ (if e.gone = true then VM.enc 0 else VM.enc (e.til + 1) ++ BK.textB e.value)) := Lib.hid rfl
        have HBZ : Hid (BK.bad1 e = 0 → (BK.textB e.key).length ≤ 74 ∧ (BK.textB e.value).length ≤ 522 ∧ 0 ≤ e.til ∧ e.til < 9223372036854775807) := Lib.hid (fun h => by
          obtain ⟨hg1, ht⟩ := BK.bad1_zero h
          obtain ⟨h1, h2, h3, h4, -⟩ := BK.good_one_zero hg1
          have h5 := BK.textB_len e.key (by omega)
          have h6 := BK.textB_len e.value (by omega)
          have h7 := hwf.til.2
          exact ⟨by omega, by omega, h4, by omega⟩)
        obtain ⟨b1, hb1⟩ : ∃ b1, BK.bad1 e = b1 := ⟨_, rfl⟩
        obtain ⟨TK, hTK⟩ : ∃ TK, BK.textB e.key = TK := ⟨_, rfl⟩
        obtain ⟨TV, hTV⟩ : ∃ TV, BK.textB e.value = TV := ⟨_, rfl⟩
        obtain ⟨IB, hIB⟩ : ∃ IB, BK.itemB e = IB := ⟨_, rfl⟩
        rw [hb1] at HBG hUP1 hUPB HBZ
        rw [hTK] at HTK HIT HBZ
        rw [hTV] at HTV HIT HBZ
        rw [hIB] at HIT HS2
        have HBEL := Lib.hid hbel
        have HSZ := Lib.hid hsz
        subst hA
        obtain ⟨k2, q2, g2, v2, t2⟩ := e
        simp only [E.val] at z0 z1 z2 z3 z4 HBG HTK HTV HIT HBZ
        have g0 : (0 : Int) ≤ (j : Int) := by omega
        have g1 : (j : Int) < (n : Int) := by omega
        have hrow : (wr.alloc (.cells #[.string k2, .int .i64 q2, .bool g2, .string v2, .int .i64 t2] 39)).heap[wr.heap.size]? = some (.cells #[.string k2, .int .i64 q2, .bool g2, .string v2, .int .i64 t2] 39 (0, 0)) := heap_alloc_new wr _
        have hal : Below wr.heap.size wr (wr.alloc (.cells #[.string k2, .int .i64 q2, .bool g2, .string v2, .int .i64 t2] 39)) := (Below.refl _ _).alloc (Nat.le_refl _) _
        have hasz : (wr.alloc (.cells #[.string k2, .int .i64 q2, .bool g2, .string v2, .int .i64 t2] 39)).heap.size = wr.heap.size + 1 := by simp
        clear hup hbel hsz hbelw hbl hc hwf he hb1 hTK hTV hIB hS hALL
        go_wp2_with fail
        generalize wr.alloc (.cells #[.string k2, .int .i64 q2, .bool g2, .string v2, .int .i64 t2] 39) = w3 at hrow hal hasz ⊢
        obtain ⟨x, hx⟩ : ∃ x, wr.heap.size = x := ⟨_, rfl⟩
        rw [hx] at hrow hal hasz ⊢
        have HX := Lib.hid hx
        have HROW := Lib.hid hrow
        have HAZ := Lib.hid hasz
        have HBC : Hid (Below B w w3) := Lib.hid (HBEL.out.trans (hal.mono (by have := HX.out; have := HSZ.out; omega)))
        clear hx hrow hal hasz z0 z1 z2 z3 z4 HBEL
        obtain ⟨d0, d1, d2, d3, d4⟩ : w3.cell? ⟨x, 0, none⟩ = some (.string k2) ∧ w3.cell? ⟨x, 1, none⟩ = some (.int .i64 q2) ∧ w3.cell? ⟨x, 2, none⟩ = some (.bool g2) ∧ w3.cell? ⟨x, 3, none⟩ = some (.string v2) ∧ w3.cell? ⟨x, 4, none⟩ = some (.int .i64 t2) := ⟨cell_of_row _ _ _ _ _ _ HROW.out, cell_of_row _ _ _ _ _ _ HROW.out, cell_of_row _ _ _ _ _ _ HROW.out, cell_of_row _ _ _ _ _ _ HROW.out, cell_of_row _ _ _ _ _ _ HROW.out⟩
        go_wp2_with fail
        refine (HBG.out _).mono ?_
        rintro e w4 ⟨rfl, hb4⟩
        have HROW4 := Lib.hid ((hb4.block x (by have := HAZ.out; omega)).trans HROW.out)
        have HAZ4 : Hid (x < w4.heap.size) := Lib.hid (Array.getElem?_eq_some_iff.1 HROW4.out).1
        have HBC4 : Hid (Below B w w4) := Lib.hid (HBC.out.trans (hb4.mono (by have := HAZ.out; have := HX.out; have := HSZ.out; omega)))
        obtain ⟨f0, f1, f2, f3, f4⟩ : w4.cell? ⟨x, 0, none⟩ = some (.string k2) ∧ w4.cell? ⟨x, 1, none⟩ = some (.int .i64 q2) ∧ w4.cell? ⟨x, 2, none⟩ = some (.bool g2) ∧ w4.cell? ⟨x, 3, none⟩ = some (.string v2) ∧ w4.cell? ⟨x, 4, none⟩ = some (.int .i64 t2) := ⟨cell_of_row _ _ _ _ _ _ HROW4.out, cell_of_row _ _ _ _ _ _ HROW4.out, cell_of_row _ _ _ _ _ _ HROW4.out, cell_of_row _ _ _ _ _ _ HROW4.out, cell_of_row _ _ _ _ _ _ HROW4.out⟩
        clear hb4 d0 d1 d2 d3 d4 HBC HROW
        by_cases hG : b1 = 0
        · subst hG
          obtain ⟨lk, lv, ht0, ht1⟩ := HBZ.out rfl
          have HU2 := Lib.hid (hUP1.out rfl)
          have HLK := Lib.hid lk
          have HLV := Lib.hid lv
          clear hUP1 hUPB HBZ lk lv
          go_wp2_with fail
          refine (HTK.out _).mono ?_
          rintro e w5 ⟨rfl, hb5⟩
          have HROW5 := Lib.hid ((hb5.block x HAZ4.out).trans HROW4.out)
          have HAZ5 : Hid (x < w5.heap.size) := Lib.hid (Array.getElem?_eq_some_iff.1 HROW5.out).1
          have HBC5 : Hid (Below B w w5) := Lib.hid (HBC4.out.trans (hb5.mono (by have := HAZ4.out; have := HX.out; have := HSZ.out; omega)))
          obtain ⟨d2, d3, d4⟩ : w5.cell? ⟨x, 2, none⟩ = some (.bool g2) ∧ w5.cell? ⟨x, 3, none⟩ = some (.string v2) ∧ w5.cell? ⟨x, 4, none⟩ = some (.int .i64 t2) := ⟨cell_of_row _ _ _ _ _ _ HROW5.out, cell_of_row _ _ _ _ _ _ HROW5.out, cell_of_row _ _ _ _ _ _ HROW5.out⟩
          clear hb5 f0 f1 f2 f3 f4 HROW4 HBC4
          cases g2 with
          | true =>
            have HM := Lib.hid (fun W => refPut_any 0 W (by omega) (by omega))
            have hm := (VM.enc_len (n := 0) (by omega) (by omega)).2
            have HIT2 : Hid (S ++ IB = S ++ TK ++ VM.enc 0) := Lib.hid (by rw [HIT.out]; simp)
            obtain ⟨M, hM⟩ : ∃ M, VM.enc 0 = M := ⟨_, rfl⟩
            rw [hM] at HM hm HIT2
            have n1 : ¬ 9223372036854775807 < S.length + TK.length := by have := hLEN.out; have := HLK.out; omega
            have n2 : ¬ 9223372036854775807 < S.length + TK.length + M.length := by have := hLEN.out; have := HLK.out; omega
            clear hM hm HIT
            go_wp2_with fail
            refine (HM.out _).mono ?_
            rintro e w6 ⟨rfl, hb6⟩
            have HBC6 : Hid (Below B w w6) := Lib.hid (HBC5.out.trans (hb6.mono (by have := HAZ5.out; have := HX.out; have := HSZ.out; omega)))
            have HSZ6 : Hid (B ≤ w6.heap.size) := Lib.hid (by have := hb6.size; have := HAZ5.out; have := HX.out; have := HSZ.out; omega)
            clear hb6
            go_wp2
            go_roundw
            case rel => exact ⟨j + 1, by omega, by go_num, by rw [HS2.out, HIT2.out]; simp [str_append], HU2.out, HBC6.out, HSZ6.out⟩
            case measure => simp [intOf]; omega
          | false =>
            have HM := Lib.hid (fun W => refPut_any (t2 + 1) W (by omega) (by omega))
            have hm := (VM.enc_len (n := t2 + 1) (by omega) (by omega)).2
            have HIT2 : Hid (S ++ IB = S ++ TK ++ VM.enc (t2 + 1) ++ TV) := Lib.hid (by rw [HIT.out]; simp)
            obtain ⟨M, hM⟩ : ∃ M, VM.enc (t2 + 1) = M := ⟨_, rfl⟩
            rw [hM] at HM hm HIT2
            have hwr : IntKind.i64.wrap (t2 + 1) = t2 + 1 := IntWalk.i64_in _ ⟨by omega, by omega⟩
            have n1 : ¬ 9223372036854775807 < S.length + TK.length := by have := hLEN.out; have := HLK.out; omega
            have n2 : ¬ 9223372036854775807 < S.length + TK.length + M.length := by have := hLEN.out; have := HLK.out; omega
            have n3 : ¬ 9223372036854775807 < S.length + TK.length + M.length + TV.length := by have := hLEN.out; have := HLK.out; have := HLV.out; omega
            clear hM hm HIT
            go_wp2_with fail
            refine (HTV.out _).mono ?_
            rintro e w6 ⟨rfl, hb6⟩
            have HBC6 : Hid (Below B w w6) := Lib.hid (HBC5.out.trans (hb6.mono (by have := HAZ5.out; have := HX.out; have := HSZ.out; omega)))
            have HSZ6 : Hid (B ≤ w6.heap.size) := Lib.hid (by have := hb6.size; have := HAZ5.out; have := HX.out; have := HSZ.out; omega)
            clear hb6
            go_wp2_with fail
            refine (HM.out _).mono ?_
            rintro e w7 ⟨rfl, hb7⟩
            have HBC7 : Hid (Below B w w7) := Lib.hid (HBC6.out.trans (hb7.mono HSZ6.out))
            have HSZ7 : Hid (B ≤ w7.heap.size) := Lib.hid (by have := hb7.size; have := HSZ6.out; omega)
            clear hb7
            go_wp2
            go_roundw
            case rel => exact ⟨j + 1, by omega, by go_num, by rw [HS2.out, HIT2.out]; simp [str_append], HU2.out, HBC7.out, HSZ7.out⟩
            case measure => simp [intOf]; omega
        · have HR : Hid (R = ([], b1)) := Lib.hid (by
            have hb := hUPB.out hG
            rw [HPO.out, hb]; simp [hG])
          have hbe : (b1 == 0) = false := by simpa using hG
          have hbn : (b1 != 0) = true := by simpa using hG
          clear hUPB hUP1 HBZ
          go_wp2
          rw [HR.out]
          go_ret2
          exact ⟨rfl, by rw [HB.out]; exact HBC4.out⟩
      · have hjn : j = n := by omega
        have hlj : l.take j = l := List.take_of_length_le (by rw [HLN.out]; omega)
        have hup' : BK.bad l = 0 := BK.upto_end (by rw [HLN.out, ← hjn]; exact hup)
        have HR : Hid (R = (BK.putB l, 0)) := Lib.hid (by rw [HPO.out, hup']; simp)
        rw [hlj, ← HPB.out]
        have HBEL := Lib.hid hbel
        subst hjn
        clear hlj hup hup' hbel hsz
        go_wp2
        rw [HR.out]
        go_ret2
        exact ⟨rfl, by rw [HB.out]; exact HBEL.out⟩
end Go.Proofs.Ytonoapgajgcjlaa
