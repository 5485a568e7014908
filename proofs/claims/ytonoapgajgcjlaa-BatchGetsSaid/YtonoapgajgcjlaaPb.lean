/- The walk of batch.Put. -/
import Derived.Test.YtonoapgajgcjlaaLs
import Derived.Test.YtonoapgajgcjlaaGp
import Derived.Test.YtonoapgajgcjlaaBu
namespace Go.Proofs.Ytonoapgajgcjlaa
open Go.RowKit
open SK

theorem Bld.kept {B b : Nat} {l : List UInt8} {w w' : World} (h : Bld B b l w) (hb : Below w.heap.size w w') : Bld B b l w' := by
  have hat : ∀ p, Lib.BuilderAt 51 5 B b p (Lib.byteCells l) w → Lib.BuilderAt 51 5 B b p (Lib.byteCells l) w' := fun p ⟨h1, v, h2, h3, h4⟩ =>
    ⟨h1, v, (hb.block b (Array.getElem?_eq_some_iff.1 h2).1).trans h2, own_below h3 hb, h4⟩
  rcases h with h | h
  · exact Or.inl (hat _ h)
  · exact Or.inr (hat _ h)

namespace BK
theorem allB_len : ∀ {l : List E}, (∀ e ∈ l, bad1 e = 0 ∧ e.til ≤ 9223372036854775807) → (allB l).length ≤ l.length * 606
  | [], _ => by simp [allB]
  | e :: r, h => by
    have h1 := itemB_len (h e (List.mem_cons_self ..)).1 (h e (List.mem_cons_self ..)).2
    have h2 := allB_len (l := r) fun x hx => h x (List.mem_cons_of_mem _ hx)
    have hA : allB (e :: r) = itemB e ++ allB r := rfl
    rw [hA, List.length_append, List.length_cons]
    omega

/-- the first j items may be put -/
def Upto (l : List E) (j : Nat) : Prop := bad l = bad (l.drop j) ∧ ∀ e ∈ l.take j, bad1 e = 0

theorem upto_zero (l : List E) : Upto l 0 := ⟨by simp, by simp⟩
theorem upto_step {l : List E} {j : Nat} (h : Upto l j) (hj : j < l.length) (hb : bad1 l[j] = 0) : Upto l (j + 1) := by
  refine ⟨?_, fun e he => ?_⟩
  · rw [h.1, List.drop_eq_getElem_cons hj, bad_cons_ok hb]
  · rw [List.take_succ_eq_append_getElem hj] at he
    rcases List.mem_append.1 he with h' | h'
    · exact h.2 e h'
    · simp at h'; rw [h']; exact hb
theorem upto_bad {l : List E} {j : Nat} (h : Upto l j) (hj : j < l.length) (hb : bad1 l[j] ≠ 0) : bad l = bad1 l[j] := by
  rw [h.1, List.drop_eq_getElem_cons hj, bad_cons_no hb]
theorem upto_end {l : List E} (h : Upto l l.length) : bad l = 0 := by rw [h.1, List.drop_length]; rfl
theorem allB_take (l : List E) (j : Nat) (hj : j < l.length) : allB (l.take (j + 1)) = allB (l.take j) ++ itemB l[j] := by
  rw [List.take_succ_eq_append_getElem hj, allB_snoc]
end BK

theorem HUPB' {x y c : Int} (h : Hid (y ≠ 0 → x = y)) (hb : Hid (y = c)) (hc : c ≠ 0 := by first | decide | assumption) : x = c := by
  have h1 : y = c := hb
  have h2 : y ≠ 0 → x = y := h
  rw [← h1]; exact h2 (by rw [h1]; exact hc)

set_option maxRecDepth 100000 in
set_option maxHeartbeats 4000000 in
theorem bput_any (A : Option Addr) (n cap : Nat) (l : List E) (w : World) (hn : l.length = n) (hin : EntsIn w A l) :
    Calls Try.prog 9 #[.slice A n cap] w fun e w' => e = .returned (.tuple #[.string ⟨(BK.putOut l).1.toArray⟩, .int .i64 (BK.putOut l).2]) ∧ Below w.heap.size w w' := by
  by_cases hlong : 64 < n
  · have HP : Hid (BK.putOut l = ([], 5)) := Lib.hid (by unfold BK.putOut; rw [if_pos (by omega)])
    have hi : (64 : Int) < (n : Int) := by omega
    rw [HP.out]
    clear hin hn
    go_enter Try.func9, Try.ntmps9
    go_wp2
    go_ret2
    exact ⟨rfl, Below.refl _ _⟩
  · have HPO : Hid (BK.putOut l = if BK.bad l ≠ 0 then ([], BK.bad l) else (BK.putB l, 0)) := Lib.hid (by unfold BK.putOut; rw [if_neg (by omega)])
    have hi : ¬ (64 : Int) < (n : Int) := by omega
    have hen := (VM.enc_len (n := (n : Int)) (by omega) (by omega)).2
    have HN := Lib.hid (fun W => put_any (n : Int) W (by omega) (by omega))
    have HPB : Hid (BK.putB l = VM.enc (n : Int) ++ BK.allB l) := Lib.hid (by unfold BK.putB; rw [hn])
    obtain ⟨N, hN⟩ : ∃ N, VM.enc (n : Int) = N := ⟨_, rfl⟩
    obtain ⟨R, hR⟩ : ∃ R, BK.putOut l = R := ⟨_, rfl⟩
    rw [hN] at hen HN HPB
    rw [hR] at HPO ⊢
    have HIN := Lib.hid hin
    have HLN := Lib.hid hn
    have HEN := Lib.hid hen
    have HLG : Hid (n ≤ 64) := Lib.hid (by omega)
    clear hN hR hin hn hen hlong
    have hb0 := bld_new w
    have hbel0 := (Below.refl w.heap.size w).alloc (Nat.le_refl _) (.cells #[.pointer none, .slice none 0 0] 51)
    have hsz0 : (w.alloc (.cells #[.pointer none, .slice none 0 0] 51)).heap.size = w.heap.size + 1 := by simp
    go_enter Try.func9, Try.ntmps9
    go_wp2_with fail
    generalize w.alloc (.cells #[.pointer none, .slice none 0 0] 51) = w0 at hb0 hbel0 hsz0 ⊢
    refine (HN.out _).mono ?_
    rintro e w1 ⟨rfl, hb1⟩
    have hB1 := hb0.kept hb1
    have hbel1 := hbel0.trans (hb1.mono (by omega))
    have hs1 := hb1.size
    clear hb0 hbel0 hb1
    go_wp2_with fail
    refine (write_any _ _ [] N _ hB1 (by have := HEN.out; simp; omega) (by omega)).mono ?_
    rintro e w2 ⟨rfl, hB2, hb2⟩
    have hbel2 := hbel1.trans hb2
    have hs2 := hb2.size
    have hs2' : w.heap.size < w2.heap.size := by omega
    rw [List.nil_append] at hB2
    clear hbel1 hb2 hB1 hs1 hs2 hsz0
    obtain ⟨B, hB⟩ : ∃ B, w.heap.size = B := ⟨_, rfl⟩
    have HB := Lib.hid hB
    rw [hB] at hB2 hbel2 hs2' ⊢
    clear hB
    go_wp2_with fail
    go_loopw [17] (fun i wr => ∃ j : Nat, j ≤ n ∧ i = .int .i64 j ∧ BK.Upto l j ∧ Bld B B (N ++ BK.allB (l.take j)) wr ∧ Below B w wr ∧ B < wr.heap.size) (fun i _ => n - (intOf i).toNat)
    case atStart => exact ⟨0, by omega, rfl, BK.upto_zero l, by simpa [BK.allB] using hB2, hbel2, hs2'⟩
    case round =>
      obtain ⟨j, hj, rfl, hup, hbld, hbel, hsz⟩ := hrel
      by_cases hlt : j < n
      · have hjl : j < l.length := by rw [HLN.out]; omega
        have hbelw : Below w.heap.size w wr := by rw [HB.out]; exact hbel
        obtain ⟨b, off, hA, hbl, hc⟩ := (HIN.out.below hbelw).at_ (by omega)
        obtain ⟨z0, z1, z2, z3, z4⟩ := hc j hjl
        have hwf := HIN.out.wf _ (List.getElem_mem hjl)
        have hUP1 := Lib.hid (fun hb => BK.upto_step hup hjl hb)
        have hUPB := Lib.hid (fun hb => BK.upto_bad hup hjl hb)
        have hALL := Lib.hid (BK.allB_take l j hjl)
        have hLEN : Hid ((N ++ BK.allB (l.take j)).length ≤ 40000) := Lib.hid (by
          have h1 := BK.allB_len (l := l.take j) (fun e he => ⟨hup.2 e he, (HIN.out.wf e (List.mem_of_mem_take he)).til.2⟩)
          have h2 : (l.take j).length ≤ 64 := by rw [List.length_take]; have := HLG.out; omega
          have h3 := HEN.out
          rw [List.length_append]; omega)
        obtain ⟨e, he⟩ : ∃ e, l[j] = e := ⟨_, rfl⟩
        rw [he] at z0 z1 z2 z3 z4 hwf hUP1 hUPB hALL
        have HBG := Lib.hid (fun W => bgood_any e W hwf)
        have HBO := Lib.hid (fun W => bytesOf_any e W hwf)
        have hIL := Lib.hid (fun hb => BK.itemB_len (e := e) hb hwf.til.2)
        have HB1 : Hid (BK.bad1 e = if good (BK.one e) ≠ 0 then good (BK.one e) else if e.til = 9223372036854775807 then 2 else 0) := Lib.hid rfl
        obtain ⟨G, hG⟩ : ∃ G, good (BK.one e) = G := ⟨_, rfl⟩
        obtain ⟨b1, hb1⟩ : ∃ b1, BK.bad1 e = b1 := ⟨_, rfl⟩
        obtain ⟨IB, hIB⟩ : ∃ IB, BK.itemB e = IB := ⟨_, rfl⟩
        rw [hG] at HBG HB1
        rw [hb1] at HB1 hUP1 hUPB hIL HBO
        rw [hIB] at HBO hALL hIL
        have HBLD := Lib.hid hbld
        have HBEL := Lib.hid hbel
        have HSZ := Lib.hid hsz
        subst hA
        obtain ⟨k2, q2, g2, v2, t2⟩ := e
        simp only [E.val] at z0 z1 z2 z3 z4 HBG HBO HB1
        have g0 : (0 : Int) ≤ (j : Int) := by omega
        have g1 : (j : Int) < (n : Int) := by omega
        have hrow : (wr.alloc (.cells #[.string k2, .int .i64 q2, .bool g2, .string v2, .int .i64 t2] 40)).heap[wr.heap.size]? = some (.cells #[.string k2, .int .i64 q2, .bool g2, .string v2, .int .i64 t2] 40 (0, 0)) := heap_alloc_new wr _
        have hal : Below wr.heap.size wr (wr.alloc (.cells #[.string k2, .int .i64 q2, .bool g2, .string v2, .int .i64 t2] 40)) := (Below.refl _ _).alloc (Nat.le_refl _) _
        have hasz : (wr.alloc (.cells #[.string k2, .int .i64 q2, .bool g2, .string v2, .int .i64 t2] 40)).heap.size = wr.heap.size + 1 := by simp
        clear hup hbld hbel hsz hbelw hbl hc hwf he hG hb1 hIB
        go_wp2_with fail
        generalize wr.alloc (.cells #[.string k2, .int .i64 q2, .bool g2, .string v2, .int .i64 t2] 40) = w3 at hrow hal hasz ⊢
        obtain ⟨x, hx⟩ : ∃ x, wr.heap.size = x := ⟨_, rfl⟩
        rw [hx] at hrow hal hasz ⊢
        have HX := Lib.hid hx
        have HROW := Lib.hid hrow
        have HAL := Lib.hid hal
        have HAZ := Lib.hid hasz
        clear hx hrow hal hasz z0 z1 z2 z3 z4
        have HBC : Hid (Below w.heap.size w w3) := Lib.hid (by rw [HB.out]; exact HBEL.out.trans (HAL.out.mono (by have := HX.out; have := HSZ.out; omega)))
        obtain ⟨d0, d1, d2, d3, d4⟩ : w3.cell? ⟨x, 0, none⟩ = some (.string k2) ∧ w3.cell? ⟨x, 1, none⟩ = some (.int .i64 q2) ∧ w3.cell? ⟨x, 2, none⟩ = some (.bool g2) ∧ w3.cell? ⟨x, 3, none⟩ = some (.string v2) ∧ w3.cell? ⟨x, 4, none⟩ = some (.int .i64 t2) := ⟨cell_of_row _ _ _ _ _ _ HROW.out, cell_of_row _ _ _ _ _ _ HROW.out, cell_of_row _ _ _ _ _ _ HROW.out, cell_of_row _ _ _ _ _ _ HROW.out, cell_of_row _ _ _ _ _ _ HROW.out⟩
        go_wp2_with fail
        refine (HBG.out _).mono ?_
        rintro e w4 ⟨rfl, hb4⟩
        have HROW4 := Lib.hid ((hb4.block x (by have := HAZ.out; omega)).trans HROW.out)
        have HAL4 : Hid (Below x wr w4) := Lib.hid (HAL.out.trans (hb4.mono (by have := HAZ.out; omega)))
        have HAZ4 : Hid (x < w4.heap.size) := Lib.hid (Array.getElem?_eq_some_iff.1 HROW4.out).1
        have HBC4 : Hid (Below w.heap.size w w4) := Lib.hid (HBC.out.trans (hb4.mono (by have := HAZ.out; have := HX.out; have := HSZ.out; have := HB.out; omega)))
        obtain ⟨f0, f1, f2, f3, f4⟩ : w4.cell? ⟨x, 0, none⟩ = some (.string k2) ∧ w4.cell? ⟨x, 1, none⟩ = some (.int .i64 q2) ∧ w4.cell? ⟨x, 2, none⟩ = some (.bool g2) ∧ w4.cell? ⟨x, 3, none⟩ = some (.string v2) ∧ w4.cell? ⟨x, 4, none⟩ = some (.int .i64 t2) := ⟨cell_of_row _ _ _ _ _ _ HROW4.out, cell_of_row _ _ _ _ _ _ HROW4.out, cell_of_row _ _ _ _ _ _ HROW4.out, cell_of_row _ _ _ _ _ _ HROW4.out, cell_of_row _ _ _ _ _ _ HROW4.out⟩
        clear hb4 d0 d1 d2 d3 d4 HBC HROW
        by_cases hG : G = 0
        · subst hG
          by_cases ht : t2 = 9223372036854775807
          · have HB2 : Hid (b1 = 2) := Lib.hid (by rw [HB1.out]; simp [ht])
            have HR : Hid (R = ([], 2)) := Lib.hid (by
              have hb := HUPB' hUPB HB2
              rw [HPO.out, hb]; simp)
            subst ht
            go_wp2
            rw [HR.out]
            go_ret2
            exact ⟨rfl, HBC4.out⟩
          · have HB2 : Hid (b1 = 0) := Lib.hid (by rw [HB1.out]; simp [ht])
            have hbe : (t2 == 9223372036854775807) = false := by simpa using ht
            have HU2 := Lib.hid (hUP1.out HB2.out)
            have HIL2 := Lib.hid (hIL.out HB2.out)
            have HBO2 := Lib.hid (fun W => HBO.out W HB2.out)
            clear hUP1 hUPB hIL HBO HB1
            go_wp2_with fail
            refine (HBO2.out _).mono ?_
            rintro e w5 ⟨rfl, hb5⟩
            have HBLD5 : Hid (Bld B B (N ++ BK.allB (l.take j)) w5) := Lib.hid (HBLD.out.kept ((HX.out ▸ HAL4.out).trans (hb5.mono (by have := HAZ4.out; have := HX.out; omega))))
            have HBC5 : Hid (Below w.heap.size w w5) := Lib.hid (HBC4.out.trans (hb5.mono (by have := HAZ4.out; have := HX.out; have := HSZ.out; have := HB.out; omega)))
            have HSZ5 : Hid (B < w5.heap.size) := Lib.hid (by have := hb5.size; have := HAZ4.out; have := HX.out; have := HSZ.out; omega)
            clear hb5
            go_wp2_with fail
            refine (write_any _ _ _ IB _ HBLD5.out (by have := hLEN.out; have := HIL2.out; omega) (by have := HSZ5.out; omega)).mono ?_
            rintro e w6 ⟨rfl, hB6, hb6⟩
            have HB6 : Hid (Bld B B (N ++ BK.allB (l.take (j + 1))) w6) := Lib.hid (by rw [hALL.out, ← List.append_assoc]; exact hB6)
            have HBC6 : Hid (Below B w w6) := Lib.hid ((HB.out ▸ HBC5.out).trans hb6)
            have HSZ6 : Hid (B < w6.heap.size) := Lib.hid (by have := hb6.size; have := HSZ5.out; omega)
            clear hB6 hb6
            go_wp2
            go_roundw
            case rel => exact ⟨j + 1, by omega, by go_num, HU2.out, HB6.out, HBC6.out, HSZ6.out⟩
            case measure => simp [intOf]; omega
        · have HB2 : Hid (b1 = G) := Lib.hid (by rw [HB1.out]; simp [hG])
          have HR : Hid (R = ([], G)) := Lib.hid (by
            have hb := HUPB' hUPB HB2
            rw [HPO.out, hb]; simp [hG])
          have hbe : (G == 0) = false := by simpa using hG
          have hbn : (G != 0) = true := by simpa using hG
          clear hUPB hUP1 hIL HBO HB1
          go_wp2
          rw [HR.out]
          go_ret2
          exact ⟨rfl, HBC4.out⟩
      · have hjn : j = n := by omega
        have hlj : l.take j = l := List.take_of_length_le (by rw [HLN.out]; omega)
        rw [hlj, ← HPB.out] at hbld
        have hup' : BK.bad l = 0 := BK.upto_end (by rw [HLN.out, ← hjn]; exact hup)
        have HR : Hid (R = (BK.putB l, 0)) := Lib.hid (by rw [HPO.out, hup']; simp)
        have HS := Lib.hid (bstring_any B B (BK.putB l) wr hbld (by have := BK.putB_pos l; intro h; rw [h] at this; simp at this))
        obtain ⟨PB, hPB⟩ : ∃ PB, BK.putB l = PB := ⟨_, rfl⟩
        rw [hPB] at HR HS
        have HBEL : Hid (Below w.heap.size w wr) := Lib.hid (by rw [HB.out]; exact hbel)
        have HLE : Hid (w.heap.size = B) := HB
        subst hjn
        clear hlj hbld hup hup' hbel hsz hPB
        go_wp2_with fail
        refine HS.out.mono ?_
        rintro e w7 ⟨rfl, hb7⟩
        have HBC7 : Hid (Below w.heap.size w w7) := Lib.hid (HBEL.out.trans (by rw [HLE.out]; exact hb7))
        clear hb7
        go_wp2
        rw [HR.out]
        go_ret2
        exact ⟨rfl, HBC7.out⟩
end Go.Proofs.Ytonoapgajgcjlaa
