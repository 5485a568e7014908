/- Texts joined by bundle.py: YBPb, YBRd, YBRi, YBRt, YBGe, YBGg. -/
import Derived.Test.YtjkofciohehgfaaGreatDoorZac
import Derived.Test.YtjkofciohehgfaaGreatDoorZaa
import Derived.Test.YtjkofciohehgfaaGreatDoorZab
import Derived.Defers
import Derived.Recover

/- The walk of batch.Put. -/
namespace Go.Proofs.YtjkofciohehgfaaGreatDoor.L7
open Go.RowKit
open SK

theorem Bld.kept {B b : Nat} {l : List UInt8} {w w' : World} (h : Bld B b l w) (hb : Below w.heap.size w w') : Bld B b l w' := by
  have hat : ∀ p, Lib.BuilderAt 70 5 B b p (Lib.byteCells l) w → Lib.BuilderAt 70 5 B b p (Lib.byteCells l) w' := fun p ⟨h1, v, h2, h3, h4⟩ =>
    ⟨h1, v, (hb.block b (Array.getElem?_eq_some_iff.1 h2).1).trans h2, own_below h3 hb, h4⟩
  rcases h with h | h
  · exact Or.inl (hat _ h)
  · exact Or.inr (hat _ h)

namespace BK
theorem allB_len : ∀ {l : List E}, (∀ e ∈ l, bad1 e = 0 ∧ e.til ≤ 9223372036854775807) → (allB l).length ≤ l.length * 606
  | [], _ => by simp [allB]
  | e :: r, h => by
    have h1 := itemB_len (h e (List.mem_cons_self ..)).1 (h e (List.mem_cons_self ..)).2
    have h2 := allB_len (l := r) fun x hx => h x (List.mem_cons_of_mem _ hx)
    have hA : allB (e :: r) = itemB e ++ allB r := rfl
    rw [hA, List.length_append, List.length_cons]
    omega

/-- the first j items may be put -/
def Upto (l : List E) (j : Nat) : Prop := bad l = bad (l.drop j) ∧ ∀ e ∈ l.take j, bad1 e = 0

theorem upto_zero (l : List E) : Upto l 0 := ⟨by simp, by simp⟩
theorem upto_step {l : List E} {j : Nat} (h : Upto l j) (hj : j < l.length) (hb : bad1 l[j] = 0) : Upto l (j + 1) := by
  refine ⟨?_, fun e he => ?_⟩
  · rw [h.1, List.drop_eq_getElem_cons hj, bad_cons_ok hb]
  · rw [List.take_succ_eq_append_getElem hj] at he
    rcases List.mem_append.1 he with h' | h'
    · exact h.2 e h'
    · simp at h'; rw [h']; exact hb
theorem upto_bad {l : List E} {j : Nat} (h : Upto l j) (hj : j < l.length) (hb : bad1 l[j] ≠ 0) : bad l = bad1 l[j] := by
  rw [h.1, List.drop_eq_getElem_cons hj, bad_cons_no hb]
theorem upto_end {l : List E} (h : Upto l l.length) : bad l = 0 := by rw [h.1, List.drop_length]; rfl
theorem allB_take (l : List E) (j : Nat) (hj : j < l.length) : allB (l.take (j + 1)) = allB (l.take j) ++ itemB l[j] := by
  rw [List.take_succ_eq_append_getElem hj, allB_snoc]
end BK

theorem HUPB' {x y c : Int} (h : Hid (y ≠ 0 → x = y)) (hb : Hid (y = c)) (hc : c ≠ 0 := by first | decide | assumption) : x = c := by
  have h1 : y = c := hb
  have h2 : y ≠ 0 → x = y := h
  rw [← h1]; exact h2 (by rw [h1]; exact hc)

set_option maxRecDepth 100000 in
set_option maxHeartbeats 4000000 in
theorem bput_any (A : Option Addr) (n cap : Nat) (l : List E) (w : World) (hn : l.length = n) (hin : EntsIn w A l) :
    Calls Tryz.prog 9 #[.slice A n cap] w fun e w' => e = .returned (.tuple #[.string ⟨(BK.putOut l).1.toArray⟩, .int .i64 (BK.putOut l).2]) ∧ Below w.heap.size w w' := by
  by_cases hlong : 64 < n
  · have HP : Hid (BK.putOut l = ([], 5)) := Lib.hid (by unfold BK.putOut; rw [if_pos (by omega)])
    have hi : (64 : Int) < (n : Int) := by omega
    rw [HP.out]
    clear hin hn
    go_enter Tryz.func9, Tryz.ntmps9
    go_wp2
    go_ret2
    exact ⟨rfl, Below.refl _ _⟩
  · have HPO : Hid (BK.putOut l = if BK.bad l ≠ 0 then ([], BK.bad l) else (BK.putB l, 0)) := Lib.hid (by unfold BK.putOut; rw [if_neg (by omega)])
    have hi : ¬ (64 : Int) < (n : Int) := by omega
    have hen := (VM.enc_len (n := (n : Int)) (by omega) (by omega)).2
    have HN := Lib.hid (fun W => put_any (n : Int) W (by omega) (by omega))
    have HPB : Hid (BK.putB l = VM.enc (n : Int) ++ BK.allB l) := Lib.hid (by unfold BK.putB; rw [hn])
    obtain ⟨N, hN⟩ : ∃ N, VM.enc (n : Int) = N := ⟨_, rfl⟩
    obtain ⟨R, hR⟩ : ∃ R, BK.putOut l = R := ⟨_, rfl⟩
    rw [hN] at hen HN HPB
    rw [hR] at HPO ⊢
    have HIN := Lib.hid hin
    have HLN := Lib.hid hn
    have HEN := Lib.hid hen
    have HLG : Hid (n ≤ 64) := Lib.hid (by omega)
    clear hN hR hin hn hen hlong
    have hb0 := bld_new w
    have hbel0 := (Below.refl w.heap.size w).alloc (Nat.le_refl _) (.cells #[.pointer none, .slice none 0 0] 70)
    have hsz0 : (w.alloc (.cells #[.pointer none, .slice none 0 0] 70)).heap.size = w.heap.size + 1 := by simp
    go_enter Tryz.func9, Tryz.ntmps9
    go_wp2_with fail
    generalize w.alloc (.cells #[.pointer none, .slice none 0 0] 70) = w0 at hb0 hbel0 hsz0 ⊢
    refine (HN.out _).mono ?_
    rintro e w1 ⟨rfl, hb1⟩
    have hB1 := hb0.kept hb1
    have hbel1 := hbel0.trans (hb1.mono (by omega))
    have hs1 := hb1.size
    clear hb0 hbel0 hb1
    go_wp2_with fail
    refine (write_any _ _ [] N _ hB1 (by have := HEN.out; simp; omega) (by omega)).mono ?_
    rintro e w2 ⟨rfl, hB2, hb2⟩
    have hbel2 := hbel1.trans hb2
    have hs2 := hb2.size
    have hs2' : w.heap.size < w2.heap.size := by omega
    rw [List.nil_append] at hB2
    clear hbel1 hb2 hB1 hs1 hs2 hsz0
    obtain ⟨B, hB⟩ : ∃ B, w.heap.size = B := ⟨_, rfl⟩
    have HB := Lib.hid hB
    rw [hB] at hB2 hbel2 hs2' ⊢
    clear hB
    go_wp2_with fail
    go_loopw [17] (fun i wr => ∃ j : Nat, j ≤ n ∧ i = .int .i64 j ∧ BK.Upto l j ∧ Bld B B (N ++ BK.allB (l.take j)) wr ∧ Below B w wr ∧ B < wr.heap.size) (fun i _ => n - (intOf i).toNat)
    case atStart => exact ⟨0, by omega, rfl, BK.upto_zero l, by simpa [BK.allB] using hB2, hbel2, hs2'⟩
    case round =>
      obtain ⟨j, hj, rfl, hup, hbld, hbel, hsz⟩ := hrel
      by_cases hlt : j < n
      · have hjl : j < l.length := by rw [HLN.out]; omega
        have hbelw : Below w.heap.size w wr := by rw [HB.out]; exact hbel
        obtain ⟨b, off, hA, hbl, hc⟩ := (HIN.out.below hbelw).at_ (by omega)
        obtain ⟨z0, z1, z2, z3, z4⟩ := hc j hjl
        have hwf := HIN.out.wf _ (List.getElem_mem hjl)
        have hUP1 := Lib.hid (fun hb => BK.upto_step hup hjl hb)
        have hUPB := Lib.hid (fun hb => BK.upto_bad hup hjl hb)
        have hALL := Lib.hid (BK.allB_take l j hjl)
        have hLEN : Hid ((N ++ BK.allB (l.take j)).length ≤ 40000) := Lib.hid (by
          have h1 := BK.allB_len (l := l.take j) (fun e he => ⟨hup.2 e he, (HIN.out.wf e (List.mem_of_mem_take he)).til.2⟩)
          have h2 : (l.take j).length ≤ 64 := by rw [List.length_take]; have := HLG.out; omega
          have h3 := HEN.out
          rw [List.length_append]; omega)
        obtain ⟨e, he⟩ : ∃ e, l[j] = e := ⟨_, rfl⟩
        rw [he] at z0 z1 z2 z3 z4 hwf hUP1 hUPB hALL
        have HBG := Lib.hid (fun W => bgood_any e W hwf)
        have HBO := Lib.hid (fun W => bytesOf_any e W hwf)
        have hIL := Lib.hid (fun hb => BK.itemB_len (e := e) hb hwf.til.2)
        have HB1 : Hid (BK.bad1 e = if good (BK.one e) ≠ 0 then good (BK.one e) else if e.til = 9223372036854775807 then 2 else 0) := Lib.hid rfl
        obtain ⟨G, hG⟩ : ∃ G, good (BK.one e) = G := ⟨_, rfl⟩
        obtain ⟨b1, hb1⟩ : ∃ b1, BK.bad1 e = b1 := ⟨_, rfl⟩
        obtain ⟨IB, hIB⟩ : ∃ IB, BK.itemB e = IB := ⟨_, rfl⟩
        rw [hG] at HBG HB1
        rw [hb1] at HB1 hUP1 hUPB hIL HBO
        rw [hIB] at HBO hALL hIL
        have HBLD := Lib.hid hbld
        have HBEL := Lib.hid hbel
        have HSZ := Lib.hid hsz
        subst hA
        obtain ⟨k2, q2, g2, v2, t2⟩ := e
        simp only [E.val] at z0 z1 z2 z3 z4 HBG HBO HB1
        have g0 : (0 : Int) ≤ (j : Int) := by omega
        have g1 : (j : Int) < (n : Int) := by omega
        have hrow : (wr.alloc (.cells #[.string k2, .int .i64 q2, .bool g2, .string v2, .int .i64 t2] 45)).heap[wr.heap.size]? = some (.cells #[.string k2, .int .i64 q2, .bool g2, .string v2, .int .i64 t2] 45 (0, 0)) := heap_alloc_new wr _
        have hal : Below wr.heap.size wr (wr.alloc (.cells #[.string k2, .int .i64 q2, .bool g2, .string v2, .int .i64 t2] 45)) := (Below.refl _ _).alloc (Nat.le_refl _) _
        have hasz : (wr.alloc (.cells #[.string k2, .int .i64 q2, .bool g2, .string v2, .int .i64 t2] 45)).heap.size = wr.heap.size + 1 := by simp
        clear hup hbld hbel hsz hbelw hbl hc hwf he hG hb1 hIB
        go_wp2_with fail
        generalize wr.alloc (.cells #[.string k2, .int .i64 q2, .bool g2, .string v2, .int .i64 t2] 45) = w3 at hrow hal hasz ⊢
        obtain ⟨x, hx⟩ : ∃ x, wr.heap.size = x := ⟨_, rfl⟩
        rw [hx] at hrow hal hasz ⊢
        have HX := Lib.hid hx
        have HROW := Lib.hid hrow
        have HAL := Lib.hid hal
        have HAZ := Lib.hid hasz
        clear hx hrow hal hasz z0 z1 z2 z3 z4
        have HBC : Hid (Below w.heap.size w w3) := Lib.hid (by rw [HB.out]; exact HBEL.out.trans (HAL.out.mono (by have := HX.out; have := HSZ.out; omega)))
        obtain ⟨d0, d1, d2, d3, d4⟩ : w3.cell? ⟨x, 0, none⟩ = some (.string k2) ∧ w3.cell? ⟨x, 1, none⟩ = some (.int .i64 q2) ∧ w3.cell? ⟨x, 2, none⟩ = some (.bool g2) ∧ w3.cell? ⟨x, 3, none⟩ = some (.string v2) ∧ w3.cell? ⟨x, 4, none⟩ = some (.int .i64 t2) := ⟨cell_of_row _ _ _ _ _ _ HROW.out, cell_of_row _ _ _ _ _ _ HROW.out, cell_of_row _ _ _ _ _ _ HROW.out, cell_of_row _ _ _ _ _ _ HROW.out, cell_of_row _ _ _ _ _ _ HROW.out⟩
        go_wp2_with fail
        refine (HBG.out _).mono ?_
        rintro e w4 ⟨rfl, hb4⟩
        have HROW4 := Lib.hid ((hb4.block x (by have := HAZ.out; omega)).trans HROW.out)
        have HAL4 : Hid (Below x wr w4) := Lib.hid (HAL.out.trans (hb4.mono (by have := HAZ.out; omega)))
        have HAZ4 : Hid (x < w4.heap.size) := Lib.hid (Array.getElem?_eq_some_iff.1 HROW4.out).1
        have HBC4 : Hid (Below w.heap.size w w4) := Lib.hid (HBC.out.trans (hb4.mono (by have := HAZ.out; have := HX.out; have := HSZ.out; have := HB.out; omega)))
        obtain ⟨f0, f1, f2, f3, f4⟩ : w4.cell? ⟨x, 0, none⟩ = some (.string k2) ∧ w4.cell? ⟨x, 1, none⟩ = some (.int .i64 q2) ∧ w4.cell? ⟨x, 2, none⟩ = some (.bool g2) ∧ w4.cell? ⟨x, 3, none⟩ = some (.string v2) ∧ w4.cell? ⟨x, 4, none⟩ = some (.int .i64 t2) := ⟨cell_of_row _ _ _ _ _ _ HROW4.out, cell_of_row _ _ _ _ _ _ HROW4.out, cell_of_row _ _ _ _ _ _ HROW4.out, cell_of_row _ _ _ _ _ _ HROW4.out, cell_of_row _ _ _ _ _ _ HROW4.out⟩
        clear hb4 d0 d1 d2 d3 d4 HBC HROW
        by_cases hG : G = 0
        · subst hG
          by_cases ht : t2 = 9223372036854775807
          · have HB2 : Hid (b1 = 2) := Lib.hid (by rw [HB1.out]; simp [ht])
            have HR : Hid (R = ([], 2)) := Lib.hid (by
              have hb := HUPB' hUPB HB2
              rw [HPO.out, hb]; simp)
            subst ht
            go_wp2
            rw [HR.out]
            go_ret2
            exact ⟨rfl, HBC4.out⟩
          · have HB2 : Hid (b1 = 0) := Lib.hid (by rw [HB1.out]; simp [ht])
            have hbe : (t2 == 9223372036854775807) = false := by simpa using ht
            have HU2 := Lib.hid (hUP1.out HB2.out)
            have HIL2 := Lib.hid (hIL.out HB2.out)
            have HBO2 := Lib.hid (fun W => HBO.out W HB2.out)
            clear hUP1 hUPB hIL HBO HB1
            go_wp2_with fail
            refine (HBO2.out _).mono ?_
            rintro e w5 ⟨rfl, hb5⟩
            have HBLD5 : Hid (Bld B B (N ++ BK.allB (l.take j)) w5) := Lib.hid (HBLD.out.kept ((HX.out ▸ HAL4.out).trans (hb5.mono (by have := HAZ4.out; have := HX.out; omega))))
            have HBC5 : Hid (Below w.heap.size w w5) := Lib.hid (HBC4.out.trans (hb5.mono (by have := HAZ4.out; have := HX.out; have := HSZ.out; have := HB.out; omega)))
            have HSZ5 : Hid (B < w5.heap.size) := Lib.hid (by have := hb5.size; have := HAZ4.out; have := HX.out; have := HSZ.out; omega)
            clear hb5
            go_wp2_with fail
            refine (write_any _ _ _ IB _ HBLD5.out (by have := hLEN.out; have := HIL2.out; omega) (by have := HSZ5.out; omega)).mono ?_
            rintro e w6 ⟨rfl, hB6, hb6⟩
            have HB6 : Hid (Bld B B (N ++ BK.allB (l.take (j + 1))) w6) := Lib.hid (by rw [hALL.out, ← List.append_assoc]; exact hB6)
            have HBC6 : Hid (Below B w w6) := Lib.hid ((HB.out ▸ HBC5.out).trans hb6)
            have HSZ6 : Hid (B < w6.heap.size) := Lib.hid (by have := hb6.size; have := HSZ5.out; omega)
            clear hB6 hb6
            go_wp2
            go_roundw
            case rel => exact ⟨j + 1, by omega, by go_num, HU2.out, HB6.out, HBC6.out, HSZ6.out⟩
            case measure => simp [intOf]; omega
        · have HB2 : Hid (b1 = G) := Lib.hid (by rw [HB1.out]; simp [hG])
          have HR : Hid (R = ([], G)) := Lib.hid (by
            have hb := HUPB' hUPB HB2
            rw [HPO.out, hb]; simp [hG])
          have hbe : (G == 0) = false := by simpa using hG
          have hbn : (G != 0) = true := by simpa using hG
          clear hUPB hUP1 hIL HBO HB1
          go_wp2
          rw [HR.out]
          go_ret2
          exact ⟨rfl, HBC4.out⟩
      · have hjn : j = n := by omega
        have hlj : l.take j = l := List.take_of_length_le (by rw [HLN.out]; omega)
        rw [hlj, ← HPB.out] at hbld
        have hup' : BK.bad l = 0 := BK.upto_end (by rw [HLN.out, ← hjn]; exact hup)
        have HR : Hid (R = (BK.putB l, 0)) := Lib.hid (by rw [HPO.out, hup']; simp)
        have HS := Lib.hid (bstring_any B B (BK.putB l) wr hbld (by have := BK.putB_pos l; intro h; rw [h] at this; simp at this))
        obtain ⟨PB, hPB⟩ : ∃ PB, BK.putB l = PB := ⟨_, rfl⟩
        rw [hPB] at HR HS
        have HBEL : Hid (Below w.heap.size w wr) := Lib.hid (by rw [HB.out]; exact hbel)
        have HLE : Hid (w.heap.size = B) := HB
        subst hjn
        clear hlj hbld hup hup' hbel hsz hPB
        go_wp2_with fail
        refine HS.out.mono ?_
        rintro e w7 ⟨rfl, hb7⟩
        have HBC7 : Hid (Below w.heap.size w w7) := Lib.hid (HBEL.out.trans (by rw [HLE.out]; exact hb7))
        clear hb7
        go_wp2
        rw [HR.out]
        go_ret2
        exact ⟨rfl, HBC7.out⟩
end Go.Proofs.YtjkofciohehgfaaGreatDoor.L7


/- Reading: leave, number, text, count, item: what is read, or the fault by which reading is left. -/
namespace Go.Proofs.YtjkofciohehgfaaGreatDoor.L7
open Go.RowKit
open SK

/-- the panic by which reading is left -/
def fault (c : Int) : List PanicEntry := [{ v := .iface 134 (.int .i64 c), recovered := false }]

theorem leave_ok (w : World) : Calls Tryz.prog 86 #[.int .i64 0] w fun e w' => e = .returned (.tuple #[]) ∧ w = w' := by
  go_enter Tryz.func86, Tryz.ntmps86
  go_wp2
  go_end0
  exact ⟨rfl, rfl⟩

theorem leave_bad (c : Int) (w : World) (hc : c ≠ 0) : Calls Tryz.prog 86 #[.int .i64 c] w fun e w' => e = .panicked (fault c) ∧ w = w' := by
  have h1 : (c == 0) = false := by simpa using hc
  have h2 : (c != 0) = true := by simpa using hc
  go_enter Tryz.func86, Tryz.ntmps86
  go_wp2
  exact ⟨rfl, rfl, rfl⟩

/-- the reader in block r: its bytes, and its place -/
def RdAt (w : World) (r : Nat) (s : ByteArray) (p : Nat) : Prop := w.heap[r]? = some (.cells #[.string s, .int .i64 p] 84 (0, 0))

theorem RdAt.below {w w' : World} {r p : Nat} {s : ByteArray} (h : RdAt w r s p) (hb : Below w.heap.size w w') : RdAt w' r s p := (hb.block r (Array.getElem?_eq_some_iff.1 h).1).trans h
theorem RdAt.lt {w : World} {r p : Nat} {s : ByteArray} (h : RdAt w r s p) : r < w.heap.size := (Array.getElem?_eq_some_iff.1 h).1
theorem RdAt.c0 {w : World} {r p : Nat} {s : ByteArray} (h : RdAt w r s p) : w.cell? ⟨r, 0, none⟩ = some (.string s) := cell_of_row _ _ _ _ _ _ h
theorem RdAt.c1 {w : World} {r p : Nat} {s : ByteArray} (h : RdAt w r s p) : w.cell? ⟨r, 1, none⟩ = some (.int .i64 p) := cell_of_row _ _ _ _ _ _ h
theorem RdAt.f1 {w : World} {r p : Nat} {s : ByteArray} (h : RdAt w r s p) : w.frozen? ⟨r, 1, none⟩ = false := frozen_of_row _ _ _ _ _ h
theorem RdAt.set {w : World} {r p : Nat} {s : ByteArray} (h : RdAt w r s p) (q : Nat) : RdAt (w.setCell ⟨r, 1, none⟩ (.int .i64 q)) r s q := heap_set_fr h 1 (.int .i64 q)

/-- what a reader's call comes to: a value and the place behind it, or a fault -/
def Out {α : Type} (enc : α → Value) (r : Nat) (s : ByteArray) (w : World) (x : Except Int (α × Nat)) (e : Ending) (w' : World) : Prop :=
  w.grownBy w' (some r) ∧ match x with
    | .ok (a, q) => e = .returned (enc a) ∧ RdAt w' r s q
    | .error c => e = .panicked (fault c)

def numV (n : Int) : Value := .int .i64 n
def textV (t : ByteArray) : Value := .string t

theorem num_bad {l : List UInt8} {p : Nat} {c : Int} (h : BK.rNum l p = .error c) : (VM.vget l p).2.2 = c ∧ c ≠ 0 := by
  unfold BK.rNum at h
  split at h
  · cases h
  · rename_i h0
    simp only [Except.error.injEq] at h
    exact ⟨h, by rw [← h]; exact h0⟩
theorem num_good {l : List UInt8} {p q : Nat} {n : Int} (h : BK.rNum l p = .ok (n, q)) : VM.vget l p = (n, (q : Int), 0) := by
  have hle := BK.num_ok h
  unfold BK.rNum at h
  split at h
  · rename_i h0
    obtain ⟨-, hp, k, -, -, -, hb, -⟩ := VM.vget_ok h0
    simp only [Except.ok.injEq, Prod.mk.injEq] at h
    obtain ⟨h1, h2⟩ := h
    refine Prod.ext h1 (Prod.ext ?_ h0)
    show (VM.vget l p).2.1 = (q : Int)
    omega
  · cases h
theorem text_bad {l : List UInt8} {p : Nat} {c : Int} (h : BK.rText l p = .error c) : (vtext l p).2.2 = c ∧ c ≠ 0 := by
  unfold BK.rText at h
  split at h
  · cases h
  · rename_i h0
    simp only [Except.error.injEq] at h
    exact ⟨h, by rw [← h]; exact h0⟩
theorem text_good {l : List UInt8} {p q : Nat} {t : ByteArray} (h : BK.rText l p = .ok (t, q)) : vtext l p = (t.data.toList, (q : Int), 0) := by
  have hle := BK.text_ok h
  have hnn : 0 ≤ (vtext l p).2.1 ∨ (vtext l p).2.2 ≠ 0 := by
    unfold vtext
    by_cases h0 : (VM.vget l p).2.2 = 0
    · obtain ⟨-, hp, k, -, -, -, hb, -⟩ := VM.vget_ok h0
      simp only [h0, ne_eq, not_true_eq_false, if_false]
      split
      · right; decide
      · split
        · right; decide
        · split
          · right; decide
          · left; show 0 ≤ (VM.vget l p).2.1 + (VM.vget l p).1; omega
    · right; simp [h0]
  unfold BK.rText at h
  split at h
  · rename_i h0
    simp only [Except.ok.injEq, Prod.mk.injEq] at h
    obtain ⟨h1, h2⟩ := h
    refine Prod.ext ?_ (Prod.ext ?_ h0)
    · rw [← h1]
    · show (vtext l p).2.1 = (q : Int)
      rcases hnn with hnn | hnn
      · omega
      · exact absurd h0 hnn
  · cases h

theorem grown_r {w w' : World} {r : Nat} (h : w.grownBy w' none) : w.grownBy w' (some r) := ⟨h.os, h.tape, h.output, h.size, fun k hk _ => h.block k hk (by simp)⟩
set_option maxRecDepth 100000 in
theorem number_any (w : World) (r p : Nat) (s : ByteArray) (h : RdAt w r s p) (hs : s.size ≤ 281474976710656) (hp : p ≤ s.size) :
    Calls Tryz.prog 113 #[.pointer (some ⟨r, 0, none⟩)] w fun e w' => Out numV r s w (BK.rNum s.data.toList p) e w' := by
  have HG0 := Lib.hid (fun W => get_any s (p : Int) W (by omega) (by omega) (by omega))
  cases hx : BK.rNum s.data.toList p with
  | ok x =>
    obtain ⟨n, q⟩ := x
    have hv := num_good hx
    have HG : Hid (∀ W, Calls Tryz.prog 129 #[.string s, .int .i64 p] W fun e w' => e = .returned (.tuple #[.int .i64 n, .int .i64 q, .int .i64 0]) ∧ w' = W) := Lib.hid (fun W => (HG0.out W).mono fun e w' h => ⟨by have := h.1; unfold GetOut at this; rw [hv] at this; exact this, h.2.symm⟩)
    have c0 := h.c0
    have c1 := h.c1
    have f1 := h.f1
    have HR : Hid (∀ m, RdAt ((w.drewN m).setCell ⟨r, 1, none⟩ (.int .i64 q)) r s q) := Lib.hid (fun m => RdAt.set (w := w.drewN m) (p := p) h q)
    clear hx h hv HG0
    go_enter Tryz.func113, Tryz.ntmps113
    go_wp2_with fail
    go_quiet ((go_at_call 129; exact Calls.quiet_of_same (HG.out _)))
    go_wp2_with fail
    refine (leave_ok _).mono ?_
    rintro e w1 ⟨rfl, rfl⟩
    go_wp2
    go_ret
    exact ⟨grown_set (grown_drewN (grown_refl w _) _) _ _, rfl, HR.out _⟩
  | error c =>
    obtain ⟨hv, hc⟩ := num_bad hx
    obtain ⟨n, q, hv'⟩ : ∃ n q, VM.vget s.data.toList p = (n, q, c) := ⟨_, _, by rw [← hv]⟩
    have HG : Hid (∀ W, Calls Tryz.prog 129 #[.string s, .int .i64 p] W fun e w' => e = .returned (.tuple #[.int .i64 n, .int .i64 q, .int .i64 c]) ∧ w' = W) := Lib.hid (fun W => (HG0.out W).mono fun e w' h => ⟨by have := h.1; unfold GetOut at this; rw [hv'] at this; exact this, h.2.symm⟩)
    have c0 := h.c0
    have c1 := h.c1
    clear hx h hv hv' HG0
    go_enter Tryz.func113, Tryz.ntmps113
    go_wp2_with fail
    go_quiet ((go_at_call 129; exact Calls.quiet_of_same (HG.out _)))
    go_wp2_with fail
    refine (leave_bad c _ hc).mono ?_
    rintro e w1 ⟨rfl, rfl⟩
    exact ⟨rfl, grown_drewN (grown_refl w _) _, rfl⟩

set_option maxRecDepth 100000 in
set_option maxHeartbeats 1000000 in
theorem text_any (w : World) (r p : Nat) (s : ByteArray) (h : RdAt w r s p) (hs : s.size ≤ 281474976710656) (hp : p ≤ s.size) :
    Calls Tryz.prog 114 #[.pointer (some ⟨r, 0, none⟩)] w fun e w' => Out textV r s w (BK.rText s.data.toList p) e w' := by
  have HG0 := Lib.hid (fun W => getText_any s (p : Int) W (by omega) (by omega) (by omega))
  have HLT : Hid (r < w.heap.size) := Lib.hid h.lt
  cases hx : BK.rText s.data.toList p with
  | ok x =>
    obtain ⟨t, q⟩ := x
    have hv := text_good hx
    have HG : Hid (∀ W, Calls Tryz.prog 130 #[.string s, .int .i64 p] W fun e w' => e = .returned (.tuple #[.string t, .int .i64 q, .int .i64 0]) ∧ Below W.heap.size W w') := Lib.hid (fun W => (HG0.out W).mono fun e w' h => ⟨by have h1 := h.1; unfold TextOut at h1; rw [hv, str_mk] at h1; exact h1, h.2⟩)
    have c0 := h.c0
    have c1 := h.c1
    have HR := Lib.hid h
    clear hx h hv HG0
    go_enter Tryz.func114, Tryz.ntmps114
    go_wp2_with fail
    go_region_held3 (fun w' => w'.cell? ⟨r, 0, none⟩ = some (.string s) ∧ w'.cell? ⟨r, 1, none⟩ = some (.int .i64 p))
      (first | go_keep | exact HS1.out | fail)
      (first
        | (go_at_call 130; refine (HG.out _).mono ?_; rintro e w1 ⟨rfl, hb⟩
           have HG1 : Hid (w.grownBy w1 none) := Lib.hid (grown_trans (grown_drewN (grown_refl w _) 1) (grown_below hb))
           have HR1 : Hid (RdAt w1 r s p) := Lib.hid ((HG1.out.block r HLT.out (by simp)).trans HR.out)
           have HS1 : Hid (w1.cell? ⟨r, 0, none⟩ = some (.string s) ∧ w1.cell? ⟨r, 1, none⟩ = some (.int .i64 p)) := Lib.hid ⟨HR1.out.c0, HR1.out.c1⟩
           clear hb)
        | fail)
    all_goals
      clear HS1
      have f1 := HR1.out.f1
      have HR2 := Lib.hid (HR1.out.set q)
      go_wp2_with fail
      refine (leave_ok _).mono ?_
      rintro e w2 ⟨rfl, rfl⟩
      go_wp2
      go_ret
      exact ⟨grown_set (grown_r HG1.out) _ _, rfl, HR2.out⟩
  | error c =>
    obtain ⟨hv, hc⟩ := text_bad hx
    obtain ⟨n, q, hv'⟩ : ∃ n q, vtext s.data.toList p = (n, q, c) := ⟨_, _, by rw [← hv]⟩
    have HG : Hid (∀ W, Calls Tryz.prog 130 #[.string s, .int .i64 p] W fun e w' => e = .returned (.tuple #[.string ⟨n.toArray⟩, .int .i64 q, .int .i64 c]) ∧ Below W.heap.size W w') := Lib.hid (fun W => (HG0.out W).mono fun e w' h => ⟨by have h1 := h.1; unfold TextOut at h1; rw [hv'] at h1; exact h1, h.2⟩)
    have c0 := h.c0
    have c1 := h.c1
    have HR := Lib.hid h
    clear hx h hv hv' HG0
    go_enter Tryz.func114, Tryz.ntmps114
    go_wp2_with fail
    go_region_held3 (fun w' => w'.cell? ⟨r, 0, none⟩ = some (.string s) ∧ w'.cell? ⟨r, 1, none⟩ = some (.int .i64 p))
      (first | go_keep | exact HS1.out | fail)
      (first
        | (go_at_call 130; refine (HG.out _).mono ?_; rintro e w1 ⟨rfl, hb⟩
           have HG1 : Hid (w.grownBy w1 none) := Lib.hid (grown_trans (grown_drewN (grown_refl w _) 1) (grown_below hb))
           have HR1 : Hid (RdAt w1 r s p) := Lib.hid ((HG1.out.block r HLT.out (by simp)).trans HR.out)
           have HS1 : Hid (w1.cell? ⟨r, 0, none⟩ = some (.string s) ∧ w1.cell? ⟨r, 1, none⟩ = some (.int .i64 p)) := Lib.hid ⟨HR1.out.c0, HR1.out.c1⟩
           clear hb)
        | fail)
    all_goals
      clear HS1
      go_wp2_with fail
      refine (leave_bad c _ hc).mono ?_
      rintro e w2 ⟨rfl, rfl⟩
      exact ⟨rfl, grown_r HG1.out, rfl⟩
end Go.Proofs.YtjkofciohehgfaaGreatDoor.L7


/- Reading: count and item. Made by gen_ri.py. -/
namespace Go.Proofs.YtjkofciohehgfaaGreatDoor.L7
open Go.RowKit
open SK

namespace BK
/-- how many items there are said to be -/
def rCount (l : List UInt8) (p : Nat) : Except Int (Int × Nat) :=
  match rNum l p with
  | .error c => .error c
  | .ok (n, q) => if 64 < n then .error 5 else if n < 0 then .error 4 else .ok (n, q)
theorem get_count (l : List UInt8) : getOut l = match rCount l 0 with
    | .error c => .error c
    | .ok (n, p) => rEnd l (rItems l n.toNat p []) := by
  unfold getOut rCount
  cases rNum l 0 with
  | error c => rfl
  | ok x =>
    obtain ⟨n, p⟩ := x
    simp only
    split
    · rfl
    · split
      · rfl
      · rfl
theorem count_ok {l : List UInt8} {p q : Nat} {n : Int} (h : rCount l p = .ok (n, q)) : 0 ≤ n ∧ n ≤ 64 ∧ q ≤ l.length := by
  unfold rCount at h
  cases hn : rNum l p with
  | error c => rw [hn] at h; cases h
  | ok x =>
    obtain ⟨m, b⟩ := x
    rw [hn] at h
    simp only at h
    split at h
    · cases h
    · split at h
      · cases h
      · simp only [Except.ok.injEq, Prod.mk.injEq] at h
        obtain ⟨rfl, rfl⟩ := h
        exact ⟨by omega, by omega, num_le hn⟩
end BK

set_option maxRecDepth 100000 in
theorem count_any (w : World) (r p : Nat) (s : ByteArray) (h : RdAt w r s p) (hs : s.size ≤ 281474976710656) (hp : p ≤ s.size) :
    Calls Tryz.prog 84 #[.pointer (some ⟨r, 0, none⟩)] w fun e w' => Out numV r s w (BK.rCount s.data.toList p) e w' := by
  have HN := Lib.hid (number_any w r p s h hs hp)
  unfold BK.rCount
  cases hx : BK.rNum s.data.toList p with
  | error c =>
    rw [hx] at HN
    go_enter Tryz.func84, Tryz.ntmps84
    go_wp2_with fail
    refine HN.out.mono ?_
    rintro e w1 ⟨hg, rfl⟩
    exact ⟨rfl, hg, rfl⟩
  | ok x =>
    obtain ⟨n, q⟩ := x
    rw [hx] at HN
    clear hx
    simp only
    by_cases h1 : 64 < n
    · rw [if_pos h1]
      go_enter Tryz.func84, Tryz.ntmps84
      go_wp2_with fail
      refine HN.out.mono ?_
      rintro e w1 ⟨hg, rfl, hr⟩
      simp only [numV]
      go_wp2_with fail
      refine (leave_bad 5 _ (by decide)).mono ?_
      rintro e w2 ⟨rfl, rfl⟩
      exact ⟨rfl, hg, rfl⟩
    · rw [if_neg h1]
      by_cases h2 : n < 0
      · rw [if_pos h2]
        go_enter Tryz.func84, Tryz.ntmps84
        go_wp2_with fail
        refine HN.out.mono ?_
        rintro e w1 ⟨hg, rfl, hr⟩
        simp only [numV]
        go_wp2_with fail
        refine (leave_bad 4 _ (by decide)).mono ?_
        rintro e w2 ⟨rfl, rfl⟩
        exact ⟨rfl, hg, rfl⟩
      · rw [if_neg h2]
        go_enter Tryz.func84, Tryz.ntmps84
        go_wp2_with fail
        refine HN.out.mono ?_
        rintro e w1 ⟨hg, rfl, hr⟩
        have HG := Lib.hid hg
        have HR := Lib.hid hr
        clear hg hr
        simp only [numV]
        go_wp2
        go_ret
        exact ⟨HG.out, rfl, HR.out⟩

def itemV (e : E) : Value := e.val
def rowE (k : ByteArray) (g : Bool) (v : ByteArray) (t : Int) : Array Value := #[.string k, .int .i64 0, .bool g, .string v, .int .i64 t]

theorem grown_alloc (w : World) (o : Obj) (r : Option Nat) : w.grownBy (w.alloc o) r :=
  ⟨rfl, rfl, rfl, by simp, fun k hk _ => Below.heap_alloc w o k hk⟩
theorem RdAt.grown {w w' : World} {r p : Nat} {s : ByteArray} (h : RdAt w r s p) (hg : w.grownBy w' none) : RdAt w' r s p := (hg.block r h.lt (by simp)).trans h
theorem grown_new {a b : World} {r : Option Nat} (h : a.grownBy b r) (x j : Nat) (u : Value) (hx : a.heap.size ≤ x) : a.grownBy (b.setCell ⟨x, j, none⟩ u) r :=
  ⟨h.os, h.tape, h.output, Nat.le_trans h.size (by simp [World.setCell]), fun k hk hr => (Below.heap_setCell _ _ _ _ (by intro e; subst e; exact absurd hk (by simp; omega))).trans (h.block k hk hr)⟩

set_option maxRecDepth 100000 in
set_option maxHeartbeats 4000000 in
theorem item_any (w : World) (r p : Nat) (s : ByteArray) (h : RdAt w r s p) (hs : s.size ≤ 281474976710656) (hp : p ≤ s.size) :
    Calls Tryz.prog 85 #[.pointer (some ⟨r, 0, none⟩)] w fun e w' => Out itemV r s w (BK.rItem s.data.toList p) e w' := by
  obtain ⟨x, hx⟩ : ∃ x, w.heap.size = x := ⟨_, rfl⟩
  have hrx : r < x := by rw [← hx]; exact h.lt
  have hrow0 : (w.alloc (.cells (rowE ⟨#[]⟩ false ⟨#[]⟩ 0) 45)).heap[x]? = some (.cells (rowE ⟨#[]⟩ false ⟨#[]⟩ 0) 45 (0, 0)) := by rw [← hx]; exact heap_alloc_new w _
  have hg0 := grown_alloc w (.cells (rowE ⟨#[]⟩ false ⟨#[]⟩ 0) 45) none
  have hr0 := h.grown hg0
  have HX := Lib.hid hx
  have HRX := Lib.hid hrx
  have HT := Lib.hid (text_any _ r p s hr0 hs hp)
  simp only [rowE] at hrow0 hg0 hr0 HT
  have HROW0 := Lib.hid hrow0
  have HG0 := Lib.hid hg0
  clear hrow0 hg0 hr0 hrx h
  unfold BK.rItem
  cases hk : BK.rText s.data.toList p with
  | error c =>
    rw [hk] at HT
    go_enter Tryz.func85, Tryz.ntmps85
    go_wp2_with fail
    refine HT.out.mono ?_
    rintro e w1 ⟨hg, rfl⟩
    exact ⟨rfl, grown_trans (grown_r HG0.out) hg, rfl⟩
  | ok z =>
    obtain ⟨k, p1⟩ := z
    have hkk := BK.text_ok hk
    have HK1 : Hid (k.size ≤ 65535) := Lib.hid hkk.1
    have hp1 : p1 ≤ s.size := by rw [← size_list]; exact hkk.2.1
    have HP1 := Lib.hid hp1
    have HNU : Hid (∀ W, RdAt W r s p1 → Calls Tryz.prog 113 #[.pointer (some ⟨r, 0, none⟩)] W fun e w' => Out numV r s W (BK.rNum s.data.toList p1) e w') := Lib.hid (fun W h => number_any W r p1 s h hs hp1)
    rw [hk] at HT
    clear hk hkk hp1 hp
    simp only
    cases hn : BK.rNum s.data.toList p1 with
    | error c =>
      rw [hn] at HNU
      clear hn
      go_enter Tryz.func85, Tryz.ntmps85
      go_wp2_with fail
      refine HT.out.mono ?_
      rintro e w1 ⟨hg, rfl, hr⟩
      have HG1 := Lib.hid (grown_trans (grown_r HG0.out) hg)
      have HR1 := Lib.hid (hr.grown (grown_alloc w1 (.cells (rowE k false ⟨#[]⟩ 0) 45) none))
      simp only [rowE] at HR1
      clear hg hr
      simp only [textV]
      go_wp2_with fail
      refine (HNU.out _ HR1.out).mono ?_
      rintro e w2 ⟨hg, rfl⟩
      exact ⟨rfl, grown_trans (grown_trans HG1.out (grown_alloc _ _ _)) hg, rfl⟩
    | ok z =>
      obtain ⟨n, p2⟩ := z
      have hnn := BK.num_ok hn
      have hn0 := hnn.1
      have hn1 := hnn.2.1
      have hp2 : p2 ≤ s.size := by rw [← size_list]; exact hnn.2.2.1
      have HP2 := Lib.hid hp2
      have HTX : Hid (∀ W, RdAt W r s p2 → Calls Tryz.prog 114 #[.pointer (some ⟨r, 0, none⟩)] W fun e w' => Out textV r s W (BK.rText s.data.toList p2) e w') := Lib.hid (fun W h => text_any W r p2 s h hs hp2)
      rw [hn] at HNU
      clear hn hnn hp2
      simp only
      have HTL : Hid (BK.rTail s.data.toList k n p2 = if n < 0 then .error 4 else if n = 0 then BK.rFin ⟨k, 0, true, ⟨#[]⟩, 0⟩ p2 else match BK.rText s.data.toList p2 with | .error c => .error c | .ok (v, q) => BK.rFin ⟨k, 0, false, v, n - 1⟩ q) := Lib.hid rfl
      obtain ⟨X, hXX⟩ : ∃ X, BK.rTail s.data.toList k n p2 = X := ⟨_, rfl⟩
      rw [hXX] at HTL ⊢
      clear hXX
      go_enter Tryz.func85, Tryz.ntmps85
      go_wp2_with fail
      refine HT.out.mono ?_
      rintro e w1 ⟨hg, rfl, hr⟩
      obtain ⟨y, hy⟩ : ∃ y, w1.heap.size = y := ⟨_, rfl⟩
      have hxy : x < y := by rw [← hy, ← HX.out]; have := hg.size; simp at this; omega
      have HXY := Lib.hid hxy
      have HG1 := Lib.hid (grown_trans (grown_trans (grown_r HG0.out) hg) (grown_alloc w1 (.cells (rowE k false ⟨#[]⟩ 0) 45) (some r)))
      have HR1 := Lib.hid (hr.grown (grown_alloc w1 (.cells (rowE k false ⟨#[]⟩ 0) 45) none))
      have HY1 : Hid ((w1.alloc (.cells (rowE k false ⟨#[]⟩ 0) 45)).heap[y]? = some (.cells (rowE k false ⟨#[]⟩ 0) 45 (0, 0))) := Lib.hid (by rw [← hy]; exact heap_alloc_new w1 _)
      have HX1 : Hid ((w1.alloc (.cells (rowE k false ⟨#[]⟩ 0) 45)).heap[x]? = some (.cells (rowE ⟨#[]⟩ false ⟨#[]⟩ 0) 45 (0, 0))) := Lib.hid (by
        rw [Below.heap_alloc w1 _ x (by omega), hg.block x (by have := (Array.getElem?_eq_some_iff.1 HROW0.out).1; omega) (by have := HRX.out; simp; omega)]
        exact HROW0.out)
      clear hg hr hxy
      simp only [rowE] at HG1 HR1 HY1 HX1
      simp only [textV]
      go_wp2_with fail
      have HYE := Lib.hid hy
      clear hy
      generalize w1.alloc _ = wa at HG1 HR1 HY1 HX1 ⊢
      refine (HNU.out _ HR1.out).mono ?_
      rintro e w2 ⟨hg, rfl, hr⟩
      have HG2 := Lib.hid (grown_trans HG1.out hg)
      have HR2 := Lib.hid hr
      have HY2 := Lib.hid ((hg.block y (Array.getElem?_eq_some_iff.1 HY1.out).1 (by have := HRX.out; have := HXY.out; simp; omega)).trans HY1.out)
      have HX2 := Lib.hid ((hg.block x (Array.getElem?_eq_some_iff.1 HX1.out).1 (by have := HRX.out; simp; omega)).trans HX1.out)
      clear hg hr HG1 HR1 HY1 HX1 HNU HT HG0 HROW0
      simp only [numV]
      by_cases h1 : n < 0
      · have HF : Hid (X = .error 4) := Lib.hid (by rw [HTL.out, if_pos h1])
        go_wp2_with fail
        refine (leave_bad 4 _ (by decide)).mono ?_
        rintro e w3 ⟨rfl, rfl⟩
        exact ⟨rfl, HG2.out, by rw [HF.out]⟩
      · by_cases h2 : n = 0
        · have HX2' : Hid (X = BK.rFin ⟨k, 0, true, ⟨#[]⟩, 0⟩ p2) := Lib.hid (by rw [HTL.out, if_neg h1, if_pos h2])
          clear HTL
          have hbe : (n == 0) = true := by simpa using h2
          have f2 : w2.frozen? ⟨y, 2, none⟩ = false := frozen_of_row _ _ _ _ _ HY2.out
          have c2 : w2.cell? ⟨y, 2, none⟩ = some (.bool false) := cell_of_row _ _ _ _ _ _ HY2.out
          have HE : Hid ((⟨k, 0, true, ⟨#[]⟩, 0⟩ : E).wf) := Lib.hid ⟨by have := HK1.out; simp only; omega, Nat.zero_le _, ⟨by simp only; omega, by simp only; omega⟩, ⟨by simp only; omega, by simp only; omega⟩⟩
          have HY3 : Hid ((w2.setCell ⟨y, 2, none⟩ (.bool true)).heap[y]? = some (.cells (rowE k true ⟨#[]⟩ 0) 45 (0, 0))) := Lib.hid (heap_set_fr HY2.out 2 (.bool true))
          have HX3 : Hid ((w2.setCell ⟨y, 2, none⟩ (.bool true)).heap[x]? = some (.cells (rowE ⟨#[]⟩ false ⟨#[]⟩ 0) 45 (0, 0))) := Lib.hid ((Below.heap_setCell _ _ _ _ (by have := HXY.out; simp; omega)).trans HX2.out)
          have HG3 : Hid (w.grownBy (w2.setCell ⟨y, 2, none⟩ (.bool true)) (some r)) := Lib.hid (grown_new HG2.out _ _ _ (by have := HX.out; have := HXY.out; omega))
          have HR3 : Hid (RdAt (w2.setCell ⟨y, 2, none⟩ (.bool true)) r s p2) := Lib.hid ((Below.heap_setCell _ _ _ _ (by have := HRX.out; have := HXY.out; simp; omega)).trans HR2.out)
          obtain ⟨w3, hw3⟩ : ∃ w3, w2.setCell ⟨y, 2, none⟩ (.bool true) = w3 := ⟨_, rfl⟩
          have HBG := Lib.hid (fun W => bgood_any _ W HE.out)
          have hcl : rowE k true ⟨#[]⟩ 0 = #[.string k, .int .i64 0, .bool true, .string ⟨#[]⟩, .int .i64 0] := rfl
          rw [hw3] at HY3 HX3 HG3 HR3
          simp only [E.val] at HBG
          clear HE
          have HFIN : Hid (BK.rFin ⟨k, 0, true, ⟨#[]⟩, 0⟩ p2 = if good (BK.one ⟨k, 0, true, ⟨#[]⟩, 0⟩) = 0 then .ok (⟨k, 0, true, ⟨#[]⟩, 0⟩, p2) else .error (good (BK.one ⟨k, 0, true, ⟨#[]⟩, 0⟩))) := Lib.hid rfl
          obtain ⟨G, hG⟩ : ∃ G, good (BK.one (⟨k, 0, true, ⟨#[]⟩, 0⟩ : E)) = G := ⟨_, rfl⟩
          rw [hG] at HBG HFIN
          clear hG
          rw [← HX2'.out] at HFIN
          have e0 : w3.cell? ⟨y, 0, none⟩ = some (.string k) := cell_of_row _ _ _ _ _ _ HY3.out
          have e1 : w3.cell? ⟨y, 1, none⟩ = some (.int .i64 0) := cell_of_row _ _ _ _ _ _ HY3.out
          have e2 : w3.cell? ⟨y, 2, none⟩ = some (.bool true) := cell_of_row _ _ _ _ _ _ HY3.out
          have e3 : w3.cell? ⟨y, 3, none⟩ = some (.string ⟨#[]⟩) := cell_of_row _ _ _ _ _ _ HY3.out
          have e4 : w3.cell? ⟨y, 4, none⟩ = some (.int .i64 0) := cell_of_row _ _ _ _ _ _ HY3.out
          go_wp2_with fail
          refine (HBG.out _).mono ?_
          rintro e w4 ⟨rfl, hb⟩
          have HY4 := Lib.hid ((hb.block y (Array.getElem?_eq_some_iff.1 HY3.out).1).trans HY3.out)
          have HX4 := Lib.hid ((hb.block x (Array.getElem?_eq_some_iff.1 HX3.out).1).trans HX3.out)
          have HR4 := Lib.hid (HR3.out.below hb)
          have HG4 := Lib.hid (grown_trans HG3.out (grown_below hb))
          clear hb HY3 HX3 HG3 HR3 HBG e0 e1 e2 e3 e4 hw3
          by_cases hG : G = 0
          · subst hG
            have HF : Hid (X = .ok (⟨k, 0, true, ⟨#[]⟩, 0⟩, p2)) := Lib.hid (by rw [HFIN.out, if_pos rfl])
            have e0 : w4.cell? ⟨y, 0, none⟩ = some (.string k) := cell_of_row _ _ _ _ _ _ HY4.out
            have e1 : w4.cell? ⟨y, 1, none⟩ = some (.int .i64 0) := cell_of_row _ _ _ _ _ _ HY4.out
            have e2 : w4.cell? ⟨y, 2, none⟩ = some (.bool true) := cell_of_row _ _ _ _ _ _ HY4.out
            have e3 : w4.cell? ⟨y, 3, none⟩ = some (.string ⟨#[]⟩) := cell_of_row _ _ _ _ _ _ HY4.out
            have e4 : w4.cell? ⟨y, 4, none⟩ = some (.int .i64 0) := cell_of_row _ _ _ _ _ _ HY4.out
            have z0 : w4.cell? ⟨x, 0, none⟩ = some (.string ⟨#[]⟩) := cell_of_row _ _ _ _ _ _ HX4.out
            have z1 : w4.cell? ⟨x, 1, none⟩ = some (.int .i64 0) := cell_of_row _ _ _ _ _ _ HX4.out
            have z2 : w4.cell? ⟨x, 2, none⟩ = some (.bool false) := cell_of_row _ _ _ _ _ _ HX4.out
            have z3 : w4.cell? ⟨x, 3, none⟩ = some (.string ⟨#[]⟩) := cell_of_row _ _ _ _ _ _ HX4.out
            have z4 : w4.cell? ⟨x, 4, none⟩ = some (.int .i64 0) := cell_of_row _ _ _ _ _ _ HX4.out
            have y0 : w4.frozen? ⟨x, 0, none⟩ = false := frozen_of_row _ _ _ _ _ HX4.out
            have y1 : w4.frozen? ⟨x, 1, none⟩ = false := frozen_of_row _ _ _ _ _ HX4.out
            have y2 : w4.frozen? ⟨x, 2, none⟩ = false := frozen_of_row _ _ _ _ _ HX4.out
            have y3 : w4.frozen? ⟨x, 3, none⟩ = false := frozen_of_row _ _ _ _ _ HX4.out
            have y4 : w4.frozen? ⟨x, 4, none⟩ = false := frozen_of_row _ _ _ _ _ HX4.out
            have HSZ : Hid (w.heap.size ≤ x) := Lib.hid (by have := HX.out; omega)
            have HRR : Hid (r ≠ x) := Lib.hid (by have := HRX.out; omega)
            go_wp2_with fail
            refine (leave_ok _).mono ?_
            rintro e w7 ⟨rfl, rfl⟩
            have HX8 : Hid ((((((w4.setCell ⟨x, 0, none⟩ (.string k)).setCell ⟨x, 1, none⟩ (.int .i64 0)).setCell ⟨x, 2, none⟩ (.bool true)).setCell ⟨x, 3, none⟩ (.string ⟨#[]⟩)).setCell ⟨x, 4, none⟩ (.int .i64 0)).heap[x]? = some (.cells (rowE k true ⟨#[]⟩ 0) 45 (0, 0))) := Lib.hid (heap_set_fr (heap_set_fr (heap_set_fr (heap_set_fr (heap_set_fr HX4.out 0 (.string k)) 1 (.int .i64 0)) 2 (.bool true)) 3 (.string ⟨#[]⟩)) 4 (.int .i64 0))
            have HG8 : Hid (w.grownBy (((((w4.setCell ⟨x, 0, none⟩ (.string k)).setCell ⟨x, 1, none⟩ (.int .i64 0)).setCell ⟨x, 2, none⟩ (.bool true)).setCell ⟨x, 3, none⟩ (.string ⟨#[]⟩)).setCell ⟨x, 4, none⟩ (.int .i64 0)) (some r)) := Lib.hid (grown_new (grown_new (grown_new (grown_new (grown_new HG4.out _ _ _ HSZ.out) _ _ _ HSZ.out) _ _ _ HSZ.out) _ _ _ HSZ.out) _ _ _ HSZ.out)
            have HR8 : Hid (RdAt (((((w4.setCell ⟨x, 0, none⟩ (.string k)).setCell ⟨x, 1, none⟩ (.int .i64 0)).setCell ⟨x, 2, none⟩ (.bool true)).setCell ⟨x, 3, none⟩ (.string ⟨#[]⟩)).setCell ⟨x, 4, none⟩ (.int .i64 0)) r s p2) := Lib.hid ((Below.heap_setCell _ _ _ _ HRR.out).trans ((Below.heap_setCell _ _ _ _ HRR.out).trans ((Below.heap_setCell _ _ _ _ HRR.out).trans ((Below.heap_setCell _ _ _ _ HRR.out).trans ((Below.heap_setCell _ _ _ _ HRR.out).trans HR4.out)))))
            clear HX4 HG4 HR4
            go_wp2
            generalize (((((w4.setCell ⟨x, 0, none⟩ (.string k)).setCell ⟨x, 1, none⟩ (.int .i64 0)).setCell ⟨x, 2, none⟩ (.bool true)).setCell ⟨x, 3, none⟩ (.string ⟨#[]⟩)).setCell ⟨x, 4, none⟩ (.int .i64 0)) = w8 at HX8 HG8 HR8 ⊢
            have d0 : w8.cell? ⟨x, 0, none⟩ = some (.string k) := cell_of_row _ _ _ _ _ _ HX8.out
            have d1 : w8.cell? ⟨x, 1, none⟩ = some (.int .i64 0) := cell_of_row _ _ _ _ _ _ HX8.out
            have d2 : w8.cell? ⟨x, 2, none⟩ = some (.bool true) := cell_of_row _ _ _ _ _ _ HX8.out
            have d3 : w8.cell? ⟨x, 3, none⟩ = some (.string ⟨#[]⟩) := cell_of_row _ _ _ _ _ _ HX8.out
            have d4 : w8.cell? ⟨x, 4, none⟩ = some (.int .i64 0) := cell_of_row _ _ _ _ _ _ HX8.out
            refine bodyPost_ret (v := .agg #[.string k, .int .i64 0, .bool true, .string ⟨#[]⟩, .int .i64 0]) (by simp [results, Tryz.results85, go_sem, d0, d1, d2, d3, d4]) rfl ⟨HG8.out, ?_⟩
            rw [HF.out]
            exact ⟨rfl, HR8.out⟩
          · have HF : Hid (X = .error G) := Lib.hid (by rw [HFIN.out, if_neg hG])
            go_wp2_with fail
            refine (leave_bad G _ hG).mono ?_
            rintro e w7 ⟨rfl, rfl⟩
            exact ⟨rfl, HG4.out, by rw [HF.out]⟩
        · have hbe : (n == 0) = false := by simpa using h2
          have hwr : IntKind.i64.wrap (n - 1) = n - 1 := IntWalk.i64_in _ ⟨by omega, by omega⟩
          cases hv : BK.rText s.data.toList p2 with
          | error c =>
            have HF : Hid (X = .error c) := Lib.hid (by rw [HTL.out, if_neg h1, if_neg h2, hv])
            rw [hv] at HTX
            clear hv HTL
            have f4 : w2.frozen? ⟨y, 4, none⟩ = false := frozen_of_row _ _ _ _ _ HY2.out
            have c4 : w2.cell? ⟨y, 4, none⟩ = some (.int .i64 0) := cell_of_row _ _ _ _ _ _ HY2.out
            have HR3 : Hid (RdAt (w2.setCell ⟨y, 4, none⟩ (.int .i64 (n - 1))) r s p2) := Lib.hid ((Below.heap_setCell _ _ _ _ (by have := HRX.out; have := HXY.out; simp; omega)).trans HR2.out)
            go_wp2_with fail
            refine (HTX.out _ HR3.out).mono ?_
            rintro e w3 ⟨hg, rfl⟩
            exact ⟨rfl, grown_trans (grown_new HG2.out _ _ _ (by have := HX.out; have := HXY.out; omega)) hg, by rw [HF.out]⟩
          | ok z =>
            obtain ⟨v, p3⟩ := z
            have HV1 : Hid (v.size ≤ 65535) := Lib.hid (BK.text_ok hv).1
            have HX2' : Hid (X = BK.rFin ⟨k, 0, false, v, n - 1⟩ p3) := Lib.hid (by rw [HTL.out, if_neg h1, if_neg h2, hv])
            rw [hv] at HTX
            clear hv HTL
            have f4 : w2.frozen? ⟨y, 4, none⟩ = false := frozen_of_row _ _ _ _ _ HY2.out
            have c4 : w2.cell? ⟨y, 4, none⟩ = some (.int .i64 0) := cell_of_row _ _ _ _ _ _ HY2.out
            have HR3' : Hid (RdAt (w2.setCell ⟨y, 4, none⟩ (.int .i64 (n - 1))) r s p2) := Lib.hid ((Below.heap_setCell _ _ _ _ (by have := HRX.out; have := HXY.out; simp; omega)).trans HR2.out)
            have HY3' : Hid ((w2.setCell ⟨y, 4, none⟩ (.int .i64 (n - 1))).heap[y]? = some (.cells (rowE k false ⟨#[]⟩ (n - 1)) 45 (0, 0))) := Lib.hid (heap_set_fr HY2.out 4 (.int .i64 (n - 1)))
            have HX3' : Hid ((w2.setCell ⟨y, 4, none⟩ (.int .i64 (n - 1))).heap[x]? = some (.cells (rowE ⟨#[]⟩ false ⟨#[]⟩ 0) 45 (0, 0))) := Lib.hid ((Below.heap_setCell _ _ _ _ (by have := HXY.out; simp; omega)).trans HX2.out)
            have HG3' : Hid (w.grownBy (w2.setCell ⟨y, 4, none⟩ (.int .i64 (n - 1))) (some r)) := Lib.hid (grown_new HG2.out _ _ _ (by have := HX.out; have := HXY.out; omega))
            go_wp2_with fail
            generalize w2.setCell ⟨y, 4, none⟩ (.int .i64 (n - 1)) = w5 at HR3' HY3' HX3' HG3' ⊢
            refine (HTX.out _ HR3'.out).mono ?_
            rintro e w6 ⟨hg, rfl, hr⟩
            simp only [textV]
            have HY6 := Lib.hid ((hg.block y (Array.getElem?_eq_some_iff.1 HY3'.out).1 (by have := HRX.out; have := HXY.out; simp; omega)).trans HY3'.out)
            have HX6 := Lib.hid ((hg.block x (Array.getElem?_eq_some_iff.1 HX3'.out).1 (by have := HRX.out; simp; omega)).trans HX3'.out)
            have HG6 := Lib.hid (grown_trans HG3'.out hg)
            have f3 : w6.frozen? ⟨y, 3, none⟩ = false := frozen_of_row _ _ _ _ _ HY6.out
            have c3 : w6.cell? ⟨y, 3, none⟩ = some (.string ⟨#[]⟩) := cell_of_row _ _ _ _ _ _ HY6.out
            have HY3 : Hid ((w6.setCell ⟨y, 3, none⟩ (.string v)).heap[y]? = some (.cells (rowE k false v (n - 1)) 45 (0, 0))) := Lib.hid (heap_set_fr HY6.out 3 (.string v))
            have HX3 : Hid ((w6.setCell ⟨y, 3, none⟩ (.string v)).heap[x]? = some (.cells (rowE ⟨#[]⟩ false ⟨#[]⟩ 0) 45 (0, 0))) := Lib.hid ((Below.heap_setCell _ _ _ _ (by have := HXY.out; simp; omega)).trans HX6.out)
            have HG3 : Hid (w.grownBy (w6.setCell ⟨y, 3, none⟩ (.string v)) (some r)) := Lib.hid (grown_new HG6.out _ _ _ (by have := HX.out; have := HXY.out; omega))
            have HR3 : Hid (RdAt (w6.setCell ⟨y, 3, none⟩ (.string v)) r s p3) := Lib.hid ((Below.heap_setCell _ _ _ _ (by have := HRX.out; have := HXY.out; simp; omega)).trans hr)
            clear hg hr HR3' HY3' HX3' HG3'
            have HE : Hid ((⟨k, 0, false, v, n - 1⟩ : E).wf) := Lib.hid ⟨by have := HK1.out; simp only; omega, by have := HV1.out; simp only; omega, ⟨by simp only; omega, by simp only; omega⟩, ⟨by simp only; omega, by simp only; omega⟩⟩
            obtain ⟨w3, hw3⟩ : ∃ w3, w6.setCell ⟨y, 3, none⟩ (.string v) = w3 := ⟨_, rfl⟩
            have HBG := Lib.hid (fun W => bgood_any _ W HE.out)
            have hcl : rowE k false v (n - 1) = #[.string k, .int .i64 0, .bool false, .string v, .int .i64 (n - 1)] := rfl
            rw [hw3] at HY3 HX3 HG3 HR3
            simp only [E.val] at HBG
            clear HE
            have HFIN : Hid (BK.rFin ⟨k, 0, false, v, n - 1⟩ p3 = if good (BK.one ⟨k, 0, false, v, n - 1⟩) = 0 then .ok (⟨k, 0, false, v, n - 1⟩, p3) else .error (good (BK.one ⟨k, 0, false, v, n - 1⟩))) := Lib.hid rfl
            obtain ⟨G, hG⟩ : ∃ G, good (BK.one (⟨k, 0, false, v, n - 1⟩ : E)) = G := ⟨_, rfl⟩
            rw [hG] at HBG HFIN
            clear hG
            rw [← HX2'.out] at HFIN
            have e0 : w3.cell? ⟨y, 0, none⟩ = some (.string k) := cell_of_row _ _ _ _ _ _ HY3.out
            have e1 : w3.cell? ⟨y, 1, none⟩ = some (.int .i64 0) := cell_of_row _ _ _ _ _ _ HY3.out
            have e2 : w3.cell? ⟨y, 2, none⟩ = some (.bool false) := cell_of_row _ _ _ _ _ _ HY3.out
            have e3 : w3.cell? ⟨y, 3, none⟩ = some (.string v) := cell_of_row _ _ _ _ _ _ HY3.out
            have e4 : w3.cell? ⟨y, 4, none⟩ = some (.int .i64 (n - 1)) := cell_of_row _ _ _ _ _ _ HY3.out
            go_wp2_with fail
            refine (HBG.out _).mono ?_
            rintro e w4 ⟨rfl, hb⟩
            have HY4 := Lib.hid ((hb.block y (Array.getElem?_eq_some_iff.1 HY3.out).1).trans HY3.out)
            have HX4 := Lib.hid ((hb.block x (Array.getElem?_eq_some_iff.1 HX3.out).1).trans HX3.out)
            have HR4 := Lib.hid (HR3.out.below hb)
            have HG4 := Lib.hid (grown_trans HG3.out (grown_below hb))
            clear hb HY3 HX3 HG3 HR3 HBG e0 e1 e2 e3 e4 hw3
            by_cases hG : G = 0
            · subst hG
              have HF : Hid (X = .ok (⟨k, 0, false, v, n - 1⟩, p3)) := Lib.hid (by rw [HFIN.out, if_pos rfl])
              have e0 : w4.cell? ⟨y, 0, none⟩ = some (.string k) := cell_of_row _ _ _ _ _ _ HY4.out
              have e1 : w4.cell? ⟨y, 1, none⟩ = some (.int .i64 0) := cell_of_row _ _ _ _ _ _ HY4.out
              have e2 : w4.cell? ⟨y, 2, none⟩ = some (.bool false) := cell_of_row _ _ _ _ _ _ HY4.out
              have e3 : w4.cell? ⟨y, 3, none⟩ = some (.string v) := cell_of_row _ _ _ _ _ _ HY4.out
              have e4 : w4.cell? ⟨y, 4, none⟩ = some (.int .i64 (n - 1)) := cell_of_row _ _ _ _ _ _ HY4.out
              have z0 : w4.cell? ⟨x, 0, none⟩ = some (.string ⟨#[]⟩) := cell_of_row _ _ _ _ _ _ HX4.out
              have z1 : w4.cell? ⟨x, 1, none⟩ = some (.int .i64 0) := cell_of_row _ _ _ _ _ _ HX4.out
              have z2 : w4.cell? ⟨x, 2, none⟩ = some (.bool false) := cell_of_row _ _ _ _ _ _ HX4.out
              have z3 : w4.cell? ⟨x, 3, none⟩ = some (.string ⟨#[]⟩) := cell_of_row _ _ _ _ _ _ HX4.out
              have z4 : w4.cell? ⟨x, 4, none⟩ = some (.int .i64 0) := cell_of_row _ _ _ _ _ _ HX4.out
              have y0 : w4.frozen? ⟨x, 0, none⟩ = false := frozen_of_row _ _ _ _ _ HX4.out
              have y1 : w4.frozen? ⟨x, 1, none⟩ = false := frozen_of_row _ _ _ _ _ HX4.out
              have y2 : w4.frozen? ⟨x, 2, none⟩ = false := frozen_of_row _ _ _ _ _ HX4.out
              have y3 : w4.frozen? ⟨x, 3, none⟩ = false := frozen_of_row _ _ _ _ _ HX4.out
              have y4 : w4.frozen? ⟨x, 4, none⟩ = false := frozen_of_row _ _ _ _ _ HX4.out
              have HSZ : Hid (w.heap.size ≤ x) := Lib.hid (by have := HX.out; omega)
              have HRR : Hid (r ≠ x) := Lib.hid (by have := HRX.out; omega)
              go_wp2_with fail
              refine (leave_ok _).mono ?_
              rintro e w7 ⟨rfl, rfl⟩
              have HX8 : Hid ((((((w4.setCell ⟨x, 0, none⟩ (.string k)).setCell ⟨x, 1, none⟩ (.int .i64 0)).setCell ⟨x, 2, none⟩ (.bool false)).setCell ⟨x, 3, none⟩ (.string v)).setCell ⟨x, 4, none⟩ (.int .i64 (n - 1))).heap[x]? = some (.cells (rowE k false v (n - 1)) 45 (0, 0))) := Lib.hid (heap_set_fr (heap_set_fr (heap_set_fr (heap_set_fr (heap_set_fr HX4.out 0 (.string k)) 1 (.int .i64 0)) 2 (.bool false)) 3 (.string v)) 4 (.int .i64 (n - 1)))
              have HG8 : Hid (w.grownBy (((((w4.setCell ⟨x, 0, none⟩ (.string k)).setCell ⟨x, 1, none⟩ (.int .i64 0)).setCell ⟨x, 2, none⟩ (.bool false)).setCell ⟨x, 3, none⟩ (.string v)).setCell ⟨x, 4, none⟩ (.int .i64 (n - 1))) (some r)) := Lib.hid (grown_new (grown_new (grown_new (grown_new (grown_new HG4.out _ _ _ HSZ.out) _ _ _ HSZ.out) _ _ _ HSZ.out) _ _ _ HSZ.out) _ _ _ HSZ.out)
              have HR8 : Hid (RdAt (((((w4.setCell ⟨x, 0, none⟩ (.string k)).setCell ⟨x, 1, none⟩ (.int .i64 0)).setCell ⟨x, 2, none⟩ (.bool false)).setCell ⟨x, 3, none⟩ (.string v)).setCell ⟨x, 4, none⟩ (.int .i64 (n - 1))) r s p3) := Lib.hid ((Below.heap_setCell _ _ _ _ HRR.out).trans ((Below.heap_setCell _ _ _ _ HRR.out).trans ((Below.heap_setCell _ _ _ _ HRR.out).trans ((Below.heap_setCell _ _ _ _ HRR.out).trans ((Below.heap_setCell _ _ _ _ HRR.out).trans HR4.out)))))
              clear HX4 HG4 HR4
              go_wp2
              generalize (((((w4.setCell ⟨x, 0, none⟩ (.string k)).setCell ⟨x, 1, none⟩ (.int .i64 0)).setCell ⟨x, 2, none⟩ (.bool false)).setCell ⟨x, 3, none⟩ (.string v)).setCell ⟨x, 4, none⟩ (.int .i64 (n - 1))) = w8 at HX8 HG8 HR8 ⊢
              have d0 : w8.cell? ⟨x, 0, none⟩ = some (.string k) := cell_of_row _ _ _ _ _ _ HX8.out
              have d1 : w8.cell? ⟨x, 1, none⟩ = some (.int .i64 0) := cell_of_row _ _ _ _ _ _ HX8.out
              have d2 : w8.cell? ⟨x, 2, none⟩ = some (.bool false) := cell_of_row _ _ _ _ _ _ HX8.out
              have d3 : w8.cell? ⟨x, 3, none⟩ = some (.string v) := cell_of_row _ _ _ _ _ _ HX8.out
              have d4 : w8.cell? ⟨x, 4, none⟩ = some (.int .i64 (n - 1)) := cell_of_row _ _ _ _ _ _ HX8.out
              refine bodyPost_ret (v := .agg #[.string k, .int .i64 0, .bool false, .string v, .int .i64 (n - 1)]) (by simp [results, Tryz.results85, go_sem, d0, d1, d2, d3, d4]) rfl ⟨HG8.out, ?_⟩
              rw [HF.out]
              exact ⟨rfl, HR8.out⟩
            · have HF : Hid (X = .error G) := Lib.hid (by rw [HFIN.out, if_neg hG])
              go_wp2_with fail
              refine (leave_bad G _ hG).mono ?_
              rintro e w7 ⟨rfl, rfl⟩
              exact ⟨rfl, HG4.out, by rw [HF.out]⟩
end Go.Proofs.YtjkofciohehgfaaGreatDoor.L7


/- Reading: all items. -/
namespace Go.Proofs.YtjkofciohehgfaaGreatDoor.L7
open Go.RowKit
open SK

/-- what reading all items comes to -/
def ItemsOut (w : World) (r : Nat) (x : Except Int (List E)) (e : Ending) (w' : World) : Prop :=
  w.grownBy w' (some r) ∧ match x with
    | .ok es => ∃ g, e = .returned (.slice (some ⟨g, 0, none⟩) es.length es.length) ∧ RowAt w' g es ∧ w.heap.size ≤ g ∧ ∀ x ∈ es, x.wf
    | .error c => e = .panicked (fault c)

theorem item_wf {l : List UInt8} {p q : Nat} {e : E} (h : BK.rItem l p = .ok (e, q)) : e.wf := by
  obtain ⟨h1, h2, h3, -⟩ := BK.item_ok h
  obtain ⟨h4, h5, h6, h7, -⟩ := BK.good_one_zero (BK.bad1_zero h1).1
  exact ⟨by omega, by omega, by rw [h2]; decide, by omega, h3⟩

theorem set_next (acc : List E) (j k : Nat) (h : acc.length = j) (e : E) : (acc ++ List.replicate (k + 1) E.zero).set j e = (acc ++ [e]) ++ List.replicate k E.zero := by
  rw [List.set_append_right _ _ (by omega), show j - acc.length = 0 by omega, List.replicate_succ]
  simp

set_option maxRecDepth 100000 in
set_option maxHeartbeats 4000000 in
theorem items_any (w : World) (r : Nat) (s : ByteArray) (h : RdAt w r s 0) (hs : s.size ≤ 281474976710656) :
    Calls Tryz.prog 43 #[.pointer (some ⟨r, 0, none⟩)] w fun e w' => ItemsOut w r (BK.getOut s.data.toList) e w' := by
  have HC := Lib.hid (count_any w r 0 s h hs (Nat.zero_le _))
  have hlt := h.lt
  have HGC : Hid (BK.getOut s.data.toList = match BK.rCount s.data.toList 0 with | .error c => .error c | .ok (n, p) => BK.rEnd s.data.toList (BK.rItems s.data.toList n.toNat p [])) := Lib.hid (BK.get_count _)
  obtain ⟨X, hX⟩ : ∃ X, BK.getOut s.data.toList = X := ⟨_, rfl⟩
  rw [hX] at HGC ⊢
  have HLT := Lib.hid hlt
  clear hX h hlt
  cases hc : BK.rCount s.data.toList 0 with
  | error c =>
    have HF : Hid (X = .error c) := Lib.hid (by rw [HGC.out, hc])
    rw [hc] at HC
    clear hc HGC
    go_enter Tryz.func43, Tryz.ntmps43
    go_wp2_with fail
    refine HC.out.mono ?_
    rintro e w1 ⟨hg, rfl⟩
    exact ⟨rfl, hg, by rw [HF.out]⟩
  | ok z =>
    obtain ⟨n, p⟩ := z
    obtain ⟨hn0, hn1, hpl⟩ := BK.count_ok hc
    have HXX : Hid (X = BK.rEnd s.data.toList (BK.rItems s.data.toList n.toNat p [])) := Lib.hid (by rw [HGC.out, hc])
    rw [hc] at HC
    clear hc HGC
    rw [size_list] at hpl
    obtain ⟨m, rfl⟩ := Int.eq_ofNat_of_zero_le hn0
    rw [Int.toNat_natCast] at HXX
    have HM : Hid (m ≤ 64) := Lib.hid (by omega)
    have HPL := Lib.hid hpl
    clear hn0 hn1 hpl
    go_enter Tryz.func43, Tryz.ntmps43
    go_wp2_with fail
    refine HC.out.mono ?_
    rintro e w1 ⟨hg, rfl, hr⟩
    have hmk := make_ents w1 m (by have := HM.out; omega)
    have HG1 := Lib.hid (grown_trans hg (grown_alloc w1 (.cells (ecs (List.replicate m E.zero)).toArray 45) (some r)))
    have HR1 := Lib.hid (hr.grown (grown_alloc w1 (.cells (ecs (List.replicate m E.zero)).toArray 45) none))
    have HW1 : Hid (RowAt (w1.alloc (.cells (ecs (List.replicate m E.zero)).toArray 45)) w1.heap.size (List.replicate m E.zero)) := Lib.hid (heap_alloc_new w1 _)
    have HGS : Hid (w.heap.size ≤ w1.heap.size) := Lib.hid hg.size
    have HRG : Hid (r < w1.heap.size) := Lib.hid hr.lt
    clear hg hr HC
    simp only [numV]
    go_wp2_with fail
    generalize w1.alloc _ = w2 at HG1 HR1 HW1 ⊢
    obtain ⟨g, hg⟩ : ∃ g, w1.heap.size = g := ⟨_, rfl⟩
    rw [hg] at HW1 HGS HRG ⊢
    clear hmk hg
    go_loopw [10] (fun i wr => ∃ j : Nat, j ≤ m ∧ i = .int .i64 j ∧ ∃ (acc : List E) (q : Nat), acc.length = j ∧ BK.rItems s.data.toList m p [] = BK.rItems s.data.toList (m - j) q acc ∧ q ≤ s.size ∧ RdAt wr r s q ∧ RowAt wr g (acc ++ List.replicate (m - j) E.zero) ∧ w.grownBy wr (some r) ∧ ∀ x ∈ acc, x.wf) (fun i _ => m - (intOf i).toNat)
    case atStart => exact ⟨0, by omega, rfl, [], p, rfl, by simp, HPL.out, HR1.out, by simpa using HW1.out, HG1.out, by simp⟩
    case round =>
      obtain ⟨j, hj, rfl, acc, q, hal, hit, hq, hr, hrow, hg, hwf⟩ := hrel
      by_cases hlt : j < m
      · have HIT := Lib.hid (item_any wr r q s hr hs hq)
        have hjm : m - j = (m - (j + 1)) + 1 := by omega
        rw [hjm] at hit hrow
        simp only [BK.rItems] at hit
        have g0 : (0 : Int) ≤ (j : Int) := by omega
        have g1 : (j : Int) < (m : Int) := by omega
        cases hi : BK.rItem s.data.toList q with
        | error c =>
          rw [hi] at hit HIT
          have HF : Hid (X = .error c) := Lib.hid (by rw [HXX.out, hit]; rfl)
          have HG := Lib.hid hg
          clear hi hit hrow hr hq hal hwf hg hjm
          go_wp2_with fail
          refine HIT.out.mono ?_
          rintro e w3 ⟨hg3, rfl⟩
          exact ⟨rfl, grown_trans HG.out hg3, by rw [HF.out]⟩
        | ok z =>
          obtain ⟨e, q'⟩ := z
          have hew := item_wf hi
          have hq' := (BK.item_ok hi).2.2.2.1
          rw [size_list] at hq'
          rw [hi] at hit HIT
          simp only at hit
          have HIT2 := Lib.hid hit
          have HG := Lib.hid hg
          have HROW := Lib.hid hrow
          have HAL := Lib.hid hal
          have HQ := Lib.hid hq'
          have HWF : Hid (∀ x ∈ acc ++ [e], x.wf) := Lib.hid (fun x hx => by
            rcases List.mem_append.1 hx with h | h
            · exact hwf x h
            · simp at h; rw [h]; exact hew)
          clear hi hit hrow hr hq hal hwf hg hjm hew hq'
          go_wp2_with fail
          refine HIT.out.mono ?_
          rintro e3 w3 ⟨hg3, rfl, hr3⟩
          have HROW3 := Lib.hid (HROW.out.grown hg3 (by have := HRG.out; simp; omega))
          have HG3 := Lib.hid (grown_trans HG.out hg3)
          have HR3 := Lib.hid hr3
          have hjl : j < (acc ++ List.replicate (m - (j + 1) + 1) E.zero).length := by rw [List.length_append, List.length_replicate, HAL.out]; omega
          have hput := HROW3.out.put j hjl e
          rw [set_next acc j _ HAL.out e] at hput
          have HPUT := Lib.hid hput
          obtain ⟨x, hx⟩ : ∃ x, (acc ++ List.replicate (m - (j + 1) + 1) E.zero)[j] = x := ⟨_, rfl⟩
          have c0 : w3.cell? ⟨g, j * 5, none⟩ = some (.string x.key) := by rw [← hx]; exact HROW3.out.cell j 0 hjl (by omega)
          have c1 : w3.cell? ⟨g, j * 5 + 1, none⟩ = some (.int .i64 x.seq) := by rw [← hx]; exact HROW3.out.cell j 1 hjl (by omega)
          have c2 : w3.cell? ⟨g, j * 5 + 2, none⟩ = some (.bool x.gone) := by rw [← hx]; exact HROW3.out.cell j 2 hjl (by omega)
          have c3 : w3.cell? ⟨g, j * 5 + 3, none⟩ = some (.string x.value) := by rw [← hx]; exact HROW3.out.cell j 3 hjl (by omega)
          have c4 : w3.cell? ⟨g, j * 5 + 4, none⟩ = some (.int .i64 x.til) := by rw [← hx]; exact HROW3.out.cell j 4 hjl (by omega)
          have f0 : w3.frozen? ⟨g, j * 5, none⟩ = false := HROW3.out.frozen _
          have f1 : w3.frozen? ⟨g, j * 5 + 1, none⟩ = false := HROW3.out.frozen _
          have f2 : w3.frozen? ⟨g, j * 5 + 2, none⟩ = false := HROW3.out.frozen _
          have f3 : w3.frozen? ⟨g, j * 5 + 3, none⟩ = false := HROW3.out.frozen _
          have f4 : w3.frozen? ⟨g, j * 5 + 4, none⟩ = false := HROW3.out.frozen _
          clear hg3 hr3 HROW HG HIT hjl hput hx HROW3
          obtain ⟨k2, q2, g2, v2, t2⟩ := e
          simp only [itemV, E.val]
          have HRD : Hid (RdAt (((((w3.setCell ⟨g, j * 5, none⟩ (.string k2)).setCell ⟨g, j * 5 + 1, none⟩ (.int .i64 q2)).setCell ⟨g, j * 5 + 2, none⟩ (.bool g2)).setCell ⟨g, j * 5 + 3, none⟩ (.string v2)).setCell ⟨g, j * 5 + 4, none⟩ (.int .i64 t2)) r s q') := Lib.hid (by
            have hne : r ≠ g := by have := HRG.out; omega
            unfold RdAt
            rw [Below.heap_setCell _ _ _ _ hne, Below.heap_setCell _ _ _ _ hne, Below.heap_setCell _ _ _ _ hne, Below.heap_setCell _ _ _ _ hne, Below.heap_setCell _ _ _ _ hne]
            exact HR3.out)
          have HG8 : Hid (w.grownBy (((((w3.setCell ⟨g, j * 5, none⟩ (.string k2)).setCell ⟨g, j * 5 + 1, none⟩ (.int .i64 q2)).setCell ⟨g, j * 5 + 2, none⟩ (.bool g2)).setCell ⟨g, j * 5 + 3, none⟩ (.string v2)).setCell ⟨g, j * 5 + 4, none⟩ (.int .i64 t2)) (some r)) := Lib.hid (grown_new (grown_new (grown_new (grown_new (grown_new HG3.out _ _ _ HGS.out) _ _ _ HGS.out) _ _ _ HGS.out) _ _ _ HGS.out) _ _ _ HGS.out)
          have hm64 : m ≤ 64 := HM.out
          go_wp2
          go_roundw
          case rel => exact ⟨j + 1, by omega, by go_num, acc ++ [⟨k2, q2, g2, v2, t2⟩], q', by rw [List.length_append, HAL.out]; rfl, HIT2.out, HQ.out, HRD.out, HPUT.out, HG8.out, HWF.out⟩
          case measure => simp [intOf]; omega
      · have hjm : j = m := by omega
        have hz : m - j = 0 := by omega
        rw [hz] at hit hrow
        simp only [BK.rItems, List.replicate_zero, List.append_nil] at hit hrow
        have HX2 : Hid (X = if q < s.size then .error 4 else .ok acc) := Lib.hid (by rw [HXX.out, hit]; unfold BK.rEnd; rw [size_list])
        have HG := Lib.hid hg
        have HROW := Lib.hid hrow
        have HWF := Lib.hid hwf
        have c0 := hr.c0
        have c1 := hr.c1
        have hne : ∀ i j : Nat, j < i → ¬ i ≤ j := fun _ _ h => by omega
        subst hjm
        clear hz hit hrow hg hwf hr HXX
        by_cases hql : q < s.size
        · have HF : Hid (X = .error 4) := Lib.hid (by rw [HX2.out, if_pos hql])
          have hqi : (q : Int) < (s.size : Int) := by omega
          go_wp2_with fail
          go_quiet (fail)
          go_wp2_with fail
          refine (leave_bad 4 _ (by decide)).mono ?_
          rintro e w3 ⟨rfl, rfl⟩
          exact ⟨rfl, grown_drewN HG.out _, by rw [HF.out]⟩
        · have HF : Hid (X = .ok acc) := Lib.hid (by rw [HX2.out, if_neg hql])
          have hqi : ¬ (q : Int) < (s.size : Int) := by omega
          go_wp2_with fail
          go_quiet (fail)
          go_wp2
          go_ret
          refine ⟨grown_drewN HG.out _, ?_⟩
          rw [HF.out]
          exact ⟨g, by rw [hal]; rfl, HROW.out, HGS.out, HWF.out⟩
end Go.Proofs.YtjkofciohehgfaaGreatDoor.L7


/- Reading, whole: a fault is caught; batch.Get. -/
namespace Go.Proofs.YtjkofciohehgfaaGreatDoor.L7
open Go.RowKit
open SK

theorem fault_nil (c : Int) (w : World) : (binOp .eql 20 (.iface 134 (.int .i64 c)) .nilIface).run Tryz.prog w = .ok (.bool false) w := by
  have h : ∀ d : Nat, (Op.equalIn (d + 1) 20 (.iface 134 (.int .i64 c)) .nilIface).run Tryz.prog w = .ok false w := fun d => by
    simp [Op.equalIn, run_underlying Tryz.underlying20]
  simp only [binOp]
  simp [Op.equal, Op.maxDepth, h 9999]

theorem fault_is (c : Int) (w : World) : (Instr.typeAssert (.iface 134 (.int .i64 c)) 20 134 true).run Tryz.prog w = .ok (.tuple #[.int .i64 c, .bool true]) w := by
  have hu := run_underlying (w := w) Tryz.underlying134
  simp [Instr.typeAssert, hu]

/-- the deferred closure, of a frame that a fault leaves -/
theorem catch_fault (p : Addr) (c : Int) (w : World) (hc : w.cell? p = some (.int .i64 0)) (hz : w.frozen? p = false) :
    CallsD Tryz.prog 83 #[.pointer (some p)] (.panicking (fault c)) w fun e u' w' =>
      e = .returned (.tuple #[]) ∧ u' = .panicking [{ v := .iface 134 (.int .i64 c), recovered := true }] ∧ w' = w.setCell p (.int .i64 c) := by
  unfold fault
  have heq := fault_nil c
  have hta := fault_is c
  refine callsD_of_wpS Tryz.func83 rfl fun c₀ cs hu => ?_
  apply wpS_seq
  apply wpS_region
  simp [wpOpsS, go_sem, recoverD, hu, Tryz.ntmps83, Exit.thenS]
  apply wpS_seq
  apply wpS_seq
  apply wpS_region
  simp [wpOpsS, go_sem, Exit.thenS, heq]
  refine wpS_cond (t := false) (by simp [Act.eval, Array.replicate]) ?_
  simp only [Bool.false_eq_true, if_false]
  refine wpS_of_wp (wp_skip ?_)
  apply wpS_seq
  apply wpS_region
  simp [wpOpsS, go_sem, Exit.thenS, hta]
  apply wpS_seq
  apply wpS_seq
  apply wpS_region
  simp [wpOpsS, go_sem, Exit.thenS]
  refine wpS_cond (t := false) (by simp [Act.eval, Array.replicate]) ?_
  simp only [Bool.false_eq_true, if_false]
  refine wpS_of_wp (wp_skip ?_)
  apply wpS_region
  simp [wpOpsS, go_sem, hc, hz, bodyPostS, results, Tryz.results83]

theorem catch_idle (p : Addr) (w : World) :
    CallsD Tryz.prog 83 #[.pointer (some p)] .returning w fun e u' w' => e = .returned (.tuple #[]) ∧ u' = .returning ∧ w' = w := by
  have heq : ∀ w, (binOp .eql 20 .nilIface .nilIface).run Tryz.prog w = .ok (.bool true) w := fun w => by kernel_rfl
  refine callsD_of_wpS Tryz.func83 rfl fun c₀ cs hu => ?_
  apply wpS_seq
  apply wpS_region
  simp [wpOpsS, go_sem, recoverD, hu, Tryz.ntmps83, Exit.thenS]
  apply wpS_seq
  apply wpS_seq
  apply wpS_region
  simp [wpOpsS, go_sem, Exit.thenS, heq]
  refine wpS_cond (t := true) (by simp [Act.eval, Array.replicate]) ?_
  simp only [if_true]
  refine wpS_of_wp (wp_ret ?_)
  cases c₀
  simp_all [bodyPostS, results, Tryz.results83, Exit.thenS]

/-- what the reading closure comes to: the items lie in its variable, or a fault leaves it -/
def ReadOut (w : World) (b : Nat) (x : Except Int (List E)) (e : Ending) (w' : World) : Prop :=
  w.grownBy w' (some b) ∧ match x with
    | .ok es => e = .returned (.tuple #[]) ∧ ∃ g, w'.heap[b]? = some (.cells #[.slice (some ⟨g, 0, none⟩) es.length es.length] 33 (0, 0)) ∧ RowAt w' g es ∧ w.heap.size ≤ g ∧ ∀ x ∈ es, x.wf
    | .error c => e = .panicked (fault c) ∧ w'.heap[b]? = w.heap[b]?

theorem grown_fresh' {w w1 w' : World} (h : w.grownBy w1 none) (k : w1.grownBy w' (some w.heap.size)) : w.grownBy w' none :=
  ⟨k.os.trans h.os, k.tape.trans h.tape, k.output.trans h.output, Nat.le_trans h.size k.size, fun x hx _ => (k.block x (by have := h.size; omega) (by simp; omega)).trans (h.block x hx (by simp))⟩

set_option maxRecDepth 100000 in
set_option maxHeartbeats 1000000 in
theorem read_any (w : World) (a b : Nat) (s : ByteArray) (ha : w.heap[a]? = some (.cells #[.string s] 9 (0, 0))) (hb : w.heap[b]? = some (.cells #[.slice none 0 0] 33 (0, 0))) (hs : s.size ≤ 281474976710656) :
    Calls Tryz.prog 42 #[.pointer (some ⟨a, 0, none⟩), .pointer (some ⟨b, 0, none⟩)] w fun e w' => ReadOut w b (BK.getOut s.data.toList) e w' := by
  have hbl : b < w.heap.size := (Array.getElem?_eq_some_iff.1 hb).1
  have ca : w.cell? ⟨a, 0, none⟩ = some (.string s) := cell_of_row _ _ _ _ _ _ ha
  have hg0 := grown_alloc w (.cells #[.string s, .int .i64 0] 84) none
  have hr0 : RdAt (w.alloc (.cells #[.string s, .int .i64 0] 84)) w.heap.size s 0 := heap_alloc_new w _
  have HI := Lib.hid (items_any _ w.heap.size s hr0 hs)
  have HG0 := Lib.hid hg0
  have HB := Lib.hid hb
  have HBL := Lib.hid hbl
  clear ha hb hg0 hr0 hbl
  cases hx : BK.getOut s.data.toList with
  | error c =>
    rw [hx] at HI
    clear hx
    go_enter Tryz.func42, Tryz.ntmps42
    go_wp2_with fail
    refine HI.out.mono ?_
    rintro e w1 ⟨hg, rfl⟩
    have hn := grown_fresh' HG0.out hg
    exact ⟨rfl, grown_r hn, rfl, hn.block b HBL.out (by simp)⟩
  | ok es =>
    rw [hx] at HI
    clear hx
    go_enter Tryz.func42, Tryz.ntmps42
    go_wp2_with fail
    refine HI.out.mono ?_
    rintro e w1 ⟨hg, g, rfl, hrow, hgs, hwf⟩
    have hn := grown_fresh' HG0.out hg
    have hb1 := (hn.block b HBL.out (by simp)).trans HB.out
    have hgs' : w.heap.size + 1 ≤ g := by simpa using hgs
    have HRES : Hid (ReadOut w b (.ok es) (.returned (.tuple #[])) (w1.setCell ⟨b, 0, none⟩ (.slice (some ⟨g, 0, none⟩) es.length es.length))) := Lib.hid
      ⟨grown_set (grown_r hn) 0 _, rfl, g, heap_set_fr hb1 0 _, (Below.heap_setCell _ _ _ _ (by have := HBL.out; simp; omega)).trans hrow, by omega, hwf⟩
    have c1 : w1.cell? ⟨b, 0, none⟩ = some (.slice none 0 0) := cell_of_row _ _ _ _ _ _ hb1
    have f1 : w1.frozen? ⟨b, 0, none⟩ = false := frozen_of_row _ _ _ _ _ hb1
    clear hg hrow hgs hgs' hwf hn hb1 HI
    go_wp2
    go_end0
    exact HRES.out

set_option maxRecDepth 100000 in
set_option maxHeartbeats 1000000 in
/-- caught, of the reading closure -/
theorem caught_any (w : World) (a b : Nat) (s : ByteArray) (ha : w.heap[a]? = some (.cells #[.string s] 9 (0, 0))) (hb : w.heap[b]? = some (.cells #[.slice none 0 0] 33 (0, 0))) (hs : s.size ≤ 281474976710656) :
    Calls Tryz.prog 41 #[.func (.func 42) #[] #[.pointer (some ⟨a, 0, none⟩), .pointer (some ⟨b, 0, none⟩)]] w fun e w' =>
      w.grownBy w' (some b) ∧ match BK.getOut s.data.toList with
        | .ok es => e = .returned (.int .i64 0) ∧ ∃ g, w'.heap[b]? = some (.cells #[.slice (some ⟨g, 0, none⟩) es.length es.length] 33 (0, 0)) ∧ RowAt w' g es ∧ w.heap.size ≤ g ∧ ∀ x ∈ es, x.wf
        | .error c => e = .returned (.int .i64 c) ∧ w'.heap[b]? = w.heap[b]? := by
  have hmf : ∀ (fn : Fn) (first cap : Array Value) (w : World), (Instr.makeFunc fn first cap).run Tryz.prog w = .ok (.func fn first cap) w := fun _ _ _ _ => rfl
  have hbl : b < w.heap.size := (Array.getElem?_eq_some_iff.1 hb).1
  have hal : a < w.heap.size := (Array.getElem?_eq_some_iff.1 ha).1
  have HR := Lib.hid (read_any (w.alloc (.cells #[.int .i64 0] 28)) a b s ((Below.heap_alloc _ _ _ hal).trans ha) ((Below.heap_alloc _ _ _ hbl).trans hb) hs)
  have HNEW := Lib.hid (heap_alloc_new w (.cells #[.int .i64 0] 28))
  have HG0 := Lib.hid (grown_alloc w (.cells #[.int .i64 0] 28) (some b))
  have HOLD := Lib.hid (Below.heap_alloc w (.cells #[.int .i64 0] 28) b hbl)
  have HBL := Lib.hid hbl
  clear ha hb hal hbl
  cases hx : BK.getOut s.data.toList with
  | error c =>
    rw [hx] at HR
    clear hx
    go_enter_defers Tryz.func41, Tryz.ntmps41
    go_wp2_with fail
    refine HR.out.mono ?_
    rintro e w1 ⟨hg, rfl, hbk⟩
    obtain ⟨x, hx⟩ : ∃ x, w.heap.size = x := ⟨_, rfl⟩
    have hrow : w1.heap[x]? = some (.cells #[.int .i64 0] 28 (0, 0)) := by
      rw [← hx]
      exact (hg.block w.heap.size (by simp) (by have := HBL.out; simp; omega)).trans HNEW.out
    have hrd : (w1.setCell ⟨x, 0, none⟩ (.int .i64 c)).cell? ⟨x, 0, none⟩ = some (.int .i64 c) := cell_of_row _ _ _ _ _ _ (heap_set_fr hrow 0 (.int .i64 c))
    have hgr : w.grownBy (w1.setCell ⟨x, 0, none⟩ (.int .i64 c)) (some b) := grown_new (grown_trans HG0.out hg) _ _ _ (by omega)
    have hbb : (w1.setCell ⟨x, 0, none⟩ (.int .i64 c)).heap[b]? = w.heap[b]? := (Below.heap_setCell _ _ _ _ (by have := HBL.out; simp; omega)).trans (hbk.trans HOLD.out)
    rw [hx]
    refine leaves_cons (f := 83) (args := #[.pointer (some ⟨x, 0, none⟩)]) (by simp) (by simp [go_sem]) ?_
    refine (catch_fault ⟨x, 0, none⟩ c _ (cell_of_row _ _ _ _ _ _ hrow) (frozen_of_row _ _ _ _ _ hrow)).mono ?_
    rintro e u' w'' ⟨rfl, rfl, rfl⟩
    generalize w1.setCell ⟨x, 0, none⟩ (.int .i64 c) = w2 at hrd hgr hbb ⊢
    simp [Leaves, settle, results, Tryz.results41, go_sem, hrd, hgr, hbb]
  | ok es =>
    rw [hx] at HR
    clear hx
    go_enter_defers Tryz.func41, Tryz.ntmps41
    go_wp2_with fail
    refine HR.out.mono ?_
    rintro e w1 ⟨hg, rfl, g, hbk, hrw, hgs, hwf⟩
    obtain ⟨x, hx⟩ : ∃ x, w.heap.size = x := ⟨_, rfl⟩
    have hrow : w1.heap[x]? = some (.cells #[.int .i64 0] 28 (0, 0)) := by
      rw [← hx]
      exact (hg.block w.heap.size (by simp) (by have := HBL.out; simp; omega)).trans HNEW.out
    have hc : w1.cell? ⟨x, 0, none⟩ = some (.int .i64 0) := cell_of_row _ _ _ _ _ _ hrow
    have hf : w1.frozen? ⟨x, 0, none⟩ = false := frozen_of_row _ _ _ _ _ hrow
    have hrd : (w1.setCell ⟨x, 0, none⟩ (.int .i64 0)).cell? ⟨x, 0, none⟩ = some (.int .i64 0) := cell_of_row _ _ _ _ _ _ (heap_set_fr hrow 0 (.int .i64 0))
    have hgr : w.grownBy (w1.setCell ⟨x, 0, none⟩ (.int .i64 0)) (some b) := grown_new (grown_trans HG0.out hg) _ _ _ (by omega)
    have hgx : w.heap.size + 1 ≤ g := by simpa using hgs
    have hbb : (w1.setCell ⟨x, 0, none⟩ (.int .i64 0)).heap[b]? = some (.cells #[.slice (some ⟨g, 0, none⟩) es.length es.length] 33 (0, 0)) := (Below.heap_setCell _ _ _ _ (by have := HBL.out; simp; omega)).trans hbk
    have hrr : RowAt (w1.setCell ⟨x, 0, none⟩ (.int .i64 0)) g es := (Below.heap_setCell _ _ _ _ (by simp; omega)).trans hrw
    have HALL : Hid (w.grownBy (w1.setCell ⟨x, 0, none⟩ (.int .i64 0)) (some b) ∧ ∃ g, (w1.setCell ⟨x, 0, none⟩ (.int .i64 0)).heap[b]? = some (.cells #[.slice (some ⟨g, 0, none⟩) es.length es.length] 33 (0, 0)) ∧ RowAt (w1.setCell ⟨x, 0, none⟩ (.int .i64 0)) g es ∧ w.heap.size ≤ g ∧ ∀ x ∈ es, x.wf) := Lib.hid ⟨hgr, g, hbb, hrr, by omega, hwf⟩
    have HRD := Lib.hid hrd
    rw [hx]
    clear hg hbk hrw hgs hwf hgr hgx hbb hrr hrow hrd
    go_wp2
    refine leaves_cons (f := 83) (args := #[.pointer (some ⟨x, 0, none⟩)]) (by simp) (by simp [go_sem]) ?_
    refine (catch_idle ⟨x, 0, none⟩ _).mono ?_
    rintro e u' w'' ⟨rfl, rfl, rfl⟩
    have hrd := HRD.out
    have hall := HALL.out
    generalize w1.setCell ⟨x, 0, none⟩ (.int .i64 0) = w2 at hrd hall ⊢
    simp only [Leaves, settle]
    exact ⟨_, by simp [results, Tryz.results41, go_sem, hrd], hall.1, rfl, hall.2⟩
end Go.Proofs.YtjkofciohehgfaaGreatDoor.L7


/- batch.Get, whole. -/
namespace Go.Proofs.YtjkofciohehgfaaGreatDoor.L7
open Go.RowKit
open SK

namespace BK
/-- the items that Get tells, and its error -/
def getL (l : List UInt8) : List E := match getOut l with | .ok es => es | .error _ => []
def getC (l : List UInt8) : Int := match getOut l with | .ok _ => 0 | .error c => c

theorem getC_ok {l : List UInt8} {es : List E} (h : getOut l = .ok es) : getC l = 0 ∧ getL l = es := by unfold getC getL; rw [h]; exact ⟨rfl, rfl⟩
theorem getC_err {l : List UInt8} {c : Int} (h : getOut l = .error c) : getC l = c ∧ getL l = [] := by unfold getC getL; rw [h]; exact ⟨rfl, rfl⟩
end BK

set_option maxRecDepth 100000 in
set_option maxHeartbeats 1000000 in
theorem bget_any (s : ByteArray) (w : World) (hs : s.size ≤ 281474976710656) :
    Calls Tryz.prog 13 #[.string s] w fun e w' => ∃ A c, e = .returned (.tuple #[.slice A (BK.getL s.data.toList).length c, .int .i64 (BK.getC s.data.toList)]) ∧ EntsIn w' A (BK.getL s.data.toList) ∧ (∀ x ∈ fb A, w.heap.size ≤ x ∧ x < w'.heap.size) ∧ Below w.heap.size w w' := by
  have hmf : ∀ (fn : Fn) (first cap : Array Value) (w : World), (Instr.makeFunc fn first cap).run Tryz.prog w = .ok (.func fn first cap) w := fun _ _ _ _ => rfl
  have ha : ((w.alloc (.cells #[.string s] 9)).alloc (.cells #[.slice none 0 0] 33)).heap[w.heap.size]? = some (.cells #[.string s] 9 (0, 0)) := (Below.heap_alloc _ _ _ (by simp)).trans (heap_alloc_new w _)
  have hb : ((w.alloc (.cells #[.string s] 9)).alloc (.cells #[.slice none 0 0] 33)).heap[w.heap.size + 1]? = some (.cells #[.slice none 0 0] 33 (0, 0)) := by
    have := heap_alloc_new (w.alloc (.cells #[.string s] 9)) (.cells #[.slice none 0 0] 33)
    simpa using this
  have HG0 : Hid (Below w.heap.size w ((w.alloc (.cells #[.string s] 9)).alloc (.cells #[.slice none 0 0] 33))) := Lib.hid (((Below.refl _ w).alloc (Nat.le_refl _) _).alloc (by simp) _)
  have HS0 : Hid (((w.alloc (.cells #[.string s] 9)).alloc (.cells #[.slice none 0 0] 33)).heap.size = w.heap.size + 2) := Lib.hid (by simp)
  have HC := Lib.hid (caught_any _ w.heap.size (w.heap.size + 1) s ha hb hs)
  have HB := Lib.hid hb
  obtain ⟨L, hL⟩ : ∃ L, BK.getL s.data.toList = L := ⟨_, rfl⟩
  obtain ⟨C, hC⟩ : ∃ C, BK.getC s.data.toList = C := ⟨_, rfl⟩
  rw [hL, hC]
  have HLL := Lib.hid hL
  have HCC := Lib.hid hC
  clear ha hb hL hC
  cases hx : BK.getOut s.data.toList with
  | error c =>
    obtain ⟨h1, h2⟩ := BK.getC_err hx
    have HC2 : Hid (C = c) := Lib.hid (by rw [← HCC.out, h1])
    have HL2 : Hid (L = []) := Lib.hid (by rw [← HLL.out, h2])
    rw [hx] at HC
    clear hx h1 h2
    go_enter Tryz.func13, Tryz.ntmps13
    go_wp2_with fail
    generalize (w.alloc (.cells #[.string s] 9)).alloc (.cells #[.slice none 0 0] 33) = w0 at HG0 HS0 HC HB ⊢
    refine HC.out.mono ?_
    rintro e w1 ⟨hg, rfl, hbk⟩
    have hrow := hbk.trans HB.out
    have c1 : w1.cell? ⟨w.heap.size + 1, 0, none⟩ = some (.slice none 0 0) := cell_of_row _ _ _ _ _ _ hrow
    have HBEL : Hid (Below w.heap.size w w1) := Lib.hid (HG0.out.trans ⟨hg.os, hg.tape, hg.output, hg.size, fun k hk => hg.block k (by have := HS0.out; omega) (by simp; omega)⟩)
    clear hg hbk hrow
    go_wp2
    go_ret2
    refine ⟨none, 0, ?_, ?_, by simp [fb], HBEL.out⟩
    · rw [HC2.out, HL2.out]; rfl
    · rw [HL2.out]; exact ⟨by simp, by simp⟩
  | ok es =>
    obtain ⟨h1, h2⟩ := BK.getC_ok hx
    have HC2 : Hid (C = 0) := Lib.hid (by rw [← HCC.out, h1])
    have HL2 : Hid (L = es) := Lib.hid (by rw [← HLL.out, h2])
    rw [hx] at HC
    clear hx h1 h2
    go_enter Tryz.func13, Tryz.ntmps13
    go_wp2_with fail
    generalize (w.alloc (.cells #[.string s] 9)).alloc (.cells #[.slice none 0 0] 33) = w0 at HG0 HS0 HC HB ⊢
    refine HC.out.mono ?_
    rintro e w1 ⟨hg, rfl, g, hrow, hrw, hgs, hwf⟩
    have c1 : w1.cell? ⟨w.heap.size + 1, 0, none⟩ = some (.slice (some ⟨g, 0, none⟩) es.length es.length) := cell_of_row _ _ _ _ _ _ hrow
    have HBEL : Hid (Below w.heap.size w w1) := Lib.hid (HG0.out.trans ⟨hg.os, hg.tape, hg.output, hg.size, fun k hk => hg.block k (by have := HS0.out; omega) (by simp; omega)⟩)
    have HEN := Lib.hid (hrw.ents hwf)
    have HGL : Hid (w.heap.size ≤ g ∧ g < w1.heap.size) := Lib.hid ⟨by have := HS0.out; omega, hrw.lt⟩
    clear hg hrow hrw hgs hwf
    go_wp2
    go_ret2
    refine ⟨some ⟨g, 0, none⟩, es.length, ?_, ?_, by simp only [fb, List.mem_singleton, forall_eq]; exact HGL.out, HBEL.out⟩
    · rw [HC2.out, HL2.out]; rfl
    · rw [HL2.out]; exact HEN.out
end Go.Proofs.YtjkofciohehgfaaGreatDoor.L7


