/- The walks of putNumber, putText. -/
import Derived.Test.YtnkofinielabkaaKit
import Derived.Test.YtnkofinielabkaaKmB
namespace Go.Proofs.Ytnkofinielabkaa
open Go.RowKit

/-- what a function that puts bytes behind comes to -/
def PutOut (base : Nat) (l x : List UInt8) (w : World) (e : Ending) (w' : World) : Prop :=
  ∃ v', e = .returned v' ∧ w'.ownsRow base 5 1 v' (l ++ x).length (Lib.byteCells (l ++ x)) ∧ Below base w w'

def PutRel (base : Nat) (l : List UInt8) (f : Nat → List UInt8) (w : World) (b i : Value) (wr : World) : Prop :=
  ∃ k : Nat, i = .int .i64 k ∧ wr.ownsRow base 5 1 b (l ++ f k).length (Lib.byteCells (l ++ f k)) ∧ Below base w wr

/-- append of bytes of a literal, one step of a walk -/
theorem put_step {base : Nat} {w wr w2 : World} {v v2 : Value} {l x : List UInt8} {cs : Array Value} (hown : wr.ownsRow base 5 1 v l.length (Lib.byteCells l)) (hB : Below base w wr) (hb : base ≤ w.heap.size)
    (hown2 : w2.ownsRow base 5 1 v2 (l.length + x.length) (Lib.byteCells l ++ Lib.byteCells x)) (hgrow : (wr.alloc (.cells cs 5)).grownBy w2 v.ownBlock) :
    w2.ownsRow base 5 1 v2 (l ++ x).length (Lib.byteCells (l ++ x)) ∧ Below base w w2 := by
  have hs := hB.size
  refine ⟨?_, (hB.alloc (by omega) _).grown hgrow (by simp; omega) (fun g hg => (hown.lt g hg).1)⟩
  rw [List.length_append, Lib.byteCells_append]
  exact hown2

set_option maxRecDepth 100000 in
theorem putNumber_any (base : Nat) (v : Value) (l : List UInt8) (n : Int) (w : World) (hown : w.ownsRow base 5 1 v l.length (Lib.byteCells l)) (hb : base ≤ w.heap.size) (hl : l.length ≤ 1048576)
    (h0 : -9223372036854775808 ≤ n) (h1 : n ≤ 9223372036854775807) :
    Calls Try.prog 18 #[v, .int .i64 n] w fun e w' => PutOut base l (1 :: KM.beTo (KM.up n) 8) w e w' := by
  obtain ⟨i0, hi, hz0, hz1, hz2⟩ := info_parts info_u8
  have HOWN := Lib.hid hown
  clear hown
  have hux := KM.up_xor h0 h1
  have hul := KM.up_lt h0 h1
  obtain ⟨U, hU⟩ : ∃ U, KM.up n = U := ⟨_, rfl⟩
  rw [hU] at hul hux ⊢
  clear hU
  go_enter Try.func18, Try.ntmps18
  go_wp2_with (at_builtin; refine wpList_append_own _ rfl _ _ 49 rfl base 5 i0 (.int .u8 0) 1 1 Try.underlying49 hi hz0 hz1 hz2 rfl (by decide) _ _ _ rfl (own_below HOWN.out ((Below.refl _ _).alloc (Nat.le_refl _) _)) ⟨w.heap.size, 0, none⟩ 1 1 (Lib.byteCells [1]) rfl ?c1 ?c2 ?c3 ?c4 ?c5 ?c6 ?_)
  case c1 => rfl
  case c2 => exact bytes_lit w [1] _ rfl
  case c3 => exact Lib.byteCells_one _
  case c4 => unfold maxLen; omega
  case c5 => omega
  case c6 => simp; omega
  intro v1 w1 hown1 hgrow hnil
  clear hnil
  have hB1 : Below base w w1 := ((Below.refl _ _).alloc hb _).grown hgrow (by simp; omega) (fun g hg => (HOWN.out.lt g hg).1)
  have hw1 := hB1.size
  have HB1 := Lib.hid hB1
  have HO1 := Lib.hid hown1
  clear hown1 hgrow hB1
  go_wp2_with fail
  go_loopw [0, 13] (fun b i wr => ∃ k : Nat, k ≤ 8 ∧ i = .int .i64 k ∧ wr.ownsRow base 5 1 b (l ++ 1 :: KM.beTo U k).length (Lib.byteCells (l ++ 1 :: KM.beTo U k)) ∧ Below base w wr) (fun _ i _ => 8 - (intOf i).toNat)
  case atStart => exact ⟨0, by omega, rfl, by simpa [Lib.byteCells, KM.beTo] using HO1.out, HB1.out⟩
  case round =>
    obtain ⟨k, hk, rfl, hown, hB⟩ := hrel
    have hll : (l ++ 1 :: KM.beTo U k).length ≤ 1048590 := by simp only [List.length_append, List.length_cons, KM.beTo_len]; omega
    obtain ⟨L, hL⟩ : ∃ L, l ++ 1 :: KM.beTo U k = L := ⟨_, rfl⟩
    rw [hL] at hown hll
    have HL := Lib.hid hL
    have HOWN2 := Lib.hid hown
    have hBs := hB.size
    have HB := Lib.hid hB
    clear hown hB hL
    by_cases hlt : k < 8
    · have hx := KM.byteAt_int U k
      have hsucc := KM.beTo_succ U k
      obtain ⟨c, hc⟩ : ∃ c, KM.byteAt U k = c := ⟨_, rfl⟩
      rw [hc] at hx hsucc
      have HSU := Lib.hid hsucc
      clear hc hsucc
      go_wp2_with (at_builtin; refine wpList_append_own _ rfl _ _ 49 rfl base 5 i0 (.int .u8 0) 1 1 Try.underlying49 hi hz0 hz1 hz2 rfl (by decide) _ _ _ rfl (own_below HOWN2.out ((Below.refl _ _).alloc (Nat.le_refl _) _)) ⟨wr.heap.size, 0, none⟩ 1 1 (Lib.byteCells [c]) rfl ?c1 ?c2 ?c3 ?c4 ?c5 ?c6 ?_)
      case c1 => rfl
      case c2 => exact bytes_lit wr [c] _ rfl
      case c3 => exact Lib.byteCells_one _
      case c4 => unfold maxLen; omega
      case c5 => omega
      case c6 => simp; omega
      intro v2 w2 hown2 hgrow hnil
      clear hnil hx
      obtain ⟨hown2', hB2⟩ := put_step HOWN2.out HB.out hb hown2 hgrow
      have HB2 := Lib.hid hB2
      have HR : Hid (w2.ownsRow base 5 1 v2 (l ++ 1 :: KM.beTo U (k + 1)).length (Lib.byteCells (l ++ 1 :: KM.beTo U (k + 1)))) := by
        rw [HSU.out, ← List.cons_append, ← List.append_assoc, HL.out]
        exact hown2'
      clear hown2 hgrow hown2' hB2
      go_wp2
      go_roundw
      case rel => exact ⟨k + 1, by omega, by go_num, HR.out, HB2.out⟩
      case measure => simp [intOf]; omega
    · obtain rfl : k = 8 := by omega
      go_wp2
      go_ret
      exact ⟨_, rfl, by rw [HL.out]; exact HOWN2.out, HB.out⟩

set_option maxRecDepth 100000 in
theorem putText_any (base : Nat) (v : Value) (l : List UInt8) (s : ByteArray) (w : World) (hown : w.ownsRow base 5 1 v l.length (Lib.byteCells l)) (hb : base ≤ w.heap.size) (hl : l.length ≤ 1048576) (hs : s.size ≤ 4096) :
    Calls Try.prog 19 #[v, .string s] w fun e w' => PutOut base l (2 :: (KM.esc s.data.toList ++ [0, 1])) w e w' := by
  obtain ⟨i0, hi, hz0, hz1, hz2⟩ := info_parts info_u8
  have HOWN := Lib.hid hown
  have HSL := Lib.hid (size_list s)
  clear hown
  go_enter Try.func19, Try.ntmps19
  go_wp2_with (at_builtin; refine wpList_append_own _ rfl _ _ 49 rfl base 5 i0 (.int .u8 0) 1 1 Try.underlying49 hi hz0 hz1 hz2 rfl (by decide) _ _ _ rfl (own_below HOWN.out ((Below.refl _ _).alloc (Nat.le_refl _) _)) ⟨w.heap.size, 0, none⟩ 1 1 (Lib.byteCells [2]) rfl ?c1 ?c2 ?c3 ?c4 ?c5 ?c6 ?_)
  case c1 => rfl
  case c2 => exact bytes_lit w [2] _ rfl
  case c3 => exact Lib.byteCells_one _
  case c4 => unfold maxLen; omega
  case c5 => omega
  case c6 => simp; omega
  intro v1 w1 hown1 hgrow hnil
  obtain ⟨hown1', hB1⟩ := put_step HOWN.out (Below.refl base w) hb hown1 hgrow
  have hw1 := hB1.size
  have HB1 := Lib.hid hB1
  have HO1 := Lib.hid hown1'
  clear hown1 hgrow hB1 hown1' hnil
  go_wp2_with fail
  go_loopw [0, 11] (fun b i wr => ∃ k : Nat, k ≤ s.size ∧ i = .int .i64 k ∧ wr.ownsRow base 5 1 b ((l ++ [2]) ++ KM.esc (s.data.toList.take k)).length (Lib.byteCells ((l ++ [2]) ++ KM.esc (s.data.toList.take k))) ∧ Below base w wr) (fun _ i _ => s.size - (intOf i).toNat)
  case atStart => exact ⟨0, by omega, rfl, by simpa [KM.esc] using HO1.out, HB1.out⟩
  case round =>
    obtain ⟨k, hk, rfl, hown, hB⟩ := hrel
    have hel := KM.esc_len (s.data.toList.take k)
    have htl : (s.data.toList.take k).length ≤ k := List.length_take_le _ _
    have hll : ((l ++ [2]) ++ KM.esc (s.data.toList.take k)).length ≤ 1060000 := by simp only [List.length_append, List.length_singleton]; omega
    obtain ⟨L, hL⟩ : ∃ L, (l ++ [2]) ++ KM.esc (s.data.toList.take k) = L := ⟨_, rfl⟩
    rw [hL] at hown hll
    have HL := Lib.hid hL
    have HOWN2 := Lib.hid hown
    have hBs := hB.size
    have HB := Lib.hid hB
    clear hown hB hel htl hL
    by_cases hlt : k < s.size
    · have HE := Lib.hid (KM.esc_take_succ s.data.toList k (by rw [HSL.out]; exact hlt))
      rw [byte_of s k hlt] at HE
      obtain ⟨c, hc⟩ : ∃ c, s[k] = c := ⟨_, rfl⟩
      rw [hc] at HE
      go_wp2_with (at_builtin; refine wpList_append_own _ rfl _ _ 49 rfl base 5 i0 (.int .u8 0) 1 1 Try.underlying49 hi hz0 hz1 hz2 rfl (by decide) _ _ _ rfl (own_below HOWN2.out ((Below.refl _ _).alloc (Nat.le_refl _) _)) ⟨wr.heap.size, 0, none⟩ 1 1 (Lib.byteCells [c]) rfl ?c1 ?c2 ?c3 ?c4 ?c5 ?c6 ?_)
      case c1 => rfl
      case c2 => exact bytes_lit wr [c] _ rfl
      case c3 => exact Lib.byteCells_one _
      case c4 => unfold maxLen; omega
      case c5 => omega
      case c6 => simp; omega
      intro v2 w2 hown2 hgrow hnil
      obtain ⟨hown2', hB2⟩ := put_step HOWN2.out HB.out hb hown2 hgrow
      have HO2 := Lib.hid hown2'
      have HB2 := Lib.hid hB2
      have hB2s := hB2.size
      clear hown2 hgrow hB2 hown2' hnil
      by_cases h0 : c = 0
      · have t0 : ((c.toNat : Int) == 0) = true := by rw [h0]; rfl
        rw [if_pos h0] at HE
        have hll2 : (L ++ [c]).length ≤ 1060001 := by simp; omega
        obtain ⟨L2, hL2⟩ : ∃ L2, L ++ [c] = L2 := ⟨_, rfl⟩
        rw [hL2] at HO2 hll2
        have HL2 := Lib.hid hL2
        have H0 := Lib.hid h0
        clear hL2 h0
        go_wp2_with (at_builtin; refine wpList_append_own _ rfl _ _ 49 rfl base 5 i0 (.int .u8 0) 1 1 Try.underlying49 hi hz0 hz1 hz2 rfl (by decide) _ _ _ rfl (own_below HO2.out ((Below.refl _ _).alloc (Nat.le_refl _) _)) ⟨w2.heap.size, 0, none⟩ 1 1 (Lib.byteCells [255]) rfl ?d1 ?d2 ?d3 ?d4 ?d5 ?d6 ?_)
        case d1 => rfl
        case d2 => exact bytes_lit w2 [255] _ rfl
        case d3 => exact Lib.byteCells_one _
        case d4 => unfold maxLen; omega
        case d5 => omega
        case d6 => simp; omega
        intro v3 w3 hown3 hgrow hnil
        obtain ⟨hown3', hB3⟩ := put_step HO2.out HB2.out hb hown3 hgrow
        have HB3 := Lib.hid hB3
        have HR : Hid (w3.ownsRow base 5 1 v3 ((l ++ [2]) ++ KM.esc (s.data.toList.take (k + 1))).length (Lib.byteCells ((l ++ [2]) ++ KM.esc (s.data.toList.take (k + 1))))) := by
          rw [HE.out, ← List.append_assoc, HL.out, show ([0, 255] : List UInt8) = [c] ++ [255] by rw [H0.out]; rfl, ← List.append_assoc, HL2.out]
          exact hown3'
        clear hown3 hgrow hown3' hB3 hnil
        go_wp2
        go_roundw
        case rel => exact ⟨k + 1, by omega, by go_num, HR.out, HB3.out⟩
        case measure => simp [intOf]; omega
      · have hne : c.toNat ≠ 0 := fun h => h0 (UInt8.toNat_inj.1 h)
        have t0 : ((c.toNat : Int) == 0) = false := beq_eq_false_iff_ne.2 (by omega)
        rw [if_neg h0] at HE
        have HR : Hid (w2.ownsRow base 5 1 v2 ((l ++ [2]) ++ KM.esc (s.data.toList.take (k + 1))).length (Lib.byteCells ((l ++ [2]) ++ KM.esc (s.data.toList.take (k + 1))))) := by
          rw [HE.out, ← List.append_assoc, HL.out]
          exact HO2.out
        go_wp2
        go_roundw
        case rel => exact ⟨k + 1, by omega, by go_num, HR.out, HB2.out⟩
        case measure => simp [intOf]; omega
    · have htk : s.data.toList.take k = s.data.toList := List.take_of_length_le (by rw [HSL.out]; omega)
      rw [htk] at HL
      clear htk
      go_wp2_with (at_builtin; refine wpList_append_own _ rfl _ _ 49 rfl base 5 i0 (.int .u8 0) 1 1 Try.underlying49 hi hz0 hz1 hz2 rfl (by decide) _ _ _ rfl (own_below HOWN2.out ((Below.refl _ _).alloc (Nat.le_refl _) _)) ⟨wr.heap.size, 0, none⟩ 2 2 (Lib.byteCells [0, 1]) rfl ?e1 ?e2 ?e3 ?e4 ?e5 ?e6 ?_)
      case e1 => rfl
      case e2 => exact bytes_lit wr [0, 1] _ rfl
      case e3 => exact Lib.byteCells_one _
      case e4 => unfold maxLen; omega
      case e5 => omega
      case e6 => simp; omega
      intro v2 w2 hown2 hgrow hnil
      obtain ⟨hown2', hB2⟩ := put_step HOWN2.out HB.out hb hown2 hgrow
      have HO2 := Lib.hid hown2'
      have HB2 := Lib.hid hB2
      clear hown2 hgrow hB2 hown2' hnil
      go_wp2
      go_ret
      refine ⟨_, rfl, ?_, HB2.out⟩
      rw [← HL.out] at HO2
      simpa using HO2.out
end Go.Proofs.Ytnkofinielabkaa
