/- The walks of the document's One and Make. -/
import Derived.Test.YtnkofinielabkaaClone
namespace Go.Proofs.Ytnkofinielabkaa
open Go.RowKit

/-- the last k of eight bytes -/
def beTail (v k : Nat) : List UInt8 := (KM.beTo v 8).drop (8 - k)

theorem byteAt_mod (U k : Nat) (_hk : k < 8) : (U / 256 ^ k % 256).toUInt8 = KM.byteAt U (7 - k) := by
  unfold KM.byteAt
  rw [show 7 - (7 - k) = k by omega]
  apply UInt8.toNat_inj.1
  simp only [Nat.toUInt8, UInt8.toNat_ofNat']
  omega

theorem beTail_succ (v k : Nat) (hk : k < 8) : beTail v (k + 1) = KM.byteAt v (7 - k) :: beTail v k := by
  unfold beTail
  rw [List.drop_eq_getElem_cons (by rw [KM.beTo_len]; omega)]
  rw [show 8 - (k + 1) + 1 = 8 - k by omega]
  congr 1
  simp [KM.beTo]

theorem beTail_len (v k : Nat) (hk : k ≤ 8) : (beTail v k).length = k := by
  unfold beTail
  rw [List.length_drop, KM.beTo_len]; omega

/-- a new slice of one byte, as a text -/
theorem byte_string (W : World) (c : UInt8) (x : Int) (hx : (c.toNat : Int) = x) (cap : Nat) : (convert 49 9 (.slice (some ⟨W.heap.size, 0, none⟩) 1 cap)).run Try.prog (W.alloc (.cells #[.int .u8 x] 5)) = .ok (.string ⟨#[c]⟩) (W.alloc (.cells #[.int .u8 x] 5)) := by
  have h := Lib.run_convert_whole (P := Try.prog) (W.alloc (.cells #[.int .u8 x] 5)) 49 5 9 Try.underlying49 Try.underlying5 Try.underlying9 W.heap.size 0 ⟨#[c]⟩ ?_ cap
  · exact h
  · intro i hi
    have hi' : i = 0 := by simp [ByteArray.size] at hi; omega
    subst hi'
    rw [cell_of_row _ _ _ _ _ _ (heap_alloc_new W _)]
    subst hx
    rfl

theorem up_wrap {n : Int} (h0 : -9223372036854775808 ≤ n) (h1 : n ≤ 9223372036854775807) : IntKind.u64.wrap (IntKind.u64.wrap n + 9223372036854775808) = ((KM.up n : Nat) : Int) := by
  rw [IntKind.wrap_u64, IntKind.wrap_u64]
  unfold KM.up
  omega

set_option maxRecDepth 100000 in
theorem one_num (n : Int) (s : ByteArray) (w : World) (h0 : -9223372036854775808 ≤ n) (h1 : n ≤ 9223372036854775807) :
    Calls Try.prog 20 #[.agg #[.bool false, .int .i64 n, .string s]] w fun e w' => e = .returned (.string ⟨(1 :: KM.beTo (KM.up n) 8).toArray⟩) ∧ Below w.heap.size w w' := by
  have hux := up_wrap h0 h1
  have hul := KM.up_lt h0 h1
  obtain ⟨U, hU⟩ : ∃ U, KM.up n = U := ⟨_, rfl⟩
  rw [hU] at hul hux ⊢
  clear hU
  go_enter Try.func20, Try.ntmps20
  go_wp2_with fail
  go_loopw [3, 4, 5] (fun u s i wr => ∃ k V : Nat, k ≤ 8 ∧ i = .int .i64 k ∧ u = .int .u64 V ∧ Hid (V = U / 256 ^ k) ∧ V < 18446744073709551616 ∧ s = .string ⟨(beTail U k).toArray⟩ ∧ Below w.heap.size w wr) (fun _ _ i _ => 8 - (intOf i).toNat)
  case atStart => exact ⟨0, U, by omega, rfl, rfl, by simp [Hid], hul, rfl, (Below.refl _ _).alloc (Nat.le_refl _) _⟩
  case round =>
    obtain ⟨k, V, hk, rfl, rfl, HV, hV, rfl, hB⟩ := hrel
    have hBs := hB.size
    by_cases hlt : k < 8
    · have hbm := byteAt_mod U k hlt
      rw [← HV.out] at hbm
      have hsc := beTail_succ U k hlt
      obtain ⟨c, hc⟩ : ∃ c, KM.byteAt U (7 - k) = c := ⟨_, rfl⟩
      rw [hc] at hbm hsc
      have hcv := byte_string wr c ((V : Int) % 256) (by rw [← hbm, byte_toNat _ (by omega)]; omega) 1
      have HS := Lib.hid hsc
      have HD : Hid (V / 256 = U / 256 ^ (k + 1)) := by rw [HV.out, Nat.div_div_eq_div_mul, Nat.pow_succ]; rfl
      have hd : V / 256 < 18446744073709551616 := by omega
      have hln := beTail_len U k (by omega)
      have hsz : (⟨(beTail U k).toArray⟩ : ByteArray).size ≤ 8 := by simp [ByteArray.size, hln]; omega
      have HR : Hid (((⟨#[c]⟩ : ByteArray) ++ ⟨(beTail U k).toArray⟩) = ⟨(beTail U (k + 1)).toArray⟩) := by
        rw [HS.out]; apply str_ext; simp
      obtain ⟨S, hS⟩ : ∃ S : ByteArray, (⟨(beTail U k).toArray⟩ : ByteArray) = S := ⟨_, rfl⟩
      rw [hS] at hsz HR
      rw [hS]
      clear hc hbm hsc hln hS
      go_wp2
      go_roundw
      case rel => exact ⟨k + 1, V / 256, by omega, by go_num, by go_num, HD, hd, by rw [HR.out], hB.alloc (by omega) _⟩
      case measure => simp [intOf]; omega
    · obtain rfl : k = 8 := by omega
      have HF : Hid (((⟨#[1]⟩ : ByteArray) ++ ⟨(beTail U 8).toArray⟩) = ⟨(1 :: KM.beTo U 8).toArray⟩) := by
        apply str_ext; simp [beTail]
      have hln := beTail_len U 8 (by omega)
      have hsz : (⟨(beTail U 8).toArray⟩ : ByteArray).size ≤ 8 := by simp [ByteArray.size, hln]
      obtain ⟨S, hS⟩ : ∃ S : ByteArray, (⟨(beTail U 8).toArray⟩ : ByteArray) = S := ⟨_, rfl⟩
      rw [hS] at HF hsz
      rw [hS]
      clear hS hln
      go_wp2
      go_ret
      exact ⟨by rw [← HF.out]; rfl, hB⟩

set_option maxRecDepth 100000 in
set_option maxHeartbeats 1000000 in
theorem one_text (n : Int) (s : ByteArray) (w : World) (hs : s.size ≤ 4096) :
    Calls Try.prog 20 #[.agg #[.bool true, .int .i64 n, .string s]] w fun e w' => e = .returned (.string ⟨(2 :: (KM.esc s.data.toList ++ [0, 1])).toArray⟩) ∧ Below w.heap.size w w' := by
  obtain ⟨i0, hi, hz0, hz1, hz2⟩ := info_parts info_u8
  have HSL := Lib.hid (size_list s)
  obtain ⟨W, hW⟩ : ∃ W : World, w.alloc (.cells #[.bool true, .int .i64 n, .string s] 48) = W := ⟨_, rfl⟩
  have hWs : W.heap.size = w.heap.size + 1 := by rw [← hW]; simp
  have hWB : Below w.heap.size w W := by rw [← hW]; exact (Below.refl _ _).alloc (Nat.le_refl _) _
  have hWc : W.cell? ⟨w.heap.size, 2, none⟩ = some (.string s) := by
    rw [← hW]; exact (cell_of_row _ _ _ _ _ _ (heap_alloc_new w _)).trans rfl
  have hWc0 : W.cell? ⟨w.heap.size, 0, none⟩ = some (.bool true) := by
    rw [← hW]; exact (cell_of_row _ _ _ _ _ _ (heap_alloc_new w _)).trans rfl
  have HWS := Lib.hid hWs
  have HWC := Lib.hid hWc
  have hWs1 : w.heap.size + 1 ≤ W.heap.size := by omega
  clear hWs hWc
  go_enter Try.func20, Try.ntmps20
  go_wp2_with fail
  have HW := Lib.hid hW
  obtain ⟨W2, hW2⟩ : ∃ W2, W.alloc (.cells #[.int .u8 2] 5) = W2 := ⟨_, rfl⟩
  have hown0 : W2.ownsRow (w.heap.size + 1) 5 1 (.slice (some ⟨W.heap.size, 0, none⟩) 1 1) ([2] : List UInt8).length (Lib.byteCells [2]) := by
    rw [← hW2]; exact World.ownsRow_lit W #[.int .u8 2] 1 hWs1 (by unfold maxLen; omega) rfl
  have hB0 : Below (w.heap.size + 1) W W2 := by rw [← hW2]; exact (Below.refl _ _).alloc hWs1 _
  have HO0 := Lib.hid hown0
  have HB0 := Lib.hid hB0
  clear hW hown0 hB0 hWc0
  go_loopw [6, 7] (fun b i wr => ∃ k : Nat, k ≤ s.size ∧ i = .int .i64 k ∧ wr.ownsRow (w.heap.size + 1) 5 1 b ([2] ++ KM.esc (s.data.toList.take k)).length (Lib.byteCells ([2] ++ KM.esc (s.data.toList.take k))) ∧ Below (w.heap.size + 1) W wr) (fun _ i _ => s.size - (intOf i).toNat)
  case atStart => exact ⟨0, by omega, rfl, by rw [hW2]; simpa [KM.esc] using HO0.out, by rw [hW2]; exact HB0.out⟩
  case round =>
    obtain ⟨k, hk, rfl, hown, hB⟩ := hrel
    have hcell : wr.cell? ⟨w.heap.size, 2, none⟩ = some (.string s) := (hB.cell (p := ⟨w.heap.size, 2, none⟩) (by simp)).trans HWC.out
    have hel := KM.esc_len (s.data.toList.take k)
    have htl : (s.data.toList.take k).length ≤ k := List.length_take_le _ _
    have hll : ([2] ++ KM.esc (s.data.toList.take k)).length ≤ 1060000 := by simp only [List.length_append, List.length_singleton]; omega
    obtain ⟨L, hL⟩ : ∃ L, [2] ++ KM.esc (s.data.toList.take k) = L := ⟨_, rfl⟩
    rw [hL] at hown hll
    have HL := Lib.hid hL
    have HOWN := Lib.hid hown
    have hBs := hB.size
    have HB := Lib.hid hB
    clear hown hB hel htl hL
    by_cases hlt : k < s.size
    · have HE := Lib.hid (KM.esc_take_succ s.data.toList k (by rw [HSL.out]; exact hlt))
      rw [byte_of s k hlt] at HE
      obtain ⟨c, hc⟩ : ∃ c, s[k] = c := ⟨_, rfl⟩
      rw [hc] at HE
      go_wp2_with (at_builtin; refine wpList_append_own _ rfl _ _ 49 rfl (w.heap.size + 1) 5 i0 (.int .u8 0) 1 1 Try.underlying49 hi hz0 hz1 hz2 rfl (by decide) _ _ _ rfl (own_below HOWN.out ((Below.refl _ _).alloc (Nat.le_refl _) _)) ⟨wr.heap.size, 0, none⟩ 1 1 (Lib.byteCells [c]) rfl ?c1 ?c2 ?c3 ?c4 ?c5 ?c6 ?_)
      case c1 => rfl
      case c2 => exact bytes_lit wr [c] _ rfl
      case c3 => exact Lib.byteCells_one _
      case c4 => unfold maxLen; omega
      case c5 => omega
      case c6 => simp; omega
      intro v2 w2 hown2 hgrow hnil
      obtain ⟨hown2', hB2⟩ := put_step HOWN.out HB.out hWs1 hown2 hgrow
      have hcell2 : w2.cell? ⟨w.heap.size, 2, none⟩ = some (.string s) := (hB2.cell (p := ⟨w.heap.size, 2, none⟩) (by simp)).trans HWC.out
      have HO2 := Lib.hid hown2'
      have HB2 := Lib.hid hB2
      have hB2s := hB2.size
      clear hown2 hgrow hB2 hown2' hnil
      by_cases h0 : c = 0
      · have t0 : ((c.toNat : Int) == 0) = true := by rw [h0]; rfl
        rw [if_pos h0] at HE
        have hll2 : (L ++ [c]).length ≤ 1060001 := by simp; omega
        obtain ⟨L2, hL2⟩ : ∃ L2, L ++ [c] = L2 := ⟨_, rfl⟩
        rw [hL2] at HO2 hll2
        have HL2 := Lib.hid hL2
        have H0 := Lib.hid h0
        clear hL2 h0
        go_wp2_with (at_builtin; refine wpList_append_own _ rfl _ _ 49 rfl (w.heap.size + 1) 5 i0 (.int .u8 0) 1 1 Try.underlying49 hi hz0 hz1 hz2 rfl (by decide) _ _ _ rfl (own_below HO2.out ((Below.refl _ _).alloc (Nat.le_refl _) _)) ⟨w2.heap.size, 0, none⟩ 1 1 (Lib.byteCells [255]) rfl ?d1 ?d2 ?d3 ?d4 ?d5 ?d6 ?_)
        case d1 => rfl
        case d2 => exact bytes_lit w2 [255] _ rfl
        case d3 => exact Lib.byteCells_one _
        case d4 => unfold maxLen; omega
        case d5 => omega
        case d6 => simp; omega
        intro v3 w3 hown3 hgrow hnil
        obtain ⟨hown3', hB3⟩ := put_step HO2.out HB2.out hWs1 hown3 hgrow
        have HB3 := Lib.hid hB3
        have HR : Hid (w3.ownsRow (w.heap.size + 1) 5 1 v3 ([2] ++ KM.esc (s.data.toList.take (k + 1))).length (Lib.byteCells ([2] ++ KM.esc (s.data.toList.take (k + 1))))) := by
          rw [HE.out, ← List.append_assoc, HL.out, show ([0, 255] : List UInt8) = [c] ++ [255] by rw [H0.out]; rfl, ← List.append_assoc, HL2.out]
          exact hown3'
        clear hown3 hgrow hown3' hB3 hnil
        go_wp2
        go_roundw
        case rel => exact ⟨k + 1, by omega, by go_num, HR.out, HB3.out⟩
        case measure => simp [intOf]; omega
      · have hne : c.toNat ≠ 0 := fun h => h0 (UInt8.toNat_inj.1 h)
        have t0 : ((c.toNat : Int) == 0) = false := beq_eq_false_iff_ne.2 (by omega)
        rw [if_neg h0] at HE
        have HR : Hid (w2.ownsRow (w.heap.size + 1) 5 1 v2 ([2] ++ KM.esc (s.data.toList.take (k + 1))).length (Lib.byteCells ([2] ++ KM.esc (s.data.toList.take (k + 1))))) := by
          rw [HE.out, ← List.append_assoc, HL.out]
          exact HO2.out
        go_wp2
        go_roundw
        case rel => exact ⟨k + 1, by omega, by go_num, HR.out, HB2.out⟩
        case measure => simp [intOf]; omega
    · have htk : s.data.toList.take k = s.data.toList := List.take_of_length_le (by rw [HSL.out]; omega)
      rw [htk] at HL
      clear htk
      go_wp2_with (at_builtin; refine wpList_append_own _ rfl _ _ 49 rfl (w.heap.size + 1) 5 i0 (.int .u8 0) 1 1 Try.underlying49 hi hz0 hz1 hz2 rfl (by decide) _ _ _ rfl (own_below HOWN.out ((Below.refl _ _).alloc (Nat.le_refl _) _)) ⟨wr.heap.size, 0, none⟩ 1 1 (Lib.byteCells [0]) rfl ?e1 ?e2 ?e3 ?e4 ?e5 ?e6 ?_)
      case e1 => rfl
      case e2 => exact bytes_lit wr [0] _ rfl
      case e3 => exact Lib.byteCells_one _
      case e4 => unfold maxLen; omega
      case e5 => omega
      case e6 => simp; omega
      intro v2 w2 hown2 hgrow hnil
      obtain ⟨hown2', hB2⟩ := put_step HOWN.out HB.out hWs1 hown2 hgrow
      have hll2 : (L ++ [0]).length ≤ 1060001 := by simp; omega
      obtain ⟨L2, hL2⟩ : ∃ L2, L ++ [0] = L2 := ⟨_, rfl⟩
      rw [hL2] at hown2' hll2
      have HL2 := Lib.hid hL2
      have HO2 := Lib.hid hown2'
      have HB2 := Lib.hid hB2
      have hB2s := hB2.size
      clear hown2 hgrow hB2 hown2' hnil hL2
      go_wp2_with (at_builtin; refine wpList_append_own _ rfl _ _ 49 rfl (w.heap.size + 1) 5 i0 (.int .u8 0) 1 1 Try.underlying49 hi hz0 hz1 hz2 rfl (by decide) _ _ _ rfl (own_below HO2.out ((Below.refl _ _).alloc (Nat.le_refl _) _)) ⟨w2.heap.size, 0, none⟩ 1 1 (Lib.byteCells [1]) rfl ?f1 ?f2 ?f3 ?f4 ?f5 ?f6 ?_)
      case f1 => rfl
      case f2 => exact bytes_lit w2 [1] _ rfl
      case f3 => exact Lib.byteCells_one _
      case f4 => unfold maxLen; omega
      case f5 => omega
      case f6 => simp; omega
      intro v3 w3 hown3 hgrow hnil
      obtain ⟨hown3', hB3⟩ := put_step HO2.out HB2.out hWs1 hown3 hgrow
      have hcv := own_string hown3'
      have HB3 := Lib.hid hB3
      have hR : L2 ++ [1] = 2 :: (KM.esc s.data.toList ++ [0, 1]) := by rw [← HL2.out, ← HL.out]; simp
      have HR := Lib.hid hR
      clear hown3 hgrow hown3' hB3 hnil hR
      go_wp2
      go_ret
      exact ⟨by rw [← HR.out]; rfl, hWB.trans (HB3.out.mono (by omega))⟩

theorem one_any (p : KM.KP) (w : World) (hr : -9223372036854775808 ≤ p.n ∧ p.n ≤ 9223372036854775807) (hb : KM.bad p = false) :
    Calls Try.prog 20 #[.agg #[.bool p.t, .int .i64 p.n, .string p.s]] w fun e w' => e = .returned (.string ⟨(KM.penc p).toArray⟩) ∧ Below w.heap.size w w' := by
  obtain ⟨t, n, s⟩ := p
  cases t with
  | false => exact one_num n s w hr.1 hr.2
  | true => exact one_text n s w (by simpa [KM.bad] using hb)

set_option maxRecDepth 100000 in
theorem rmake_any (A : Option Addr) (n cap : Nat) (l : List KM.KP) (w : World) (hn : l.length = n) (hz : PartsIn w w.heap.size A l) (hm : n ≤ 9223372036854775807) :
    Calls Try.prog 10 #[.slice A n cap] w fun e w' => e = .returned (.tuple #[.string ⟨(KM.mk l).1.toArray⟩, .int .i64 (KM.mk l).2]) ∧ Below w.heap.size w w' := by
  have HZ := Lib.hid hz
  have HN := Lib.hid hn
  clear hz hn
  by_cases h16 : 16 < n
  · have HO := Lib.hid (mk_long (l := l) (by rw [HN.out]; exact h16))
    have h16i : (16 : Int) < (n : Int) := by omega
    go_enter Try.func10, Try.ntmps10
    go_wp2
    go_ret2
    exact ⟨by rw [HO.out]; rfl, Below.refl _ _⟩
  · have h16' : n ≤ 16 := by omega
    go_enter Try.func10, Try.ntmps10
    go_wp2
    go_loopw [4, 5] (fun s i wr => ∃ k : Nat, k ≤ n ∧ i = .int .i64 k ∧ Hid ((l.take k).any KM.bad = false) ∧ s = .string ⟨((l.take k).flatMap KM.penc).toArray⟩ ∧ Below w.heap.size w wr) (fun _ i _ => n - (intOf i).toNat)
    case atStart => exact ⟨0, by omega, rfl, by simp [Hid], rfl, Below.refl _ _⟩
    case round =>
      obtain ⟨k, hk, rfl, HBAD, rfl, hB⟩ := hrel
      have hll := encs_len _ HBAD.out
      have htl : (l.take k).length ≤ k := List.length_take_le _ _
      by_cases hlt : k < n
      · have hkl : k < l.length := by rw [HN.out]; exact hlt
        obtain ⟨b, off, hA, hbl, hc⟩ := (HZ.out.below hB).2 (by omega)
        obtain ⟨hc0, hc1, hc2⟩ := hc k hkl
        obtain ⟨p, hp⟩ : ∃ p, l[k] = p := ⟨_, rfl⟩
        have HRG := Lib.hid (HZ.out.1 p (by rw [← hp]; exact List.getElem_mem hkl))
        have HMEM := Lib.hid (show p ∈ l by rw [← hp]; exact List.getElem_mem hkl)
        rw [hp] at hc0 hc1 hc2
        have HST := Lib.hid (encs_step hkl hp)
        have HBD := Lib.hid (bad_step hkl hp HBAD.out)
        obtain ⟨L, hL⟩ : ∃ L, (l.take k).flatMap KM.penc = L := ⟨_, rfl⟩
        rw [hL] at HST hll
        rw [hL]
        have hll' : L.length ≤ 1048576 := by omega
        have hls : (⟨L.toArray⟩ : ByteArray).size ≤ 1048576 := by simpa [ByteArray.size] using hll'
        obtain ⟨SL, hSL⟩ : ∃ SL : ByteArray, (⟨L.toArray⟩ : ByteArray) = SL := ⟨_, rfl⟩
        rw [hSL] at hls
        rw [hSL]
        have HSL := Lib.hid hSL
        have HB := Lib.hid hB
        have hBs := hB.size
        clear hB hc hp hll htl hL HBAD hSL hll'
        subst hA
        by_cases hbad : KM.bad p = true
        · have HO := Lib.hid (mk_bad (l := l) _ HMEM.out hbad)
          simp only [KM.bad, Bool.and_eq_true, decide_eq_true_eq] at hbad
          obtain ⟨hbt, hbs⟩ := hbad
          rw [hbt] at hc0
          have hbi : (4096 : Int) < (p.s.size : Int) := by omega
          clear hbt
          go_wp2
          go_ret2
          exact ⟨by rw [HO.out]; rfl, HB.out⟩
        · have hbf : KM.bad p = false := by simpa using hbad
          have HB2 := Lib.hid (HBD.out hbf)
          have HONE := Lib.hid (fun W => one_any p W HRG.out hbf)
          have hpl := KM.penc_len p hbf
          have hes : (⟨(KM.penc p).toArray⟩ : ByteArray).size ≤ 8195 := by simpa [ByteArray.size] using hpl
          obtain ⟨E, hE⟩ : ∃ E : ByteArray, (⟨(KM.penc p).toArray⟩ : ByteArray) = E := ⟨_, rfl⟩
          rw [hE] at HONE hes
          have HR : Hid (SL ++ E = ⟨((l.take (k + 1)).flatMap KM.penc).toArray⟩) := by
            rw [HST.out, ← HSL.out, ← hE]; apply str_ext; simp
          clear hbad hE HBD hpl
          cases ht : p.t with
          | false =>
            rw [ht] at hc0 HONE
            clear ht hbf
            go_wp2_with fail
            refine (HONE.out _).mono ?_
            rintro e w2 ⟨rfl, hB2⟩
            have HBB := Lib.hid (HB.out.trans (hB2.mono hBs))
            clear hB2
            go_wp2
            go_roundw
            case rel => exact ⟨k + 1, by omega, by go_num, HB2.out, by rw [HR.out], HBB.out⟩
            case measure => simp [intOf]; omega
          | true =>
            have hsm : p.s.size ≤ 4096 := by simpa [KM.bad, ht] using hbf
            rw [ht] at hc0 HONE
            clear ht hbf
            go_wp2_with fail
            refine (HONE.out _).mono ?_
            rintro e w2 ⟨rfl, hB2⟩
            have HBB := Lib.hid (HB.out.trans (hB2.mono hBs))
            clear hB2
            go_wp2
            go_roundw
            case rel => exact ⟨k + 1, by omega, by go_num, HB2.out, by rw [HR.out], HBB.out⟩
            case measure => simp [intOf]; omega
      · have hkn : k = n := by omega
        have htk : l.take k = l := List.take_of_length_le (by rw [HN.out]; omega)
        rw [htk] at HBAD
        rw [htk]
        have HO := Lib.hid (mk_good (by rw [HN.out]; exact h16') HBAD.out)
        have HB := Lib.hid hB
        clear htk hB hkn hll htl
        go_wp2
        go_ret2
        exact ⟨by rw [HO.out]; rfl, HB.out⟩
end Go.Proofs.Ytnkofinielabkaa
