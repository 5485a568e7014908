/- The walks of getNumber, getText, getPart. -/
import Derived.Test.YtnkofinielabkaaClone
import Derived.Test.YtnkofinielabkaaKmD
namespace Go.Proofs.Ytnkofinielabkaa
open Go.RowKit

/-- what getPart comes to -/
def gpv (s : ByteArray) : KM.KP × Int × Int :=
  if (KM.gp s.data.toList).2.2 = 0 then ((KM.gp s.data.toList).1, (s.size : Int) - (KM.gp s.data.toList).2.1.length, 0) else (KM.noPart, 0, (KM.gp s.data.toList).2.2)

def GpOut (s : ByteArray) (e : Ending) : Prop :=
  e = .returned (.tuple #[.agg #[.bool (gpv s).1.t, .int .i64 (gpv s).1.n, .string (gpv s).1.s], .int .i64 (gpv s).2.1, .int .i64 (gpv s).2.2])

theorem gpOut {s : ByteArray} {p : KM.KP} {a b : Int} (h : gpv s = (p, a, b)) : GpOut s (.returned (.tuple #[.agg #[.bool p.t, .int .i64 p.n, .string p.s], .int .i64 a, .int .i64 b])) := by
  unfold GpOut; rw [h]

theorem xor_down {v : Nat} (hv : v < 18446744073709551616) : IntKind.i64.wrap (bits .xor .u64 (v : Int) 9223372036854775808) = KM.down v := by
  have h := u64_xor_nat v 9223372036854775808 hv (by decide)
  have h' : bits .xor .u64 (v : Int) 9223372036854775808 = ((v ^^^ 9223372036854775808 : Nat) : Int) := h
  rw [h', IntKind.wrap_i64]
  unfold KM.down
  rcases Nat.lt_or_ge v 9223372036854775808 with hlt | hge
  · rw [KM.xor63 v hlt]; omega
  · obtain ⟨r, rfl⟩ : ∃ r, v = r + 9223372036854775808 := ⟨v - 9223372036854775808, by omega⟩
    rw [KM.xor63_hi r (by omega)]; omega

theorem or_byte (U c : Nat) (hU : U < 72057594037927936) (hc : c < 256) : bits .or .u64 ((U : Int) * 256) (c : Int) = ((U * 256 + c : Nat) : Int) := by
  have e1 : ((U : Int) * 256) = ((U * 256 : Nat) : Int) := by omega
  rw [e1, u64_or_nat _ _ (by omega) (by omega)]
  congr 1
  have h := Nat.two_pow_add_eq_or_of_lt (i := 8) (b := c) (by omega) U
  rw [show (2 : Nat) ^ 8 = 256 by decide, Nat.mul_comm 256 U] at h
  exact h.symm

theorem cons_byte {s : ByteArray} {c : UInt8} {r : List UInt8} {k : Nat} (h : s.data.toList = c :: r) (hk : k < r.length) (hs : k + 1 < s.size) : s[k + 1] = r[k] := by
  have := byte_of s (k + 1) hs
  rw [← this]
  simp only [h, List.getElem_cons_succ]

theorem beVal_step {r : List UInt8} {k : Nat} (h : k < r.length) : KM.beVal (r.take (k + 1)) = KM.beVal (r.take k) * 256 + r[k].toNat := by
  rw [List.take_succ_eq_append_getElem h, KM.beVal_snoc]

theorem beVal_small (r : List UInt8) (k : Nat) (h : k ≤ 7) : KM.beVal (r.take k) < 72057594037927936 := by
  have h1 := KM.beVal_lt (r.take k)
  have h2 : (r.take k).length ≤ 7 := by rw [List.length_take]; omega
  have h3 : 256 ^ (r.take k).length ≤ 256 ^ 7 := Nat.pow_le_pow_right (by decide) h2
  have h4 : (256 : Nat) ^ 7 = 72057594037927936 := by decide
  omega

set_option maxRecDepth 100000 in
theorem getNumber_any (s : ByteArray) (r : List UInt8) (w : World) (hs : s.size ≤ 9223372036854775807) (h1 : s.data.toList = 1 :: r) :
    Calls Try.prog 30 #[.string s] w fun e w' => GpOut s e ∧ Below w.heap.size w w' := by
  have hsz : s.size = r.length + 1 := by rw [← size_list s, h1]; simp
  by_cases h8 : r.length < 8
  · have HO : Hid (gpv s = (KM.noPart, 0, 3)) := by
      have : KM.gp s.data.toList = (KM.noPart, [], 3) := by rw [h1, KM.gp, if_pos rfl, if_pos h8]
      unfold gpv; rw [this]; exact Lib.hid rfl
    have h9 : s.size < 9 := by omega
    clear hsz h1 h8
    go_enter Try.func30, Try.ntmps30
    go_wp2
    exact bodyPost_ret (v := .tuple #[.agg #[.bool false, .int .i64 0, .string ⟨#[]⟩], .int .i64 0, .int .i64 3]) (by simp [results, Try.results30, go_sem]) rfl ⟨gpOut HO.out, (Below.refl _ _).alloc (Nat.le_refl _) _⟩
  · have h9 : 9 ≤ s.size := by omega
    have hlt8 : (r.take 8).length = 8 := by simp; omega
    have hbv := KM.beVal_lt (r.take 8)
    rw [hlt8, show (256 : Nat) ^ 8 = 18446744073709551616 by decide] at hbv
    have ho : gpv s = (⟨false, KM.down (KM.beVal (r.take 8)), ⟨#[]⟩⟩, 9, 0) := by
      have e : KM.gp s.data.toList = (⟨false, KM.down (KM.beVal (r.take 8)), ⟨#[]⟩⟩, r.drop 8, 0) := by rw [h1, KM.gp, if_pos rfl, if_neg h8]
      have hl : (s.size : Int) - ((r.drop 8).length : Int) = 9 := by rw [List.length_drop]; omega
      unfold gpv; rw [e]
      simp only [if_true, hl]
    have HO := Lib.hid ho
    have HSZ := Lib.hid hsz
    have H1 := Lib.hid h1
    clear hsz h1 h8 ho
    go_enter Try.func30, Try.ntmps30
    go_wp2_with fail
    go_loop [6, 7] (fun u i => ∃ k U : Nat, k ≤ 8 ∧ i = .int .i64 (k + 1 : Nat) ∧ u = .int .u64 U ∧ Hid (U = KM.beVal (r.take k)) ∧ U < 18446744073709551616) (fun _ i => 9 - (intOf i).toNat)
    case atStart => exact ⟨0, 0, by omega, rfl, rfl, Lib.hid rfl, by decide⟩
    case round =>
      obtain ⟨k, U, hk, rfl, rfl, HU, hU⟩ := hrel
      have HB2 := Lib.hid (beVal_small r k)
      by_cases hlt : k < 8
      · have hrl : k < r.length := by have := HSZ.out; omega
        have hby := cons_byte H1.out hrl (by omega)
        have hst := beVal_step hrl
        have hUs : U < 72057594037927936 := by rw [HU.out]; exact HB2.out (by omega)
        obtain ⟨c, hc⟩ : ∃ c, r[k] = c := ⟨_, rfl⟩
        rw [hc] at hby hst
        rw [← HU.out] at hst
        have hor := or_byte U c.toNat hUs c.toNat_lt
        have HST := Lib.hid hst.symm
        have hcl := c.toNat_lt
        have hN : U * 256 + c.toNat < 18446744073709551616 := by omega
        clear hc hst
        go_wp2_with fail
        go_round
        case rel => exact ⟨k + 1, U * 256 + c.toNat, by omega, by go_num, by first | rfl | rw [hor], HST, hN⟩
        case measure => simp [intOf]; omega
      · obtain rfl : k = 8 := by omega
        have hx := xor_down hU
        have hmx : Hid (KM.down U = KM.down (KM.beVal (r.take 8))) := by rw [HU.out]; exact Lib.hid rfl
        have hdr := KM.down_range hU
        obtain ⟨D, hD⟩ : ∃ D, KM.down U = D := ⟨_, rfl⟩
        rw [hD] at hx hmx hdr
        clear hD
        go_wp2_with fail
        refine (num_any D _).mono ?_
        rintro e w2 ⟨rfl, hB2⟩
        have hB0 : Below w.heap.size w w2 := ((Below.refl _ _).alloc (Nat.le_refl _) _).trans (hB2.mono (by simp))
        have HB0 := Lib.hid hB0
        have hc := fun o => hB2.cell (p := ⟨w.heap.size, o, none⟩) (by simp)
        have hf := fun o => hB2.frozen (p := ⟨w.heap.size, o, none⟩) (by simp)
        have HX := Lib.hid hmx.out
        clear hB0 hmx
        go_wp2
        refine bodyPost_ret (v := .tuple #[.agg #[.bool false, .int .i64 D, .string ⟨#[]⟩], .int .i64 9, .int .i64 0]) (by simp [results, Try.results30, go_sem, hc]) rfl ⟨?_, ?_⟩
        · rw [HX.out]; exact gpOut HO.out
        · exact ((HB0.out.setCell (p := ⟨w.heap.size, 0, none⟩) (Nat.le_refl _) _).setCell (p := ⟨w.heap.size, 1, none⟩) (Nat.le_refl _) _).setCell (p := ⟨w.heap.size, 2, none⟩) (Nat.le_refl _) _

theorem gpv_text {s : ByteArray} {r t rest : List UInt8} (h1 : s.data.toList = 2 :: r) (hs : KM.scan r [] = (t, rest, 0)) : gpv s = (⟨true, 0, ⟨t.toArray⟩⟩, (s.size : Int) - rest.length, 0) := by
  have e : KM.gp s.data.toList = (⟨true, 0, ⟨t.toArray⟩⟩, rest, 0) := by rw [h1, KM.gp, if_neg (by decide), if_pos rfl, hs, if_pos rfl]
  unfold gpv; rw [e]; simp only [if_true]

theorem gpv_fault {s : ByteArray} {r : List UInt8} {c : Int} (h1 : s.data.toList = 2 :: r) (hc : c ≠ 0) (hs : KM.scan r [] = ([], [], c)) : gpv s = (KM.noPart, 0, c) := by
  have e : KM.gp s.data.toList = (KM.noPart, [], c) := by rw [h1, KM.gp, if_neg (by decide), if_pos rfl, hs, if_neg (by simpa using hc)]
  unfold gpv; rw [e]; simp only [if_neg hc]

theorem own_slice {w : World} {base : Nat} {e : TypeId} {size : Nat} {v : Value} {n : Nat} {xs : List Value} (h : w.ownsRow base e size v n xs) : ∃ A c, v = .slice A n c := by
  rcases h.2 with ⟨rfl, h0⟩ | ⟨g, cap, cur, rfl, _⟩
  · exact ⟨none, 0, by rw [h0]⟩
  · exact ⟨_, _, rfl⟩

set_option maxRecDepth 100000 in
set_option maxHeartbeats 2000000 in
theorem getText_any (s : ByteArray) (r : List UInt8) (w : World) (hs : s.size ≤ 140737488355328) (h1 : s.data.toList = 2 :: r) :
    Calls Try.prog 31 #[.string s] w fun e w' => GpOut s e ∧ Below w.heap.size w w' := by
  obtain ⟨i0, hi, hz0, hz1, hz2⟩ := info_parts info_u8
  have HSL := Lib.hid (size_list s)
  have H1 := Lib.hid h1
  have hsz : 1 ≤ s.size := by rw [← size_list s, h1]; simp
  clear h1
  go_enter Try.func31, Try.ntmps31
  go_wp2_with fail
  go_loopw [5, 6] (fun b i wr => ∃ (k : Nat) (X : List UInt8), 1 ≤ k ∧ k ≤ s.size ∧ i = .int .i64 k ∧ X.length ≤ 4096 ∧ Hid (KM.scan r [] = KM.scan (s.data.toList.drop k) X) ∧ wr.ownsRow (w.heap.size + 1) 5 1 b X.length (Lib.byteCells X) ∧
      Below (w.heap.size + 1) (w.alloc (.cells #[.bool false, .int .i64 0, .string ⟨#[]⟩] 34)) wr) (fun _ i _ => s.size - (intOf i).toNat)
  case atStart => exact ⟨1, [], by omega, hsz, rfl, by simp, by rw [H1.out]; exact Lib.hid rfl, World.ownsRow_nil _ _ _ _, Below.refl _ _⟩
  case round =>
    obtain ⟨k, X, hk1, hk, rfl, hX, HS, hown, hB⟩ := hrel
    have hc := fun o => hB.cell (p := ⟨w.heap.size, o, none⟩) (by simp)
    have hf := fun o => hB.frozen (p := ⟨w.heap.size, o, none⟩) (by simp)
    have hBs : w.heap.size + 1 ≤ wr.heap.size := by have := hB.size; simpa using this
    obtain ⟨A, cp, rfl⟩ := own_slice hown
    have hB0 : Below w.heap.size w wr := ((Below.refl _ _).alloc (Nat.le_refl _) _).trans (hB.mono (by simp))
    have HB := Lib.hid hB
    have HB0 := Lib.hid hB0
    have HOWN := Lib.hid hown
    clear hB hB0 hown
    by_cases hlt : k < s.size
    · have hd : s.data.toList.drop k = s[k] :: s.data.toList.drop (k + 1) := by
        rw [List.drop_eq_getElem_cons (by rw [HSL.out]; exact hlt)]; rfl
      obtain ⟨x, hx⟩ : ∃ x, s[k] = x := ⟨_, rfl⟩
      rw [hx] at hd
      have hxl := x.toNat_lt
      by_cases h0 : x = 0
      · have t0 : ((x.toNat : Int) == 0) = true := by rw [h0]; rfl
        rw [h0] at hd
        have H0 := Lib.hid h0
        clear h0
        by_cases hend : k + 1 = s.size
        · have hd2 : s.data.toList.drop (k + 1) = [] := List.drop_eq_nil_of_le (by rw [HSL.out]; omega)
          have HO := Lib.hid (gpv_fault H1.out (c := 3) (by decide) (by rw [HS.out, hd, hd2]; rfl))
          have t2 : ((k : Int) + 1 == (s.size : Int)) = true := beq_iff_eq.2 (by omega)
          have hge : s.size ≤ k + 1 := by omega
          clear hd hd2 hend
          go_wp2
          refine bodyPost_ret (v := .tuple #[.agg #[.bool false, .int .i64 0, .string ⟨#[]⟩], .int .i64 0, .int .i64 3]) (by simp [results, Try.results31, go_sem, hc]) rfl ⟨gpOut HO.out, ?_⟩
          exact ((HB0.out.setCell (p := ⟨w.heap.size, 0, none⟩) (Nat.le_refl _) _).setCell (p := ⟨w.heap.size, 1, none⟩) (Nat.le_refl _) _).setCell (p := ⟨w.heap.size, 2, none⟩) (Nat.le_refl _) _
        · have hlt2 : k + 1 < s.size := by omega
          have t2 : ((k : Int) + 1 == (s.size : Int)) = false := beq_eq_false_iff_ne.2 (by omega)
          have hd2 : s.data.toList.drop (k + 1) = s[k + 1] :: s.data.toList.drop (k + 2) := by
            rw [List.drop_eq_getElem_cons (by rw [HSL.out]; exact hlt2)]; rfl
          obtain ⟨y, hy⟩ : ∃ y, s[k + 1] = y := ⟨_, rfl⟩
          rw [hy] at hd2
          have hyl := y.toNat_lt
          clear hend
          by_cases hy1 : y = 1
          · have t3 : ((y.toNat : Int) == 1) = true := by rw [hy1]; rfl
            rw [hy1] at hd2
            have HG := Lib.hid (gpv_text H1.out (t := X) (rest := s.data.toList.drop (k + 2)) (by rw [HS.out, hd, hd2, KM.scan, if_pos rfl, if_pos rfl]))
            have hln : (s.size : Int) - ((s.data.toList.drop (k + 2)).length : Int) = (k : Int) + 1 + 1 := by rw [List.length_drop, HSL.out]; omega
            have hO := HG.out
            rw [hln] at hO
            have HO := Lib.hid hO
            have hcv := own_string HOWN.out
            clear hd hd2 hy1 hO hln
            go_wp2
            refine bodyPost_ret (v := .tuple #[.agg #[.bool true, .int .i64 0, .string ⟨X.toArray⟩], .int .i64 ((k : Int) + 1 + 1), .int .i64 0]) (by simp [results, Try.results31, go_sem, hc]) rfl ⟨gpOut HO.out, ?_⟩
            exact ((HB0.out.setCell (p := ⟨w.heap.size, 0, none⟩) (Nat.le_refl _) _).setCell (p := ⟨w.heap.size, 1, none⟩) (Nat.le_refl _) _).setCell (p := ⟨w.heap.size, 2, none⟩) (Nat.le_refl _) _
          · have hyn1 : y.toNat ≠ 1 := fun h => hy1 (UInt8.toNat_inj.1 h)
            have t3 : ((y.toNat : Int) == 1) = false := beq_eq_false_iff_ne.2 (by omega)
            by_cases hy2 : y = 255
            · have t4 : ((y.toNat : Int) != 255) = false := by rw [hy2]; rfl
              have t5 : ((y.toNat : Int) == 255) = true := by rw [hy2]; rfl
              rw [hy2] at hd2
              by_cases hlong : X.length = 4096
              · have HO := Lib.hid (gpv_fault H1.out (c := 5) (by decide) (by rw [HS.out, hd, hd2, KM.scan, if_pos rfl, if_neg (by decide), if_neg (by simp), if_pos hlong]))
                have t1 : ((X.length : Int) == 4096) = true := by rw [hlong]; rfl
                clear hd hd2 hy2 hy1 hlong
                go_wp2
                refine bodyPost_ret (v := .tuple #[.agg #[.bool false, .int .i64 0, .string ⟨#[]⟩], .int .i64 0, .int .i64 5]) (by simp [results, Try.results31, go_sem, hc]) rfl ⟨gpOut HO.out, ?_⟩
                exact ((HB0.out.setCell (p := ⟨w.heap.size, 0, none⟩) (Nat.le_refl _) _).setCell (p := ⟨w.heap.size, 1, none⟩) (Nat.le_refl _) _).setCell (p := ⟨w.heap.size, 2, none⟩) (Nat.le_refl _) _
              · have HN : Hid (KM.scan r [] = KM.scan (s.data.toList.drop (k + 2)) (X ++ [x])) := by
                  rw [HS.out, hd, hd2, KM.scan, if_pos rfl, if_neg (by decide), if_neg (by simp), if_neg hlong, H0.out]; exact Lib.hid rfl
                have hXs : X.length < 4096 := by omega
                have t1 : ((X.length : Int) == 4096) = false := beq_eq_false_iff_ne.2 (by omega)
                clear hd hd2 hy2 hy1 hlong
                go_wp2_with (at_builtin; refine wpList_append_own _ rfl _ _ 49 rfl (w.heap.size + 1) 5 i0 (.int .u8 0) 1 1 Try.underlying49 hi hz0 hz1 hz2 rfl (by decide) _ _ _ rfl (own_below HOWN.out ((Below.refl _ _).alloc (Nat.le_refl _) _)) ⟨wr.heap.size, 0, none⟩ 1 1 (Lib.byteCells [x]) rfl ?c1 ?c2 ?c3 ?c4 ?c5 ?c6 ?_)
                case c1 => rfl
                case c2 => exact bytes_lit wr [x] _ rfl
                case c3 => exact Lib.byteCells_one _
                case c4 => unfold maxLen; omega
                case c5 => omega
                case c6 => simp; omega
                intro v2 w2 hown2 hgrow hnil
                obtain ⟨hown2', hB2⟩ := put_step HOWN.out HB.out (by simp) hown2 hgrow
                have HO2 := Lib.hid hown2'
                have HB2 := Lib.hid hB2
                clear hown2 hgrow hB2 hown2' hnil
                go_wp2
                go_roundw
                case rel => exact ⟨k + 2, X ++ [x], by omega, by omega, by go_num, by simp; omega, HN, HO2.out, HB2.out⟩
                case measure => simp [intOf]; omega
            · have hyn2 : y.toNat ≠ 255 := fun h => hy2 (UInt8.toNat_inj.1 h)
              have t4 : ((y.toNat : Int) != 255) = true := by rw [bne_iff_ne]; omega
              have t5 : ((y.toNat : Int) == 255) = false := beq_eq_false_iff_ne.2 (by omega)
              have HO := Lib.hid (gpv_fault H1.out (c := 4) (by decide) (by rw [HS.out, hd, hd2, KM.scan, if_pos rfl, if_neg hy1, if_pos hy2]))
              clear hd hd2 hy2 hy1
              go_wp2
              refine bodyPost_ret (v := .tuple #[.agg #[.bool false, .int .i64 0, .string ⟨#[]⟩], .int .i64 0, .int .i64 4]) (by simp [results, Try.results31, go_sem, hc]) rfl ⟨gpOut HO.out, ?_⟩
              exact ((HB0.out.setCell (p := ⟨w.heap.size, 0, none⟩) (Nat.le_refl _) _).setCell (p := ⟨w.heap.size, 1, none⟩) (Nat.le_refl _) _).setCell (p := ⟨w.heap.size, 2, none⟩) (Nat.le_refl _) _
      · have hne : x.toNat ≠ 0 := fun h => h0 (UInt8.toNat_inj.1 h)
        have t0 : ((x.toNat : Int) == 0) = false := beq_eq_false_iff_ne.2 (by omega)
        by_cases hlong : X.length = 4096
        · have HO := Lib.hid (gpv_fault H1.out (c := 5) (by decide) (by rw [HS.out, hd, KM.scan_long h0 hlong]))
          have t1 : ((X.length : Int) == 4096) = true := by rw [hlong]; rfl
          clear hd h0 hlong
          go_wp2
          refine bodyPost_ret (v := .tuple #[.agg #[.bool false, .int .i64 0, .string ⟨#[]⟩], .int .i64 0, .int .i64 5]) (by simp [results, Try.results31, go_sem, hc]) rfl ⟨gpOut HO.out, ?_⟩
          exact ((HB0.out.setCell (p := ⟨w.heap.size, 0, none⟩) (Nat.le_refl _) _).setCell (p := ⟨w.heap.size, 1, none⟩) (Nat.le_refl _) _).setCell (p := ⟨w.heap.size, 2, none⟩) (Nat.le_refl _) _
        · have HN : Hid (KM.scan r [] = KM.scan (s.data.toList.drop (k + 1)) (X ++ [x])) := by
            rw [HS.out, hd, KM.scan_step h0 hlong]; exact Lib.hid rfl
          have hXs : X.length < 4096 := by omega
          have t1 : ((X.length : Int) == 4096) = false := beq_eq_false_iff_ne.2 (by omega)
          clear hd h0 hlong
          go_wp2_with (at_builtin; refine wpList_append_own _ rfl _ _ 49 rfl (w.heap.size + 1) 5 i0 (.int .u8 0) 1 1 Try.underlying49 hi hz0 hz1 hz2 rfl (by decide) _ _ _ rfl (own_below HOWN.out ((Below.refl _ _).alloc (Nat.le_refl _) _)) ⟨wr.heap.size, 0, none⟩ 1 1 (Lib.byteCells [x]) rfl ?d1 ?d2 ?d3 ?d4 ?d5 ?d6 ?_)
          case d1 => rfl
          case d2 => exact bytes_lit wr [x] _ rfl
          case d3 => exact Lib.byteCells_one _
          case d4 => unfold maxLen; omega
          case d5 => omega
          case d6 => simp; omega
          intro v2 w2 hown2 hgrow hnil
          obtain ⟨hown2', hB2⟩ := put_step HOWN.out HB.out (by simp) hown2 hgrow
          have HO2 := Lib.hid hown2'
          have HB2 := Lib.hid hB2
          clear hown2 hgrow hB2 hown2' hnil
          go_wp2
          go_roundw
          case rel => exact ⟨k + 1, X ++ [x], by omega, by omega, by go_num, by simp; omega, HN, HO2.out, HB2.out⟩
          case measure => simp [intOf]; omega
    · obtain rfl : k = s.size := by omega
      have HO := Lib.hid (gpv_fault H1.out (c := 3) (by decide) (by rw [HS.out, List.drop_eq_nil_of_le (by rw [HSL.out]; omega)]; rfl))
      go_wp2
      refine bodyPost_ret (v := .tuple #[.agg #[.bool false, .int .i64 0, .string ⟨#[]⟩], .int .i64 0, .int .i64 3]) (by simp [results, Try.results31, go_sem, hc]) rfl ⟨gpOut HO.out, ?_⟩
      exact ((HB0.out.setCell (p := ⟨w.heap.size, 0, none⟩) (Nat.le_refl _) _).setCell (p := ⟨w.heap.size, 1, none⟩) (Nat.le_refl _) _).setCell (p := ⟨w.heap.size, 2, none⟩) (Nat.le_refl _) _
end Go.Proofs.Ytnkofinielabkaa
