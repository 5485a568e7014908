/- Texts joined by bundle.py: NNw, NHs. -/
import Derived.Test.YtnglaolbfpdgoaaGreatZan
import Derived.Test.YtnglaolbfpdgoaaGreatZap
import Derived.Laws.BitsAllLaws
import Derived.StillTailTactics
import Derived.Deep.QuietTactic

/- New: the code's walk. -/
namespace Go.Proofs.YtnglaolbfpdgoaaGreat.B9
open Go.RowKit

theorem pow_byte (R : Nat) (h : R < 8) : (2 : Int) ^ R % 256 = ((2 ^ R : Nat) : Int) := by
  have : R = 0 ∨ R = 1 ∨ R = 2 ∨ R = 3 ∨ R = 4 ∨ R = 5 ∨ R = 6 ∨ R = 7 := by omega
  rcases this with rfl | rfl | rfl | rfl | rfl | rfl | rfl | rfl <;> decide

set_option maxRecDepth 100000 in
theorem bit_any (q : Nat) (w : World) (hq : q ≤ 9223372036854775807) :
    Calls Tryz.prog 70 #[.int .i64 (q : Int)] w fun e w' => e = .returned (.int .u8 ((BL.mask q).toNat : Nat)) ∧ w = w' := by
  obtain ⟨R, hR⟩ : ∃ R, q % 8 = R := ⟨_, rfl⟩
  have hm : Hid ((BL.mask q).toNat = 2 ^ R) := by rw [← hR]; exact Lib.hid (BL.mask_toNat q)
  have hRi : (q : Int) % 8 = (R : Int) := by omega
  have hR8 : R < 8 := by omega
  have hp := pow_byte R hR8
  clear hR
  go_enter Tryz.func70, Tryz.ntmps70
  go_wp2
  go_ret
  exact ⟨by rw [hm.out]; first | rfl | exact ret_int hp, rfl⟩

set_option maxRecDepth 100000 in
theorem probes_any (b : Nat) (w : World) (hb : b ≤ 16) :
    Calls Tryz.prog 92 #[.int .i64 (b : Int)] w fun e w' => e = .returned (.int .i64 (BL.probes b : Nat)) ∧ w = w' := by
  have hp : Hid (BL.probes b = min (max (69 * b / 100) 1) 8) := Lib.hid rfl
  go_enter Tryz.func92, Tryz.ntmps92
  go_wp2
  go_ret
  exact ⟨by rw [hp.out]; exact ret_int (by omega), rfl⟩

set_option maxRecDepth 100000 in
theorem bytes_any (b n : Nat) (w : World) (hb : b ≤ 16) (hn : n ≤ 65536) :
    Calls Tryz.prog 93 #[.int .i64 (b : Int), .int .i64 (n : Int)] w fun e w' => e = .returned (.int .i64 (BL.bytes b n : Nat)) ∧ w = w' := by
  have hml : b * n ≤ 16 * 65536 := Nat.mul_le_mul hb hn
  obtain ⟨M, hM⟩ : ∃ M, b * n = M := ⟨_, rfl⟩
  have hMi : (b : Int) * (n : Int) = (M : Int) := by rw [← hM, Int.natCast_mul]
  have hp : Hid (BL.bytes b n = (max M 64 + 7) / 8) := by rw [← hM]; exact Lib.hid rfl
  rw [hM] at hml
  clear hM
  go_enter Tryz.func93, Tryz.ntmps93
  go_wp2
  go_ret
  exact ⟨by rw [hp.out]; exact ret_int (by omega), rfl⟩

def keysOf (l : List ByteArray) : List BL.Bs := l.map fun s => s.data.toList
theorem keysOf_length (l : List ByteArray) : (keysOf l).length = l.length := by simp [keysOf]
theorem keysOf_at (l : List ByteArray) (j : Nat) (h : j < l.length) : (keysOf l)[j]'(by rw [keysOf_length]; exact h) = l[j].data.toList := by simp [keysOf]

/-- 'string(b)' of a row that lies as it is listed -/
theorem lies_string {w : World} {g : Nat} {l : List UInt8} (h : Lies w g 5 (Lib.byteCells l)) (hl : l.length ≤ 281474976710656 := by omega) :
    (convert 98 9 (.slice (some ⟨g, 0, none⟩) l.length l.length)).run Tryz.prog w = .ok (.string ⟨l.toArray⟩) w := by
  have h1 := h.own (by rw [byteCells_len]; unfold maxLen; omega) (Nat.zero_le g)
  rw [byteCells_len] at h1
  exact own_string h1

/-- what New has answered -/
def NewOut (b : Int) (l : List ByteArray) (w : World) (e : Ending) (w' : World) : Prop :=
  e = .returned (.tuple #[.string ⟨(BL.new b (keysOf l)).1.toArray⟩, .int .i64 (BL.new b (keysOf l)).2]) ∧ Below w.heap.size w w'

set_option maxRecDepth 100000 in
set_option maxHeartbeats 1000000 in
theorem new_any (b : Int) (A : Option Addr) (n cap : Nat) (l : List ByteArray) (w : World) (hb0 : -9223372036854775808 ≤ b) (hb1 : b ≤ 9223372036854775807) (hn : l.length = n) (hz : StrsIn w w.heap.size A l) (hnb : n * 16 ≤ reachBytes) (hs : ∀ q ∈ l, q.size ≤ 140737488351232) :
    Calls Tryz.prog 56 #[.int .i64 b, .slice A n cap] w fun e w' => NewOut b l w e w' := by
  unfold reachBytes at hnb
  have hkl : (keysOf l).length = n := by rw [keysOf_length, hn]
  by_cases h1 : b < 1
  · have HO : Hid (NewOut b l w (.returned (.tuple #[.string ⟨#[]⟩, .int .i64 2])) w) := by
      refine Lib.hid ?_
      unfold NewOut BL.new
      rw [if_pos (Or.inl h1)]
      exact ⟨rfl, Below.refl _ _⟩
    clear hz hs hkl
    go_enter Tryz.func56, Tryz.ntmps56
    go_wp2
    go_ret2
    exact HO.out
  by_cases h2 : 16 < b
  · have HO : Hid (NewOut b l w (.returned (.tuple #[.string ⟨#[]⟩, .int .i64 2])) w) := by
      refine Lib.hid ?_
      unfold NewOut BL.new
      rw [if_pos (Or.inr h2)]
      exact ⟨rfl, Below.refl _ _⟩
    clear hz hs hkl
    go_enter Tryz.func56, Tryz.ntmps56
    go_wp2
    go_ret2
    exact HO.out
  by_cases h3 : 65536 < n
  · have HO : Hid (NewOut b l w (.returned (.tuple #[.string ⟨#[]⟩, .int .i64 5])) w) := by
      refine Lib.hid ?_
      unfold NewOut BL.new
      rw [if_neg (by omega), if_pos (by omega)]
      exact ⟨rfl, Below.refl _ _⟩
    clear hz hs hkl
    go_enter Tryz.func56, Tryz.ntmps56
    go_wp2
    go_ret2
    exact HO.out
  obtain ⟨b, rfl⟩ : ∃ B : Nat, b = (B : Int) := ⟨b.toNat, by omega⟩
  have HO : Hid (NewOut (b : Int) l w = fun e w' => e = .returned (.tuple #[.string ⟨(BL.filter b (keysOf l)).toArray⟩, .int .i64 0]) ∧ Below w.heap.size w w') := by
    refine Lib.hid ?_
    unfold NewOut BL.new
    rw [if_neg (by omega), if_neg (by omega)]
    rfl
  rw [HO.out]
  have HP := Lib.hid (fun W => probes_any b W (by omega))
  have HY := Lib.hid (fun W => bytes_any b n W (by omega) (by omega))
  have HF : Hid (BL.filter b (keysOf l) = UInt8.ofNat (BL.probes b) :: BL.fill (BL.probes b) (8 * BL.bytes b n) (List.replicate (BL.bytes b n) 0) (keysOf l)) := by
    unfold BL.filter; rw [hkl]; exact Lib.hid rfl
  have HX := Lib.hid (BL.probes_byte b)
  obtain ⟨hP1, hP8⟩ := BL.probes_lt b
  obtain ⟨hN8, hNl⟩ := BL.bytes_lt (b := b) (n := n) (by omega) (by omega)
  obtain ⟨P, hP⟩ : ∃ P, BL.probes b = P := ⟨_, rfl⟩
  obtain ⟨N, hN⟩ : ∃ N, BL.bytes b n = N := ⟨_, rfl⟩
  obtain ⟨x, hx⟩ : ∃ x, UInt8.ofNat P = x := ⟨_, rfl⟩
  rw [hP] at HP HF HX hP1 hP8
  rw [hN] at HY HF hN8 hNl
  rw [hx] at HF HX
  have e1N : ((1 + N : Nat) : Int) = 1 + (N : Int) := by omega
  have hmk := make_bytes w (1 + N) (by omega)
  have HL := Lies.new w 5 (Lib.byteCells (List.replicate (1 + N) 0))
  rw [e1N] at hmk
  obtain ⟨W1, hW1⟩ : ∃ W1, w.alloc (.cells (Lib.byteCells (List.replicate (1 + N) 0)).toArray 5) = W1 := ⟨_, rfl⟩
  have HB1 : Hid (Below w.heap.size w W1) := by rw [← hW1]; exact Lib.hid ((Below.refl _ _).alloc (Nat.le_refl _) _)
  rw [hW1] at hmk HL
  have hc0 : W1.cell? ⟨w.heap.size, 0, none⟩ = some (.int .u8 0) := HL.cell (by rw [bytes_zeros, List.getElem?_replicate, if_pos (by omega)])
  have hf0 := HL.frozen 0
  have HLS := HL.set 0 (.int .u8 (x.toNat : Int))
  rw [bytes_set, HX.out, Nat.add_comm 1 N, List.replicate_succ, List.set_cons_zero] at HLS
  have HLS := Lib.hid HLS
  have hPb : (P : Int) % 256 = (P : Int) := by omega
  have HB2 : Hid (Below w.heap.size w (W1.setCell ⟨w.heap.size, 0, none⟩ (.int .u8 (P : Int)))) := Lib.hid (HB1.out.setCell (p := ⟨w.heap.size, 0, none⟩) (Nat.le_refl _) _)
  have HZ := Lib.hid hz
  have HSZ := Lib.hid hs
  have HNL := Lib.hid hn
  clear hP hN hx hW1 HL hz hs hn hkl HO e1N
  go_enter Tryz.func56, Tryz.ntmps56
  go_wp2_with fail
  refine (HP.out _).mono ?_
  rintro e w1 ⟨rfl, rfl⟩
  go_wp2_with fail
  refine (HY.out _).mono ?_
  rintro e w1 ⟨rfl, rfl⟩
  go_wp2_with fail
  obtain ⟨W2, hW2⟩ : ∃ W2, W1.setCell ⟨w.heap.size, 0, none⟩ (.int .u8 (P : Int)) = W2 := ⟨_, rfl⟩
  rw [hW2] at HB2 HLS ⊢
  obtain ⟨g, hg⟩ : ∃ g, w.heap.size = g := ⟨_, rfl⟩
  rw [hg] at HLS HB2 ⊢
  have HG := Lib.hid hg
  clear hW2 hc0 hf0 hmk HB1
  go_loopw [40] (fun i wr => ∃ j : Nat, j ≤ n ∧ i = .int .i64 j ∧ Lies wr g 5 (Lib.byteCells (x :: BL.fill P (8 * N) (List.replicate N 0) ((keysOf l).take j))) ∧ Below g w wr) (fun i _ => n - (intOf i).toNat)
  case atStart => exact ⟨0, by omega, rfl, HLS.out, HB2.out⟩
  case round =>
    obtain ⟨j, hj, rfl, hL, hB⟩ := hrel
    have HLr := Lib.hid hL
    have HBr := Lib.hid hB
    have hsr := hL.lt
    by_cases hlt : j < n
    · obtain ⟨gA, oA, hA, hgA, hcA⟩ := ((HG.out ▸ HZ.out : StrsIn w g A l).below hB) (by rw [HNL.out]; omega)
      have hcj := hcA j (by rw [HNL.out]; exact hlt)
      obtain ⟨k, hk⟩ : ∃ k, l[j]'(by rw [HNL.out]; exact hlt) = k := ⟨_, rfl⟩
      have hks := HSZ.out k (by rw [← hk]; exact List.getElem_mem _)
      have hst := BL.fill_snoc P (8 * N) (List.replicate N 0) (keysOf l) j (by rw [keysOf_length, HNL.out]; exact hlt)
      rw [keysOf_at l j (by rw [HNL.out]; exact hlt), hk] at hst
      rw [hk] at hcj
      have hSl := BL.fill_len P (8 * N) ((keysOf l).take j) (List.replicate N 0)
      rw [List.length_replicate] at hSl
      obtain ⟨S, hS⟩ : ∃ S, BL.fill P (8 * N) (List.replicate N 0) ((keysOf l).take j) = S := ⟨_, rfl⟩
      rw [hS] at hst hSl HLr
      have HST := Lib.hid hst
      have HSL := Lib.hid hSl
      have i0 : (0 : Int) ≤ (j : Int) := by omega
      have i1 : (j : Int) < (n : Int) := by omega
      have HC := Lib.hid (places_any k (P : Int) ((N : Int) * 8) wr hks (by omega) (by omega) (by omega) (by omega))
      unfold PlacesOut at HC
      rw [show ((N : Int) * 8) = ((8 * N : Nat) : Int) by omega] at HC
      have e8 : ((8 * N : Nat) : Int) = (N : Int) * 8 := by omega
      rw [e8] at HC HST
      have hpl := BL.places_len k.data.toList (P : Int) ((N : Int) * 8)
      have hpt := fun q => @BL.places_lt k.data.toList (P : Int) ((N : Int) * 8) q
      obtain ⟨pl, hpd⟩ : ∃ pl, BL.places k.data.toList (P : Int) ((N : Int) * 8) = pl := ⟨_, rfl⟩
      rw [hpd] at HC HST hpl hpt
      have HPT := Lib.hid hpt
      subst hA
      clear hL hB hcA hk hst hSl hS hpt hpd e8
      go_wp2_with fail
      refine HC.out.mono ?_
      rintro e w2 ⟨v, rfl, hown, hB2⟩
      obtain ⟨A1, c1, rfl, hz1⟩ := own_nums hown
      have HZ1 := Lib.hid hz1
      have hs2 := hB2.size
      have HL2 := Lib.hid (HLr.out.all hB2)
      have HB2' := Lib.hid (HBr.out.trans (hB2.mono (show g ≤ wr.heap.size by omega)))
      obtain ⟨base, hbase⟩ : ∃ base, wr.heap.size = base := ⟨_, rfl⟩
      rw [hbase] at HZ1 hsr
      have HGB := Lib.hid hsr
      clear hown hz1 hB2 hbase
      go_wp2_with fail
      go_loopw [51] (fun i ws => ∃ q : Nat, q ≤ pl.length ∧ i = .int .i64 q ∧ Lies ws g 5 (Lib.byteCells (x :: BL.puts S (pl.take q))) ∧ NumsAt ws base A1 pl ∧ Below g w ws) (fun i _ => pl.length - (intOf i).toNat)
      case atStart => exact ⟨0, by omega, rfl, HL2.out, HZ1.out, HB2'.out⟩
      case round =>
        obtain ⟨q, hq, rfl, hL3, hZ3, hB3⟩ := hrel
        have HL3 := Lib.hid hL3
        have HZ3 := Lib.hid hZ3
        have HB3 := Lib.hid hB3
        by_cases hql : q < pl.length
        · obtain ⟨B, hB, hBb, -, hBc⟩ := hZ3 (by omega)
          have hcq := hBc q hql
          have hps := BL.puts_snoc S pl q hql
          have hpl2 := HPT.out pl[q] (List.getElem_mem _)
          obtain ⟨p, hp⟩ : ∃ p, pl[q] = p := ⟨_, rfl⟩
          rw [hp] at hcq hps hpl2
          have hTl := BL.puts_len (pl.take q) S
          rw [HSL.out] at hTl
          obtain ⟨T, hT⟩ : ∃ T, BL.puts S (pl.take q) = T := ⟨_, rfl⟩
          rw [hT] at hps hTl hL3 HL3
          obtain ⟨K, hK⟩ : ∃ K, p / 8 = K := ⟨_, rfl⟩
          have hKi : (p : Int) / 8 = (K : Int) := by omega
          have hKN : K < N := by omega
          have hput := BL.put_set T p (by omega)
          simp only [hK] at hput
          have hxc : w.heap.size = w.heap.size := rfl
          have hcT := hL3.cell (bytes_at (x :: T) (K + 1) (by rw [List.length_cons]; omega))
          rw [List.getElem_cons_succ] at hcT
          have hfT := hL3.frozen (K + 1)
          have hor := u8_or_nat T[K].toNat (BL.mask p).toNat T[K].toNat_lt (BL.mask p).toNat_lt
          rw [← UInt8.toNat_or] at hor
          obtain ⟨c, hc⟩ : ∃ c, T[K] = c := ⟨_, rfl⟩
          rw [hc] at hcT hor hput
          have hset := hL3.set (K + 1) (.int .u8 ((c ||| BL.mask p).toNat : Int))
          rw [bytes_set, List.set_cons_succ, ← hput, ← hps] at hset
          have HSET := Lib.hid hset
          have HBT : Hid (∀ W, Calls Tryz.prog 70 #[.int .i64 (p : Int)] W fun e w' => e = .returned (.int .u8 ((BL.mask p).toNat : Nat)) ∧ w' = W) := Lib.hid fun W => (bit_any p W (by omega)).mono fun e w' h => ⟨h.1, h.2.symm⟩
          rw [Nat.add_comm K 1] at hcT hfT HSET
          have i0 : (0 : Int) ≤ (K : Int) := by omega
          have i1 : (K : Int) < (N : Int) := by omega
          have i2 : (0 : Int) ≤ (q : Int) := by omega
          have i3 : (q : Int) < (pl.length : Int) := by omega
          have iw : IntKind.i64.wrap (K : Int) = (K : Int) := by rw [IntKind.wrap_i64]; omega
          subst hB
          clear hBc hp hps hT hK hput hxc hc hset hL3 hZ3 hB3 hTl hpl2
          go_wp2_with fail
          refine wp_region_still_tail 9 (by kernel_rfl) (by kernel_rfl) ?_
          simp only [List.take_succ_cons, List.take_zero, List.drop_succ_cons, List.drop_zero]
          repeat still_step
          still_call (HBT.out _)
          repeat still_step
          refine wpStill_nil ?_
          go_wp2
          go_roundw
          case rel => exact ⟨q + 1, by omega, by go_num, HSET.out, (HZ3.out.set HGB.out _ _).drewN 1, (HB3.out.setCell (p := ⟨g, 1 + K, none⟩) (Nat.le_refl _) _).drew⟩
          case measure => simp [intOf]; omega
        · obtain rfl : q = pl.length := by omega
          rw [List.take_length] at HL3
          have HR := Lib.hid (HST.out ▸ HL3.out)
          clear hL3 hZ3 hB3
          go_wp2_with fail
          go_roundw
          case rel => exact ⟨j + 1, by omega, by go_num, HR.out, HB3.out⟩
          case measure => simp [intOf]; omega
    · obtain rfl : j = n := by omega
      have hst := HLr.out
      rw [List.take_of_length_le (by rw [keysOf_length, HNL.out]; exact Nat.le_refl _), ← HF.out] at hst
      have hcv := lies_string hst (by rw [BL.filter_len, keysOf_length, HNL.out]; have := (BL.bytes_lt (b := b) (n := j) (by omega) (by omega)).2; omega)
      have hfl : (BL.filter b (keysOf l)).length = 1 + N := by rw [HF.out, List.length_cons, BL.fill_len, List.length_replicate]; omega
      rw [hfl] at hcv
      have HFO := Lib.hid hfl
      clear hst hL hB hfl
      go_wp2
      go_ret2
      exact ⟨rfl, HG.out ▸ HBr.out⟩
end Go.Proofs.YtnglaolbfpdgoaaGreat.B9

/- Has: the code's walk. -/
namespace Go.Proofs.YtnglaolbfpdgoaaGreat.B9
open Go.RowKit

theorem bit_test (c : UInt8) (R : Nat) (h : R < 8) : (c &&& UInt8.ofNat (2 ^ R)).toNat = 0 ↔ c.toNat.testBit R = false := by
  have h2 : (2 : Nat) ^ R < 256 := by
    have : (2 : Nat) ^ R < 2 ^ 8 := Nat.pow_lt_pow_right (by decide) h
    omega
  rw [UInt8.toNat_and, UInt8.toNat_ofNat', Nat.mod_eq_of_lt (by simpa using h2)]
  constructor
  · intro e
    have := congrArg (fun n : Nat => n.testBit R) e
    simpa [Nat.testBit_and, Nat.testBit_two_pow_self] using this
  · intro e
    apply Nat.eq_of_testBit_eq
    intro i
    rw [Nat.testBit_and, Nat.testBit_two_pow, Nat.zero_testBit]
    by_cases hi : R = i
    · subst hi; rw [e, Bool.false_and]
    · simp [hi]

/-- a bit looked at by the code -/
theorem bit_and (c : UInt8) (p : Nat) : (bits .and .u8 (c.toNat : Int) ((BL.mask p).toNat : Int) == 0) = !(c.toNat.testBit (p % 8)) := by
  rw [u8_and_nat _ _ c.toNat_lt (BL.mask p).toNat_lt, ← UInt8.toNat_and]
  have h := bit_test c (p % 8) (Nat.mod_lt _ (by decide))
  unfold BL.mask
  cases hb : c.toNat.testBit (p % 8)
  · have h0 := h.2 hb
    simp [h0]
  · have h0 : ¬ (c &&& UInt8.ofNat (2 ^ (p % 8))).toNat = 0 := fun e => by rw [h.1 e] at hb; cases hb
    simp only [Bool.not_true, beq_eq_false_iff_ne, ne_eq]
    omega

theorem bit_at (S : BL.Bs) (p : Nat) (h : p / 8 < S.length) : BL.bit S p = S[p / 8].toNat.testBit (p % 8) := by
  unfold BL.bit
  rw [List.getD_eq_getElem?_getD, List.getElem?_eq_getElem h, Option.getD_some]

set_option maxRecDepth 100000 in
theorem unset_any (bx : Nat) (s : ByteArray) (p : Nat) (w : World) (hc : w.cell? ⟨bx, 0, none⟩ = some (.string s)) (hp : p / 8 < s.size) (hs : s.size ≤ 140737488355328) :
    Calls Tryz.prog 69 #[.int .i64 (p : Int), .pointer (some ⟨bx, 0, none⟩)] w fun e w' => e = .returned (.bool (!BL.bit s.data.toList p)) ∧ Below w.heap.size w w' := by
  have hb := bit_at s.data.toList p (by rw [size_list]; exact hp)
  obtain ⟨K, hK⟩ : ∃ K, p / 8 = K := ⟨_, rfl⟩
  have hKi : (p : Int) / 8 = (K : Int) := by omega
  simp only [hK] at hb hp
  rw [byte_of s K hp] at hb
  have hand := bit_and s[K] p
  rw [← hb] at hand
  obtain ⟨B, hB⟩ : ∃ B, BL.bit s.data.toList p = B := ⟨_, rfl⟩
  rw [hB] at hand ⊢
  have HBT : Hid (∀ W, Calls Tryz.prog 70 #[.int .i64 (p : Int)] W fun e w' => e = .returned (.int .u8 ((BL.mask p).toNat : Nat)) ∧ w' = W) := Lib.hid fun W => (bit_any p W (by omega)).mono fun e w' h => ⟨h.1, h.2.symm⟩
  have i0 : (0 : Int) ≤ (K : Int) := by omega
  have i1 : (K : Int) < (s.size : Int) := by omega
  have iw : IntKind.i64.wrap (K : Int) = (K : Int) := by rw [IntKind.wrap_i64]; omega
  clear hK hb hB
  go_enter Tryz.func69, Tryz.ntmps69
  go_wp2_with fail
  go_quiet (first | exact Calls.quiet_of_same (HBT.out _) | fail)
  go_wp2
  go_ret
  exact ⟨rfl, below_drewN (Below.refl _ _) _⟩

set_option maxRecDepth 100000 in
theorem index_any (A : Option Addr) (l : List Nat) (c base : Nat) (w : World) (hz : NumsAt w base A l) (hlen : l.length ≤ 8) (fn : FuncId) (caps : Array Value) (u : Nat → Bool)
    (hcf : ∀ W q, (callFunc fn (#[.int .i64 q] ++ caps)).run Tryz.prog W = .ok (.enter fn (#[.int .i64 q] ++ caps)) W)
    (hcall : ∀ W, Below w.heap.size w W → ∀ p ∈ l, Calls Tryz.prog fn (#[.int .i64 (p : Nat)] ++ caps) W fun e W' => e = .returned (.bool (u p)) ∧ Below W.heap.size W W') :
    Calls Tryz.prog 98 #[.slice A l.length c, .func (.func fn) #[] caps] w fun e w' => ∃ r : Int, e = .returned (.int .i64 r) ∧ decide (0 ≤ r) = l.any u ∧ Below w.heap.size w w' := by
  have HCF := Lib.hid hcf
  have HC := Lib.hid hcall
  have HZ := Lib.hid hz
  clear hcf hcall hz
  go_enter Tryz.func98, Tryz.ntmps98
  go_wp2_with fail
  go_loopw [8] (fun i wr => ∃ j : Nat, j ≤ l.length ∧ i = .int .i64 j ∧ Hid ((l.take j).any u = false) ∧ Below w.heap.size w wr) (fun i _ => l.length - (intOf i).toNat)
  case atStart => exact ⟨0, by omega, rfl, Lib.hid rfl, Below.refl _ _⟩
  case round =>
    obtain ⟨j, hj, rfl, hany, hB⟩ := hrel
    by_cases hlt : j < l.length
    · obtain ⟨b, hA, -, -, hc⟩ := (HZ.out.all hB) (by omega)
      have hcj := hc j hlt
      have HCC := Lib.hid (HC.out wr hB l[j] (List.getElem_mem _))
      have hcf := HCF.out
      have hst : (l.take (j + 1)).any u = u l[j] := by rw [List.take_succ_eq_append_getElem hlt, List.any_append, hany.out]; simp
      have HST := Lib.hid hst
      have HLL : Hid (l.any u = ((l.take (j + 1)).any u || (l.drop (j + 1)).any u)) := Lib.hid (by rw [← List.any_append, List.take_append_drop])
      have HB := Lib.hid hB
      obtain ⟨q, hq⟩ : ∃ q, l[j] = q := ⟨_, rfl⟩
      rw [hq] at hcj HCC HST
      subst hA
      clear hc hst hq hB hany
      go_wp2_with fail
      refine HCC.out.mono ?_
      rintro e w1 ⟨rfl, hB1⟩
      have HB1 := Lib.hid (HB.out.trans (hB1.mono HB.out.size))
      clear hB1
      cases hu : u q
      · rw [hu] at HST
        go_wp2
        go_roundw
        case rel => exact ⟨j + 1, by omega, by go_num, HST, HB1.out⟩
        case measure => simp [intOf]; omega
      · rw [hu] at HST
        have hl := HLL.out
        rw [HST.out, Bool.true_or] at hl
        have HL := Lib.hid hl
        have hd : decide ((0 : Int) ≤ (j : Int)) = true := decide_eq_true (by omega)
        clear hl
        go_wp2
        go_ret
        exact ⟨_, rfl, by rw [HL.out]; exact decide_eq_true (by omega), HB1.out⟩
    · obtain rfl : j = l.length := by omega
      rw [List.take_length] at hany
      go_wp2
      go_ret
      exact ⟨_, rfl, by rw [hany.out]; rfl, hB⟩

set_option maxRecDepth 100000 in
theorem contains_any (A : Option Addr) (l : List Nat) (c base : Nat) (w : World) (hz : NumsAt w base A l) (hlen : l.length ≤ 8) (fn : FuncId) (caps : Array Value) (u : Nat → Bool)
    (hcf : ∀ W q, (callFunc fn (#[.int .i64 q] ++ caps)).run Tryz.prog W = .ok (.enter fn (#[.int .i64 q] ++ caps)) W)
    (hcall : ∀ W, Below w.heap.size w W → ∀ p ∈ l, Calls Tryz.prog fn (#[.int .i64 (p : Nat)] ++ caps) W fun e W' => e = .returned (.bool (u p)) ∧ Below W.heap.size W W') :
    Calls Tryz.prog 71 #[.slice A l.length c, .func (.func fn) #[] caps] w fun e w' => e = .returned (.bool (l.any u)) ∧ Below w.heap.size w w' := by
  have HI := Lib.hid (index_any A l c base w hz hlen fn caps u hcf hcall)
  clear hcf hcall hz
  obtain ⟨B, hB⟩ : ∃ B, l.any u = B := ⟨_, rfl⟩
  rw [hB] at HI ⊢
  clear hB
  go_enter Tryz.func71, Tryz.ntmps71
  go_wp2_with fail
  refine HI.out.mono ?_
  rintro e w1 ⟨r, rfl, hr, hB1⟩
  have HB1 := Lib.hid hB1
  clear hB1
  go_wp2
  go_ret
  exact ⟨by first | rfl | exact ret_bool hr, HB1.out⟩

theorem cf_enter {P : Program} {f : FuncId} {fn : Func} (hf : P.funcs[f]? = some fn) (hname : (fn.name == "runtime.NumGoroutine") = false) (hb : fn.body.isSome = true) (args : Array Value) (w : World) : (callFunc f args).run P w = .ok (.enter f args) w := by
  have h1 : fn.name ≠ "runtime.NumGoroutine" := by simpa using hname
  obtain ⟨c, hc⟩ := Option.isSome_iff_exists.1 hb
  simp [callFunc, hf, h1, hc]

theorem str_slice (W : World) (s : ByteArray) (a b : Nat) (x y : Int) (hx : x = a) (hy : y = b) (h1 : a ≤ b) (h2 : b ≤ s.size) :
    (Instr.slice 9 (.string s) (some (.int .i64 x)) (some (.int .i64 y)) none).run Tryz.prog W = .ok (.string (s.extract a b)) W := by
  subst hx hy
  have i1 : (0 : Int) ≤ (a : Int) := by omega
  have i2 : (0 : Int) ≤ (b : Int) := by omega
  have i3 : (a : Int) ≤ (b : Int) := by omega
  have i4 : (b : Int) ≤ (s.size : Int) := by omega
  simp [Instr.slice, run_underlying Tryz.underlying9, Instr.sliceBounds, run_sliceBound, i1, i2, i3, i4]

theorem str_tail (W : World) (s : ByteArray) (a : Nat) (h : a ≤ s.size) :
    (Instr.slice 9 (.string s) (some (.int .i64 (a : Int))) none none).run Tryz.prog W = .ok (.string (s.extract a s.size)) W := by
  have i1 : (0 : Int) ≤ (a : Int) := by omega
  have i4 : (a : Int) ≤ (s.size : Int) := by omega
  simp [Instr.slice, run_underlying Tryz.underlying9, Instr.sliceBounds, run_sliceBound, i1, i4]

theorem tail_list (s : ByteArray) (a : Nat) : (s.extract a s.size).data.toList = s.data.toList.drop a := by
  rw [Lib.extract_data, List.take_of_length_le (by rw [List.length_drop, size_list]; omega)]

theorem not_any_not (l : List Nat) (u : Nat → Bool) : (!(l.any fun p => !u p)) = l.all u := by
  induction l with
  | nil => rfl
  | cons p l ih => rw [List.any_cons, List.all_cons, ← ih, Bool.not_or, Bool.not_not]

/-- what a text holds behind its first byte -/
theorem text_cons (f : ByteArray) (h : 0 < f.size) : f.data.toList = f[0] :: (f.extract 1 f.size).data.toList := by
  have hl := size_list f
  rw [Lib.extract_data]
  have e : (f.data.toList.drop 1).take (f.size - 1) = f.data.toList.drop 1 := List.take_of_length_le (by rw [List.length_drop, hl]; exact Nat.le_refl _)
  rw [e, ← byte_of f 0 h]
  exact (List.getElem_cons_drop (by rw [hl]; exact h)).symm

set_option maxRecDepth 100000 in
theorem has_any (f k : ByteArray) (w : World) (hf : f.size ≤ 140737488351232) (hk : k.size ≤ 140737488351232) :
    Calls Tryz.prog 35 #[.string f, .string k] w fun e w' => e = .returned (.bool (BL.has f.data.toList k.data.toList)) ∧ Below w.heap.size w w' := by
  by_cases h0 : f.size = 0
  · have hs0 : f = ⟨#[]⟩ := by
      apply ByteArray.ext
      exact Array.eq_empty_of_size_eq_zero h0
    subst hs0
    clear h0
    go_enter Tryz.func35, Tryz.ntmps35
    go_wp2
    go_ret
    exact ⟨rfl, Below.refl _ _⟩
  have hpos : 0 < f.size := by omega
  have hne : f.toList.isEmpty = false := by
    rw [Lib.toList_data]
    cases hh : f.data.toList with
    | nil => have := size_list f; rw [hh] at this; simp at this; omega
    | cons a b => rfl
  have htx := text_cons f hpos
  have hes : (f.extract 1 f.size).size = f.size - 1 := by rw [ByteArray.size_extract]; omega
  obtain ⟨s, hsd⟩ : ∃ s, f.extract 1 f.size = s := ⟨_, rfl⟩
  rw [hsd] at htx hes
  obtain ⟨a, hae⟩ : ∃ a, f[0] = a := ⟨_, rfl⟩
  rw [hae] at htx
  rw [htx, BL.has_cons, size_list]
  have hal := a.toNat_lt
  have HC := Lib.hid (fun W => places_any k (a.toNat : Int) ((s.size : Int) * 8) W hk (by omega) (by omega) (by omega) (by omega))
  unfold PlacesOut at HC
  rw [show ((8 * s.size : Nat) : Int) = (s.size : Int) * 8 by omega]
  have hpl := BL.places_len k.data.toList (a.toNat : Int) ((s.size : Int) * 8)
  have hpt := fun q => @BL.places_lt k.data.toList (a.toNat : Int) ((s.size : Int) * 8) q
  obtain ⟨pl, hpd⟩ : ∃ pl, BL.places k.data.toList (a.toNat : Int) ((s.size : Int) * 8) = pl := ⟨_, rfl⟩
  rw [hpd] at HC hpl hpt ⊢
  have HPT := Lib.hid hpt
  have HN := Lib.hid (not_any_not pl (BL.bit s.data.toList))
  have HS := Lib.hid hes
  have htl : ∀ W, (Instr.slice 9 (.string f) (some (.int .i64 1)) none none).run Tryz.prog W = .ok (.string s) W := fun W => hsd ▸ str_tail W f 1 hpos
  have hsl : s.size ≤ 140737488351232 := by omega
  clear htx hpt hpd hsd hes h0
  go_enter Tryz.func35, Tryz.ntmps35
  go_wp2_with fail
  go_region
  obtain ⟨W1, hW1⟩ : ∃ W1, (w.alloc (.cells #[.string s] 9)).drew = W1 := ⟨_, rfl⟩
  have hL : Lies W1 w.heap.size 9 [.string s] := by rw [← hW1]; exact heap_alloc_new w _
  have hB1 : Below w.heap.size w W1 := by rw [← hW1]; exact ((Below.refl _ _).alloc (Nat.le_refl _) _).drew
  obtain ⟨b, hb⟩ : ∃ b, w.heap.size = b := ⟨_, rfl⟩
  rw [hW1]
  rw [hb] at hL hB1 ⊢
  have hcell := hL.cell (j := 0) (v := .string s) rfl
  have HL := Lib.hid hL
  have HB1 := Lib.hid hB1
  have HBB := Lib.hid hb
  clear hL hB1 hW1 htl hne hae hb
  go_wp2_with fail
  refine (HC.out _).mono ?_
  rintro e w2 ⟨v, rfl, hown, hB2⟩
  obtain ⟨A1, c1, rfl, hz1⟩ := own_nums hown
  have HL2 := Lib.hid (HL.out.all hB2)
  have hlt := HL2.out.lt
  have hlt1 := HL.out.lt
  have HB2 := Lib.hid (HB1.out.trans (hB2.mono (Nat.le_of_lt hlt1)))
  have HK := Lib.hid (contains_any A1 pl c1 _ w2 hz1 hpl 69 #[.pointer (some ⟨b, 0, none⟩)] (fun p => !BL.bit s.data.toList p)
    (fun W q => cf_enter Tryz.func69 (by kernel_rfl) (by kernel_rfl) _ W)
    (fun W hW p hp => unset_any b s p W ((HL2.out.below hW hlt).cell rfl) (by have := HPT.out p hp; omega) (by omega)))
  clear hown hz1 hB2 hcell
  go_wp2_with fail
  refine HK.out.mono ?_
  rintro e w3 ⟨rfl, hB3⟩
  have HB3 := Lib.hid (HB2.out.trans (hB3.mono (Nat.le_of_lt hlt)))
  obtain ⟨B, hBd⟩ : ∃ B, (pl.any fun p => !BL.bit s.data.toList p) = B := ⟨_, rfl⟩
  have hn := HN.out
  rw [hBd] at hn ⊢
  have HN2 := Lib.hid hn
  clear hn hBd hB3
  go_wp2
  go_ret
  exact ⟨by rw [← HN2.out]; rfl, HBB.out.symm ▸ HB3.out⟩
end Go.Proofs.YtnglaolbfpdgoaaGreat.B9

