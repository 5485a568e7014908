/- Texts joined by bundle.py: YTNNw, YTNHs. -/
import Derived.Test.YtjkofciohehgfaaGreatDoorZbc
import Derived.Test.YtjkofciohehgfaaGreatDoorZay
import Derived.Laws.BitsAllLaws
import Derived.StillTailTactics
import Derived.Deep.QuietTactic

/- New: the code's walk. -/
namespace Go.Proofs.YtjkofciohehgfaaGreatDoor.L11.B9
open Go.RowKit

theorem pow_byte (R : Nat) (h : R < 8) : (2 : Int) ^ R % 256 = ((2 ^ R : Nat) : Int) := by
  have : R = 0 ∨ R = 1 ∨ R = 2 ∨ R = 3 ∨ R = 4 ∨ R = 5 ∨ R = 6 ∨ R = 7 := by omega
  rcases this with rfl | rfl | rfl | rfl | rfl | rfl | rfl | rfl <;> decide

set_option maxRecDepth 100000 in
theorem bit_any (q : Nat) (w : World) (hq : q ≤ 9223372036854775807) :
    Calls Tryz.prog 121 #[.int .i64 (q : Int)] w fun e w' => e = .returned (.int .u8 ((BL.mask q).toNat : Nat)) ∧ w = w' := by
  obtain ⟨R, hR⟩ : ∃ R, q % 8 = R := ⟨_, rfl⟩
  have hm : Hid ((BL.mask q).toNat = 2 ^ R) := by rw [← hR]; exact Lib.hid (BL.mask_toNat q)
  have hRi : (q : Int) % 8 = (R : Int) := by omega
  have hR8 : R < 8 := by omega
  have hp := pow_byte R hR8
  clear hR
  go_enter Tryz.func121, Tryz.ntmps121
  go_wp2
  go_ret
  exact ⟨by rw [hm.out]; first | rfl | exact ret_int hp, rfl⟩

set_option maxRecDepth 100000 in
theorem probes_any (b : Nat) (w : World) (hb : b ≤ 16) :
    Calls Tryz.prog 118 #[.int .i64 (b : Int)] w fun e w' => e = .returned (.int .i64 (BL.probes b : Nat)) ∧ w = w' := by
  have hp : Hid (BL.probes b = min (max (69 * b / 100) 1) 8) := Lib.hid rfl
  go_enter Tryz.func118, Tryz.ntmps118
  go_wp2
  go_ret
  exact ⟨by rw [hp.out]; exact ret_int (by omega), rfl⟩

set_option maxRecDepth 100000 in
theorem bytes_any (b n : Nat) (w : World) (hb : b ≤ 16) (hn : n ≤ 65536) :
    Calls Tryz.prog 119 #[.int .i64 (b : Int), .int .i64 (n : Int)] w fun e w' => e = .returned (.int .i64 (BL.bytes b n : Nat)) ∧ w = w' := by
  have hml : b * n ≤ 16 * 65536 := Nat.mul_le_mul hb hn
  obtain ⟨M, hM⟩ : ∃ M, b * n = M := ⟨_, rfl⟩
  have hMi : (b : Int) * (n : Int) = (M : Int) := by rw [← hM, Int.natCast_mul]
  have hp : Hid (BL.bytes b n = (max M 64 + 7) / 8) := by rw [← hM]; exact Lib.hid rfl
  rw [hM] at hml
  clear hM
  go_enter Tryz.func119, Tryz.ntmps119
  go_wp2
  go_ret
  exact ⟨by rw [hp.out]; exact ret_int (by omega), rfl⟩

def keysOf (l : List ByteArray) : List BL.Bs := l.map fun s => s.data.toList
theorem keysOf_length (l : List ByteArray) : (keysOf l).length = l.length := by simp [keysOf]
theorem keysOf_at (l : List ByteArray) (j : Nat) (h : j < l.length) : (keysOf l)[j]'(by rw [keysOf_length]; exact h) = l[j].data.toList := by simp [keysOf]

/-- 'string(b)' of a row that lies as it is listed -/
theorem lies_string {w : World} {g : Nat} {l : List UInt8} (h : Lies w g 5 (Lib.byteCells l)) (hl : l.length ≤ 281474976710656 := by omega) :
    (convert 68 9 (.slice (some ⟨g, 0, none⟩) l.length l.length)).run Tryz.prog w = .ok (.string ⟨l.toArray⟩) w := by
  have h1 := h.own (by rw [byteCells_len]; unfold maxLen; omega) (Nat.zero_le g)
  rw [byteCells_len] at h1
  exact own_string h1

/-- what New has answered -/
def NewOut (b : Int) (l : List ByteArray) (w : World) (e : Ending) (w' : World) : Prop :=
  e = .returned (.tuple #[.string ⟨(BL.new b (keysOf l)).1.toArray⟩, .int .i64 (BL.new b (keysOf l)).2]) ∧ Below w.heap.size w w'

set_option maxRecDepth 100000 in
set_option maxHeartbeats 1000000 in
theorem new_any (b : Int) (A : Option Addr) (n cap : Nat) (l : List ByteArray) (w : World) (hb0 : -9223372036854775808 ≤ b) (hb1 : b ≤ 9223372036854775807) (hn : l.length = n) (hz : StrsIn w w.heap.size A l) (hnb : n * 16 ≤ reachBytes) (hs : ∀ q ∈ l, q.size ≤ 140737488351232) :
    Calls Tryz.prog 95 #[.int .i64 b, .slice A n cap] w fun e w' => NewOut b l w e w' := by
  unfold reachBytes at hnb
  have hkl : (keysOf l).length = n := by rw [keysOf_length, hn]
  by_cases h1 : b < 1
  · have HO : Hid (NewOut b l w (.returned (.tuple #[.string ⟨#[]⟩, .int .i64 2])) w) := by
      refine Lib.hid ?_
      unfold NewOut BL.new
      rw [if_pos (Or.inl h1)]
      exact ⟨rfl, Below.refl _ _⟩
    clear hz hs hkl
    go_enter Tryz.func95, Tryz.ntmps95
    go_wp2
    go_ret2
    exact HO.out
  by_cases h2 : 16 < b
  · have HO : Hid (NewOut b l w (.returned (.tuple #[.string ⟨#[]⟩, .int .i64 2])) w) := by
      refine Lib.hid ?_
      unfold NewOut BL.new
      rw [if_pos (Or.inr h2)]
      exact ⟨rfl, Below.refl _ _⟩
    clear hz hs hkl
    go_enter Tryz.func95, Tryz.ntmps95
    go_wp2
    go_ret2
    exact HO.out
  by_cases h3 : 65536 < n
  · have HO : Hid (NewOut b l w (.returned (.tuple #[.string ⟨#[]⟩, .int .i64 5])) w) := by
      refine Lib.hid ?_
      unfold NewOut BL.new
      rw [if_neg (by omega), if_pos (by omega)]
      exact ⟨rfl, Below.refl _ _⟩
    clear hz hs hkl
    go_enter Tryz.func95, Tryz.ntmps95
    go_wp2
    go_ret2
    exact HO.out
  obtain ⟨b, rfl⟩ : ∃ B : Nat, b = (B : Int) := ⟨b.toNat, by omega⟩
  have HO : Hid (NewOut (b : Int) l w = fun e w' => e = .returned (.tuple #[.string ⟨(BL.filter b (keysOf l)).toArray⟩, .int .i64 0]) ∧ Below w.heap.size w w') := by
    refine Lib.hid ?_
    unfold NewOut BL.new
    rw [if_neg (by omega), if_neg (by omega)]
    rfl
  rw [HO.out]
  have HP := Lib.hid (fun W => probes_any b W (by omega))
  have HY := Lib.hid (fun W => bytes_any b n W (by omega) (by omega))
  have HF : Hid (BL.filter b (keysOf l) = UInt8.ofNat (BL.probes b) :: BL.fill (BL.probes b) (8 * BL.bytes b n) (List.replicate (BL.bytes b n) 0) (keysOf l)) := by
    unfold BL.filter; rw [hkl]; exact Lib.hid rfl
  have HX := Lib.hid (BL.probes_byte b)
  obtain ⟨hP1, hP8⟩ := BL.probes_lt b
  obtain ⟨hN8, hNl⟩ := BL.bytes_lt (b := b) (n := n) (by omega) (by omega)
  obtain ⟨P, hP⟩ : ∃ P, BL.probes b = P := ⟨_, rfl⟩
  obtain ⟨N, hN⟩ : ∃ N, BL.bytes b n = N := ⟨_, rfl⟩
  obtain ⟨x, hx⟩ : ∃ x, UInt8.ofNat P = x := ⟨_, rfl⟩
  rw [hP] at HP HF HX hP1 hP8
  rw [hN] at HY HF hN8 hNl
  rw [hx] at HF HX
  have e1N : ((1 + N : Nat) : Int) = 1 + (N : Int) := by omega
  have hmk := make_bytes w (1 + N) (by omega)
  have HL := Lies.new w 5 (Lib.byteCells (List.replicate (1 + N) 0))
  rw [e1N] at hmk
  obtain ⟨W1, hW1⟩ : ∃ W1, w.alloc (.cells (Lib.byteCells (List.replicate (1 + N) 0)).toArray 5) = W1 := ⟨_, rfl⟩
  have HB1 : Hid (Below w.heap.size w W1) := by rw [← hW1]; exact Lib.hid ((Below.refl _ _).alloc (Nat.le_refl _) _)
  rw [hW1] at hmk HL
  have hc0 : W1.cell? ⟨w.heap.size, 0, none⟩ = some (.int .u8 0) := HL.cell (by rw [bytes_zeros, List.getElem?_replicate, if_pos (by omega)])
  have hf0 := HL.frozen 0
  have HLS := HL.set 0 (.int .u8 (x.toNat : Int))
  rw [bytes_set, HX.out, Nat.add_comm 1 N, List.replicate_succ, List.set_cons_zero] at HLS
  have HLS := Lib.hid HLS
  have hPb : (P : Int) % 256 = (P : Int) := by omega
  have HB2 : Hid (Below w.heap.size w (W1.setCell ⟨w.heap.size, 0, none⟩ (.int .u8 (P : Int)))) := Lib.hid (HB1.out.setCell (p := ⟨w.heap.size, 0, none⟩) (Nat.le_refl _) _)
  have HZ := Lib.hid hz
  have HSZ := Lib.hid hs
  have HNL := Lib.hid hn
  clear hP hN hx hW1 HL hz hs hn hkl HO e1N
  go_enter Tryz.func95, Tryz.ntmps95
  go_wp2_with fail
  refine (HP.out _).mono ?_
  rintro e w1 ⟨rfl, rfl⟩
  go_wp2_with fail
  refine (HY.out _).mono ?_
  rintro e w1 ⟨rfl, rfl⟩
  go_wp2_with fail
  obtain ⟨W2, hW2⟩ : ∃ W2, W1.setCell ⟨w.heap.size, 0, none⟩ (.int .u8 (P : Int)) = W2 := ⟨_, rfl⟩
  rw [hW2] at HB2 HLS ⊢
  obtain ⟨g, hg⟩ : ∃ g, w.heap.size = g := ⟨_, rfl⟩
  rw [hg] at HLS HB2 ⊢
  have HG := Lib.hid hg
  clear hW2 hc0 hf0 hmk HB1
  go_loopw [40] (fun i wr => ∃ j : Nat, j ≤ n ∧ i = .int .i64 j ∧ Lies wr g 5 (Lib.byteCells (x :: BL.fill P (8 * N) (List.replicate N 0) ((keysOf l).take j))) ∧ Below g w wr) (fun i _ => n - (intOf i).toNat)
  case atStart => exact ⟨0, by omega, rfl, HLS.out, HB2.out⟩
  case round =>
    obtain ⟨j, hj, rfl, hL, hB⟩ := hrel
    have HLr := Lib.hid hL
    have HBr := Lib.hid hB
    have hsr := hL.lt
    by_cases hlt : j < n
    · obtain ⟨gA, oA, hA, hgA, hcA⟩ := ((HG.out ▸ HZ.out : StrsIn w g A l).below hB) (by rw [HNL.out]; omega)
      have hcj := hcA j (by rw [HNL.out]; exact hlt)
      obtain ⟨k, hk⟩ : ∃ k, l[j]'(by rw [HNL.out]; exact hlt) = k := ⟨_, rfl⟩
      have hks := HSZ.out k (by rw [← hk]; exact List.getElem_mem _)
      have hst := BL.fill_snoc P (8 * N) (List.replicate N 0) (keysOf l) j (by rw [keysOf_length, HNL.out]; exact hlt)
      rw [keysOf_at l j (by rw [HNL.out]; exact hlt), hk] at hst
      rw [hk] at hcj
      have hSl := BL.fill_len P (8 * N) ((keysOf l).take j) (List.replicate N 0)
      rw [List.length_replicate] at hSl
      obtain ⟨S, hS⟩ : ∃ S, BL.fill P (8 * N) (List.replicate N 0) ((keysOf l).take j) = S := ⟨_, rfl⟩
      rw [hS] at hst hSl HLr
      have HST := Lib.hid hst
      have HSL := Lib.hid hSl
      have i0 : (0 : Int) ≤ (j : Int) := by omega
      have i1 : (j : Int) < (n : Int) := by omega
      have HC := Lib.hid (places_any k (P : Int) ((N : Int) * 8) wr hks (by omega) (by omega) (by omega) (by omega))
      unfold PlacesOut at HC
      rw [show ((N : Int) * 8) = ((8 * N : Nat) : Int) by omega] at HC
      have e8 : ((8 * N : Nat) : Int) = (N : Int) * 8 := by omega
      rw [e8] at HC HST
      have hpl := BL.places_len k.data.toList (P : Int) ((N : Int) * 8)
      have hpt := fun q => @BL.places_lt k.data.toList (P : Int) ((N : Int) * 8) q
      obtain ⟨pl, hpd⟩ : ∃ pl, BL.places k.data.toList (P : Int) ((N : Int) * 8) = pl := ⟨_, rfl⟩
      rw [hpd] at HC HST hpl hpt
      have HPT := Lib.hid hpt
      subst hA
      clear hL hB hcA hk hst hSl hS hpt hpd e8
      go_wp2_with fail
      refine HC.out.mono ?_
      rintro e w2 ⟨v, rfl, hown, hB2⟩
      obtain ⟨A1, c1, rfl, hz1⟩ := own_nums hown
      have HZ1 := Lib.hid hz1
      have hs2 := hB2.size
      have HL2 := Lib.hid (HLr.out.all hB2)
      have HB2' := Lib.hid (HBr.out.trans (hB2.mono (show g ≤ wr.heap.size by omega)))
      obtain ⟨base, hbase⟩ : ∃ base, wr.heap.size = base := ⟨_, rfl⟩
      rw [hbase] at HZ1 hsr
      have HGB := Lib.hid hsr
      clear hown hz1 hB2 hbase
      go_wp2_with fail
      go_loopw [51] (fun i ws => ∃ q : Nat, q ≤ pl.length ∧ i = .int .i64 q ∧ Lies ws g 5 (Lib.byteCells (x :: BL.puts S (pl.take q))) ∧ NumsAt ws base A1 pl ∧ Below g w ws) (fun i _ => pl.length - (intOf i).toNat)
      case atStart => exact ⟨0, by omega, rfl, HL2.out, HZ1.out, HB2'.out⟩
      case round =>
        obtain ⟨q, hq, rfl, hL3, hZ3, hB3⟩ := hrel
        have HL3 := Lib.hid hL3
        have HZ3 := Lib.hid hZ3
        have HB3 := Lib.hid hB3
        by_cases hql : q < pl.length
        · obtain ⟨B, hB, hBb, -, hBc⟩ := hZ3 (by omega)
          have hcq := hBc q hql
          have hps := BL.puts_snoc S pl q hql
          have hpl2 := HPT.out pl[q] (List.getElem_mem _)
          obtain ⟨p, hp⟩ : ∃ p, pl[q] = p := ⟨_, rfl⟩
          rw [hp] at hcq hps hpl2
          have hTl := BL.puts_len (pl.take q) S
          rw [HSL.out] at hTl
          obtain ⟨T, hT⟩ : ∃ T, BL.puts S (pl.take q) = T := ⟨_, rfl⟩
          rw [hT] at hps hTl hL3 HL3
          obtain ⟨K, hK⟩ : ∃ K, p / 8 = K := ⟨_, rfl⟩
          have hKi : (p : Int) / 8 = (K : Int) := by omega
          have hKN : K < N := by omega
          have hput := BL.put_set T p (by omega)
          simp only [hK] at hput
          have hxc : w.heap.size = w.heap.size := rfl
          have hcT := hL3.cell (bytes_at (x :: T) (K + 1) (by rw [List.length_cons]; omega))
          rw [List.getElem_cons_succ] at hcT
          have hfT := hL3.frozen (K + 1)
          have hor := u8_or_nat T[K].toNat (BL.mask p).toNat T[K].toNat_lt (BL.mask p).toNat_lt
          rw [← UInt8.toNat_or] at hor
          obtain ⟨c, hc⟩ : ∃ c, T[K] = c := ⟨_, rfl⟩
          rw [hc] at hcT hor hput
          have hset := hL3.set (K + 1) (.int .u8 ((c ||| BL.mask p).toNat : Int))
          rw [bytes_set, List.set_cons_succ, ← hput, ← hps] at hset
          have HSET := Lib.hid hset
          have HBT : Hid (∀ W, Calls Tryz.prog 121 #[.int .i64 (p : Int)] W fun e w' => e = .returned (.int .u8 ((BL.mask p).toNat : Nat)) ∧ w' = W) := Lib.hid fun W => (bit_any p W (by omega)).mono fun e w' h => ⟨h.1, h.2.symm⟩
          rw [Nat.add_comm K 1] at hcT hfT HSET
          have i0 : (0 : Int) ≤ (K : Int) := by omega
          have i1 : (K : Int) < (N : Int) := by omega
          have i2 : (0 : Int) ≤ (q : Int) := by omega
          have i3 : (q : Int) < (pl.length : Int) := by omega
          have iw : IntKind.i64.wrap (K : Int) = (K : Int) := by rw [IntKind.wrap_i64]; omega
          subst hB
          clear hBc hp hps hT hK hput hxc hc hset hL3 hZ3 hB3 hTl hpl2
          go_wp2_with fail
          refine wp_region_still_tail 9 (by kernel_rfl) (by kernel_rfl) ?_
          simp only [List.take_succ_cons, List.take_zero, List.drop_succ_cons, List.drop_zero]
          repeat still_step
          still_call (HBT.out _)
          repeat still_step
          refine wpStill_nil ?_
          go_wp2
          go_roundw
          case rel => exact ⟨q + 1, by omega, by go_num, HSET.out, (HZ3.out.set HGB.out _ _).drewN 1, (HB3.out.setCell (p := ⟨g, 1 + K, none⟩) (Nat.le_refl _) _).drew⟩
          case measure => simp [intOf]; omega
        · obtain rfl : q = pl.length := by omega
          rw [List.take_length] at HL3
          have HR := Lib.hid (HST.out ▸ HL3.out)
          clear hL3 hZ3 hB3
          go_wp2_with fail
          go_roundw
          case rel => exact ⟨j + 1, by omega, by go_num, HR.out, HB3.out⟩
          case measure => simp [intOf]; omega
    · obtain rfl : j = n := by omega
      have hst := HLr.out
      rw [List.take_of_length_le (by rw [keysOf_length, HNL.out]; exact Nat.le_refl _), ← HF.out] at hst
      have hcv := lies_string hst (by rw [BL.filter_len, keysOf_length, HNL.out]; have := (BL.bytes_lt (b := b) (n := j) (by omega) (by omega)).2; omega)
      have hfl : (BL.filter b (keysOf l)).length = 1 + N := by rw [HF.out, List.length_cons, BL.fill_len, List.length_replicate]; omega
      rw [hfl] at hcv
      have HFO := Lib.hid hfl
      clear hst hL hB hfl
      go_wp2
      go_ret2
      exact ⟨rfl, HG.out ▸ HBr.out⟩
end Go.Proofs.YtjkofciohehgfaaGreatDoor.L11.B9


/- Has: the code's walk. -/
namespace Go.Proofs.YtjkofciohehgfaaGreatDoor.L11.B9
open Go.RowKit

theorem str_tail (W : World) (s : ByteArray) (a : Nat) (h : a ≤ s.size) :
    (Instr.slice 9 (.string s) (some (.int .i64 (a : Int))) none none).run Tryz.prog W = .ok (.string (s.extract a s.size)) W := by
  have i1 : (0 : Int) ≤ (a : Int) := by omega
  have i4 : (a : Int) ≤ (s.size : Int) := by omega
  simp [Instr.slice, run_underlying Tryz.underlying9, Instr.sliceBounds, run_sliceBound, i1, i4]

end Go.Proofs.YtjkofciohehgfaaGreatDoor.L11.B9


