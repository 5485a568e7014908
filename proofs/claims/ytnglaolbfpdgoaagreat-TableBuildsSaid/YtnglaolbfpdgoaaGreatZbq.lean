/- Texts joined by bundle.py: NRn. -/
import Derived.Test.YtnglaolbfpdgoaaGreatZaq
import Derived.Test.YtnglaolbfpdgoaaGreatZan
import Derived.Deep.CutRange

/- New: the document's walk. -/
namespace Go.Proofs.YtnglaolbfpdgoaaGreat.B9
open Go.RowKit

set_option maxRecDepth 100000 in
set_option maxHeartbeats 1000000 in
theorem rnew_any (b : Int) (A : Option Addr) (n cap : Nat) (l : List ByteArray) (w : World) (hb0 : -9223372036854775808 ≤ b) (hb1 : b ≤ 9223372036854775807) (hn : l.length = n) (hz : StrsIn w w.heap.size A l) (hnb : n * 16 ≤ reachBytes) (hs : ∀ q ∈ l, q.size ≤ 140737488351232) :
    Calls Tryz.prog 25 #[.int .i64 b, .slice A n cap] w fun e w' => NewOut b l w e w' := by
  unfold reachBytes at hnb
  have hkl : (keysOf l).length = n := by rw [keysOf_length, hn]
  by_cases h1 : b < 1
  · have HO : Hid (NewOut b l w (.returned (.tuple #[.string ⟨#[]⟩, .int .i64 2])) w) := by
      refine Lib.hid ?_
      unfold NewOut BL.new
      rw [if_pos (Or.inl h1)]
      exact ⟨rfl, Below.refl _ _⟩
    clear hz hs hkl
    go_enter Tryz.func25, Tryz.ntmps25
    go_wp2
    go_ret2
    exact HO.out
  by_cases h2 : 16 < b
  · have HO : Hid (NewOut b l w (.returned (.tuple #[.string ⟨#[]⟩, .int .i64 2])) w) := by
      refine Lib.hid ?_
      unfold NewOut BL.new
      rw [if_pos (Or.inr h2)]
      exact ⟨rfl, Below.refl _ _⟩
    clear hz hs hkl
    go_enter Tryz.func25, Tryz.ntmps25
    go_wp2
    go_ret2
    exact HO.out
  by_cases h3 : 65536 < n
  · have HO : Hid (NewOut b l w (.returned (.tuple #[.string ⟨#[]⟩, .int .i64 5])) w) := by
      refine Lib.hid ?_
      unfold NewOut BL.new
      rw [if_neg (by omega), if_pos (by omega)]
      exact ⟨rfl, Below.refl _ _⟩
    clear hz hs hkl
    go_enter Tryz.func25, Tryz.ntmps25
    go_wp2
    go_ret2
    exact HO.out
  obtain ⟨b, rfl⟩ : ∃ B : Nat, b = (B : Int) := ⟨b.toNat, by omega⟩
  have HO : Hid (NewOut (b : Int) l w = fun e w' => e = .returned (.tuple #[.string ⟨(BL.filter b (keysOf l)).toArray⟩, .int .i64 0]) ∧ Below w.heap.size w w') := by
    refine Lib.hid ?_
    unfold NewOut BL.new
    rw [if_neg (by omega), if_neg (by omega)]
    rfl
  rw [HO.out]
  have HF : Hid (BL.filter b (keysOf l) = UInt8.ofNat (BL.probes b) :: BL.fill (BL.probes b) (8 * BL.bytes b n) (List.replicate (BL.bytes b n) 0) (keysOf l)) := by
    unfold BL.filter; rw [hkl]; exact Lib.hid rfl
  have HX := Lib.hid (BL.probes_byte b)
  obtain ⟨hP1, hP8⟩ := BL.probes_lt b
  obtain ⟨hN8, hNl⟩ := BL.bytes_lt (b := b) (n := n) (by omega) (by omega)
  have HPd : Hid (BL.probes b = min (max (69 * b / 100) 1) 8) := Lib.hid rfl
  have HNd : Hid (BL.bytes b n = (max (b * n) 64 + 7) / 8) := Lib.hid rfl
  obtain ⟨P, hP⟩ : ∃ P, BL.probes b = P := ⟨_, rfl⟩
  obtain ⟨N, hN⟩ : ∃ N, BL.bytes b n = N := ⟨_, rfl⟩
  obtain ⟨x, hx⟩ : ∃ x, UInt8.ofNat P = x := ⟨_, rfl⟩
  rw [hP] at HPd HF HX hP1 hP8
  rw [hN] at HNd HF hN8 hNl
  rw [hx] at HF HX
  obtain ⟨Q, hQ⟩ : ∃ Q, 69 * b / 100 = Q := ⟨_, rfl⟩
  have hQi : 69 * (b : Int) / 100 = (Q : Int) := by omega
  have hQl : Q ≤ 100 := by omega
  have hMl : b * n ≤ 16 * 65536 := Nat.mul_le_mul (by omega) (by omega)
  obtain ⟨M, hM⟩ : ∃ M, b * n = M := ⟨_, rfl⟩
  have hMi : (b : Int) * (n : Int) = (M : Int) := by rw [← hM, Int.natCast_mul]
  rw [hM] at HNd hMl
  rw [hQ] at HPd
  have HZ := Lib.hid hz
  have HSZ := Lib.hid hs
  have HNL := Lib.hid hn
  clear hP hN hx hz hs hn hkl HO hQ hM
  go_enter Tryz.func25, Tryz.ntmps25
  go_upto_if 27 with fail
  go_cut [6] from 14 (fun p wc => p = .int .i64 ((max Q 1 : Nat) : Int) ∧ w = wc)
  case first =>
    by_cases h : Q < 1
    · go_wp2
      go_meet
      exact ⟨congrArg (Value.int .i64) (by omega), rfl⟩
    · go_wp2
      go_meet
      exact ⟨congrArg (Value.int .i64) (by omega), rfl⟩
  case rest =>
  obtain ⟨rfl, rfl⟩ := hcut
  obtain ⟨Q1, hQ1⟩ : ∃ Q1, max Q 1 = Q1 := ⟨_, rfl⟩
  rw [hQ1] at HPd ⊢
  clear hQi hQ1 hQl
  go_upto_if 29 with fail
  go_cut [6] from 14 (fun p wc => p = .int .i64 ((min Q1 8 : Nat) : Int) ∧ w = wc)
  case first =>
    by_cases h : 8 < Q1
    · go_wp2
      go_meet
      exact ⟨congrArg (Value.int .i64) (by omega), rfl⟩
    · go_wp2
      go_meet
      exact ⟨congrArg (Value.int .i64) (by omega), rfl⟩
  case rest =>
  obtain ⟨rfl, rfl⟩ := hcut
  rw [← HPd.out]
  clear HPd
  go_upto_if 35 with fail
  go_cut [7] from 14 (fun p wc => p = .int .i64 ((max M 64 : Nat) : Int) ∧ w = wc)
  case first =>
    by_cases h : M < 64
    · go_wp2
      go_meet
      exact ⟨congrArg (Value.int .i64) (by omega), rfl⟩
    · go_wp2
      go_meet
      exact ⟨congrArg (Value.int .i64) (by omega), rfl⟩
  case rest =>
  obtain ⟨rfl, rfl⟩ := hcut
  obtain ⟨M1, hM1⟩ : ∃ M1, max M 64 = M1 := ⟨_, rfl⟩
  rw [hM1] at HNd ⊢
  have hM1l : M1 ≤ 2000000 := by omega
  clear hMi hM1 hMl
  go_upto_if 40 with fail
  go_cut [8] from 14 (fun p wc => p = .int .i64 (((M1 + 7) / 8 : Nat) : Int) ∧ w = wc)
  case first =>
    by_cases h : 0 < M1 % 8
    · go_wp2
      go_meet
      exact ⟨congrArg (Value.int .i64) (by omega), rfl⟩
    · go_wp2
      go_meet
      exact ⟨congrArg (Value.int .i64) (by omega), rfl⟩
  case rest =>
  obtain ⟨rfl, rfl⟩ := hcut
  rw [← HNd.out]
  clear HNd
  have hmk := make_bytes w N (by omega)
  have HL := Lies.new w 5 (Lib.byteCells (List.replicate N 0))
  obtain ⟨W1, hW1⟩ : ∃ W1, w.alloc (.cells (Lib.byteCells (List.replicate N 0)).toArray 5) = W1 := ⟨_, rfl⟩
  have HB1 : Hid (Below w.heap.size w W1) := by rw [← hW1]; exact Lib.hid ((Below.refl _ _).alloc (Nat.le_refl _) _)
  rw [hW1] at hmk HL
  have HL := Lib.hid HL
  clear hW1
  go_wp2_with fail
  obtain ⟨g, hg⟩ : ∃ g, w.heap.size = g := ⟨_, rfl⟩
  rw [hg] at HL HB1 ⊢
  have HG := Lib.hid hg
  clear hmk
  go_loopw [10] (fun i wr => ∃ j : Nat, j ≤ n ∧ i = .int .i64 j ∧ Lies wr g 5 (Lib.byteCells (BL.fill P (8 * N) (List.replicate N 0) ((keysOf l).take j))) ∧ Below g w wr) (fun i _ => n - (intOf i).toNat)
  case atStart => exact ⟨0, by omega, rfl, HL.out, HB1.out⟩
  case round =>
    obtain ⟨j, hj, rfl, hL, hB⟩ := hrel
    have HLr := Lib.hid hL
    have HBr := Lib.hid hB
    have hsr := hL.lt
    by_cases hlt : j < n
    · obtain ⟨gA, oA, hA, hgA, hcA⟩ := ((HG.out ▸ HZ.out : StrsIn w g A l).below hB) (by rw [HNL.out]; omega)
      have hcj := hcA j (by rw [HNL.out]; exact hlt)
      obtain ⟨k, hk⟩ : ∃ k, l[j]'(by rw [HNL.out]; exact hlt) = k := ⟨_, rfl⟩
      have hks := HSZ.out k (by rw [← hk]; exact List.getElem_mem _)
      have hst := BL.fill_snoc P (8 * N) (List.replicate N 0) (keysOf l) j (by rw [keysOf_length, HNL.out]; exact hlt)
      rw [keysOf_at l j (by rw [HNL.out]; exact hlt), hk] at hst
      rw [hk] at hcj
      have hSl := BL.fill_len P (8 * N) ((keysOf l).take j) (List.replicate N 0)
      rw [List.length_replicate] at hSl
      obtain ⟨S, hS⟩ : ∃ S, BL.fill P (8 * N) (List.replicate N 0) ((keysOf l).take j) = S := ⟨_, rfl⟩
      rw [hS] at hst hSl HLr
      have HST := Lib.hid hst
      have HSL := Lib.hid hSl
      have i0 : (0 : Int) ≤ (j : Int) := by omega
      have i1 : (j : Int) < (n : Int) := by omega
      have HC := Lib.hid (rplaces_any k (P : Int) (8 * (N : Int)) wr hks (by omega) (by omega) (by omega) (by omega))
      unfold PlacesOut at HC
      have e8 : ((8 * N : Nat) : Int) = 8 * (N : Int) := by omega
      rw [e8] at HST
      have hpl := BL.places_len k.data.toList (P : Int) (8 * (N : Int))
      have hpt := fun q => @BL.places_lt k.data.toList (P : Int) (8 * (N : Int)) q
      obtain ⟨pl, hpd⟩ : ∃ pl, BL.places k.data.toList (P : Int) (8 * (N : Int)) = pl := ⟨_, rfl⟩
      rw [hpd] at HC HST hpl hpt
      have HPT := Lib.hid hpt
      subst hA
      clear hL hB hcA hk hst hSl hS hpt hpd e8
      go_wp2_with fail
      refine HC.out.mono ?_
      rintro e w2 ⟨v, rfl, hown, hB2⟩
      obtain ⟨A1, c1, rfl, hz1⟩ := own_nums hown
      have HZ1 := Lib.hid hz1
      have hs2 := hB2.size
      have HL2 := Lib.hid (HLr.out.all hB2)
      have HB2' := Lib.hid (HBr.out.trans (hB2.mono (show g ≤ wr.heap.size by omega)))
      obtain ⟨base, hbase⟩ : ∃ base, wr.heap.size = base := ⟨_, rfl⟩
      rw [hbase] at HZ1 hsr
      have HGB := Lib.hid hsr
      clear hown hz1 hB2 hbase
      go_wp2_with fail
      go_loopw [12] (fun i ws => ∃ q : Nat, q ≤ pl.length ∧ i = .int .i64 q ∧ Lies ws g 5 (Lib.byteCells (BL.puts S (pl.take q))) ∧ NumsAt ws base A1 pl ∧ Below g w ws) (fun i _ => pl.length - (intOf i).toNat)
      case atStart => exact ⟨0, by omega, rfl, HL2.out, HZ1.out, HB2'.out⟩
      case round =>
        obtain ⟨q, hq, rfl, hL3, hZ3, hB3⟩ := hrel
        have HL3 := Lib.hid hL3
        have HZ3 := Lib.hid hZ3
        have HB3 := Lib.hid hB3
        by_cases hql : q < pl.length
        · obtain ⟨B, hB, hBb, -, hBc⟩ := hZ3 (by omega)
          have hcq := hBc q hql
          have hps := BL.puts_snoc S pl q hql
          have hpl2 := HPT.out pl[q] (List.getElem_mem _)
          obtain ⟨p, hp⟩ : ∃ p, pl[q] = p := ⟨_, rfl⟩
          rw [hp] at hcq hps hpl2
          have hTl := BL.puts_len (pl.take q) S
          rw [HSL.out] at hTl
          obtain ⟨T, hT⟩ : ∃ T, BL.puts S (pl.take q) = T := ⟨_, rfl⟩
          rw [hT] at hps hTl hL3 HL3
          obtain ⟨K, hK⟩ : ∃ K, p / 8 = K := ⟨_, rfl⟩
          have hKi : (p : Int) / 8 = (K : Int) := by omega
          have hKN : K < N := by omega
          have hput := BL.put_set T p (by omega)
          simp only [hK] at hput
          have hcT := hL3.cell (bytes_at T K (by omega))
          have hfT := hL3.frozen K
          have hor := u8_or_nat T[K].toNat (BL.mask p).toNat T[K].toNat_lt (BL.mask p).toNat_lt
          rw [← UInt8.toNat_or, BL.mask_toNat] at hor
          rw [← pow_byte (p % 8) (Nat.mod_lt _ (by decide)), show p % 8 = min (p % 8) 8 by omega] at hor
          obtain ⟨c, hc⟩ : ∃ c, T[K] = c := ⟨_, rfl⟩
          rw [hc] at hcT hor hput
          have hset := hL3.set K (.int .u8 ((c ||| BL.mask p).toNat : Int))
          rw [bytes_set, ← hput, ← hps] at hset
          have HSET := Lib.hid hset
          have i0 : (0 : Int) ≤ (K : Int) := by omega
          have i1 : (K : Int) < (N : Int) := by omega
          have i2 : (0 : Int) ≤ (q : Int) := by omega
          have i3 : (q : Int) < (pl.length : Int) := by omega
          have iw : IntKind.i64.wrap (K : Int) = (K : Int) := by rw [IntKind.wrap_i64]; omega
          have iq : IntKind.i64.wrap (q : Int) = (q : Int) := by rw [IntKind.wrap_i64]; omega
          subst hB
          clear hBc hp hps hT hK hput hc hset hL3 hZ3 hB3 hTl hpl2
          go_wp2_with fail
          refine wp_region_still_tail 15 (by kernel_rfl) (by kernel_rfl) ?_
          simp only [List.take_succ_cons, List.take_zero, List.drop_succ_cons, List.drop_zero]
          repeat still_step
          refine wpStill_nil ?_
          go_wp2
          go_roundw
          case rel => exact ⟨q + 1, by omega, by go_num, HSET.out, (HZ3.out.set HGB.out _ _).drewN 1, (HB3.out.setCell (p := ⟨g, K, none⟩) (Nat.le_refl _) _).drew⟩
          case measure => simp [intOf]; omega
        · obtain rfl : q = pl.length := by omega
          rw [List.take_length] at HL3
          have HR := Lib.hid (HST.out ▸ HL3.out)
          clear hL3 hZ3 hB3
          go_wp2_with fail
          go_roundw
          case rel => exact ⟨j + 1, by omega, by go_num, HR.out, HB3.out⟩
          case measure => simp [intOf]; omega
    · obtain rfl : j = n := by omega
      have hst := HLr.out
      rw [List.take_of_length_le (by rw [keysOf_length, HNL.out]; exact Nat.le_refl _)] at hst
      have HF2 := HF.out
      have hfl := BL.fill_len P (8 * N) (keysOf l) (List.replicate N 0)
      rw [List.length_replicate] at hfl
      obtain ⟨S, hS⟩ : ∃ S, BL.fill P (8 * N) (List.replicate N 0) (keysOf l) = S := ⟨_, rfl⟩
      rw [hS] at hst HF2 hfl
      have HF2 := Lib.hid HF2
      have hb1 : Lib.byteCells [x] = [.int .u8 (P : Int)] := by rw [← HX.out]; rfl
      have hc1 : (convert 98 9 (.slice (some ⟨wr.heap.size, 0, none⟩) 1 1)).run Tryz.prog (wr.alloc (.cells #[.int .u8 (P : Int)] 5)) = .ok (.string ⟨#[x]⟩) (wr.alloc (.cells #[.int .u8 (P : Int)] 5)) := by
        have h := lies_string (Lies.new wr 5 (Lib.byteCells [x])) (by simp)
        rw [hb1] at h
        exact h
      have hc2 := lies_string (hst.all ((Below.refl _ _).alloc (Nat.le_refl _) (.cells #[.int .u8 (P : Int)] 5))) (by omega)
      rw [hfl] at hc2
      have hcat : ¬ 9223372036854775807 < 1 + N := by omega
      have hcat' : ¬ (9223372036854775807 : Int) < 1 + (N : Int) := by omega
      have HB4 : Hid (Below g w (wr.alloc (.cells #[.int .u8 (P : Int)] 5))) := Lib.hid (HBr.out.alloc (by omega) _)
      have HR : Hid ((⟨#[x]⟩ : ByteArray) ++ ⟨S.toArray⟩ = ⟨(x :: S).toArray⟩) := Lib.hid (str_ext (by rw [str_app]; rfl))
      have HSS : Hid ((⟨S.toArray⟩ : ByteArray).size = N) := Lib.hid hfl
      clear hst hL hB hS hb1
      go_wp2
      go_ret2
      refine ⟨?_, HB4.out⟩
      show Ending.returned (.tuple #[.string ((⟨#[x]⟩ : ByteArray) ++ ⟨S.toArray⟩), .int .i64 0]) = _
      rw [HR.out]
end Go.Proofs.YtnglaolbfpdgoaaGreat.B9

