/- Has: the code's walk. -/
import Derived.Test.YtnamihkdoigieaaNw
import Derived.Deep.QuietTactic
namespace Go.Proofs.Ytnamihkdoigieaa
open Go.RowKit

theorem bit_test (c : UInt8) (R : Nat) (h : R < 8) : (c &&& UInt8.ofNat (2 ^ R)).toNat = 0 ↔ c.toNat.testBit R = false := by
  have h2 : (2 : Nat) ^ R < 256 := by
    have : (2 : Nat) ^ R < 2 ^ 8 := Nat.pow_lt_pow_right (by decide) h
    omega
  rw [UInt8.toNat_and, UInt8.toNat_ofNat', Nat.mod_eq_of_lt (by simpa using h2)]
  constructor
  · intro e
    have := congrArg (fun n : Nat => n.testBit R) e
    simpa [Nat.testBit_and, Nat.testBit_two_pow_self] using this
  · intro e
    apply Nat.eq_of_testBit_eq
    intro i
    rw [Nat.testBit_and, Nat.testBit_two_pow, Nat.zero_testBit]
    by_cases hi : R = i
    · subst hi; rw [e, Bool.false_and]
    · simp [hi]

/-- a bit looked at by the code -/
theorem bit_and (c : UInt8) (p : Nat) : (bits .and .u8 (c.toNat : Int) ((BL.mask p).toNat : Int) == 0) = !(c.toNat.testBit (p % 8)) := by
  rw [u8_and_nat _ _ c.toNat_lt (BL.mask p).toNat_lt, ← UInt8.toNat_and]
  have h := bit_test c (p % 8) (Nat.mod_lt _ (by decide))
  unfold BL.mask
  cases hb : c.toNat.testBit (p % 8)
  · have h0 := h.2 hb
    simp [h0]
  · have h0 : ¬ (c &&& UInt8.ofNat (2 ^ (p % 8))).toNat = 0 := fun e => by rw [h.1 e] at hb; cases hb
    simp only [Bool.not_true, beq_eq_false_iff_ne, ne_eq]
    omega

theorem bit_at (S : BL.Bs) (p : Nat) (h : p / 8 < S.length) : BL.bit S p = S[p / 8].toNat.testBit (p % 8) := by
  unfold BL.bit
  rw [List.getD_eq_getElem?_getD, List.getElem?_eq_getElem h, Option.getD_some]

set_option maxRecDepth 100000 in
theorem unset_any (bx : Nat) (s : ByteArray) (p : Nat) (w : World) (hc : w.cell? ⟨bx, 0, none⟩ = some (.string s)) (hp : p / 8 < s.size) (hs : s.size ≤ 140737488355328) :
    Calls Try.prog 20 #[.int .i64 (p : Int), .pointer (some ⟨bx, 0, none⟩)] w fun e w' => e = .returned (.bool (!BL.bit s.data.toList p)) ∧ Below w.heap.size w w' := by
  have hb := bit_at s.data.toList p (by rw [size_list]; exact hp)
  obtain ⟨K, hK⟩ : ∃ K, p / 8 = K := ⟨_, rfl⟩
  have hKi : (p : Int) / 8 = (K : Int) := by omega
  simp only [hK] at hb hp
  rw [byte_of s K hp] at hb
  have hand := bit_and s[K] p
  rw [← hb] at hand
  obtain ⟨B, hB⟩ : ∃ B, BL.bit s.data.toList p = B := ⟨_, rfl⟩
  rw [hB] at hand ⊢
  have HBT : Hid (∀ W, Calls Try.prog 19 #[.int .i64 (p : Int)] W fun e w' => e = .returned (.int .u8 ((BL.mask p).toNat : Nat)) ∧ w' = W) := Lib.hid fun W => (bit_any p W (by omega)).mono fun e w' h => ⟨h.1, h.2.symm⟩
  have i0 : (0 : Int) ≤ (K : Int) := by omega
  have i1 : (K : Int) < (s.size : Int) := by omega
  have iw : IntKind.i64.wrap (K : Int) = (K : Int) := by rw [IntKind.wrap_i64]; omega
  clear hK hb hB
  go_enter Try.func20, Try.ntmps20
  go_wp2_with fail
  go_quiet (first | exact Calls.quiet_of_same (HBT.out _) | fail)
  go_wp2
  go_ret
  exact ⟨rfl, below_drewN (Below.refl _ _) _⟩

set_option maxRecDepth 100000 in
theorem index_any (A : Option Addr) (l : List Nat) (c base : Nat) (w : World) (hz : NumsAt w base A l) (hlen : l.length ≤ 8) (fn : FuncId) (caps : Array Value) (u : Nat → Bool)
    (hcf : ∀ W q, (callFunc fn (#[.int .i64 q] ++ caps)).run Try.prog W = .ok (.enter fn (#[.int .i64 q] ++ caps)) W)
    (hcall : ∀ W, Below w.heap.size w W → ∀ p ∈ l, Calls Try.prog fn (#[.int .i64 (p : Nat)] ++ caps) W fun e W' => e = .returned (.bool (u p)) ∧ Below W.heap.size W W') :
    Calls Try.prog 22 #[.slice A l.length c, .func (.func fn) #[] caps] w fun e w' => ∃ r : Int, e = .returned (.int .i64 r) ∧ decide (0 ≤ r) = l.any u ∧ Below w.heap.size w w' := by
  have HCF := Lib.hid hcf
  have HC := Lib.hid hcall
  have HZ := Lib.hid hz
  clear hcf hcall hz
  go_enter Try.func22, Try.ntmps22
  go_wp2_with fail
  go_loopw [8] (fun i wr => ∃ j : Nat, j ≤ l.length ∧ i = .int .i64 j ∧ Hid ((l.take j).any u = false) ∧ Below w.heap.size w wr) (fun i _ => l.length - (intOf i).toNat)
  case atStart => exact ⟨0, by omega, rfl, Lib.hid rfl, Below.refl _ _⟩
  case round =>
    obtain ⟨j, hj, rfl, hany, hB⟩ := hrel
    by_cases hlt : j < l.length
    · obtain ⟨b, hA, -, -, hc⟩ := (HZ.out.all hB) (by omega)
      have hcj := hc j hlt
      have HCC := Lib.hid (HC.out wr hB l[j] (List.getElem_mem _))
      have hcf := HCF.out
      have hst : (l.take (j + 1)).any u = u l[j] := by rw [List.take_succ_eq_append_getElem hlt, List.any_append, hany.out]; simp
      have HST := Lib.hid hst
      have HLL : Hid (l.any u = ((l.take (j + 1)).any u || (l.drop (j + 1)).any u)) := Lib.hid (by rw [← List.any_append, List.take_append_drop])
      have HB := Lib.hid hB
      obtain ⟨q, hq⟩ : ∃ q, l[j] = q := ⟨_, rfl⟩
      rw [hq] at hcj HCC HST
      subst hA
      clear hc hst hq hB hany
      go_wp2_with fail
      refine HCC.out.mono ?_
      rintro e w1 ⟨rfl, hB1⟩
      have HB1 := Lib.hid (HB.out.trans (hB1.mono HB.out.size))
      clear hB1
      cases hu : u q
      · rw [hu] at HST
        go_wp2
        go_roundw
        case rel => exact ⟨j + 1, by omega, by go_num, HST, HB1.out⟩
        case measure => simp [intOf]; omega
      · rw [hu] at HST
        have hl := HLL.out
        rw [HST.out, Bool.true_or] at hl
        have HL := Lib.hid hl
        have hd : decide ((0 : Int) ≤ (j : Int)) = true := decide_eq_true (by omega)
        clear hl
        go_wp2
        go_ret
        exact ⟨_, rfl, by rw [HL.out]; exact decide_eq_true (by omega), HB1.out⟩
    · obtain rfl : j = l.length := by omega
      rw [List.take_length] at hany
      go_wp2
      go_ret
      exact ⟨_, rfl, by rw [hany.out]; rfl, hB⟩

set_option maxRecDepth 100000 in
theorem contains_any (A : Option Addr) (l : List Nat) (c base : Nat) (w : World) (hz : NumsAt w base A l) (hlen : l.length ≤ 8) (fn : FuncId) (caps : Array Value) (u : Nat → Bool)
    (hcf : ∀ W q, (callFunc fn (#[.int .i64 q] ++ caps)).run Try.prog W = .ok (.enter fn (#[.int .i64 q] ++ caps)) W)
    (hcall : ∀ W, Below w.heap.size w W → ∀ p ∈ l, Calls Try.prog fn (#[.int .i64 (p : Nat)] ++ caps) W fun e W' => e = .returned (.bool (u p)) ∧ Below W.heap.size W W') :
    Calls Try.prog 21 #[.slice A l.length c, .func (.func fn) #[] caps] w fun e w' => e = .returned (.bool (l.any u)) ∧ Below w.heap.size w w' := by
  have HI := Lib.hid (index_any A l c base w hz hlen fn caps u hcf hcall)
  clear hcf hcall hz
  obtain ⟨B, hB⟩ : ∃ B, l.any u = B := ⟨_, rfl⟩
  rw [hB] at HI ⊢
  clear hB
  go_enter Try.func21, Try.ntmps21
  go_wp2_with fail
  refine HI.out.mono ?_
  rintro e w1 ⟨r, rfl, hr, hB1⟩
  have HB1 := Lib.hid hB1
  clear hB1
  go_wp2
  go_ret
  exact ⟨by first | rfl | exact ret_bool hr, HB1.out⟩

theorem cf_enter {P : Program} {f : FuncId} {fn : Func} (hf : P.funcs[f]? = some fn) (hname : (fn.name == "runtime.NumGoroutine") = false) (hb : fn.body.isSome = true) (args : Array Value) (w : World) : (callFunc f args).run P w = .ok (.enter f args) w := by
  have h1 : fn.name ≠ "runtime.NumGoroutine" := by simpa using hname
  obtain ⟨c, hc⟩ := Option.isSome_iff_exists.1 hb
  simp [callFunc, hf, h1, hc]

theorem str_slice (W : World) (s : ByteArray) (a b : Nat) (x y : Int) (hx : x = a) (hy : y = b) (h1 : a ≤ b) (h2 : b ≤ s.size) :
    (Instr.slice 9 (.string s) (some (.int .i64 x)) (some (.int .i64 y)) none).run Try.prog W = .ok (.string (s.extract a b)) W := by
  subst hx hy
  have i1 : (0 : Int) ≤ (a : Int) := by omega
  have i2 : (0 : Int) ≤ (b : Int) := by omega
  have i3 : (a : Int) ≤ (b : Int) := by omega
  have i4 : (b : Int) ≤ (s.size : Int) := by omega
  simp [Instr.slice, run_underlying Try.underlying9, Instr.sliceBounds, run_sliceBound, i1, i2, i3, i4]

theorem str_tail (W : World) (s : ByteArray) (a : Nat) (h : a ≤ s.size) :
    (Instr.slice 9 (.string s) (some (.int .i64 (a : Int))) none none).run Try.prog W = .ok (.string (s.extract a s.size)) W := by
  have i1 : (0 : Int) ≤ (a : Int) := by omega
  have i4 : (a : Int) ≤ (s.size : Int) := by omega
  simp [Instr.slice, run_underlying Try.underlying9, Instr.sliceBounds, run_sliceBound, i1, i4]

theorem tail_list (s : ByteArray) (a : Nat) : (s.extract a s.size).data.toList = s.data.toList.drop a := by
  rw [Lib.extract_data, List.take_of_length_le (by rw [List.length_drop, size_list]; omega)]

theorem not_any_not (l : List Nat) (u : Nat → Bool) : (!(l.any fun p => !u p)) = l.all u := by
  induction l with
  | nil => rfl
  | cons p l ih => rw [List.any_cons, List.all_cons, ← ih, Bool.not_or, Bool.not_not]

/-- what a text holds behind its first byte -/
theorem text_cons (f : ByteArray) (h : 0 < f.size) : f.data.toList = f[0] :: (f.extract 1 f.size).data.toList := by
  have hl := size_list f
  rw [Lib.extract_data]
  have e : (f.data.toList.drop 1).take (f.size - 1) = f.data.toList.drop 1 := List.take_of_length_le (by rw [List.length_drop, hl]; exact Nat.le_refl _)
  rw [e, ← byte_of f 0 h]
  exact (List.getElem_cons_drop (by rw [hl]; exact h)).symm

set_option maxRecDepth 100000 in
theorem has_any (f k : ByteArray) (w : World) (hf : f.size ≤ 140737488351232) (hk : k.size ≤ 140737488351232) :
    Calls Try.prog 13 #[.string f, .string k] w fun e w' => e = .returned (.bool (BL.has f.data.toList k.data.toList)) ∧ Below w.heap.size w w' := by
  by_cases h0 : f.size = 0
  · have hs0 : f = ⟨#[]⟩ := by
      apply ByteArray.ext
      exact Array.eq_empty_of_size_eq_zero h0
    subst hs0
    clear h0
    go_enter Try.func13, Try.ntmps13
    go_wp2
    go_ret
    exact ⟨rfl, Below.refl _ _⟩
  have hpos : 0 < f.size := by omega
  have hne : f.toList.isEmpty = false := by
    rw [Lib.toList_data]
    cases hh : f.data.toList with
    | nil => have := size_list f; rw [hh] at this; simp at this; omega
    | cons a b => rfl
  have htx := text_cons f hpos
  have hes : (f.extract 1 f.size).size = f.size - 1 := by rw [ByteArray.size_extract]; omega
  obtain ⟨s, hsd⟩ : ∃ s, f.extract 1 f.size = s := ⟨_, rfl⟩
  rw [hsd] at htx hes
  obtain ⟨a, hae⟩ : ∃ a, f[0] = a := ⟨_, rfl⟩
  rw [hae] at htx
  rw [htx, BL.has_cons, size_list]
  have hal := a.toNat_lt
  have HC := Lib.hid (fun W => places_any k (a.toNat : Int) ((s.size : Int) * 8) W hk (by omega) (by omega) (by omega) (by omega))
  unfold PlacesOut at HC
  rw [show ((8 * s.size : Nat) : Int) = (s.size : Int) * 8 by omega]
  have hpl := BL.places_len k.data.toList (a.toNat : Int) ((s.size : Int) * 8)
  have hpt := fun q => @BL.places_lt k.data.toList (a.toNat : Int) ((s.size : Int) * 8) q
  obtain ⟨pl, hpd⟩ : ∃ pl, BL.places k.data.toList (a.toNat : Int) ((s.size : Int) * 8) = pl := ⟨_, rfl⟩
  rw [hpd] at HC hpl hpt ⊢
  have HPT := Lib.hid hpt
  have HN := Lib.hid (not_any_not pl (BL.bit s.data.toList))
  have HS := Lib.hid hes
  have htl : ∀ W, (Instr.slice 9 (.string f) (some (.int .i64 1)) none none).run Try.prog W = .ok (.string s) W := fun W => hsd ▸ str_tail W f 1 hpos
  have hsl : s.size ≤ 140737488351232 := by omega
  clear htx hpt hpd hsd hes h0
  go_enter Try.func13, Try.ntmps13
  go_wp2_with fail
  go_region
  obtain ⟨W1, hW1⟩ : ∃ W1, (w.alloc (.cells #[.string s] 9)).drew = W1 := ⟨_, rfl⟩
  have hL : Lies W1 w.heap.size 9 [.string s] := by rw [← hW1]; exact heap_alloc_new w _
  have hB1 : Below w.heap.size w W1 := by rw [← hW1]; exact ((Below.refl _ _).alloc (Nat.le_refl _) _).drew
  obtain ⟨b, hb⟩ : ∃ b, w.heap.size = b := ⟨_, rfl⟩
  rw [hW1]
  rw [hb] at hL hB1 ⊢
  have hcell := hL.cell (j := 0) (v := .string s) rfl
  have HL := Lib.hid hL
  have HB1 := Lib.hid hB1
  have HBB := Lib.hid hb
  clear hL hB1 hW1 htl hne hae hb
  go_wp2_with fail
  refine (HC.out _).mono ?_
  rintro e w2 ⟨v, rfl, hown, hB2⟩
  obtain ⟨A1, c1, rfl, hz1⟩ := own_nums hown
  have HL2 := Lib.hid (HL.out.all hB2)
  have hlt := HL2.out.lt
  have hlt1 := HL.out.lt
  have HB2 := Lib.hid (HB1.out.trans (hB2.mono (Nat.le_of_lt hlt1)))
  have HK := Lib.hid (contains_any A1 pl c1 _ w2 hz1 hpl 20 #[.pointer (some ⟨b, 0, none⟩)] (fun p => !BL.bit s.data.toList p)
    (fun W q => cf_enter Try.func20 (by kernel_rfl) (by kernel_rfl) _ W)
    (fun W hW p hp => unset_any b s p W ((HL2.out.below hW hlt).cell rfl) (by have := HPT.out p hp; omega) (by omega)))
  clear hown hz1 hB2 hcell
  go_wp2_with fail
  refine HK.out.mono ?_
  rintro e w3 ⟨rfl, hB3⟩
  have HB3 := Lib.hid (HB2.out.trans (hB3.mono (Nat.le_of_lt hlt)))
  obtain ⟨B, hBd⟩ : ∃ B, (pl.any fun p => !BL.bit s.data.toList p) = B := ⟨_, rfl⟩
  have hn := HN.out
  rw [hBd] at hn ⊢
  have HN2 := Lib.hid hn
  clear hn hBd hB3
  go_wp2
  go_ret
  exact ⟨by rw [← HN2.out]; rfl, HBB.out.symm ▸ HB3.out⟩
end Go.Proofs.Ytnamihkdoigieaa
