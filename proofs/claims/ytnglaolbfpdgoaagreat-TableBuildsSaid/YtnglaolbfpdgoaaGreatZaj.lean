/- Texts joined by bundle.py: FGet. -/
import Derived.Test.YtnglaolbfpdgoaaGreatZai
import Derived.Test.YtnglaolbfpdgoaaGreatZae

/- The walk of Get. -/
namespace Go.Proofs.YtnglaolbfpdgoaaGreat.F3
open Go.RowKit

/-- what is read at a place: the body, the place behind it, the error -/
def vget (l : List UInt8) (p : Int) : List UInt8 × Int × Int :=
  if p < 0 ∨ (l.length : Int) < p then ([], 0, 2)
  else if (FM.get (l.drop p.toNat)).2.2 = 0 then ((FM.get (l.drop p.toNat)).1, p + (FM.get (l.drop p.toNat)).2.1, 0)
  else ([], 0, (FM.get (l.drop p.toNat)).2.2)

def getOut (s : ByteArray) (p : Int) : Value := .tuple #[.string ⟨(vget s.data.toList p).1.toArray⟩, .int .i64 (vget s.data.toList p).2.1, .int .i64 (vget s.data.toList p).2.2]

theorem getOut_of {s : ByteArray} {p : Int} {b : List UInt8} {n e : Int} (h : vget s.data.toList p = (b, n, e)) : getOut s p = .tuple #[.string ⟨b.toArray⟩, .int .i64 n, .int .i64 e] := by
  unfold getOut; rw [h]

theorem vget_arg {l : List UInt8} {p : Int} (h : p < 0 ∨ (l.length : Int) < p) : vget l p = ([], 0, 2) := by unfold vget; rw [if_pos h]
theorem vget_nat {l : List UInt8} {k : Nat} (h : k ≤ l.length) : vget l (k : Int) = if (FM.get (l.drop k)).2.2 = 0 then ((FM.get (l.drop k)).1, (k : Int) + (FM.get (l.drop k)).2.1, 0) else ([], 0, (FM.get (l.drop k)).2.2) := by
  unfold vget; rw [if_neg (by omega), Int.toNat_natCast]
theorem vget_meas {l : List UInt8} {k : Nat} (h : k ≤ l.length) {m : Nat} {c : Int} (hm : FM.meas (l.drop k) = (m, c)) (hc : c ≠ 0) : vget l (k : Int) = ([], 0, c) := by
  have e : FM.get (l.drop k) = ([], 0, c) := by unfold FM.get; rw [hm, if_pos hc]
  rw [vget_nat h, e]
  simp only [if_neg hc]
theorem vget_sum {l : List UInt8} {k : Nat} (h : k ≤ l.length) {m : Nat} (hm : FM.meas (l.drop k) = (m, 0)) {b : List UInt8} (hb : (l.drop (k + 8)).take (m - 8) = b) (hs : (l.drop k).take 8 ≠ FM.head b) : vget l (k : Int) = ([], 0, 6) := by
  have e : FM.get (l.drop k) = ([], 0, 6) := by
    unfold FM.get; rw [hm, if_neg (by simp), if_pos]
    rw [List.drop_drop]
    simp only
    rw [hb]; exact hs
  rw [vget_nat h, e]
  simp
theorem vget_good {l : List UInt8} {k : Nat} (h : k ≤ l.length) {m : Nat} (hm : FM.meas (l.drop k) = (m, 0)) {b : List UInt8} (hb : (l.drop (k + 8)).take (m - 8) = b) (hs : (l.drop k).take 8 = FM.head b) : vget l (k : Int) = (b, (k : Int) + m, 0) := by
  have e : FM.get (l.drop k) = (b, m, 0) := by
    unfold FM.get; rw [hm, if_neg (by simp), if_neg]
    · rw [List.drop_drop]; simp only; rw [hb]
    · rw [List.drop_drop]
      simp only
      rw [hb]; simpa using hs
  rw [vget_nat h, e]
  simp

/-- 's[a:b]' of a text -/
theorem str_slice (W : World) (s : ByteArray) (a b : Nat) (x y : Int) (hx : x = a) (hy : y = b) (h1 : a ≤ b) (h2 : b ≤ s.size) :
    (Instr.slice 9 (.string s) (some (.int .i64 x)) (some (.int .i64 y)) none).run Tryz.prog W = .ok (.string (s.extract a b)) W := by
  subst hx hy
  have i1 : (0 : Int) ≤ (a : Int) := by omega
  have i2 : (0 : Int) ≤ (b : Int) := by omega
  have i3 : (a : Int) ≤ (b : Int) := by omega
  have i4 : (b : Int) ≤ (s.size : Int) := by omega
  simp [Instr.slice, run_underlying Tryz.underlying9, Instr.sliceBounds, run_sliceBound, i1, i2, i3, i4]

theorem str_tail (W : World) (s : ByteArray) (a : Nat) (h : a ≤ s.size) :
    (Instr.slice 9 (.string s) (some (.int .i64 (a : Int))) none none).run Tryz.prog W = .ok (.string (s.extract a s.size)) W := by
  have i1 : (0 : Int) ≤ (a : Int) := by omega
  have i4 : (a : Int) ≤ (s.size : Int) := by omega
  simp [Instr.slice, run_underlying Tryz.underlying9, Instr.sliceBounds, run_sliceBound, i1, i4]

theorem tail_list (s : ByteArray) (a : Nat) : (s.extract a s.size).data.toList = s.data.toList.drop a := by
  rw [Lib.extract_data, List.take_of_length_le (by rw [List.length_drop, size_list]; omega)]

set_option maxRecDepth 100000 in
theorem get_any (s : ByteArray) (p : Int) (w : World) (hs : s.size ≤ 281474976710656) (hp0 : -9223372036854775808 ≤ p) (hp1 : p ≤ 9223372036854775807) :
    Calls Tryz.prog 76 #[.string s, .int .i64 p] w fun e w' => e = .returned (getOut s p) ∧ Below w.heap.size w w' := by
  have HSL := Lib.hid (size_list s)
  by_cases harg : p < 0 ∨ (s.size : Int) < p
  · have HO := Lib.hid (getOut_of (s := s) (vget_arg (by rw [HSL.out]; exact harg)))
    rcases harg with h | h
    · go_enter Tryz.func76, Tryz.ntmps76
      go_wp2
      go_ret3
      exact ⟨by rw [HO.out]; rfl, Below.refl _ _⟩
    · have h0 : ¬ p < 0 := by omega
      go_enter Tryz.func76, Tryz.ntmps76
      go_wp2
      go_ret3
      exact ⟨by rw [HO.out]; rfl, Below.refl _ _⟩
  obtain ⟨k, rfl⟩ : ∃ k : Nat, p = (k : Int) := ⟨p.toNat, by omega⟩
  have hk : k ≤ s.size := by omega
  have HAL := Lib.hid (show k ≤ s.data.toList.length by rw [HSL.out]; exact hk)
  have HT := Lib.hid (tail_list s k)
  have htl := fun W => str_tail W s k hk
  have HM := Lib.hid (fun W => measure_any (s.extract k s.size) W (by rw [ByteArray.size_extract]; omega))
  unfold measOut at HM
  rw [HT.out] at HM
  obtain ⟨m, c, hm⟩ : ∃ m c, FM.meas (s.data.toList.drop k) = (m, c) := ⟨_, _, rfl⟩
  rw [hm] at HM
  clear harg hp0 hp1
  by_cases hc : c = 0
  · subst hc
    obtain ⟨hm8, hml, -, -, -⟩ := FM.meas_ok hm
    rw [List.length_drop, HSL.out] at hml
    have hmk : k + m ≤ s.size := by omega
    have hm64 : m ≤ 65543 := by
      obtain ⟨-, -, h2, h3, h4⟩ := FM.meas_ok hm
      omega
    have hsl1 := fun W => str_slice W s (k + 8) (k + m) ((k : Int) + 8) ((k : Int) + m) (by omega) (by omega) (by omega) hmk
    have hsl2 := fun W => str_slice W s k (k + 8) (k : Int) ((k : Int) + 8) (by omega) (by omega) (by omega) (by omega)
    have hb : (s.extract (k + 8) (k + m)).data.toList = (s.data.toList.drop (k + 8)).take (m - 8) := by
      rw [Lib.extract_data, show k + m - (k + 8) = m - 8 by omega]
    have ha : (s.extract k (k + 8)).data.toList = (s.data.toList.drop k).take 8 := by
      rw [Lib.extract_data, show k + 8 - k = 8 by omega]
    have hbs : (s.extract (k + 8) (k + m)).size = m - 8 := by rw [ByteArray.size_extract]; omega
    obtain ⟨B, hB⟩ : ∃ B, s.extract (k + 8) (k + m) = B := ⟨_, rfl⟩
    obtain ⟨A, hA⟩ : ∃ A, s.extract k (k + 8) = A := ⟨_, rfl⟩
    rw [hB] at hsl1 hb hbs
    rw [hA] at hsl2 ha
    have HH := Lib.hid (fun W => head_any B W (by omega))
    have HC := Lib.hid (fun W => clone_any B W (by omega))
    have HMM := Lib.hid hm
    have HBL := Lib.hid hb
    have HAA := Lib.hid ha
    clear hm hb ha hB hA
    by_cases hsum : A.data.toList = FM.head B.data.toList
    · have HO := Lib.hid (getOut_of (s := s) (vget_good HAL.out HMM.out HBL.out.symm (by rw [← HAA.out]; exact hsum)))
      rw [str_mk] at HO
      have hcmp : (A.toList == (⟨(FM.head B.data.toList).toArray⟩ : ByteArray).toList) = true := by
        rw [beq_iff_eq, Lib.toList_data, Lib.toList_data]; exact hsum
      obtain ⟨h8, hh⟩ : ∃ h8, (⟨(FM.head B.data.toList).toArray⟩ : ByteArray) = h8 := ⟨_, rfl⟩
      rw [hh] at hcmp
      go_enter Tryz.func76, Tryz.ntmps76
      go_wp2_with fail
      refine (HM.out _).mono ?_
      rintro e w1 ⟨rfl, hB1⟩
      go_wp2_with fail
      refine (HH.out _).mono ?_
      rintro e w2 ⟨rfl, hB2⟩
      have hst := run_store8 w2 B.data.toList
      unfold zero8 at hst
      have has := fun W => arr_slice8 W w2.heap.size
      have hcv := fun n => row_string ((rowWorld w2 B.data.toList).drewN n) _ _ _ B.data.toList (rowWorld_row w2 _)
      rw [hh] at hcv
      have HB := Lib.hid ((hB1.trans (hB2.mono hB1.size)).trans ((rowWorld_below w2 B.data.toList).mono (Nat.le_trans hB1.size hB2.size)))
      have hle := HB.out.size
      clear hB1 hB2 hh hsum
      go_wp2_with fail
      go_quiet (fail)
      go_wp2_with fail
      refine (HC.out _).mono ?_
      rintro e w3 ⟨rfl, hB3⟩
      go_wp2
      go_ret3
      exact ⟨by rw [HO.out]; rfl, (below_drewN HB.out _).trans (hB3.mono hle)⟩
    · have HO := Lib.hid (getOut_of (s := s) (vget_sum HAL.out HMM.out HBL.out.symm (by rw [← HAA.out]; exact hsum)))
      have hcmp : (A.toList == (⟨(FM.head B.data.toList).toArray⟩ : ByteArray).toList) = false := by
        rw [beq_eq_false_iff_ne, Lib.toList_data, Lib.toList_data]; exact hsum
      obtain ⟨h8, hh⟩ : ∃ h8, (⟨(FM.head B.data.toList).toArray⟩ : ByteArray) = h8 := ⟨_, rfl⟩
      rw [hh] at hcmp
      go_enter Tryz.func76, Tryz.ntmps76
      go_wp2_with fail
      refine (HM.out _).mono ?_
      rintro e w1 ⟨rfl, hB1⟩
      go_wp2_with fail
      refine (HH.out _).mono ?_
      rintro e w2 ⟨rfl, hB2⟩
      have hst := run_store8 w2 B.data.toList
      unfold zero8 at hst
      have has := fun W => arr_slice8 W w2.heap.size
      have hcv := fun n => row_string ((rowWorld w2 B.data.toList).drewN n) _ _ _ B.data.toList (rowWorld_row w2 _)
      rw [hh] at hcv
      have HB := Lib.hid ((hB1.trans (hB2.mono hB1.size)).trans ((rowWorld_below w2 B.data.toList).mono (Nat.le_trans hB1.size hB2.size)))
      have hle := HB.out.size
      clear hB1 hB2 hh hsum
      go_wp2_with fail
      go_quiet (fail)
      go_wp2
      go_ret3
      exact ⟨by rw [HO.out]; rfl, below_drewN HB.out _⟩
  · have HO := Lib.hid (getOut_of (s := s) (vget_meas HAL.out hm hc))
    have t2 : (c == 0) = false := beq_eq_false_iff_ne.2 hc
    have t2' : (c != 0) = true := by rw [bne_iff_ne]; exact hc
    clear hm hc
    go_enter Tryz.func76, Tryz.ntmps76
    go_wp2_with fail
    refine (HM.out _).mono ?_
    rintro e w1 ⟨rfl, hB1⟩
    go_wp2
    go_ret3
    exact ⟨by rw [HO.out]; rfl, hB1⟩
end Go.Proofs.YtnglaolbfpdgoaaGreat.F3

