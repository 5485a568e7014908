/- The walks of Compare: the program's and the document's. -/
import Derived.Test.YtnkofinielabkaaMakes
import Derived.Test.YtnkofinielabkaaKmC
import Derived.Lib.Bytealg
namespace Go.Proofs.Ytnkofinielabkaa
open Go.RowKit
open Go.Lib (compareBytes)

theorem cmpString_any (a b : ByteArray) (w : World) :
    Calls Try.prog 32 #[.string a, .string b] w fun e w' => e = .returned (.int .i64 (compareBytes a.data.toList b.data.toList)) ∧ w = w' := by
  go_enter Try.func32, Try.ntmps32
  go_wp2
  rw [run_callFunc_extern Try.func34 (by kernel_rfl) (by kernel_rfl) (by kernel_rfl) (e := Extern.BytealgCompare.compare) (by kernel_rfl), Lib.run_compareString]
  simp only [Result.andThen]
  rw [Oper.upon_value]
  go_wp2
  go_ret
  exact ⟨rfl, rfl⟩

theorem cmpStrings_any (a b : ByteArray) (w : World) :
    Calls Try.prog 27 #[.string a, .string b] w fun e w' => e = .returned (.int .i64 (compareBytes a.data.toList b.data.toList)) ∧ w = w' := by
  go_enter Try.func27, Try.ntmps27
  go_wp2_with (go_at_call 32; refine (cmpString_any _ _ _).mono ?_; rintro e w' ⟨rfl, rfl⟩)
  go_ret
  exact ⟨rfl, rfl⟩

def cmpInt (n m : Int) : Int := if n < m then -1 else if m < n then 1 else 0

theorem cmpInt_any (n m : Int) (w : World) :
    Calls Try.prog 28 #[.int .i64 n, .int .i64 m] w fun e w' => e = .returned (.int .i64 (cmpInt n m)) ∧ w = w' := by
  have hn : (n != n) = false := by simp
  have hm : (m != m) = false := by simp
  by_cases h1 : n < m
  · have HO : Hid (cmpInt n m = -1) := by unfold cmpInt; rw [if_pos h1]; rfl
    go_enter Try.func28, Try.ntmps28
    go_wp2
    go_ret
    exact ⟨by rw [HO.out]; rfl, rfl⟩
  · by_cases h2 : m < n
    · have HO : Hid (cmpInt n m = 1) := by unfold cmpInt; rw [if_neg h1, if_pos h2]; rfl
      go_enter Try.func28, Try.ntmps28
      go_wp2
      go_ret
      exact ⟨by rw [HO.out]; rfl, rfl⟩
    · have HO : Hid (cmpInt n m = 0) := by unfold cmpInt; rw [if_neg h1, if_neg h2]; rfl
      go_enter Try.func28, Try.ntmps28
      go_wp2
      go_ret
      exact ⟨by rw [HO.out]; rfl, rfl⟩

def pv (p : KM.KP) : Value := .agg #[.bool p.t, .int .i64 p.n, .string p.s]

set_option maxRecDepth 100000 in
theorem cmpPart_any (p q : KM.KP) (w : World) :
    Calls Try.prog 23 #[.agg #[.bool p.t, .int .i64 p.n, .string p.s], .agg #[.bool q.t, .int .i64 q.n, .string q.s]] w fun e w' => e = .returned (.int .i64 (KM.cmpPart p q)) ∧ Below w.heap.size w w' := by
  obtain ⟨t, n, s⟩ := p
  obtain ⟨u, m, r⟩ := q
  cases t <;> cases u
  · have HO : Hid (KM.cmpPart ⟨false, n, s⟩ ⟨false, m, r⟩ = cmpInt n m) := by simp [KM.cmpPart, cmpInt, Hid]
    go_enter Try.func23, Try.ntmps23
    go_wp2_with (go_at_call 28; refine (cmpInt_any _ _ _).mono ?_; rintro e w' ⟨rfl, rfl⟩)
    go_ret
    exact ⟨by rw [HO.out]; rfl, ((Below.refl _ _).alloc (Nat.le_refl _) _).alloc (by simp) _⟩
  · have HO : Hid (KM.cmpPart ⟨false, n, s⟩ ⟨true, m, r⟩ = -1) := by simp [KM.cmpPart, Hid]
    go_enter Try.func23, Try.ntmps23
    go_wp2
    go_ret
    exact ⟨by rw [HO.out]; rfl, ((Below.refl _ _).alloc (Nat.le_refl _) _).alloc (by simp) _⟩
  · have HO : Hid (KM.cmpPart ⟨true, n, s⟩ ⟨false, m, r⟩ = 1) := by simp [KM.cmpPart, Hid]
    go_enter Try.func23, Try.ntmps23
    go_wp2
    go_ret
    exact ⟨by rw [HO.out]; rfl, ((Below.refl _ _).alloc (Nat.le_refl _) _).alloc (by simp) _⟩
  · have HO : Hid (KM.cmpPart ⟨true, n, s⟩ ⟨true, m, r⟩ = compareBytes s.data.toList r.data.toList) := by simp [KM.cmpPart, Hid]
    go_enter Try.func23, Try.ntmps23
    go_wp2_with (go_at_call 27; refine (cmpStrings_any _ _ _).mono ?_; rintro e w' ⟨rfl, rfl⟩)
    go_ret
    exact ⟨by rw [HO.out]; rfl, ((Below.refl _ _).alloc (Nat.le_refl _) _).alloc (by simp) _⟩

theorem cmpList_step {l m : List KM.KP} {k : Nat} {p q : KM.KP} (hl : k < l.length) (hm : k < m.length) (hp : l[k] = p) (hq : m[k] = q) : KM.cmpList (l.drop k) (m.drop k) = if KM.cmpPart p q = 0 then KM.cmpList (l.drop (k + 1)) (m.drop (k + 1)) else KM.cmpPart p q := by
  rw [List.drop_eq_getElem_cons hl, List.drop_eq_getElem_cons hm, hp, hq]
  rfl

set_option maxRecDepth 100000 in
set_option maxHeartbeats 1000000 in
theorem cmpFunc_any (A B : Option Addr) (n c m d : Nat) (l k : List KM.KP) (w : World) (hn : l.length = n) (hm : k.length = m) (hl : PartsIn w w.heap.size A l) (hk : PartsIn w w.heap.size B k) (hn1 : n ≤ 9223372036854775807) (hm1 : m ≤ 9223372036854775807) :
    Calls Try.prog 22 #[.slice A n c, .slice B m d, .func (Fn.func 23) #[] #[]] w fun e w' => e = .returned (.int .i64 (KM.cmpList l k)) ∧ Below w.heap.size w w' := by
  have HL := Lib.hid hl
  have HK := Lib.hid hk
  have HN := Lib.hid hn
  have HM := Lib.hid hm
  clear hl hk hn hm
  go_enter Try.func22, Try.ntmps22
  go_wp2
  go_loopw [13] (fun i wr => ∃ j : Nat, j ≤ n ∧ j ≤ m ∧ i = .int .i64 j ∧ Hid (KM.cmpList l k = KM.cmpList (l.drop j) (k.drop j)) ∧ Below w.heap.size w wr) (fun i _ => n - (intOf i).toNat)
  case atStart => exact ⟨0, by omega, by omega, rfl, by rw [List.drop_zero, List.drop_zero]; exact Lib.hid rfl, Below.refl _ _⟩
  case round =>
    obtain ⟨j, hj, hj2, rfl, HC, hB⟩ := hrel
    have hBs := hB.size
    by_cases hlt : j < n
    · have hjl : j < l.length := by rw [HN.out]; exact hlt
      obtain ⟨b, off, hA, hbl, hc⟩ := (HL.out.below hB).2 (by omega)
      obtain ⟨hc0, hc1, hc2⟩ := hc j hjl
      obtain ⟨p, hp⟩ : ∃ p, l[j] = p := ⟨_, rfl⟩
      rw [hp] at hc0 hc1 hc2
      have HP := Lib.hid hp
      clear hc hp
      by_cases hlm : j < m
      · have hjk : j < k.length := by rw [HM.out]; exact hlm
        obtain ⟨b2, off2, hA2, hbl2, hd⟩ := (HK.out.below hB).2 (by omega)
        obtain ⟨hd0, hd1, hd2⟩ := hd j hjk
        obtain ⟨q, hq⟩ : ∃ q, k[j] = q := ⟨_, rfl⟩
        rw [hq] at hd0 hd1 hd2
        have HST := Lib.hid (HC.out.trans (cmpList_step hjl hjk HP.out hq))
        have HB := Lib.hid hB
        have HCP := Lib.hid (fun W => cmpPart_any p q W)
        obtain ⟨z, hz⟩ : ∃ z, KM.cmpPart p q = z := ⟨_, rfl⟩
        rw [hz] at HST HCP
        clear hd hq hB hz
        subst hA hA2
        have hne2 : b2 < wr.heap.size := by omega
        go_wp2_with fail
        refine (HCP.out _).mono ?_
        rintro e w2 ⟨rfl, hB2⟩
        have hBB : Below w.heap.size w w2 := ((HB.out.alloc (by omega) _).alloc (by simp; omega) _).trans (hB2.mono (by simp; omega))
        have HBB := Lib.hid hBB
        clear hB2 hBB
        by_cases hz0 : z = 0
        · subst hz0
          rw [if_pos rfl] at HST
          go_wp2
          go_roundw
          case rel => exact ⟨j + 1, by omega, by omega, by go_num, HST, HBB.out⟩
          case measure => simp [intOf]; omega
        · rw [if_neg hz0] at HST
          have t0 : (z != 0) = true := by rw [bne_iff_ne]; exact hz0
          have t1 : (z == 0) = false := beq_eq_false_iff_ne.2 hz0
          clear hz0
          go_wp2
          go_ret
          exact ⟨by rw [HST.out]; rfl, HBB.out⟩
      · have HO : Hid (KM.cmpList l k = 1) := by
          rw [HC.out, List.drop_eq_getElem_cons hjl, List.drop_eq_nil_of_le (show k.length ≤ j by rw [HM.out]; omega)]
          exact Lib.hid rfl
        obtain rfl : j = m := by omega
        have HB := Lib.hid hB
        clear hB
        subst hA
        go_wp2
        go_ret
        exact ⟨by rw [HO.out]; rfl, HB.out.alloc (by omega) _⟩
    · obtain rfl : j = n := by omega
      have HB := Lib.hid hB
      clear hB
      by_cases hlm : j < m
      · have HO : Hid (KM.cmpList l k = -1) := by
          rw [HC.out, List.drop_eq_nil_of_le (show l.length ≤ j by rw [HN.out]; omega), List.drop_eq_getElem_cons (show j < k.length by rw [HM.out]; exact hlm)]
          exact Lib.hid rfl
        go_wp2
        go_ret
        exact ⟨by rw [HO.out]; rfl, HB.out⟩
      · have HO : Hid (KM.cmpList l k = 0) := by
          rw [HC.out, List.drop_eq_nil_of_le (show l.length ≤ j by rw [HN.out]; omega), List.drop_eq_nil_of_le (show k.length ≤ j by rw [HM.out]; omega)]
          exact Lib.hid rfl
        go_wp2
        go_ret
        exact ⟨by rw [HO.out]; rfl, HB.out⟩

set_option maxRecDepth 100000 in
theorem compare_any (A B : Option Addr) (n c m d : Nat) (l k : List KM.KP) (w : World) (hn : l.length = n) (hm : k.length = m) (hl : PartsIn w w.heap.size A l) (hk : PartsIn w w.heap.size B k) (hn1 : n ≤ 9223372036854775807) (hm1 : m ≤ 9223372036854775807) :
    Calls Try.prog 14 #[.slice A n c, .slice B m d] w fun e w' => e = .returned (.int .i64 (KM.cmpList l k)) ∧ Below w.heap.size w w' := by
  go_enter Try.func14, Try.ntmps14
  go_wp2_with fail
  refine (cmpFunc_any A B n c m d l k _ hn hm hl hk hn1 hm1).mono ?_
  rintro e w' ⟨rfl, hB⟩
  go_wp2
  go_ret
  exact ⟨rfl, hB⟩
end Go.Proofs.Ytnkofinielabkaa
