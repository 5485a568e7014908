/- Reading: a key, whose beginning may be that of the one ahead. -/
import Derived.Test.YtcmnbfcceeljpaaRi
import Derived.Test.YtcmnbfcceeljpaaPb
import Derived.Deep.CutRange
namespace Go.Proofs.Ytcmnbfcceeljpaa
open Go.RowKit
open SK

theorem str_head (W : World) (s : ByteArray) (b : Nat) (h : b ≤ s.size) :
    (Instr.slice 9 (.string s) none (some (.int .i64 (b : Int))) none).run Try.prog W = .ok (.string (s.extract 0 b)) W := by
  have i1 : (0 : Int) ≤ (b : Int) := by omega
  have i4 : (b : Int) ≤ (s.size : Int) := by omega
  simp [Instr.slice, run_underlying Try.underlying9, Instr.sliceBounds, run_sliceBound, i1, i4]

set_option maxRecDepth 100000 in
set_option maxHeartbeats 2000000 in
theorem key_any (w : World) (r p : Nat) (s : ByteArray) (A : Option Addr) (n cap : Nat) (a : List E) (h : RdAt w r s p) (hs : s.size ≤ 281474976710656) (hp : p ≤ s.size) (hn : a.length = n) (hin : EntsIn w A a) (hb : n ≤ 4096) (hk : (BK.lastKey a).size ≤ 64) :
    Calls Try.prog 51 #[.pointer (some ⟨r, 0, none⟩), .slice A n cap] w fun e w' => Out textV r s w (BK.rKey s.data.toList p (BK.lastKey a)) e w' := by
  have HN := Lib.hid (number_any w r p s h hs hp)
  have hlast : ∀ m, n = m + 1 → ∃ (hm : m < a.length), BK.lastKey a = a[m].key := fun m hm => by
    have h1 : m < a.length := by omega
    refine ⟨h1, ?_⟩
    have h2 : a = a.take m ++ [a[m]] := by rw [← List.take_succ_eq_append_getElem h1, List.take_of_length_le (by omega)]
    conv => lhs; rw [h2, BK.lastKey_snoc]
  have hnil : n = 0 → BK.lastKey a = ⟨#[]⟩ := fun h => by rw [List.length_eq_zero_iff.1 (hn.trans h)]; rfl
  have HTX : Hid (∀ q W, q ≤ s.size → RdAt W r s q → Calls Try.prog 52 #[.pointer (some ⟨r, 0, none⟩)] W fun e w' => Out textV r s W (BK.rText s.data.toList q) e w') := Lib.hid (fun q W hq h => text_any W r q s h hs hq)
  obtain ⟨K, hK⟩ : ∃ K, BK.lastKey a = K := ⟨_, rfl⟩
  rw [hK] at hk hnil ⊢
  simp only [hK] at hlast
  have HX0 : Hid (BK.rKey s.data.toList p K = match BK.rNum s.data.toList p with | .error c => .error c | .ok (n, q) => BK.rRest s.data.toList K n q) := Lib.hid rfl
  obtain ⟨X, hX⟩ : ∃ X, BK.rKey s.data.toList p K = X := ⟨_, rfl⟩
  rw [hX] at HX0 ⊢
  have HIN := Lib.hid hin
  have HLAST := Lib.hid hlast
  have HNIL := Lib.hid hnil
  clear hin hlast hnil hK h hp hX
  go_enter Try.func51, Try.ntmps51
  go_upto_if 12 with fail
  go_cut [5] from 9 (fun x wc => x = .string K ∧ w = wc)
  case first =>
    by_cases h0 : n = 0
    · have hK0 := HNIL.out h0
      subst h0
      go_wp2
      go_meet
      exact ⟨by rw [hK0], rfl⟩
    · obtain ⟨m, hm⟩ : ∃ m, n = m + 1 := ⟨n - 1, by omega⟩
      obtain ⟨hml, hKm⟩ := HLAST.out m hm
      obtain ⟨b, off, hA, hbl, hc⟩ := HIN.out.at_ (by omega)
      obtain ⟨z0, -, -, -, -⟩ := hc m hml
      rw [← hKm] at z0
      subst hA
      have hwr : IntKind.i64.wrap ((n : Int) - 1) = (m : Int) := by rw [IntWalk.i64_in _ ⟨by omega, by omega⟩]; omega
      have g0 : (0 : Int) ≤ (m : Int) := by omega
      have g1 : (m : Int) < (n : Int) := by omega
      have g2 : 0 < n := by omega
      have g3 : (0 : Int) < (n : Int) := by omega
      clear hm hKm hc hbl hml HN HTX HLAST HNIL
      go_wp2
      go_meet
      exact ⟨rfl, rfl⟩
  case rest =>
  obtain ⟨rfl, rfl⟩ := hcut
  clear HIN HLAST HNIL
  cases hx : BK.rNum s.data.toList p with
  | error c =>
    rw [hx] at HN HX0
    clear hx
    go_wp2_with fail
    refine HN.out.mono ?_
    rintro e w1 ⟨hg, rfl⟩
    exact ⟨rfl, hg, by rw [HX0.out]⟩
  | ok x =>
    obtain ⟨z, q⟩ := x
    have hql : q ≤ s.size := by have := BK.num_le hx; rwa [size_list] at this
    rw [hx] at HN HX0
    clear hx
    have HR : Hid (X = if z < 0 ∨ (K.size : Int) < z then .error 4 else
      match BK.rText s.data.toList q with
      | .error c => .error c
      | .ok (t, q) => .ok (K.extract 0 z.toNat ++ t, q)) := Lib.hid HX0.out
    clear HX0
    by_cases h1 : z < 0
    · have HF : Hid (X = .error 4) := Lib.hid (by rw [HR.out, if_pos (Or.inl h1)])
      go_wp2_with fail
      refine HN.out.mono ?_
      rintro e w1 ⟨hg, rfl, hr⟩
      simp only [numV]
      go_wp2_with fail
      refine (leave_bad 4 _ (by decide)).mono ?_
      rintro e w2 ⟨rfl, rfl⟩
      exact ⟨rfl, hg, by rw [HF.out]⟩
    by_cases h2 : (K.size : Int) < z
    · have HF : Hid (X = .error 4) := Lib.hid (by rw [HR.out, if_pos (Or.inr h2)])
      go_wp2_with fail
      refine HN.out.mono ?_
      rintro e w1 ⟨hg, rfl, hr⟩
      simp only [numV]
      go_wp2_with fail
      refine (leave_bad 4 _ (by decide)).mono ?_
      rintro e w2 ⟨rfl, rfl⟩
      exact ⟨rfl, hg, by rw [HF.out]⟩
    obtain ⟨Z, rfl⟩ := Int.eq_ofNat_of_zero_le (show 0 ≤ z by omega)
    have HT := Lib.hid (fun W h => HTX.out q W hql h)
    have HR2 : Hid (X = match BK.rText s.data.toList q with | .error c => .error c | .ok (t, q) => .ok (K.extract 0 Z ++ t, q)) := Lib.hid (by rw [HR.out, if_neg (by omega), Int.toNat_natCast])
    clear HR HTX
    cases ht : BK.rText s.data.toList q with
    | error c =>
      rw [ht] at HT HR2
      clear ht
      go_wp2_with fail
      refine HN.out.mono ?_
      rintro e w1 ⟨hg, rfl, hr⟩
      have HG := Lib.hid hg
      have HRD := Lib.hid hr
      clear hg hr
      simp only [numV]
      go_wp2_with fail
      refine (HT.out _ HRD.out).mono ?_
      rintro e w2 ⟨hg, rfl⟩
      exact ⟨rfl, grown_trans HG.out hg, by rw [HR2.out]⟩
    | ok y =>
      obtain ⟨t, q2⟩ := y
      have hts := (BK.text_le ht).1
      rw [ht] at HT HR2
      clear ht
      have hsl := fun W => str_head W K Z (by omega)
      have hes : (K.extract 0 Z).size ≤ 64 := by rw [ByteArray.size_extract]; omega
      obtain ⟨KH, hKH⟩ : ∃ KH, K.extract 0 Z = KH := ⟨_, rfl⟩
      rw [hKH] at HR2 hes
      simp only [hKH] at hsl
      have HCL := Lib.hid (fun W => clone_any KH W (by omega))
      have k1 : ¬ 9223372036854775807 < KH.size + t.size := by omega
      have hz0 : (0 : Int) ≤ (Z : Int) := by omega
      clear hKH
      go_wp2_with fail
      refine HN.out.mono ?_
      rintro e w1 ⟨hg, rfl, hr⟩
      have HG := Lib.hid hg
      have HRD := Lib.hid hr
      clear hg hr
      simp only [numV]
      go_wp2_with fail
      refine (HT.out _ HRD.out).mono ?_
      rintro e w2 ⟨hg, rfl, hr⟩
      have HG2 := Lib.hid (grown_trans HG.out hg)
      have HRD2 := Lib.hid hr
      clear hg hr
      simp only [textV]
      go_wp2_with fail
      refine (HCL.out _).mono ?_
      rintro e w3 ⟨rfl, hb⟩
      have HG3 := Lib.hid (grown_trans HG2.out (grown_below hb))
      have HRD3 := Lib.hid (HRD2.out.below hb)
      clear hb
      go_wp2
      go_ret
      exact ⟨HG3.out, by rw [HR2.out]; exact ⟨rfl, HRD3.out⟩⟩
end Go.Proofs.Ytcmnbfcceeljpaa
