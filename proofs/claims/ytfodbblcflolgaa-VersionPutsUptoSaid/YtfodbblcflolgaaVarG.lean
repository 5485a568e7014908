/- The walk of the document's GetText. -/
import Derived.Test.YtfodbblcflolgaaVarF
namespace Go.Proofs.Ytfodbblcflolgaa
open Go.RowKit

set_option maxRecDepth 100000 in
theorem refGetText_any (s : ByteArray) (p : Int) (w : World) (hs : s.size ≤ 140737488351232) (hp0 : -9223372036854775808 ≤ p) (hp1 : p ≤ 9223372036854775807) :
    Calls Try.prog 62 #[.string s, .int .i64 p] w fun e w' => TextOut s p e ∧ w = w' := by
  have HG := Lib.hid (fun W => refGet_any s p W hs hp0 hp1)
  obtain ⟨n, b, c, hv⟩ : ∃ n b c, VM.vget s.data.toList p = (n, b, c) := ⟨_, _, _, rfl⟩
  have hc := vtext_cases hv
  have hsl := size_list s
  have hok := VM.vget_ok (l := s.data.toList) (at_ := p)
  rw [hv] at hok
  have HV := Lib.hid hv
  clear hv
  by_cases h0 : c = 0
  · obtain ⟨hp, -, k, -, -, kle, hb, hn0, hn1, -⟩ := hok h0
    rw [hsl] at kle hc
    have hb' : b = p + (k : Int) := hb
    have hn0' : -9223372036854775808 ≤ n := hn0
    have hn1' : n ≤ 9223372036854775807 := hn1
    clear hb hn0 hn1 hok
    rw [if_neg (by omega)] at hc
    have hb0 : 0 ≤ b := by omega
    have hb1 : b ≤ (s.size : Int) := by omega
    clear hb' kle
    have C0 := Lib.hid h0
    clear h0 hsl
    by_cases h1 : n < 0
    · rw [if_pos h1] at hc
      have HO := Lib.hid (textOut hc)
      clear hc
      go_enter Try.func62, Try.ntmps62
      go_wp2_with fail
      refine (HG.out _).mono ?_
      rintro e w1 ⟨he, rfl⟩
      unfold GetOut at he
      rw [HV.out, C0.out] at he
      subst he
      go_wp2
      go_ret3
      exact ⟨HO.out, rfl⟩
    rw [if_neg h1] at hc
    by_cases h2 : 65535 < n
    · rw [if_pos h2] at hc
      have HO := Lib.hid (textOut hc)
      clear hc
      go_enter Try.func62, Try.ntmps62
      go_wp2_with fail
      refine (HG.out _).mono ?_
      rintro e w1 ⟨he, rfl⟩
      unfold GetOut at he
      rw [HV.out, C0.out] at he
      subst he
      go_wp2
      go_ret3
      exact ⟨HO.out, rfl⟩
    rw [if_neg h2] at hc
    by_cases h3 : (s.size : Int) - b < n
    · rw [if_pos h3] at hc
      have HO := Lib.hid (textOut hc)
      clear hc
      go_enter Try.func62, Try.ntmps62
      go_wp2_with fail
      refine (HG.out _).mono ?_
      rintro e w1 ⟨he, rfl⟩
      unfold GetOut at he
      rw [HV.out, C0.out] at he
      subst he
      go_wp2
      go_ret3
      exact ⟨HO.out, rfl⟩
    rw [if_neg h3] at hc
    obtain ⟨q, rfl⟩ := Int.eq_ofNat_of_zero_le hb0
    obtain ⟨m, rfl⟩ := Int.eq_ofNat_of_zero_le (show 0 ≤ n by omega)
    have HO := Lib.hid (textOut hc)
    have hex : (s.extract q (q + m)).data.toList = (s.data.toList.drop q).take m := by
      rw [Lib.extract_data, show q + m - q = m by omega]
    have hsl := fun W => str_slice W s q (q + m) ((q : Int) + m) (by omega) (by omega) (by omega)
    have HX : Hid (s.extract q (q + m) = ⟨((s.data.toList.drop q).take m).toArray⟩) := by
      apply ByteArray.ext
      apply Array.toList_inj.1
      rw [hex]
    rw [show s.extract q (q + m) = ⟨((s.data.toList.drop q).take m).toArray⟩ from HX.out] at hsl
    clear hc hex
    go_enter Try.func62, Try.ntmps62
    go_wp2_with fail
    refine (HG.out _).mono ?_
    rintro e w1 ⟨he, rfl⟩
    unfold GetOut at he
    rw [HV.out, C0.out] at he
    subst he
    go_wp2
    go_ret3
    exact ⟨HO.out, rfl⟩
  · rw [if_pos h0] at hc
    have HO := Lib.hid (textOut hc)
    have t2 : (c == 0) = false := beq_eq_false_iff_ne.2 h0
    have t2' : (c != 0) = true := by rw [bne_iff_ne]; exact h0
    clear hc hok hsl h0
    go_enter Try.func62, Try.ntmps62
    go_wp2_with fail
    refine (HG.out _).mono ?_
    rintro e w1 ⟨he, rfl⟩
    unfold GetOut at he
    rw [HV.out] at he
    subst he
    go_wp2
    go_ret3
    exact ⟨HO.out, rfl⟩
end Go.Proofs.Ytfodbblcflolgaa
