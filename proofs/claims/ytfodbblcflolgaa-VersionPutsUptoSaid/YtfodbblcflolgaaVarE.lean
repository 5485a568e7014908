/- The walks of Clone, PutText, GetText. -/
import Derived.Test.YtfodbblcflolgaaVarD
import Derived.Test.YtfodbblcflolgaaClone
import Derived.Lib.BufferWrite
import Derived.Lib.UnsafeStr
import Derived.Laws.MakeOwn
import Derived.OwnWalk
import Derived.WalkSmall
namespace Go.Proofs.Ytfodbblcflolgaa
open Go.RowKit

/-- the bytes of a text -/
def textEnc (s : ByteArray) : ByteArray := ⟨(VM.enc s.size ++ s.data.toList).toArray⟩

theorem putText_any (s : ByteArray) (w : World) (hs : s.size ≤ 9223372036854775000) :
    Calls Try.prog 42 #[.string s] w fun e w' => e = .returned (.string (textEnc s)) ∧ Below w.heap.size w w' := by
  have hen := VM.enc_len (n := (s.size : Int)) (by omega) (by omega)
  have he : (⟨(VM.enc s.size).toArray⟩ : ByteArray) ++ s = textEnc s := by
    apply ByteArray.ext
    apply Array.toList_inj.1
    simp [textEnc]
  have HE := Lib.hid he
  obtain ⟨l, hl⟩ : ∃ l : List UInt8, VM.enc (s.size : Int) = l := ⟨_, rfl⟩
  have HP := Lib.hid (fun W => put_any (s.size : Int) W (by omega) (by omega))
  rw [hl] at hen HE HP
  obtain ⟨hen1, hen2⟩ := hen
  clear he hl
  go_enter Try.func42, Try.ntmps42
  go_wp2_with fail
  refine (HP.out _).mono ?_
  rintro e w1 ⟨rfl, hB⟩
  go_wp2
  go_ret
  exact ⟨by rw [HE.out]; rfl, hB⟩

/-- the text that stands at a place -/
def vtext (l : List UInt8) (p : Int) : List UInt8 × Int × Int :=
  if (VM.vget l p).2.2 ≠ 0 then ([], 0, (VM.vget l p).2.2)
  else if (VM.vget l p).1 < 0 then ([], 0, 4)
  else if 65535 < (VM.vget l p).1 then ([], 0, 5)
  else if (l.length : Int) - (VM.vget l p).2.1 < (VM.vget l p).1 then ([], 0, 3)
  else ((l.drop (VM.vget l p).2.1.toNat).take (VM.vget l p).1.toNat, (VM.vget l p).2.1 + (VM.vget l p).1, 0)

def TextOut (s : ByteArray) (p : Int) (e : Ending) : Prop :=
  e = .returned (.tuple #[.string ⟨(vtext s.data.toList p).1.toArray⟩, .int .i64 (vtext s.data.toList p).2.1, .int .i64 (vtext s.data.toList p).2.2])

theorem textOut {s : ByteArray} {p b c : Int} {a : List UInt8} (h : vtext s.data.toList p = (a, b, c)) : TextOut s p (.returned (.tuple #[.string ⟨a.toArray⟩, .int .i64 b, .int .i64 c])) := by
  unfold TextOut; rw [h]

/-- what GetText comes to, by cases on what Get told -/
theorem vtext_cases {l : List UInt8} {p n b c : Int} (hv : VM.vget l p = (n, b, c)) : vtext l p =
    if c ≠ 0 then ([], 0, c) else if n < 0 then ([], 0, 4) else if 65535 < n then ([], 0, 5) else if (l.length : Int) - b < n then ([], 0, 3) else ((l.drop b.toNat).take n.toNat, b + n, 0) := by
  unfold vtext; rw [hv]

set_option maxRecDepth 100000 in
theorem getText_any (s : ByteArray) (p : Int) (w : World) (hs : s.size ≤ 9223372036854775807) (hp0 : -9223372036854775808 ≤ p) (hp1 : p ≤ 9223372036854775807) :
    Calls Try.prog 107 #[.string s, .int .i64 p] w fun e w' => TextOut s p e ∧ Below w.heap.size w w' := by
  have HG := Lib.hid (fun W => get_any s p W hs hp0 hp1)
  obtain ⟨n, b, c, hv⟩ : ∃ n b c, VM.vget s.data.toList p = (n, b, c) := ⟨_, _, _, rfl⟩
  have hc := vtext_cases hv
  have hsl := size_list s
  have hok := VM.vget_ok (l := s.data.toList) (at_ := p)
  rw [hv] at hok
  have HV := Lib.hid hv
  clear hv
  by_cases h0 : c = 0
  · obtain ⟨hp, -, k, -, -, kle, hb, hn0, hn1, -⟩ := hok h0
    rw [hsl] at kle hc
    have hb' : b = p + (k : Int) := hb
    have hn0' : -9223372036854775808 ≤ n := hn0
    have hn1' : n ≤ 9223372036854775807 := hn1
    clear hb hn0 hn1 hok
    rw [if_neg (by omega)] at hc
    have hb0 : 0 ≤ b := by omega
    have hb1 : b ≤ (s.size : Int) := by omega
    clear hb' kle
    have C0 := Lib.hid h0
    clear h0 hsl
    by_cases h1 : n < 0
    · rw [if_pos h1] at hc
      have HO := Lib.hid (textOut hc)
      clear hc
      go_enter Try.func107, Try.ntmps107
      go_wp2_with fail
      refine (HG.out _).mono ?_
      rintro e w1 ⟨he, rfl⟩
      unfold GetOut at he
      rw [HV.out, C0.out] at he
      subst he
      go_wp2
      go_ret3
      exact ⟨HO.out, Below.refl _ _⟩
    rw [if_neg h1] at hc
    by_cases h2 : 65535 < n
    · rw [if_pos h2] at hc
      have HO := Lib.hid (textOut hc)
      clear hc
      go_enter Try.func107, Try.ntmps107
      go_wp2_with fail
      refine (HG.out _).mono ?_
      rintro e w1 ⟨he, rfl⟩
      unfold GetOut at he
      rw [HV.out, C0.out] at he
      subst he
      go_wp2
      go_ret3
      exact ⟨HO.out, Below.refl _ _⟩
    rw [if_neg h2] at hc
    by_cases h3 : (s.size : Int) - b < n
    · rw [if_pos h3] at hc
      have HO := Lib.hid (textOut hc)
      clear hc
      go_enter Try.func107, Try.ntmps107
      go_wp2_with fail
      refine (HG.out _).mono ?_
      rintro e w1 ⟨he, rfl⟩
      unfold GetOut at he
      rw [HV.out, C0.out] at he
      subst he
      go_wp2
      go_ret3
      exact ⟨HO.out, Below.refl _ _⟩
    rw [if_neg h3] at hc
    obtain ⟨q, rfl⟩ := Int.eq_ofNat_of_zero_le hb0
    obtain ⟨m, rfl⟩ := Int.eq_ofNat_of_zero_le (show 0 ≤ n by omega)
    have HO := Lib.hid (textOut hc)
    have hex : (s.extract q (q + m)).data.toList = (s.data.toList.drop q).take m := by
      rw [Lib.extract_data, show q + m - q = m by omega]
    have hsl := fun W => str_slice W s q (q + m) ((q : Int) + m) (by omega) (by omega) (by omega)
    have HX : Hid (s.extract q (q + m) = ⟨((s.data.toList.drop q).take m).toArray⟩) := by
      apply ByteArray.ext
      apply Array.toList_inj.1
      rw [hex]
    have HC := Lib.hid (fun W => clone_any (s.extract q (q + m)) W (by rw [ByteArray.size_extract]; omega))
    clear hc hex
    go_enter Try.func107, Try.ntmps107
    go_wp2_with fail
    refine (HG.out _).mono ?_
    rintro e w1 ⟨he, rfl⟩
    unfold GetOut at he
    rw [HV.out, C0.out] at he
    subst he
    go_wp2_with fail
    refine (HC.out _).mono ?_
    rintro e w1 ⟨rfl, hB⟩
    rw [HX.out]
    go_wp2
    go_ret3
    exact ⟨HO.out, hB⟩
  · rw [if_pos h0] at hc
    have HO := Lib.hid (textOut hc)
    have t2 : (c == 0) = false := beq_eq_false_iff_ne.2 h0
    have t2' : (c != 0) = true := by rw [bne_iff_ne]; exact h0
    clear hc hok hsl h0
    go_enter Try.func107, Try.ntmps107
    go_wp2_with fail
    refine (HG.out _).mono ?_
    rintro e w1 ⟨he, rfl⟩
    unfold GetOut at he
    rw [HV.out] at he
    subst he
    go_wp2
    go_ret3
    exact ⟨HO.out, Below.refl _ _⟩
end Go.Proofs.Ytfodbblcflolgaa
