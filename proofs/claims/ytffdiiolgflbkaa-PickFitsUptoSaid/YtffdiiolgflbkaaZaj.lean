/- Texts joined by bundle.py: VarE, VarP. -/
import Derived.Test.YtffdiiolgflbkaaZah
import Derived.Test.YtffdiiolgflbkaaZai
import Derived.Lib.BufferWrite
import Derived.Lib.UnsafeStr
import Derived.Laws.MakeOwn
import Derived.OwnWalk
import Derived.WalkSmall
import Derived.Deep.AppendLies
import Derived.Lib.BufferRead

/- The walks of Clone, PutText, GetText. -/
namespace Go.Proofs.Ytffdiiolgflbkaa
open Go.RowKit

/-- the bytes of a text -/
def textEnc (s : ByteArray) : ByteArray := ⟨(VM.enc s.size ++ s.data.toList).toArray⟩

theorem putText_any (s : ByteArray) (w : World) (hs : s.size ≤ 9223372036854775000) :
    Calls Try.prog 42 #[.string s] w fun e w' => e = .returned (.string (textEnc s)) ∧ Below w.heap.size w w' := by
  have hen := VM.enc_len (n := (s.size : Int)) (by omega) (by omega)
  have he : (⟨(VM.enc s.size).toArray⟩ : ByteArray) ++ s = textEnc s := by
    apply ByteArray.ext
    apply Array.toList_inj.1
    simp [textEnc]
  have HE := Lib.hid he
  obtain ⟨l, hl⟩ : ∃ l : List UInt8, VM.enc (s.size : Int) = l := ⟨_, rfl⟩
  have HP := Lib.hid (fun W => put_any (s.size : Int) W (by omega) (by omega))
  rw [hl] at hen HE HP
  obtain ⟨hen1, hen2⟩ := hen
  clear he hl
  go_enter Try.func42, Try.ntmps42
  go_wp2_with fail
  refine (HP.out _).mono ?_
  rintro e w1 ⟨rfl, hB⟩
  go_wp2
  go_ret
  exact ⟨by rw [HE.out]; rfl, hB⟩

/-- the text that stands at a place -/
def vtext (l : List UInt8) (p : Int) : List UInt8 × Int × Int :=
  if (VM.vget l p).2.2 ≠ 0 then ([], 0, (VM.vget l p).2.2)
  else if (VM.vget l p).1 < 0 then ([], 0, 4)
  else if 65535 < (VM.vget l p).1 then ([], 0, 5)
  else if (l.length : Int) - (VM.vget l p).2.1 < (VM.vget l p).1 then ([], 0, 3)
  else ((l.drop (VM.vget l p).2.1.toNat).take (VM.vget l p).1.toNat, (VM.vget l p).2.1 + (VM.vget l p).1, 0)

def TextOut (s : ByteArray) (p : Int) (e : Ending) : Prop :=
  e = .returned (.tuple #[.string ⟨(vtext s.data.toList p).1.toArray⟩, .int .i64 (vtext s.data.toList p).2.1, .int .i64 (vtext s.data.toList p).2.2])

theorem textOut {s : ByteArray} {p b c : Int} {a : List UInt8} (h : vtext s.data.toList p = (a, b, c)) : TextOut s p (.returned (.tuple #[.string ⟨a.toArray⟩, .int .i64 b, .int .i64 c])) := by
  unfold TextOut; rw [h]

/-- what GetText comes to, by cases on what Get told -/
theorem vtext_cases {l : List UInt8} {p n b c : Int} (hv : VM.vget l p = (n, b, c)) : vtext l p =
    if c ≠ 0 then ([], 0, c) else if n < 0 then ([], 0, 4) else if 65535 < n then ([], 0, 5) else if (l.length : Int) - b < n then ([], 0, 3) else ((l.drop b.toNat).take n.toNat, b + n, 0) := by
  unfold vtext; rw [hv]

set_option maxRecDepth 100000 in
theorem getText_any (s : ByteArray) (p : Int) (w : World) (hs : s.size ≤ 9223372036854775807) (hp0 : -9223372036854775808 ≤ p) (hp1 : p ≤ 9223372036854775807) :
    Calls Try.prog 107 #[.string s, .int .i64 p] w fun e w' => TextOut s p e ∧ Below w.heap.size w w' := by
  have HG := Lib.hid (fun W => get_any s p W hs hp0 hp1)
  obtain ⟨n, b, c, hv⟩ : ∃ n b c, VM.vget s.data.toList p = (n, b, c) := ⟨_, _, _, rfl⟩
  have hc := vtext_cases hv
  have hsl := size_list s
  have hok := VM.vget_ok (l := s.data.toList) (at_ := p)
  rw [hv] at hok
  have HV := Lib.hid hv
  clear hv
  by_cases h0 : c = 0
  · obtain ⟨hp, -, k, -, -, kle, hb, hn0, hn1, -⟩ := hok h0
    rw [hsl] at kle hc
    have hb' : b = p + (k : Int) := hb
    have hn0' : -9223372036854775808 ≤ n := hn0
    have hn1' : n ≤ 9223372036854775807 := hn1
    clear hb hn0 hn1 hok
    rw [if_neg (by omega)] at hc
    have hb0 : 0 ≤ b := by omega
    have hb1 : b ≤ (s.size : Int) := by omega
    clear hb' kle
    have C0 := Lib.hid h0
    clear h0 hsl
    by_cases h1 : n < 0
    · rw [if_pos h1] at hc
      have HO := Lib.hid (textOut hc)
      clear hc
      go_enter Try.func107, Try.ntmps107
      go_wp2_with fail
      refine (HG.out _).mono ?_
      rintro e w1 ⟨he, rfl⟩
      unfold GetOut at he
      rw [HV.out, C0.out] at he
      subst he
      go_wp2
      go_ret3
      exact ⟨HO.out, Below.refl _ _⟩
    rw [if_neg h1] at hc
    by_cases h2 : 65535 < n
    · rw [if_pos h2] at hc
      have HO := Lib.hid (textOut hc)
      clear hc
      go_enter Try.func107, Try.ntmps107
      go_wp2_with fail
      refine (HG.out _).mono ?_
      rintro e w1 ⟨he, rfl⟩
      unfold GetOut at he
      rw [HV.out, C0.out] at he
      subst he
      go_wp2
      go_ret3
      exact ⟨HO.out, Below.refl _ _⟩
    rw [if_neg h2] at hc
    by_cases h3 : (s.size : Int) - b < n
    · rw [if_pos h3] at hc
      have HO := Lib.hid (textOut hc)
      clear hc
      go_enter Try.func107, Try.ntmps107
      go_wp2_with fail
      refine (HG.out _).mono ?_
      rintro e w1 ⟨he, rfl⟩
      unfold GetOut at he
      rw [HV.out, C0.out] at he
      subst he
      go_wp2
      go_ret3
      exact ⟨HO.out, Below.refl _ _⟩
    rw [if_neg h3] at hc
    obtain ⟨q, rfl⟩ := Int.eq_ofNat_of_zero_le hb0
    obtain ⟨m, rfl⟩ := Int.eq_ofNat_of_zero_le (show 0 ≤ n by omega)
    have HO := Lib.hid (textOut hc)
    have hex : (s.extract q (q + m)).data.toList = (s.data.toList.drop q).take m := by
      rw [Lib.extract_data, show q + m - q = m by omega]
    have hsl := fun W => str_slice W s q (q + m) ((q : Int) + m) (by omega) (by omega) (by omega)
    have HX : Hid (s.extract q (q + m) = ⟨((s.data.toList.drop q).take m).toArray⟩) := by
      apply ByteArray.ext
      apply Array.toList_inj.1
      rw [hex]
    have HC := Lib.hid (fun W => clone_any (s.extract q (q + m)) W (by rw [ByteArray.size_extract]; omega))
    clear hc hex
    go_enter Try.func107, Try.ntmps107
    go_wp2_with fail
    refine (HG.out _).mono ?_
    rintro e w1 ⟨he, rfl⟩
    unfold GetOut at he
    rw [HV.out, C0.out] at he
    subst he
    go_wp2_with fail
    refine (HC.out _).mono ?_
    rintro e w1 ⟨rfl, hB⟩
    rw [HX.out]
    go_wp2
    go_ret3
    exact ⟨HO.out, hB⟩
  · rw [if_pos h0] at hc
    have HO := Lib.hid (textOut hc)
    have t2 : (c == 0) = false := beq_eq_false_iff_ne.2 h0
    have t2' : (c != 0) = true := by rw [bne_iff_ne]; exact h0
    clear hc hok hsl h0
    go_enter Try.func107, Try.ntmps107
    go_wp2_with fail
    refine (HG.out _).mono ?_
    rintro e w1 ⟨he, rfl⟩
    unfold GetOut at he
    rw [HV.out] at he
    subst he
    go_wp2
    go_ret3
    exact ⟨HO.out, Below.refl _ _⟩
end Go.Proofs.Ytffdiiolgflbkaa

/- The walk of PutAll. -/
namespace Go.Proofs.Ytffdiiolgflbkaa
open Go.RowKit

/-- a slice of numbers that came in, and lies below block B: nil and empty ones too -/
def IntsIn (w : World) (B : Nat) (A : Option Addr) (zs : List Int) : Prop :=
  (∀ z ∈ zs, -9223372036854775808 ≤ z ∧ z ≤ 9223372036854775807) ∧
  (0 < zs.length → ∃ b off, A = some ⟨b, off, none⟩ ∧ b < B ∧ ∀ j, (h : j < zs.length) → w.cell? ⟨b, off + j, none⟩ = some (.int .i64 zs[j]))

theorem IntsIn.below {w w' : World} {B : Nat} {A : Option Addr} {zs : List Int} (h : IntsIn w B A zs) (hb : Below B w w') : IntsIn w' B A zs := by
  refine ⟨h.1, fun hn => ?_⟩
  obtain ⟨b, off, hA, hlt, hc⟩ := h.2 hn
  exact ⟨b, off, hA, hlt, fun j hj => (hb.cell (p := ⟨b, off + j, none⟩) hlt).trans (hc j hj)⟩

/-- the bytes of numbers, one behind the other -/
def encAll (zs : List Int) : List UInt8 := zs.flatMap VM.enc

theorem encAll_snoc (zs : List Int) (k : Nat) (h : k < zs.length) : encAll (zs.take (k + 1)) = encAll (zs.take k) ++ VM.enc zs[k] := by
  rw [List.take_succ_eq_append_getElem h]
  simp only [encAll, List.flatMap_append, List.flatMap_cons, List.flatMap_nil, List.append_nil]

theorem encAll_len (zs : List Int) (h : ∀ z ∈ zs, -9223372036854775808 ≤ z ∧ z ≤ 9223372036854775807) : (encAll zs).length ≤ 10 * zs.length := by
  induction zs with
  | nil => simp [encAll]
  | cons z r ih =>
    have h1 := (VM.enc_len (h z (by simp)).1 (h z (by simp)).2).2
    have h2 := ih fun y hy => h y (by simp [hy])
    have e : encAll (z :: r) = VM.enc z ++ encAll r := by simp [encAll]
    rw [e, List.length_append, List.length_cons]
    omega

def PutAllRel (n : Nat) (zs : List Int) (w : World) (A i : Value) (wr : World) : Prop :=
  ∃ k : Nat, k ≤ n ∧ i = .int .i64 k ∧ wr.ownsRow w.heap.size 5 1 A (encAll (zs.take k)).length (Lib.byteCells (encAll (zs.take k))) ∧ Below w.heap.size w wr

theorem row_cells (w : World) (l : List UInt8) : ∀ j u, (Lib.byteCells l)[j]? = some u → (rowWorld w l).cell? ((⟨w.heap.size, 0, none⟩ : Addr).add j) = some u := by
  intro j u hj
  have hadd : (⟨w.heap.size, 0, none⟩ : Addr).add j = ⟨w.heap.size, j, none⟩ := by unfold Addr.add; split <;> simp_all
  have hl : j < l.length := by
    have h := (List.getElem?_eq_some_iff.1 hj).1
    rwa [Lib.byteCells_length] at h
  rw [hadd, cell_of_row _ _ _ _ _ _ (rowWorld_row w l), rowOf_lo _ _ hl, ← hj]
  simp [Lib.byteCells, hl]

set_option maxRecDepth 100000 in
theorem putAll_any (A : Option Addr) (n cap : Nat) (zs : List Int) (w : World) (hn : zs.length = n) (hz : IntsIn w w.heap.size A zs) (hb : 10 * n ≤ 140737488355328) :
    Calls Try.prog 40 #[.slice A n cap] w fun e w' => e = .returned (.string ⟨(encAll zs).toArray⟩) ∧ Below w.heap.size w w' := by
  obtain ⟨i0, hi, hz0, hz1, hz2⟩ := info_parts info_u8
  have HZ := Lib.hid hz
  have HN := Lib.hid hn
  clear hz hn
  go_enter Try.func40, Try.ntmps40
  go_wp2
  go_loopw [3, 10] (fun a i wr => PutAllRel n zs w a i wr) (fun _ i _ => n - (intOf i).toNat)
  case atStart => exact ⟨0, Nat.zero_le _, rfl, World.ownsRow_nil _ _ _ _, Below.refl _ _⟩
  case round =>
    obtain ⟨k, hk, rfl, hown, hB⟩ := hrel
    by_cases hlt : k < n
    · have hkl : k < zs.length := by rw [HN.out]; exact hlt
      obtain ⟨b, off, hA, hbl, hc⟩ := (HZ.out.below hB).2 (by omega)
      obtain ⟨z, hzk⟩ : ∃ z, zs[k] = z := ⟨_, rfl⟩
      have hzr := HZ.out.1 z (by rw [← hzk]; exact List.getElem_mem hkl)
      have hcell := hc k hkl
      rw [hzk] at hcell
      have HS := Lib.hid (encAll_snoc zs k hkl)
      have HOWN := Lib.hid hown
      have hen := VM.enc_len hzr.1 hzr.2
      have HP := Lib.hid (pieces_any z wr hzr.1 hzr.2)
      have HK := Lib.hid hzk
      have hl10 := Lib.hid (encAll_len (zs.take k) (fun y hy => HZ.out.1 y (List.mem_of_mem_take hy)))
      clear hc hown hzk hzr
      subst hA
      go_wp2_with fail
      refine HP.out.mono ?_
      rintro e w1 ⟨rfl, hB1⟩
      have hst : (storeCells ⟨w1.heap.size, 0, none⟩ (rowOf (VM.enc z)).toList).run Try.prog (w1.alloc (.cells (rowOf []) 140)) = .ok () (rowWorld w1 (VM.enc z)) := run_storeCells_new (heap_alloc_new w1 (.cells (rowOf []) 140)) (rowOf_size _ hen.2)
      have hsz := rowOf_size _ hen.2
      have hsl := fun W => arr_slice W w1.heap.size (VM.enc z).length hen.2
      rw [rowOf_nil] at hst
      have hown2 := own_below (own_below HOWN.out hB1) (rowWorld_below w1 (VM.enc z))
      have HO2 := Lib.hid hown2
      clear hown2
      have hwb := rowWorld_below w1 (VM.enc z)
      go_wp2_with (at_builtin; refine wpList_append_own _ rfl _ _ 102 rfl w.heap.size 5 i0 (.int .u8 0) 1 1 Try.underlying102 hi hz0 hz1 hz2 rfl (by decide) _ _ _ rfl HO2.out ⟨w1.heap.size, 0, none⟩ (VM.enc z).length 10 (Lib.byteCells (VM.enc z)) rfl ?c1 ?c2 ?c3 ?c4 ?c5 ?c6 ?_)
      case c1 => simp [Lib.byteCells_length]
      case c2 => exact row_cells w1 (VM.enc z)
      case c3 => exact Lib.byteCells_one _
      case c4 =>
        have := hl10.out
        have hl : (zs.take k).length ≤ k := List.length_take_le _ _
        unfold maxLen; omega
      case c5 =>
        have := hl10.out
        have hl : (zs.take k).length ≤ k := List.length_take_le _ _
        omega
      case c6 => exact Nat.le_trans hB.size (Nat.le_trans hB1.size hwb.size)
      intro v' w2 hown3 hgrow hnil
      clear hnil
      have hB3 : Below w.heap.size w w2 := ((hB.trans (hB1.mono hB.size)).trans (hwb.mono (Nat.le_trans hB.size hB1.size))).grown hgrow (Nat.le_trans hB.size (Nat.le_trans hB1.size hwb.size)) (fun g hg => (HO2.out.lt g hg).1)
      have HR : Hid (PutAllRel n zs w v' (.int .i64 ((k : Int) + 1)) w2) := by
        refine ⟨k + 1, by omega, by go_num, ?_, hB3⟩
        rw [HS.out, HK.out, List.length_append, Lib.byteCells_append]
        exact hown3
      clear hown3 hgrow hB3 hwb hst hsl
      go_wp2
      go_roundw
      case rel => exact HR.out
      case measure => simp [intOf]; omega
    · have hkn : k = n := by omega
      have htk : zs.take k = zs := List.take_of_length_le (by rw [HN.out]; omega)
      rw [htk] at hown
      have hcv := own_string hown
      have HB := Lib.hid hB
      clear hown htk hB
      go_wp2
      go_ret
      exact ⟨rfl, HB.out⟩
end Go.Proofs.Ytffdiiolgflbkaa

