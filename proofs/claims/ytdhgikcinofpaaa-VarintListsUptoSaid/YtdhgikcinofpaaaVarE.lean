/- The walks of Clone, PutText, GetText. -/
import Derived.Test.YtdhgikcinofpaaaVarD
import Derived.Lib.BufferWrite
import Derived.Lib.UnsafeStr
import Derived.Laws.MakeOwn
import Derived.OwnWalk
import Derived.WalkSmall
namespace Go.Proofs.Ytdhgikcinofpaaa
open Go.RowKit

theorem info_u8 : (Try.prog.info? 5).map (fun i => (i.zero, i.size, i.bytes)) = some (some (.int .u8 0), 1, 1) := by kernel_rfl

/-- a new row of noughts, and then a text's bytes in it -/
def byteWorld (w : World) (n : Nat) : World := w.alloc (.cells (madeCells #[.int .u8 0] n) 5)
def textWorld (w : World) (s : ByteArray) : World := (byteWorld w s.size).setRow w.heap.size (Lib.byteCells s.data.toList).toArray

theorem byteWorld_row (w : World) (n : Nat) : (byteWorld w n).heap[w.heap.size]? = some (.cells (madeCells #[.int .u8 0] n) 5 (0, 0)) := heap_alloc_new w _

theorem textWorld_row (w : World) (s : ByteArray) : (textWorld w s).heap[w.heap.size]? = some (.cells (Lib.byteCells s.data.toList).toArray 5 (0, 0)) :=
  setRow_heap _ _ _ _ _ _ (byteWorld_row w s.size)

theorem textWorld_below (w : World) (s : ByteArray) : Below w.heap.size w (textWorld w s) :=
  below_setRow ((Below.refl _ _).alloc (Nat.le_refl _) _) (Nat.le_refl _)

theorem make_bytes (w : World) (n : Nat) (h : n ≤ 281474976710656) : (Instr.makeSlice 47 (.int .i64 (n : Int)) (.int .i64 (n : Int))).run Try.prog w = .ok (.slice (some ⟨w.heap.size, 0, none⟩) n n) (byteWorld w n) := by
  obtain ⟨i0, hi, hz0, hz1, hz2⟩ := info_parts info_u8
  have h := run_make (P := Try.prog) w 47 5 i0 (.int .u8 0) Try.underlying47 hi hz0 .i64 .i64 (n : Int) (n : Int) (by omega) (Int.le_refl _) (by rw [hz2]; omega) (by omega)
  rw [Int.toNat_natCast] at h
  simpa [hz1, Value.cells, byteWorld] using h

theorem copy_text (w : World) (s : ByteArray) (ty : TypeId) : (Builtin.copy_ #[47, 9] ty #[.slice (some ⟨w.heap.size, 0, none⟩) s.size s.size, .string s]).run Try.prog (byteWorld w s.size) = .ok (goInt s.size) (textWorld w s) := by
  have h := Lib.run_copy_row_string (P := Try.prog) (byteWorld w s.size) 47 9 ty 5 w.heap.size 0 s.size s.size s (madeCells #[.int .u8 0] s.size) 5 Try.underlying47 (by kernel_rfl) (byteWorld_row w s.size) (Nat.le_refl _) (by rw [size_madeCells]; omega)
  rw [h]
  have hd : (madeCells #[Value.int .u8 0] s.size).toList.drop (0 + s.size) = [] := List.drop_eq_nil_of_le (by simp [size_madeCells])
  rw [hd]
  simp [textWorld]

theorem text_string (w : World) (s : ByteArray) (h0 : 0 < s.size) (h1 : s.size ≤ 281474976710656) (ty : TypeId) :
    (Builtin.unsafeString_ #[55, 3] ty #[.pointer (some ⟨w.heap.size, 0, none⟩), .int .i64 (s.size : Int)]).run Try.prog (textWorld w s) = .ok (.string s) ((textWorld w s).freeze ⟨w.heap.size, 0, none⟩ s.size) := by
  have hl := size_list s
  have hrow := textWorld_row w s
  have h := Lib.run_unsafeString_row (P := Try.prog) (textWorld w s) 55 3 ty 5 Try.underlying55 (by kernel_rfl) w.heap.size s.size
    (by simp [World.shape?, hrow, Lib.byteCells_length, hl]) s.data.toList (by intro h; rw [h] at hl; simp at hl; omega) (by rw [hl]; exact Nat.le_refl _) (by rw [hl]; omega) (by
      intro j x hj
      have hadd : (⟨w.heap.size, 0, none⟩ : Addr).add j = ⟨w.heap.size, j, none⟩ := by unfold Addr.add; split <;> simp_all
      rw [hadd, cell_of_row _ _ _ _ _ _ hrow]
      simp [Lib.byteCells, hj])
  rw [hl] at h
  simpa using h

theorem cloneIn_any (s : ByteArray) (w : World) (hs : s.size ≤ 281474976710656) :
    Calls Try.prog 23 #[.string s] w fun e w' => e = .returned (.string s) ∧ Below w.heap.size w w' := by
  by_cases h0 : s.size = 0
  · have hs0 : s = ⟨#[]⟩ := by
      apply ByteArray.ext
      exact Array.eq_empty_of_size_eq_zero h0
    subst hs0
    clear h0 hs
    go_enter Try.func23, Try.ntmps23
    go_wp2
    go_ret
    exact ⟨rfl, Below.refl _ _⟩
  · have h1 : 0 < s.size := by omega
    have hne : ((s.size : Int) == 0) = false := beq_eq_false_iff_ne.2 (by omega)
    have hmk := make_bytes w s.size hs
    have hcp := copy_text w s
    have hus := text_string w s h1 hs
    have hB := Lib.below_freeze (textWorld_below w s) (p := ⟨w.heap.size, 0, none⟩) (Nat.le_refl _) s.size
    go_enter Try.func23, Try.ntmps23
    go_wp2
    go_ret
    exact ⟨rfl, hB⟩

theorem clone_any (s : ByteArray) (w : World) (hs : s.size ≤ 281474976710656) :
    Calls Try.prog 19 #[.string s] w fun e w' => e = .returned (.string s) ∧ Below w.heap.size w w' := by
  go_enter Try.func19, Try.ntmps19
  go_wp2_with fail
  refine (cloneIn_any s _ hs).mono ?_
  rintro e w1 ⟨rfl, hB⟩
  go_wp2
  go_ret
  exact ⟨rfl, hB⟩

/-- the bytes of a text -/
def textEnc (s : ByteArray) : ByteArray := ⟨(VM.enc s.size ++ s.data.toList).toArray⟩

theorem putText_any (s : ByteArray) (w : World) (hs : s.size ≤ 9223372036854775000) :
    Calls Try.prog 13 #[.string s] w fun e w' => e = .returned (.string (textEnc s)) ∧ Below w.heap.size w w' := by
  have hen := VM.enc_len (n := (s.size : Int)) (by omega) (by omega)
  have he : (⟨(VM.enc s.size).toArray⟩ : ByteArray) ++ s = textEnc s := by
    apply ByteArray.ext
    apply Array.toList_inj.1
    simp [textEnc]
  have HE := Lib.hid he
  obtain ⟨l, hl⟩ : ∃ l : List UInt8, VM.enc (s.size : Int) = l := ⟨_, rfl⟩
  have HP := Lib.hid (fun W => put_any (s.size : Int) W (by omega) (by omega))
  rw [hl] at hen HE HP
  obtain ⟨hen1, hen2⟩ := hen
  clear he hl
  go_enter Try.func13, Try.ntmps13
  go_wp2_with fail
  refine (HP.out _).mono ?_
  rintro e w1 ⟨rfl, hB⟩
  go_wp2
  go_ret
  exact ⟨by rw [HE.out]; rfl, hB⟩

/-- the text that stands at a place -/
def vtext (l : List UInt8) (p : Int) : List UInt8 × Int × Int :=
  if (VM.vget l p).2.2 ≠ 0 then ([], 0, (VM.vget l p).2.2)
  else if (VM.vget l p).1 < 0 then ([], 0, 4)
  else if 65535 < (VM.vget l p).1 then ([], 0, 5)
  else if (l.length : Int) - (VM.vget l p).2.1 < (VM.vget l p).1 then ([], 0, 3)
  else ((l.drop (VM.vget l p).2.1.toNat).take (VM.vget l p).1.toNat, (VM.vget l p).2.1 + (VM.vget l p).1, 0)

def TextOut (s : ByteArray) (p : Int) (e : Ending) : Prop :=
  e = .returned (.tuple #[.string ⟨(vtext s.data.toList p).1.toArray⟩, .int .i64 (vtext s.data.toList p).2.1, .int .i64 (vtext s.data.toList p).2.2])

theorem textOut {s : ByteArray} {p b c : Int} {a : List UInt8} (h : vtext s.data.toList p = (a, b, c)) : TextOut s p (.returned (.tuple #[.string ⟨a.toArray⟩, .int .i64 b, .int .i64 c])) := by
  unfold TextOut; rw [h]

/-- what GetText comes to, by cases on what Get told -/
theorem vtext_cases {l : List UInt8} {p n b c : Int} (hv : VM.vget l p = (n, b, c)) : vtext l p =
    if c ≠ 0 then ([], 0, c) else if n < 0 then ([], 0, 4) else if 65535 < n then ([], 0, 5) else if (l.length : Int) - b < n then ([], 0, 3) else ((l.drop b.toNat).take n.toNat, b + n, 0) := by
  unfold vtext; rw [hv]

set_option maxRecDepth 100000 in
theorem getText_any (s : ByteArray) (p : Int) (w : World) (hs : s.size ≤ 9223372036854775807) (hp0 : -9223372036854775808 ≤ p) (hp1 : p ≤ 9223372036854775807) :
    Calls Try.prog 11 #[.string s, .int .i64 p] w fun e w' => TextOut s p e ∧ Below w.heap.size w w' := by
  have HG := Lib.hid (fun W => get_any s p W hs hp0 hp1)
  obtain ⟨n, b, c, hv⟩ : ∃ n b c, VM.vget s.data.toList p = (n, b, c) := ⟨_, _, _, rfl⟩
  have hc := vtext_cases hv
  have hsl := size_list s
  have hok := VM.vget_ok (l := s.data.toList) (at_ := p)
  rw [hv] at hok
  have HV := Lib.hid hv
  clear hv
  by_cases h0 : c = 0
  · obtain ⟨hp, -, k, -, -, kle, hb, hn0, hn1, -⟩ := hok h0
    rw [hsl] at kle hc
    have hb' : b = p + (k : Int) := hb
    have hn0' : -9223372036854775808 ≤ n := hn0
    have hn1' : n ≤ 9223372036854775807 := hn1
    clear hb hn0 hn1 hok
    rw [if_neg (by omega)] at hc
    have hb0 : 0 ≤ b := by omega
    have hb1 : b ≤ (s.size : Int) := by omega
    clear hb' kle
    have C0 := Lib.hid h0
    clear h0 hsl
    by_cases h1 : n < 0
    · rw [if_pos h1] at hc
      have HO := Lib.hid (textOut hc)
      clear hc
      go_enter Try.func11, Try.ntmps11
      go_wp2_with fail
      refine (HG.out _).mono ?_
      rintro e w1 ⟨he, rfl⟩
      unfold GetOut at he
      rw [HV.out, C0.out] at he
      subst he
      go_wp2
      go_ret3
      exact ⟨HO.out, Below.refl _ _⟩
    rw [if_neg h1] at hc
    by_cases h2 : 65535 < n
    · rw [if_pos h2] at hc
      have HO := Lib.hid (textOut hc)
      clear hc
      go_enter Try.func11, Try.ntmps11
      go_wp2_with fail
      refine (HG.out _).mono ?_
      rintro e w1 ⟨he, rfl⟩
      unfold GetOut at he
      rw [HV.out, C0.out] at he
      subst he
      go_wp2
      go_ret3
      exact ⟨HO.out, Below.refl _ _⟩
    rw [if_neg h2] at hc
    by_cases h3 : (s.size : Int) - b < n
    · rw [if_pos h3] at hc
      have HO := Lib.hid (textOut hc)
      clear hc
      go_enter Try.func11, Try.ntmps11
      go_wp2_with fail
      refine (HG.out _).mono ?_
      rintro e w1 ⟨he, rfl⟩
      unfold GetOut at he
      rw [HV.out, C0.out] at he
      subst he
      go_wp2
      go_ret3
      exact ⟨HO.out, Below.refl _ _⟩
    rw [if_neg h3] at hc
    obtain ⟨q, rfl⟩ := Int.eq_ofNat_of_zero_le hb0
    obtain ⟨m, rfl⟩ := Int.eq_ofNat_of_zero_le (show 0 ≤ n by omega)
    have HO := Lib.hid (textOut hc)
    have hex : (s.extract q (q + m)).data.toList = (s.data.toList.drop q).take m := by
      rw [Lib.extract_data, show q + m - q = m by omega]
    have hsl := fun W => str_slice W s q (q + m) ((q : Int) + m) (by omega) (by omega) (by omega)
    have HX : Hid (s.extract q (q + m) = ⟨((s.data.toList.drop q).take m).toArray⟩) := by
      apply ByteArray.ext
      apply Array.toList_inj.1
      rw [hex]
    have HC := Lib.hid (fun W => clone_any (s.extract q (q + m)) W (by rw [ByteArray.size_extract]; omega))
    clear hc hex
    go_enter Try.func11, Try.ntmps11
    go_wp2_with fail
    refine (HG.out _).mono ?_
    rintro e w1 ⟨he, rfl⟩
    unfold GetOut at he
    rw [HV.out, C0.out] at he
    subst he
    go_wp2_with fail
    refine (HC.out _).mono ?_
    rintro e w1 ⟨rfl, hB⟩
    rw [HX.out]
    go_wp2
    go_ret3
    exact ⟨HO.out, hB⟩
  · rw [if_pos h0] at hc
    have HO := Lib.hid (textOut hc)
    have t2 : (c == 0) = false := beq_eq_false_iff_ne.2 h0
    have t2' : (c != 0) = true := by rw [bne_iff_ne]; exact h0
    clear hc hok hsl h0
    go_enter Try.func11, Try.ntmps11
    go_wp2_with fail
    refine (HG.out _).mono ?_
    rintro e w1 ⟨he, rfl⟩
    unfold GetOut at he
    rw [HV.out] at he
    subst he
    go_wp2
    go_ret3
    exact ⟨HO.out, Below.refl _ _⟩
end Go.Proofs.Ytdhgikcinofpaaa
