/- The walk of GetAll. -/
import Derived.Test.YtdhgikcinofpaaaVarP
namespace Go.Proofs.Ytdhgikcinofpaaa
open Go.RowKit

/-- the numbers that bytes are, or the first error -/
def gall : Nat → List UInt8 → List Int × Int
  | 0, _ => ([], 0)
  | f + 1, l =>
    if l = [] then ([], 0)
    else if (VM.meas l).2 ≠ 0 then ([], (VM.meas l).2)
    else if (gall f (l.drop (VM.meas l).1)).2 ≠ 0 then ([], (gall f (l.drop (VM.meas l).1)).2)
    else (VM.unzig (VM.val (l.take (VM.meas l).1)) :: (gall f (l.drop (VM.meas l).1)).1, 0)

def glue (done : List Int) (r : List Int × Int) : List Int × Int := if r.2 ≠ 0 then ([], r.2) else (done ++ r.1, 0)

theorem glue_nil (r : List Int × Int) (h : r.2 ≠ 0 → r.1 = []) : glue [] r = r := by
  unfold glue
  split
  · have := h ‹_›
    obtain ⟨a, b⟩ := r
    simp_all
  · obtain ⟨a, b⟩ := r
    simp_all

theorem gall_err (f : Nat) (l : List UInt8) (h : (gall f l).2 ≠ 0) : (gall f l).1 = [] := by
  cases f with
  | zero => rfl
  | succ f =>
    unfold gall at h ⊢
    repeat' split
    all_goals first | rfl | simp_all

theorem gall_end {f : Nat} {done : List Int} : glue done (gall f []) = (done, 0) := by
  cases f <;> simp [gall, glue]

theorem gall_fault {f : Nat} {l : List UInt8} {done : List Int} {c : Int} (hl : l ≠ []) (hm : (VM.meas l).2 = c) (hc : c ≠ 0) : glue done (gall (f + 1) l) = ([], c) := by
  have e : gall (f + 1) l = ([], c) := by
    unfold gall
    rw [if_neg hl, hm, if_pos hc]
  rw [e]
  unfold glue
  rw [if_pos hc]

theorem gall_step {f : Nat} {l : List UInt8} {done : List Int} {m : Nat} (hl : l ≠ []) (hm : VM.meas l = (m, 0)) :
    glue done (gall (f + 1) l) = glue (done ++ [VM.unzig (VM.val (l.take m))]) (gall f (l.drop m)) := by
  have e : gall (f + 1) l = if (gall f (l.drop m)).2 ≠ 0 then ([], (gall f (l.drop m)).2) else (VM.unzig (VM.val (l.take m)) :: (gall f (l.drop m)).1, 0) := by
    conv => lhs; unfold gall
    rw [if_neg hl, hm, if_neg (by simp)]
  rw [e]
  unfold glue
  by_cases h : (gall f (l.drop m)).2 = 0
  · simp [h]
  · simp [h]

/-- the numbers of every list are read back -/
theorem gall_back (zs : List Int) (h : ∀ z ∈ zs, -9223372036854775808 ≤ z ∧ z ≤ 9223372036854775807) : ∀ f, (encAll zs).length < f → gall f (encAll zs) = (zs, 0) := by
  induction zs with
  | nil =>
    intro f hf
    cases f with
    | zero => rfl
    | succ f => simp [gall, encAll]
  | cons z r ih =>
    intro f hf
    have e : encAll (z :: r) = VM.enc z ++ encAll r := by simp [encAll]
    have hz := h z (by simp)
    have hen := VM.enc_len hz.1 hz.2
    rw [e] at hf ⊢
    cases f with
    | zero => simp at hf
    | succ f =>
      have hne : VM.enc z ++ encAll r ≠ [] := by
        intro h0
        have := congrArg List.length h0
        simp at this
        rw [this.1] at hen
        simp at hen
      have hm : VM.meas (VM.enc z ++ encAll r) = ((VM.enc z).length, 0) := VM.meas_enc (Lib.zigzag_lt hz.1 hz.2) _
      have hs := gall_step (f := f) (done := []) hne hm
      rw [glue_nil _ (gall_err _ _), List.take_left, List.drop_left] at hs
      rw [hs, ih (fun y hy => h y (by simp [hy])) f (by simp only [List.length_append] at hf; omega)]
      unfold VM.enc
      rw [VM.val_uvarint, VM.unzig_zigzag]
      simp [glue]

def ints (zs : List Int) : List Value := zs.map fun z => Value.int .i64 z

theorem ints_length (zs : List Int) : (ints zs).length = zs.length := by simp [ints]
theorem ints_snoc (zs : List Int) (z : Int) : ints (zs ++ [z]) = ints zs ++ [.int .i64 z] := by simp [ints]

theorem info_i64 : (Try.prog.info? 2).map (fun i => (i.zero, i.size, i.bytes)) = some (some (.int .i64 0), 1, 8) := by kernel_rfl

def GetAllRel (s : ByteArray) (w : World) (v p : Value) (wr : World) : Prop :=
  ∃ (k f : Nat) (done : List Int), k ≤ s.size ∧ s.size - k < f ∧ p = .int .i64 k ∧ done.length ≤ k ∧ gall (s.size + 1) s.data.toList = glue done (gall f (s.data.toList.drop k)) ∧
    wr.ownsRow w.heap.size 2 1 v done.length (ints done) ∧ Below w.heap.size w wr

def AllOut (s : ByteArray) (w : World) (e : Ending) (w' : World) : Prop :=
  ∃ v, e = .returned (.tuple #[v, .int .i64 (gall (s.size + 1) s.data.toList).2]) ∧ w'.ownsRow w.heap.size 2 1 v (gall (s.size + 1) s.data.toList).1.length (ints (gall (s.size + 1) s.data.toList).1) ∧ Below w.heap.size w w'

theorem one_int_cell (w : World) (z : Int) (t : TypeId) : ∀ j u, [Value.int .i64 z][j]? = some u → (w.alloc (.cells #[.int .i64 z] t)).cell? ((⟨w.heap.size, 0, none⟩ : Addr).add j) = some u := by
  intro j u hj
  match j, hj with
  | 0, hj => simp at hj; subst hj; simp [Addr.add]
  | j + 1, hj => simp at hj

set_option maxRecDepth 100000 in
theorem getAll_any (s : ByteArray) (w : World) (hs : s.size ≤ 17592186044416) :
    Calls Try.prog 16 #[.string s] w fun e w' => AllOut s w e w' := by
  obtain ⟨i0, hi, hz0, hz1, hz2⟩ := info_parts info_i64
  have HSL := Lib.hid (size_list s)
  go_enter Try.func16, Try.ntmps16
  go_wp2
  go_loopw [4, 5] (fun v p wr => GetAllRel s w v p wr) (fun _ p _ => s.size - (intOf p).toNat)
  case atStart => exact ⟨0, s.size + 1, [], by omega, by omega, rfl, by simp, by rw [List.drop_zero, glue_nil _ (gall_err _ _)], World.ownsRow_nil _ _ _ _, Below.refl _ _⟩
  case round =>
    obtain ⟨k, f, done, hk, hf, rfl, hdl, hg, hown, hB⟩ := hrel
    have HG := Lib.hid hg
    have HOWN := Lib.hid hown
    clear hg hown
    by_cases hlt : k < s.size
    · have hne : s.data.toList.drop k ≠ [] := by
        intro h0
        have := congrArg List.length h0
        rw [List.length_drop, HSL.out] at this
        simp at this
        omega
      obtain ⟨f, rfl⟩ : ∃ g, f = g + 1 := ⟨f - 1, by omega⟩
      have HC := Lib.hid (get_any s (k : Int) wr (by omega) (by omega) (by omega))
      obtain ⟨m, c, hm⟩ : ∃ m c, VM.meas (s.data.toList.drop k) = (m, c) := ⟨_, _, rfl⟩
      have HAL := Lib.hid (show k ≤ s.data.toList.length by rw [HSL.out]; exact hk)
      by_cases hc : c = 0
      · subst hc
        obtain ⟨m1, -, m2, -, -, -⟩ := VM.meas_ok (l := s.data.toList.drop k) (by rw [hm])
        rw [hm, List.length_drop, HSL.out] at m2
        rw [hm] at m1
        have m1' : 1 ≤ m := m1
        have m2' : m ≤ s.size - k := m2
        have hgood := vget_good HAL.out (by rw [hm])
        rw [hm] at hgood
        obtain ⟨z, hz⟩ : ∃ z, VM.unzig (VM.val ((s.data.toList.drop k).take m)) = z := ⟨_, rfl⟩
        have hstep := gall_step (f := f) (done := done) hne hm
        rw [hz, List.drop_drop] at hstep
        have HV : Hid (VM.vget s.data.toList (k : Int) = (z, (k : Int) + (m : Int), 0)) := by rw [← hz]; exact hgood
        have HST := Lib.hid (HG.out.trans hstep)
        clear hgood hstep hz hm hne m1 m2
        go_wp2_with fail
        refine HC.out.mono ?_
        rintro e w1 ⟨he, rfl⟩
        unfold GetOut at he
        rw [HV.out] at he
        subst he
        go_wp2_with (at_builtin; refine wpList_append_own _ rfl _ _ 36 rfl w.heap.size 2 i0 (.int .i64 0) 1 8 Try.underlying36 hi hz0 hz1 hz2 rfl (by decide) _ _ _ rfl (HOWN.out.alloc _) ⟨wr.heap.size, 0, none⟩ 1 1 [.int .i64 z] rfl ?c1 ?c2 ?c3 ?c4 ?c5 ?c6 ?_)
        case c1 => rfl
        case c2 => exact one_int_cell wr z _
        case c3 => intro u hu; simp at hu; subst hu; rfl
        case c4 => unfold maxLen; omega
        case c5 => omega
        case c6 => exact Nat.le_trans hB.size (by simp)
        intro v' w2 hown3 hgrow hnil
        clear hnil
        have hB3 : Below w.heap.size w w2 := (hB.alloc hB.size _).grown hgrow (Nat.le_trans hB.size (by simp)) (fun g hg => (HOWN.out.lt g hg).1)
        have HR : Hid (GetAllRel s w v' (.int .i64 ((k : Int) + (m : Int))) w2) := by
          refine ⟨k + m, f, done ++ [z], by omega, by omega, by simp, by simp; omega, HST.out, ?_, hB3⟩
          rw [ints_snoc, List.length_append]
          exact hown3
        clear hown3 hgrow hB3
        go_wp2
        go_roundw
        case rel => exact HR.out
        case measure => simp [intOf]; omega
      · have hfault := gall_fault (f := f) (done := done) (c := c) hne (by rw [hm]) hc
        have hv := vget_fault HAL.out (by rw [hm]; exact hc)
        rw [hm] at hv
        have HV : Hid (VM.vget s.data.toList (k : Int) = (0, 0, c)) := hv
        have HF := Lib.hid (HG.out.trans hfault)
        have t2 : (c == 0) = false := beq_eq_false_iff_ne.2 hc
        have t2' : (c != 0) = true := by rw [bne_iff_ne]; exact hc
        clear hfault hv hm hne hc
        go_wp2_with fail
        refine HC.out.mono ?_
        rintro e w1 ⟨he, rfl⟩
        unfold GetOut at he
        rw [HV.out] at he
        subst he
        go_wp2
        go_ret2
        refine ⟨.slice none 0 0, ?_, ?_, hB⟩
        · rw [HF.out]; rfl
        · rw [HF.out]; exact World.ownsRow_nil _ _ _ _
    · have hend : s.data.toList.drop k = [] := List.drop_eq_nil_of_le (by rw [HSL.out]; omega)
      have hg := HG.out
      rw [hend, gall_end] at hg
      have HE := Lib.hid hg
      clear hend hg
      go_wp2
      go_ret2
      refine ⟨u4, ?_, ?_, hB⟩
      · rw [HE.out]; rfl
      · rw [HE.out]; exact HOWN.out
end Go.Proofs.Ytdhgikcinofpaaa
