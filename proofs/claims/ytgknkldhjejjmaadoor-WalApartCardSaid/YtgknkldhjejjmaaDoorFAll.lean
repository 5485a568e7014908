/- The walks of All: the code's, and the document's. -/
import Derived.Test.YtgknkldhjejjmaaDoorFGet
import Derived.Test.YtgknkldhjejjmaaDoorFmB
namespace Go.Proofs.YtgknkldhjejjmaaDoor
open Go.RowKit

/-- a list of texts as cells -/
def strs (l : List (List UInt8)) : List Value := l.map fun b => Value.string ⟨b.toArray⟩

theorem strs_length (l : List (List UInt8)) : (strs l).length = l.length := by simp [strs]

theorem strs_snoc (l : List (List UInt8)) (b : List UInt8) : strs (l ++ [b]) = strs l ++ [.string ⟨b.toArray⟩] := by simp [strs]

theorem info_str : (Tryd.prog.info? 9).map (fun i => (i.zero, i.size, i.bytes)) = some (some (.string ⟨#[]⟩), 1, 16) := by kernel_rfl

theorem fone_cell (w : World) (v : Value) (t : TypeId) : ∀ j u, [v][j]? = some u → (w.alloc (.cells #[v] t)).cell? ((⟨w.heap.size, 0, none⟩ : Addr).add j) = some u := by
  intro j u hj
  match j, hj with
  | 0, hj => simp at hj; subst hj; simp [Addr.add]
  | j + 1, hj => simp at hj

def alls (s : ByteArray) : List (List UInt8) × Nat × Int := FM.all (s.size + 1) s.data.toList

def AllOut (s : ByteArray) (w : World) (e : Ending) (w' : World) : Prop :=
  ∃ v, e = .returned (.tuple #[v, .int .i64 ((alls s).2.1 : Nat), .int .i64 (alls s).2.2]) ∧ w'.ownsRow w.heap.size 9 1 v (alls s).1.length (strs (alls s).1) ∧ Below w.heap.size w w'

theorem allOut {s : ByteArray} {w w' : World} {v : Value} {X : List (List UInt8)} {k : Nat} {c : Int} (h : alls s = (X, k, c)) (hown : w'.ownsRow w.heap.size 9 1 v X.length (strs X)) (hB : Below w.heap.size w w') :
    AllOut s w (.returned (.tuple #[v, .int .i64 (k : Nat), .int .i64 c])) w' := by
  refine ⟨v, by rw [h], by rw [h]; exact hown, hB⟩

/-- what is read so far, and what comes -/
def Glue (s : ByteArray) (X : List (List UInt8)) (k f : Nat) : Prop :=
  alls s = (X ++ (FM.all f (s.data.toList.drop k)).1, k + (FM.all f (s.data.toList.drop k)).2.1, (FM.all f (s.data.toList.drop k)).2.2)

theorem glue_start (s : ByteArray) : Glue s [] 0 (s.size + 1) := by
  unfold Glue alls
  rw [List.drop_zero, List.nil_append, Nat.zero_add]

theorem glue_err {s : ByteArray} {X : List (List UInt8)} {k f : Nat} {c : Int} (h : Glue s X k (f + 1)) (hg : (FM.get (s.data.toList.drop k)).2.2 = c) (hc : c ≠ 0) : alls s = (X, k, c) := by
  unfold Glue at h
  rw [FM.all_err hg hc] at h
  simpa using h

theorem glue_step {s : ByteArray} {X : List (List UInt8)} {k f m : Nat} {b : List UInt8} (h : Glue s X k (f + 1)) (hg : FM.get (s.data.toList.drop k) = (b, m, 0)) : Glue s (X ++ [b]) (k + m) f := by
  unfold Glue at h ⊢
  rw [FM.all_step hg, List.drop_drop] at h
  rw [h, List.append_assoc, Nat.add_assoc]
  rfl

set_option maxRecDepth 100000 in
theorem fall_any (s : ByteArray) (w : World) (hs : s.size ≤ 17592186044416) :
    Calls Tryd.prog 38 #[.string s] w fun e w' => AllOut s w e w' := by
  obtain ⟨i0, hi, hz0, hz1, hz2⟩ := info_parts info_str
  have HSL := Lib.hid (size_list s)
  go_enter Tryd.func38, Tryd.ntmps38
  go_wp2_with fail
  go_loopw [5, 6] (fun v p wr => ∃ (k f : Nat) (X : List (List UInt8)), k ≤ s.size ∧ s.size - k < f ∧ p = .int .i64 k ∧ X.length * 8 ≤ k ∧ Hid (Glue s X k f) ∧ wr.ownsRow w.heap.size 9 1 v X.length (strs X) ∧ Below w.heap.size w wr) (fun _ p _ => s.size - (intOf p).toNat)
  case atStart => exact ⟨0, s.size + 1, [], by omega, by omega, rfl, by simp, Lib.hid (glue_start s), World.ownsRow_nil _ _ _ _, Below.refl _ _⟩
  case round =>
    obtain ⟨k, f, X, hk, hf, rfl, hX, HG, hown, hB⟩ := hrel
    obtain ⟨f, rfl⟩ : ∃ g, f = g + 1 := ⟨f - 1, by omega⟩
    have HOWN := Lib.hid hown
    have HB := Lib.hid hB
    have hBs := hB.size
    clear hown hB
    have HC := Lib.hid (fget_any s (k : Int) wr (by omega) (by omega) (by omega))
    have HV := vget_nat (l := s.data.toList) (k := k) (by rw [HSL.out]; exact hk)
    obtain ⟨b, m, c, hg⟩ : ∃ b m c, FM.get (s.data.toList.drop k) = (b, m, c) := ⟨_, _, _, rfl⟩
    rw [hg] at HV
    by_cases hc : c = 0
    · subst hc
      rw [if_pos rfl] at HV
      rw [getOut_of HV] at HC
      obtain ⟨hm, -, -⟩ := FM.get_ok hg
      obtain ⟨hm8, hml, -, -, -⟩ := FM.meas_ok hm
      rw [List.length_drop, HSL.out] at hml
      have HG2 := Lib.hid (glue_step HG.out hg)
      have HSN := Lib.hid (strs_snoc X b)
      obtain ⟨t, ht⟩ : ∃ t : ByteArray, (⟨b.toArray⟩ : ByteArray) = t := ⟨_, rfl⟩
      rw [ht] at HSN
      simp only [ht] at HC
      clear hg HV hm ht HG
      go_wp2_with fail
      refine HC.out.mono ?_
      rintro e w1 ⟨rfl, hB1⟩
      have hs1 := hB1.size
      have HO1 := Lib.hid (own_below HOWN.out hB1)
      have HB1 := Lib.hid (HB.out.trans (hB1.mono hBs))
      clear hB1
      go_wp2_with (at_builtin; refine wpList_append_own _ rfl _ _ 28 rfl w.heap.size 9 i0 _ 1 16 Tryd.underlying28 hi hz0 hz1 hz2 rfl (by decide) _ _ _ rfl (own_below HO1.out ((Below.refl _ _).alloc (Nat.le_refl _) _)) ⟨w1.heap.size, 0, none⟩ 1 1 [.string t] rfl ?c1 ?c2 ?c3 ?c4 ?c5 ?c6 ?_)
      case c1 => rfl
      case c2 => exact fone_cell w1 _ _
      case c3 => intro u hu; simp at hu; subst hu; rfl
      case c4 => unfold maxLen; omega
      case c5 => omega
      case c6 => simp; omega
      intro v' w2 hown3 hgrow hnil
      clear hnil
      have hB3 : Below w.heap.size w w2 := (HB1.out.alloc (by omega) _).grown hgrow (by simp; omega) (fun g hg => (HO1.out.lt g hg).1)
      have HB3 := Lib.hid hB3
      have HR : Hid (w2.ownsRow w.heap.size 9 1 v' (X ++ [b]).length (strs (X ++ [b]))) := by
        rw [HSN.out, List.length_append]; exact hown3
      clear hown3 hgrow hB3
      go_wp2
      go_roundw
      case rel => exact ⟨k + m, f, X ++ [b], by omega, by omega, by go_num, by simp; omega, HG2, HR.out, HB3.out⟩
      case measure => simp [intOf]; omega
    · simp only [if_neg hc] at HV
      rw [getOut_of HV] at HC
      have HA := Lib.hid (glue_err HG.out (by rw [hg]) hc)
      have t2 : (c == 0) = false := beq_eq_false_iff_ne.2 hc
      have t2' : (c != 0) = true := by rw [bne_iff_ne]; exact hc
      clear HV hg hc HG
      go_wp2_with fail
      refine HC.out.mono ?_
      rintro e w1 ⟨rfl, hB1⟩
      have HO1 := Lib.hid (own_below HOWN.out hB1)
      have HB1 := Lib.hid (HB.out.trans (hB1.mono hBs))
      clear hB1
      go_wp2
      go_ret3
      exact allOut HA.out HO1.out HB1.out
end Go.Proofs.YtgknkldhjejjmaaDoor
