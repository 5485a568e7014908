/- FrameAlls, where what comes in is of bulk up to the bound: of every bytes the bodies, where they end, and why, are the document's. -/
import Derived.Test.YtidcjmpmdaodeaaAll
import Derived.Test.YtidcjmpmdaodeaaLaw
import Derived.SizedLaws
import Derived.Deep.CondSized
import Derived.Deep.QuietTactic
import Derived.BigQuiet
namespace Go.Proofs.Ytidcjmpmdaodeaa
open Go.ChangeShapes Go.WideShapes Go.ChangeAt Go.RowKit

/-- a slice of texts that lies below block B: nil and empty ones too -/
def StrsIn (w : World) (B : Nat) (A : Option Addr) (l : List ByteArray) : Prop :=
  0 < l.length → ∃ b off, A = some ⟨b, off, none⟩ ∧ b < B ∧ ∀ j, (h : j < l.length) → w.cell? ⟨b, off + j, none⟩ = some (.string l[j])

theorem StrsIn.below {w w' : World} {B : Nat} {A : Option Addr} {l : List ByteArray} (h : StrsIn w B A l) (hb : Below B w w') : StrsIn w' B A l := by
  intro hn
  obtain ⟨b, off, hA, hlt, hc⟩ := h hn
  exact ⟨b, off, hA, hlt, fun j hj => (hb.cell (p := ⟨b, off + j, none⟩) hlt).trans (hc j hj)⟩

theorem StrsIn.more {w : World} {B B' : Nat} {A : Option Addr} {l : List ByteArray} (h : StrsIn w B A l) (hB : B ≤ B') : StrsIn w B' A l := by
  intro hn
  obtain ⟨b, off, hA, hlt, hc⟩ := h hn
  exact ⟨b, off, hA, by omega, hc⟩

def texts (l : List (List UInt8)) : List ByteArray := l.map fun b => ⟨b.toArray⟩

theorem texts_length (l : List (List UInt8)) : (texts l).length = l.length := by simp [texts]

/-- a row that the call owns, as a slice of texts -/
theorem strs_of_own {w : World} {base : Nat} {e : TypeId} {v : Value} {n : Nat} {l : List (List UInt8)} (hn : l.length = n) (h : w.ownsRow base e 1 v n (strs l)) : ∃ A c, v = .slice A n c ∧ StrsIn w w.heap.size A (texts l) := by
  subst hn
  have h' := h
  rcases h.2 with ⟨rfl, h0⟩ | ⟨g, cap, cur, rfl, _, hg, _, _, _, _⟩
  · exact ⟨none, 0, by rw [h0], fun hn => by rw [texts_length] at hn; omega⟩
  · refine ⟨some ⟨g, 0, none⟩, cap, rfl, fun _ => ⟨g, 0, rfl, (Array.getElem?_eq_some_iff.1 hg).1, fun j hj => ?_⟩⟩
    rw [texts_length] at hj
    have hc := h'.cells (g := g) rfl j (.string ⟨l[j].toArray⟩) (by simp [strs, hj])
    rw [addr_add0] at hc
    rw [Nat.zero_add, hc]
    simp [texts]

theorem own_slice {w : World} {base : Nat} {e : TypeId} {size : Nat} {v : Value} {n : Nat} {xs : List Value} (h : w.ownsRow base e size v n xs) : ∃ A c, v = .slice A n c := by
  rcases h.2 with ⟨rfl, h0⟩ | ⟨g, cap, cur, rfl, _⟩
  · exact ⟨none, 0, by rw [h0]⟩
  · exact ⟨_, _, rfl⟩

theorem all_nonzero : ∀ (f : Nat) (l : List UInt8), (FM.all f l).2.2 ≠ 0
  | 0, _ => by simp [FM.all]
  | f + 1, l => by
    unfold FM.all
    split
    · assumption
    · exact all_nonzero f _

theorem all_few : ∀ (f : Nat) (l : List UInt8), (FM.all f l).1.length * 8 ≤ l.length
  | 0, l => by simp [FM.all]
  | f + 1, l => by
    obtain ⟨b, m, c, hg⟩ : ∃ b m c, FM.get l = (b, m, c) := ⟨_, _, _, rfl⟩
    by_cases hc : c = 0
    · subst hc
      obtain ⟨hm, -, -⟩ := FM.get_ok hg
      obtain ⟨hm8, hml, -, -, -⟩ := FM.meas_ok hm
      have ih := all_few f (l.drop m)
      rw [List.length_drop] at ih
      rw [FM.all_step hg]
      simp only [List.length_cons]
      omega
    · rw [FM.all_err (by rw [hg]) hc]
      simp

theorem bulk_le {H : Type} {l : List (DataW H)} (hk : Rows.uptoSmall H l = true) : Rows.uptoBulkAll l ≤ 1048576 := of_decide_eq_true hk

namespace lawAlls

set_option maxRecDepth 100000 in
theorem walk (s : ByteArray) (w : World) (hs : s.size ≤ 17592186044416) :
    Calls Try.prog 6 #[.string s] w fun e w' => e = .returned (.bool true) ∧ Below w.heap.size w w' := by
  have H1 := Lib.hid (fun W => all_any s W hs)
  have H2 := Lib.hid (fun W => rall_any s W hs)
  have hnz : (alls s).2.2 ≠ 0 := all_nonzero _ _
  unfold AllOut at H1 H2
  have hfew : (alls s).1.length * 8 ≤ s.size := by have := all_few (s.size + 1) s.data.toList; rw [size_list] at this; exact this
  obtain ⟨X, k, c, hv⟩ : ∃ X k c, alls s = (X, k, c) := ⟨_, _, _, rfl⟩
  rw [hv] at H1 H2 hnz hfew
  simp only at hnz hfew
  clear hv
  go_enter Try.func6, Try.ntmps6
  go_wp2_with fail
  refine (H1.out _).mono ?_
  rintro e w1 ⟨v1, rfl, hown1, hB1⟩
  obtain ⟨A1, c1, rfl, hz1⟩ := strs_of_own rfl hown1
  have hs1 := hB1.size
  have HZ1 := Lib.hid hz1
  have HB1 := Lib.hid hB1
  clear hown1 hz1 hB1
  go_wp2_with fail
  refine (H2.out _).mono ?_
  rintro e w2 ⟨v2, rfl, hown2, hB2⟩
  obtain ⟨A2, c2, rfl, hz2⟩ := strs_of_own rfl hown2
  have hs2 := hB2.size
  have HZ1b := Lib.hid ((HZ1.out.below hB2).more hs2)
  have HZ2 := Lib.hid hz2
  have HB2 := Lib.hid (HB1.out.trans (hB2.mono hs1))
  have t1 : (c == 0) = false := beq_eq_false_iff_ne.2 hnz
  have t1' : (c != 0) = true := by rw [bne_iff_ne]; exact hnz
  have HXL := Lib.hid (texts_length X)
  obtain ⟨n, hn⟩ : ∃ n, X.length = n := ⟨_, rfl⟩
  rw [hn] at HXL hfew ⊢
  clear hown2 hz2 hB2 hnz hn
  go_wp2_with fail
  go_loopw [39] (fun i wr => ∃ j : Nat, j ≤ n ∧ i = .int .i64 j ∧ Below w2.heap.size w2 wr) (fun i _ => n - (intOf i).toNat)
  case atStart => exact ⟨0, by omega, rfl, Below.refl _ _⟩
  case round =>
    obtain ⟨j, hj, rfl, hBr⟩ := hrel
    have HBr := Lib.hid hBr
    have hsr := hBr.size
    by_cases hlt : j < n
    · have hjl : j < (texts X).length := by rw [HXL.out]; exact hlt
      obtain ⟨g1, o1, hA1, -, hc1⟩ := (HZ1b.out.below hBr) (by omega)
      obtain ⟨g2, o2, hA2, -, hc2⟩ := (HZ2.out.below hBr) (by omega)
      have hd1 := hc1 j hjl
      have hd2 := hc2 j hjl
      obtain ⟨t, ht⟩ : ∃ t, (texts X)[j] = t := ⟨_, rfl⟩
      rw [ht] at hd1 hd2
      have hss : (t.toList == t.toList) = true := by simp
      have i0 : (0 : Int) ≤ (j : Int) := by omega
      have i1 : (j : Int) < (n : Int) := by omega
      subst hA1 hA2
      clear hc1 hc2 ht hBr
      go_wp2_with fail
      go_quiet (fail)
      go_wp2
      go_roundw
      case rel => exact ⟨j + 1, by omega, by go_num, below_drewN HBr.out _⟩
      case measure => simp [intOf]; omega
    · clear hBr
      go_wp2
      go_ret
      exact ⟨rfl, HB2.out.trans (HBr.out.mono (by omega))⟩

theorem contract (H : Type) (enc : TypeId × Value → H) (W : World) (base : Nat) (args : Array Value) (ds gs : List (DataW H)) (before : List MemPlace)
    (hval : ∀ (j : Nat) t v, Try.f6.params[j]? = some t → args[j]? = some v → Value.okWide Try.prog W .any base t v)
    (hW : DataW.Whole enc Try.prog Try.f6.params.toList Rows.frameAllsSpec.vars false W args.toList ds gs before)
    (hz : (DataW.weightsEach Try.prog Try.f6.params.toList (ds ++ gs)).all (· ≤ reachBytes) = true)
    (hk : Rows.uptoSmall H (ds ++ gs) = true) :
    Calls Try.prog 6 args W fun e W' => ∃ v, e = .returned v ∧ Rows.frameAllsSpec.post enc Try.prog Try.f6 false true false false W args v W' := by
  have hW' := hW
  obtain ⟨p, q, hA0, hV, rfl, hfz, hnd⟩ := hW
  have hA : DataW.TrodAll enc Try.prog W 0 (fun _ => true) true Try.f6.params.toList args.toList ds p := hA0
  rw [Try.params6] at hA hval hz
  obtain ⟨v0, vs0, d0, ds0, p0, q0, hargs, rfl, rfl, h0, r0⟩ := trodAll_cons hA
  obtain ⟨rfl, rfl, rfl⟩ := trodAll_nil r0
  obtain rfl : args = #[v0] := by cases args; simp_all
  obtain ⟨rfl, rfl⟩ := trodVars_none hV
  obtain ⟨s, rfl, rfl, rfl, hmax0⟩ := Go.ChangeMaps.open_string Try.underlying9 (hval 0 9 v0 rfl rfl) h0
  have hs : s.size ≤ 140737488351232 := by
    have h := sized_string hz (j := 0) rfl rfl
    have hl : s.data.toList.length = s.size := by simp
    unfold reachBytes at h
    omega
  have hb := bulk_le hk
  have hsl := size_list s
  simp only [List.append_nil, Rows.uptoBulkAll, Rows.uptoBulk] at hb
  refine (walk s W (by omega)).mono fun e W' ⟨he, hB⟩ => ?_
  subst he
  exact ⟨_, rfl, law_post Try.laidOut (by kernel_rfl) rfl rfl Try.underlying4 hW' rfl hB⟩

set_option maxRecDepth 100000 in
theorem lifted (os : Os) (started : os.Started) (H : Type) (enc : TypeId × Value → H) (F : Stop.Interp) :
    ReturnsInHanded {} Try.checked os 6 .any ((Rows.OpenSpec.upto Rows.frameAllsSpec).pre6 enc Try.prog Try.f6 Rows.frameAllsUptoRow.domain false) (((Rows.OpenSpec.upto Rows.frameAllsSpec).at F).post enc Try.prog Try.f6 false true false false) := by
  refine returnsInHanded_of_cond_sized (C := Try.checked) (s := Rows.OpenSpec.upto Rows.frameAllsSpec) (k := Rows.uptoSmall) rfl Try.own started (by kernel_rfl) Try.func6
    (OpenSpec.witness (enc := enc) (C := Try.checked) (s := Rows.OpenSpec.upto Rows.frameAllsSpec) (k := Rows.uptoSmall) rfl false ⟨#[], #[.string .empty], []⟩ 8 (by kernel_rfl) (by kernel_rfl) (by kernel_rfl)
      (x := ([.lit (.string [])], [], [])) (by kernel_rfl) rfl (by kernel_rfl)) ?_
  intro W base args ds gs before hval hW _ hk hz _
  exact contract H enc W base args ds gs before hval hW hz hk

theorem proved : Rows.FrameAllsUptoSaid :=
  OpenClaim.holds_of_cond 6 Try.f6 rfl rfl rfl rfl rfl rfl rfl ⟨rfl, rfl, rfl, rfl, rfl⟩ rfl rfl rfl rfl rfl (by kernel_rfl) Try.func6 (by kernel_rfl)
    (of_decide_eq_true (by kernel_rfl)) (by unfold Func.isWrapper; first | (rw [if_pos (by decide +kernel)]; kernel_rfl) | (rw [if_neg (by decide +kernel)]; exact ⟨rfl, rfl⟩))
    (fun os started H enc _ F => lifted os started H enc F)
end lawAlls
end Go.Proofs.Ytidcjmpmdaodeaa
