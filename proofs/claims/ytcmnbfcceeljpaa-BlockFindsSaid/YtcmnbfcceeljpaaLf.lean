/- BlockFinds: of every bytes the newest entry of every key up to any number is the document's. For every two texts and every number. -/
import Derived.Test.YtcmnbfcceeljpaaFd
import Derived.Test.YtcmnbfcceeljpaaEq
import Derived.Test.YtcmnbfcceeljpaaWk
namespace Go.Proofs.Ytcmnbfcceeljpaa
open Go.ChangeShapes Go.WideShapes Go.ChangeAt Go.RowKit
open SK
namespace lawFinds

set_option maxRecDepth 100000 in
set_option maxHeartbeats 4000000 in
theorem walk (s key : ByteArray) (q : Int) (w : World) (hs : s.size ≤ 140737488351232) :
    Calls Try.prog 6 #[.string s, .string key, .int .i64 q] w fun e w' => e = .returned (.bool true) ∧ Below w.heap.size w w' := by
  have HR := Lib.hid (fun W => rparse_any s W hs)
  have HF := Lib.hid (fun W => find_any s key q W (by omega))
  have HW : Hid (∀ W, Calls Try.prog 13 #[] W fun r w' => r = .returned (.bool true) ∧ Below W.heap.size W w') := fun W => wakes_any W
  unfold RefOut at HR
  have hbnd : (BK.getL s.data.toList).length ≤ 4096 := by
    by_cases h0 : BK.getC s.data.toList = 0
    · exact (BK.get_ok (BK.getC_zero h0)).1
    · rw [BK.getL_none h0]; decide
  obtain ⟨L, hL⟩ : ∃ L, BK.getL s.data.toList = L := ⟨_, rfl⟩
  obtain ⟨C, hC⟩ : ∃ C, BK.getC s.data.toList = C := ⟨_, rfl⟩
  simp only [hL, hC] at HR HF hbnd
  obtain ⟨n, hn⟩ : ∃ n, L.length = n := ⟨_, rfl⟩
  simp only [hn] at HR hbnd
  have HG : Hid (∀ W r A c, W.heap[r]? = some (.cells #[.slice none 0 0, .slice A n c, .int .i64 0] 54 (0, 0)) → EntsIn W A L → Calls Try.prog 19 #[.pointer (some ⟨r, 0, none⟩), .string key, .int .i64 q] W fun e w' => e = .returned (.tuple #[(SK.get L key q).1.val, .bool (SK.get L key q).2]) ∧ Below W.heap.size W w') :=
    Lib.hid (fun W r A c h1 h2 => rget06_any h1 h2 hn key q (by omega))
  obtain ⟨R, hR⟩ : ∃ R, SK.get L key q = R := ⟨_, rfl⟩
  simp only [hR] at HF HG
  have hCC : (C == C) = true := beq_self_eq_true _
  clear hL hC hn hs hR hbnd
  obtain ⟨⟨k2, q2, g2, v2, t2⟩, b2⟩ := R
  simp only [E.val] at HF HG
  have hee := fun W => rent_eql W k2 k2 q2 q2 g2 g2 v2 v2 t2 t2
  have heq : eqB ⟨k2, q2, g2, v2, t2⟩ ⟨k2, q2, g2, v2, t2⟩ = true := (eqB_iff _ _).2 rfl
  simp only [heq] at hee
  have hbb : (b2 == b2) = true := by cases b2 <;> rfl
  clear heq
  go_enter Try.func6, Try.ntmps6
  go_wp2_with fail
  refine (HR.out _).mono ?_
  rintro e w1 ⟨A, c, rfl, h1, hb1⟩
  have H1 := Lib.hid h1
  have HB1 := Lib.hid hb1
  clear h1 hb1 HR
  go_wp2_with fail
  refine (HF.out _).mono ?_
  rintro e w2 ⟨rfl, hb2⟩
  have HB2 : Hid (Below w.heap.size w w2) := Lib.hid (HB1.out.trans (hb2.mono HB1.out.size))
  have H2 := Lib.hid (H1.out.below hb2)
  clear hb2 HF H1 HB1
  obtain ⟨x, hx⟩ : ∃ x, w2.heap.size = x := ⟨_, rfl⟩
  have hrow := heap_alloc_new w2 (.cells #[.string k2, .int .i64 q2, .bool g2, .string v2, .int .i64 t2] 45)
  have hbel := (Below.refl w2.heap.size w2).alloc (Nat.le_refl _) (.cells #[.string k2, .int .i64 q2, .bool g2, .string v2, .int .i64 t2] 45)
  have hB3 := HB2.out.trans (hbel.mono HB2.out.size)
  have hE3 := H2.out.below hbel
  rw [hx] at hrow
  have hxl := (Array.getElem?_eq_some_iff.1 hrow).1
  have hbox := heap_alloc_new (w2.alloc (.cells #[.string k2, .int .i64 q2, .bool g2, .string v2, .int .i64 t2] 45)) (.cells #[.slice none 0 0, .slice A n c, .int .i64 0] 54)
  have hbel4 := (Below.refl (w2.alloc (.cells #[.string k2, .int .i64 q2, .bool g2, .string v2, .int .i64 t2] 45)).heap.size (w2.alloc (.cells #[.string k2, .int .i64 q2, .bool g2, .string v2, .int .i64 t2] 45))).alloc (Nat.le_refl _) (.cells #[.slice none 0 0, .slice A n c, .int .i64 0] 54)
  have HB4 := Lib.hid (hB3.trans (hbel4.mono (by have := HB2.out.size; simp; omega)))
  have HE4 := Lib.hid (hE3.below hbel4)
  have HROW4 := Lib.hid ((hbel4.block x hxl).trans hrow)
  have HBOX := Lib.hid hbox
  clear hrow hbel hB3 hE3 hxl hbox hbel4 H2 HB2
  go_wp2_with fail
  generalize (w2.alloc (.cells #[.string k2, .int .i64 q2, .bool g2, .string v2, .int .i64 t2] 45)).alloc (.cells #[.slice none 0 0, .slice A n c, .int .i64 0] 54) = w4 at HB4 HE4 HROW4 HBOX ⊢
  refine (HG.out _ _ _ _ (by simpa [hx] using HBOX.out) HE4.out).mono ?_
  rintro e w5 ⟨rfl, hb5⟩
  have HROW5 := Lib.hid ((hb5.block x (Array.getElem?_eq_some_iff.1 HROW4.out).1).trans HROW4.out)
  have HB5 : Hid (Below w.heap.size w w5) := Lib.hid (HB4.out.trans (hb5.mono HB4.out.size))
  clear hb5 HG HB4 HE4 HROW4 HBOX
  have hrow6 := heap_alloc_new w5 (.cells #[.string k2, .int .i64 q2, .bool g2, .string v2, .int .i64 t2] 44)
  have hbel6 := (Below.refl w5.heap.size w5).alloc (Nat.le_refl _) (.cells #[.string k2, .int .i64 q2, .bool g2, .string v2, .int .i64 t2] 44)
  have HROW6 := Lib.hid ((hbel6.block x (Array.getElem?_eq_some_iff.1 HROW5.out).1).trans HROW5.out)
  have HX6 := Lib.hid hrow6
  have HB6 : Hid (Below w.heap.size w (w5.alloc (.cells #[.string k2, .int .i64 q2, .bool g2, .string v2, .int .i64 t2] 44))) := Lib.hid (HB5.out.trans (hbel6.mono HB5.out.size))
  obtain ⟨y, hy⟩ : ∃ y, w5.heap.size = y := ⟨_, rfl⟩
  rw [hy] at HX6
  clear hrow6 hbel6 HROW5 HB5
  go_wp2_with fail
  generalize w5.alloc (.cells #[.string k2, .int .i64 q2, .bool g2, .string v2, .int .i64 t2] 44) = w6 at HROW6 HX6 HB6 ⊢
  refine (HW.out _).mono ?_
  rintro e w7 ⟨rfl, hb7⟩
  have hr7 := (hb7.block x (Array.getElem?_eq_some_iff.1 HROW6.out).1).trans HROW6.out
  have hx7 := (hb7.block y (Array.getElem?_eq_some_iff.1 HX6.out).1).trans HX6.out
  have HB7 : Hid (Below w.heap.size w w7) := Lib.hid (HB6.out.trans (hb7.mono HB6.out.size))
  have c0 : w7.cell? ⟨x, 0, none⟩ = some (.string k2) := cell_of_row _ _ _ _ _ _ hr7
  have c1 : w7.cell? ⟨x, 1, none⟩ = some (.int .i64 q2) := cell_of_row _ _ _ _ _ _ hr7
  have c2 : w7.cell? ⟨x, 2, none⟩ = some (.bool g2) := cell_of_row _ _ _ _ _ _ hr7
  have c3 : w7.cell? ⟨x, 3, none⟩ = some (.string v2) := cell_of_row _ _ _ _ _ _ hr7
  have c4 : w7.cell? ⟨x, 4, none⟩ = some (.int .i64 t2) := cell_of_row _ _ _ _ _ _ hr7
  have d0 : w7.cell? ⟨y, 0, none⟩ = some (.string k2) := cell_of_row _ _ _ _ _ _ hx7
  have d1 : w7.cell? ⟨y, 1, none⟩ = some (.int .i64 q2) := cell_of_row _ _ _ _ _ _ hx7
  have d2 : w7.cell? ⟨y, 2, none⟩ = some (.bool g2) := cell_of_row _ _ _ _ _ _ hx7
  have d3 : w7.cell? ⟨y, 3, none⟩ = some (.string v2) := cell_of_row _ _ _ _ _ _ hx7
  have d4 : w7.cell? ⟨y, 4, none⟩ = some (.int .i64 t2) := cell_of_row _ _ _ _ _ _ hx7
  clear hb7 hr7 hx7
  go_wp2
  go_ret
  exact ⟨rfl, HB7.out⟩

set_option maxRecDepth 100000 in
theorem contract (H : Type) (enc : TypeId × Value → H) (W : World) (base : Nat) (args : Array Value) (ds gs : List (DataW H)) (before : List MemPlace)
    (hval : ∀ (j : Nat) t v, Try.f6.params[j]? = some t → args[j]? = some v → Value.okWide Try.prog W .any base t v)
    (hW : DataW.Whole enc Try.prog Try.f6.params.toList Rows.blockFindsSpec.vars false W args.toList ds gs before)
    (hz : (DataW.weightsEach Try.prog Try.f6.params.toList (ds ++ gs)).all (· ≤ reachBytes) = true) :
    Calls Try.prog 6 args W fun e W' => ∃ v, e = .returned v ∧ Rows.blockFindsSpec.post enc Try.prog Try.f6 false true false false W args v W' := by
  have hW' := hW
  obtain ⟨p, q, hA0, hV, rfl, hfz, hnd⟩ := hW
  have hA : DataW.TrodAll enc Try.prog W 0 (fun _ => true) true Try.f6.params.toList args.toList ds p := hA0
  rw [Try.params6] at hA hval hz
  obtain ⟨v0, vs0, d0, ds0, p0, q0, hargs, rfl, rfl, h0, r0⟩ := trodAll_cons hA
  obtain ⟨v1, vs1, d1, ds1, p1, q1, rfl, rfl, rfl, h1, r1⟩ := trodAll_cons r0
  obtain ⟨v2, vs2, d2, ds2, p2, q2, rfl, rfl, rfl, h2, r2⟩ := trodAll_cons r1
  obtain ⟨rfl, rfl, rfl⟩ := trodAll_nil r2
  obtain rfl : args = #[v0, v1, v2] := by cases args; simp_all
  obtain ⟨rfl, rfl⟩ := trodVars_none hV
  obtain ⟨s, rfl, rfl, rfl, hmax0⟩ := Go.ChangeMaps.open_string Try.underlying9 (hval 0 9 v0 rfl rfl) h0
  have hs : s.size ≤ 140737488351232 := by
    have h := sized_string hz (j := 0) rfl rfl
    have hl : s.data.toList.length = s.size := by simp
    unfold reachBytes at h
    omega
  obtain ⟨key, rfl, rfl, rfl, hmax1⟩ := Go.ChangeMaps.open_string Try.underlying9 (hval 1 9 v1 rfl rfl) h1
  have hkey : key.size ≤ 140737488351232 := by
    have h := sized_string hz (j := 1) rfl rfl
    have hl : key.data.toList.length = key.size := by simp
    unfold reachBytes at h
    omega
  obtain ⟨seq, rfl, rfl, rfl, wseq⟩ := open_int Try.underlying2 (hval 2 2 v2 rfl rfl) h2
  have hseq : -9223372036854775808 ≤ seq ∧ seq ≤ 9223372036854775807 := by simpa [Lit.wf, IntKind.min, IntKind.max, IntKind.signed, IntKind.bits] using wseq
  refine (walk s key seq W hs).mono fun e W' ⟨he, hB⟩ => ?_
  subst he
  exact ⟨_, rfl, law_post Try.laidOut (by kernel_rfl) rfl rfl Try.underlying4 hW' rfl hB⟩

set_option maxRecDepth 100000 in
theorem lifted (os : Os) (started : os.Started) (H : Type) (enc : TypeId × Value → H) :
    ReturnsInHanded {} Try.checked os 6 .any (Rows.blockFindsSpec.pre6 enc Try.prog Try.f6 Rows.blockFindsRow.domain false) (Rows.blockFindsSpec.post enc Try.prog Try.f6 false true false false) := by
  refine returnsInHanded_of_change_sized (C := Try.checked) Try.own started (by kernel_rfl) Try.func6
    (ChangeSpec.witness6 (enc := enc) (C := Try.checked) false ⟨#[], #[.string ⟨#[]⟩, .string ⟨#[]⟩, .int .i64 0], []⟩ 8 (by kernel_rfl) (by kernel_rfl) (by kernel_rfl) (by kernel_rfl)) ?_
  intro W base args ds gs before hval hW _ hz _
  exact contract H enc W base args ds gs before hval hW hz

theorem proved : Rows.BlockFindsSaid :=
  OpenClaim.holds_of_wide 6 Try.f6 rfl rfl rfl rfl rfl rfl rfl ⟨rfl, rfl, rfl, rfl, rfl⟩ rfl rfl rfl rfl rfl (by kernel_rfl) Try.func6 (by kernel_rfl)
    (of_decide_eq_true (by kernel_rfl)) (by unfold Func.isWrapper; first | (rw [if_pos (by decide +kernel)]; kernel_rfl) | (rw [if_neg (by decide +kernel)]; exact ⟨rfl, rfl⟩))
    (fun os started H enc _ => lifted os started H enc)
end lawFinds
end Go.Proofs.Ytcmnbfcceeljpaa
