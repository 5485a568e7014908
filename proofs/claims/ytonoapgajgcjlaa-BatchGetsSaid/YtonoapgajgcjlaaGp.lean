/- bytesOf, the document's Good and text: the walks. -/
import Derived.Test.YtonoapgajgcjlaaGo
namespace Go.Proofs.Ytonoapgajgcjlaa
open Go.RowKit
open SK

set_option maxRecDepth 100000 in
/-- the document's Good: of an item that is put -/
theorem rbad_any (a : E) (w : World) (ha : a.wf) :
    Calls Try.prog 22 #[a.val] w fun e w' => e = .returned (.int .i64 (BK.bad1 a)) ∧ Below w.heap.size w w' := by
  have HG : Hid (∀ W, Calls Try.prog 34 #[(BK.one a).val] W fun r w' => r = .returned (.int .i64 (good (BK.one a))) ∧ Below W.heap.size W w') := fun W => rgood_any (BK.one a) W ⟨ha.key, ha.value, ⟨by simp [BK.one], by simp [BK.one]⟩, ha.til⟩
  have HB : Hid (BK.bad1 a = if good (BK.one a) ≠ 0 then good (BK.one a) else if a.til = 9223372036854775807 then 2 else 0) := Lib.hid rfl
  obtain ⟨G, hG⟩ : ∃ G, good (BK.one a) = G := ⟨_, rfl⟩
  obtain ⟨R, hR⟩ : ∃ R, BK.bad1 a = R := ⟨_, rfl⟩
  rw [hG] at HG HB
  rw [hR] at HB ⊢
  clear hG hR
  obtain ⟨k, q, g, v, t⟩ := a
  simp only [E.val, BK.one] at HG HB ⊢
  clear ha
  by_cases h0 : G = 0
  · subst h0
    by_cases ht : t = 9223372036854775807
    · subst ht
      have HR : Hid (R = 2) := Lib.hid (by rw [HB.out]; simp)
      clear HB
      go_enter Try.func22, Try.ntmps22
      go_wp2_with fail
      refine (HG.out _).mono ?_
      rintro e w1 ⟨rfl, hb1⟩
      have hc : w1.cell? ⟨w.heap.size, 4, none⟩ = some (.int .i64 9223372036854775807) := by rw [hb1.cell (by simp)]; simp [go_sem]
      go_wp2
      go_ret
      exact ⟨by rw [HR.out]; rfl, ((Below.refl _ w).alloc (Nat.le_refl _) _).trans (hb1.mono (by simp))⟩
    · have HR : Hid (R = 0) := Lib.hid (by rw [HB.out]; simp [ht])
      have hbe : (t == 9223372036854775807) = false := by simpa using ht
      clear HB
      go_enter Try.func22, Try.ntmps22
      go_wp2_with fail
      refine (HG.out _).mono ?_
      rintro e w1 ⟨rfl, hb1⟩
      have hc : w1.cell? ⟨w.heap.size, 4, none⟩ = some (.int .i64 t) := by rw [hb1.cell (by simp)]; simp [go_sem]
      go_wp2
      go_ret
      exact ⟨by rw [HR.out]; rfl, ((Below.refl _ w).alloc (Nat.le_refl _) _).trans (hb1.mono (by simp))⟩
  · have HR : Hid (R = G) := Lib.hid (by rw [HB.out]; simp [h0])
    have hbe : (G == 0) = false := by simpa using h0
    have hbn : (G != 0) = true := by simpa using h0
    clear HB
    go_enter Try.func22, Try.ntmps22
    go_wp2_with fail
    refine (HG.out _).mono ?_
    rintro e w1 ⟨rfl, hb1⟩
    go_wp2
    go_ret
    exact ⟨by rw [HR.out]; rfl, ((Below.refl _ w).alloc (Nat.le_refl _) _).trans (hb1.mono (by simp))⟩

/-- the document's text -/
theorem rtext_any (s : ByteArray) (w : World) (hs : s.size ≤ 140737488355328) :
    Calls Try.prog 23 #[.string s] w fun e w' => e = .returned (.string ⟨(BK.textB s).toArray⟩) ∧ Below w.heap.size w w' := by
  have hen := VM.enc_len (n := (s.size : Int)) (by omega) (by omega)
  have he : (⟨(VM.enc s.size).toArray⟩ : ByteArray) ++ s = ⟨(BK.textB s).toArray⟩ := by
    apply ByteArray.ext
    apply Array.toList_inj.1
    simp [BK.textB]
  have HE := Lib.hid he
  obtain ⟨l, hl⟩ : ∃ l : List UInt8, VM.enc (s.size : Int) = l := ⟨_, rfl⟩
  have HP := Lib.hid (fun W => refPut_any (s.size : Int) W (by omega) (by omega))
  rw [hl] at hen HE HP
  obtain ⟨hen1, hen2⟩ := hen
  clear he hl
  go_enter Try.func23, Try.ntmps23
  go_wp2_with fail
  refine (HP.out _).mono ?_
  rintro e w1 ⟨rfl, hB⟩
  go_wp2
  go_ret
  exact ⟨by rw [HE.out]; rfl, hB⟩

set_option maxRecDepth 100000 in
set_option maxHeartbeats 1000000 in
/-- an item's bytes -/
theorem bytesOf_any (a : E) (w : World) (hw : a.wf) (hb : BK.bad1 a = 0) :
    Calls Try.prog 19 #[a.val] w fun e w' => e = .returned (.string ⟨(BK.itemB a).toArray⟩) ∧ Below w.heap.size w w' := by
  obtain ⟨hg1, ht⟩ := BK.bad1_zero hb
  obtain ⟨h1, h2, h3, h4, -⟩ := BK.good_one_zero hg1
  have hti := hw.til
  have lk := BK.textB_len a.key (by omega)
  have lv := BK.textB_len a.value (by omega)
  have HK := Lib.hid (fun W => putText_any a.key W (by omega))
  have HV := Lib.hid (fun W => putText_any a.value W (by omega))
  simp only [BK.textEnc_eq] at HK HV
  obtain ⟨TK, hTK⟩ : ∃ TK : ByteArray, TK = ⟨(BK.textB a.key).toArray⟩ := ⟨_, rfl⟩
  obtain ⟨TV, hTV⟩ : ∃ TV : ByteArray, TV = ⟨(BK.textB a.value).toArray⟩ := ⟨_, rfl⟩
  have sk : TK.size ≤ 74 := by
    rw [hTK]; show (BK.textB a.key).toArray.size ≤ 74; rw [List.size_toArray]; omega
  have sv : TV.size ≤ 522 := by
    rw [hTV]; show (BK.textB a.value).toArray.size ≤ 522; rw [List.size_toArray]; omega
  rw [← hTK] at HK
  rw [← hTV] at HV
  by_cases hg : a.gone = true
  · have HE : Hid ((TK ++ ⟨(VM.enc 0).toArray⟩ : ByteArray) = ⟨(BK.itemB a).toArray⟩) := Lib.hid (by
      apply ByteArray.ext
      apply Array.toList_inj.1
      rw [hTK]
      simp [BK.itemB, hg])
    have HN := Lib.hid (fun W => put_any 0 W (by omega) (by omega))
    have hn0 := (VM.enc_len (n := 0) (by omega) (by omega)).2
    obtain ⟨N, hN⟩ : ∃ N : ByteArray, N = ⟨(VM.enc 0).toArray⟩ := ⟨_, rfl⟩
    have sn : N.size ≤ 10 := by rw [hN]; show (VM.enc 0).toArray.size ≤ 10; rw [List.size_toArray]; omega
    rw [← hN] at HN HE
    obtain ⟨R, hR⟩ : ∃ R : ByteArray, ⟨(BK.itemB a).toArray⟩ = R := ⟨_, rfl⟩
    rw [hR] at HE ⊢
    clear hR hN hTK hTV lk lv hw hb hg1 ht h1 h2 h3 h4 hti hn0
    obtain ⟨k, q, g, v, t⟩ := a
    simp only [E.val] at HK HV hg ⊢
    subst hg
    go_enter Try.func19, Try.ntmps19
    go_wp2_with fail
    refine (HK.out _).mono ?_
    rintro e w1 ⟨rfl, hb1⟩
    go_wp2_with fail
    refine (HN.out _).mono ?_
    rintro e w2 ⟨rfl, hb2⟩
    go_wp2
    go_ret
    exact ⟨by rw [HE.out]; rfl, (((Below.refl _ w).alloc (Nat.le_refl _) _).trans (hb1.mono (by simp))).trans (hb2.mono (by have := hb1.size; simp at this; omega))⟩
  · have hgf : a.gone = false := by simpa using hg
    have HN := Lib.hid (fun W => put_any (a.til + 1) W (by omega) (by omega))
    have hn0 := (VM.enc_len (n := a.til + 1) (by omega) (by omega)).2
    obtain ⟨N, hN⟩ : ∃ N : ByteArray, N = ⟨(VM.enc (a.til + 1)).toArray⟩ := ⟨_, rfl⟩
    have HE : Hid ((TK ++ N ++ TV : ByteArray) = ⟨(BK.itemB a).toArray⟩) := Lib.hid (by
      apply ByteArray.ext
      apply Array.toList_inj.1
      rw [hTK, hTV, hN]
      simp [BK.itemB, hgf])
    have sn : N.size ≤ 10 := by rw [hN]; show (VM.enc (a.til + 1)).toArray.size ≤ 10; rw [List.size_toArray]; omega
    rw [← hN] at HN
    obtain ⟨R, hR⟩ : ∃ R : ByteArray, ⟨(BK.itemB a).toArray⟩ = R := ⟨_, rfl⟩
    rw [hR] at HE ⊢
    have htl : a.til < 9223372036854775807 := by omega
    clear hR hN hTK hTV lk lv hw hb hg1 ht h1 h2 h3 hti hn0 hg
    obtain ⟨k, q, g, v, t⟩ := a
    simp only [E.val] at HK HV HN HE hgf htl h4 ⊢
    subst hgf
    have hwr : IntKind.i64.wrap (t + 1) = t + 1 := IntWalk.i64_in _ ⟨by omega, by omega⟩
    have k1 : ¬ 9223372036854775807 < TK.size + N.size := by omega
    have k2 : ¬ 9223372036854775807 < TK.size + N.size + TV.size := by omega
    have hrow : (w.alloc (.cells #[.string k, .int .i64 q, .bool false, .string v, .int .i64 t] 40)).heap[w.heap.size]? = some (.cells #[.string k, .int .i64 q, .bool false, .string v, .int .i64 t] 40 (0, 0)) := heap_alloc_new w _
    have hk0 : Below w.heap.size w (w.alloc (.cells #[.string k, .int .i64 q, .bool false, .string v, .int .i64 t] 40)) := (Below.refl _ w).alloc (Nat.le_refl _) _
    go_enter Try.func19, Try.ntmps19
    go_wp2_with fail
    generalize w.alloc (.cells #[.string k, .int .i64 q, .bool false, .string v, .int .i64 t] 40) = w0 at hrow hk0 ⊢
    obtain ⟨x, hx⟩ : ∃ x, w.heap.size = x := ⟨_, rfl⟩
    rw [hx] at hrow hk0 ⊢
    have hlt := (Array.getElem?_eq_some_iff.1 hrow).1
    have HX := Lib.hid hx
    have HR0 := Lib.hid hrow
    have HK0 := Lib.hid hk0
    have HZ0 : Hid (x < w0.heap.size) := Lib.hid hlt
    obtain ⟨e0, e1, e2⟩ : w0.cell? ⟨x, 0, none⟩ = some (.string k) ∧ w0.cell? ⟨x, 3, none⟩ = some (.string v) ∧ w0.cell? ⟨x, 4, none⟩ = some (.int .i64 t) := ⟨cell_of_row _ _ _ _ _ _ HR0.out, cell_of_row _ _ _ _ _ _ HR0.out, cell_of_row _ _ _ _ _ _ HR0.out⟩
    clear hrow hk0 hlt hx
    go_region_held3 (fun w' => w'.cell? ⟨x, 0, none⟩ = some (.string k) ∧ w'.cell? ⟨x, 3, none⟩ = some (.string v) ∧ w'.cell? ⟨x, 4, none⟩ = some (.int .i64 t))
      (first | go_keep | exact HS1.out | exact HS2.out | exact HS3.out | fail)
      (first
        | (go_at_call 33; refine (HK.out _).mono ?_; rintro r w1 ⟨rfl, hb⟩
           have HR1 := Lib.hid ((hb.block x (by have := HZ0.out; simp; omega)).trans HR0.out)
           have HZ1 : Hid (x < w1.heap.size) := Lib.hid (Array.getElem?_eq_some_iff.1 HR1.out).1
           have HS1 : Hid (w1.cell? ⟨x, 0, none⟩ = some (.string k) ∧ w1.cell? ⟨x, 3, none⟩ = some (.string v) ∧ w1.cell? ⟨x, 4, none⟩ = some (.int .i64 t)) := Lib.hid ⟨cell_of_row _ _ _ _ _ _ HR1.out, cell_of_row _ _ _ _ _ _ HR1.out, cell_of_row _ _ _ _ _ _ HR1.out⟩
           have HK1 : Hid (Below x w w1) := Lib.hid (Below.trans (Below.drew HK0.out) (hb.mono (by have := HZ0.out; simp; omega)))
           clear hb)
        | (go_at_call 17; refine (HN.out _).mono ?_; rintro r w2 ⟨rfl, hb⟩
           have HR2 := Lib.hid ((hb.block x (by have := HZ1.out; simp; omega)).trans HR1.out)
           have HZ2 : Hid (x < w2.heap.size) := Lib.hid (Array.getElem?_eq_some_iff.1 HR2.out).1
           have HS2 : Hid (w2.cell? ⟨x, 0, none⟩ = some (.string k) ∧ w2.cell? ⟨x, 3, none⟩ = some (.string v) ∧ w2.cell? ⟨x, 4, none⟩ = some (.int .i64 t)) := Lib.hid ⟨cell_of_row _ _ _ _ _ _ HR2.out, cell_of_row _ _ _ _ _ _ HR2.out, cell_of_row _ _ _ _ _ _ HR2.out⟩
           have HK2 : Hid (Below x w w2) := Lib.hid (Below.trans HK1.out (hb.mono (by have := HZ1.out; simp; omega)))
           clear hb)
        | (go_at_call 33; refine (HV.out _).mono ?_; rintro r w3 ⟨rfl, hb⟩
           have HR3 := Lib.hid ((hb.block x (by have := HZ2.out; simp; omega)).trans HR2.out)
           have HS3 : Hid (w3.cell? ⟨x, 0, none⟩ = some (.string k) ∧ w3.cell? ⟨x, 3, none⟩ = some (.string v) ∧ w3.cell? ⟨x, 4, none⟩ = some (.int .i64 t)) := Lib.hid ⟨cell_of_row _ _ _ _ _ _ HR3.out, cell_of_row _ _ _ _ _ _ HR3.out, cell_of_row _ _ _ _ _ _ HR3.out⟩
           have HK3 : Hid (Below x w w3) := Lib.hid (Below.trans HK2.out (hb.mono (by have := HZ2.out; simp; omega)))
           clear hb)
        | fail)
    all_goals
      clear HS1 HS2 HS3
      go_wp2
      go_ret
      exact ⟨by rw [HE.out]; rfl, by rw [HX.out]; exact HK3.out⟩
end Go.Proofs.Ytonoapgajgcjlaa
