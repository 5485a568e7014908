/- What keys share: alike; an entry's bytes. -/
import Derived.Test.YtcmnbfcceeljpaaOd
import Derived.Test.YtcmnbfcceeljpaaVarG
import Derived.Test.YtcmnbfcceeljpaaVarB
namespace Go.Proofs.Ytcmnbfcceeljpaa
open Go.RowKit
open SK

set_option maxRecDepth 100000 in
theorem alike_any (a b : ByteArray) (w : World) (ha : a.size ≤ 140737488355328) (_ : b.size ≤ 140737488355328) :
    Calls Try.prog 24 #[.string a, .string b] w fun r w' => r = .returned (.int .i64 (BK.alike a.data.toList b.data.toList)) ∧ Below w.heap.size w w' := by
  have HST : Hid (∀ i (h1 : i < a.size) (h2 : i < b.size), a.data.toList.take i = b.data.toList.take i → a[i] ≠ b[i] → BK.alike a.data.toList b.data.toList = i) := Lib.hid (fun i h1 h2 h hne => BK.alike_stop h (by rw [size_list]; exact h1) (by rw [size_list]; exact h2) hne)
  have HNX : Hid (∀ i (h1 : i < a.size) (h2 : i < b.size), a.data.toList.take i = b.data.toList.take i → a[i] = b[i] → a.data.toList.take (i + 1) = b.data.toList.take (i + 1)) := Lib.hid (fun i h1 h2 h he => BK.alike_next h (by rw [size_list]; exact h1) (by rw [size_list]; exact h2) he)
  have HEN : Hid (∀ i, i ≤ a.size → i ≤ b.size → (i = a.size ∨ i = b.size) → a.data.toList.take i = b.data.toList.take i → BK.alike a.data.toList b.data.toList = i) := Lib.hid (fun i h1 h2 hm h => BK.alike_end h (by rw [size_list]; exact h1) (by rw [size_list]; exact h2) (by rw [size_list, size_list]; exact hm))
  obtain ⟨R, hR⟩ : ∃ R, BK.alike a.data.toList b.data.toList = R := ⟨_, rfl⟩
  rw [hR] at HST HEN ⊢
  obtain ⟨m, hm⟩ : ∃ m, min a.size b.size = m := ⟨_, rfl⟩
  have hmm : min (a.size : Int) (b.size : Int) = (m : Int) := by omega
  have hma : m ≤ a.size := by omega
  have hmb : m ≤ b.size := by omega
  have HME : Hid (m = a.size ∨ m = b.size) := Lib.hid (by omega)
  clear hR hm
  go_enter Try.func24, Try.ntmps24
  go_wp2
  go_loopw [13] (fun i wr => ∃ j : Nat, j ≤ m ∧ i = .int .i64 j ∧ a.data.toList.take j = b.data.toList.take j ∧ Below w.heap.size w wr) (fun i _ => m - (intOf i).toNat)
  case atStart => exact ⟨0, by omega, rfl, by simp, Below.refl _ _⟩
  case round =>
    obtain ⟨j, hj, rfl, hup, hbel⟩ := hrel
    have HUP := Lib.hid hup
    have HBEL := Lib.hid hbel
    clear hup hbel
    by_cases hlt : j < m
    · have ja : j < a.size := by omega
      have jb : j < b.size := by omega
      have g0 : (0 : Int) ≤ (j : Int) := by omega
      have g1 : (j : Int) < (a.size : Int) := by omega
      have g2 : (j : Int) < (b.size : Int) := by omega
      by_cases he : a[j] = b[j]
      · have heq : ((a[j].toNat : Int) == (b[j].toNat : Int)) = true := by rw [he]; exact beq_self_eq_true _
        have HN := Lib.hid (HNX.out j ja jb HUP.out he)
        clear he
        go_wp2_with fail
        go_quiet (fail)
        go_wp2
        go_roundw
        case rel => exact ⟨j + 1, by omega, by go_num, HN.out, below_drewN HBEL.out _⟩
        case measure => simp [intOf]; omega
      · have heq : ((a[j].toNat : Int) == (b[j].toNat : Int)) = false := beq_eq_false_iff_ne.2 (fun h => he (UInt8.toNat_inj.1 (by omega)))
        have HR : Hid (R = j) := Lib.hid (HST.out j ja jb HUP.out he)
        clear he
        go_wp2_with fail
        go_quiet (fail)
        go_wp2
        go_ret
        exact ⟨by rw [HR.out]; rfl, below_drewN HBEL.out _⟩
    · have hjm : j = m := by omega
      have HR : Hid (R = j) := Lib.hid (HEN.out j (by omega) (by omega) (by rw [hjm]; exact HME.out) HUP.out)
      subst hjm
      go_wp2
      go_ret
      exact ⟨by rw [HR.out]; rfl, HBEL.out⟩

theorem str_tail (W : World) (s : ByteArray) (a : Nat) (h : a ≤ s.size) :
    (Instr.slice 9 (.string s) (some (.int .i64 (a : Int))) none none).run Try.prog W = .ok (.string (s.extract a s.size)) W := by
  have i1 : (0 : Int) ≤ (a : Int) := by omega
  have i4 : (a : Int) ≤ (s.size : Int) := by omega
  simp [Instr.slice, run_underlying Try.underlying9, Instr.sliceBounds, run_sliceBound, i1, i4]

theorem mk_size (l : List UInt8) : (⟨l.toArray⟩ : ByteArray).size = l.length := by show l.toArray.size = _; rw [List.size_toArray]

set_option maxRecDepth 100000 in
set_option maxHeartbeats 1000000 in
/-- an entry's bytes -/
theorem bytesOf_any (a : E) (n : Nat) (w : World) (hw : a.wf) (hg : good a = 0) (ht : a.til ≠ 9223372036854775807) (hn : n ≤ a.key.size) :
    Calls Try.prog 25 #[a.val, .int .i64 n] w fun e w' => e = .returned (.string ⟨(BK.entB a n).toArray⟩) ∧ Below w.heap.size w w' := by
  obtain ⟨h1, h2, h3, h4, h5⟩ := good_zero hg
  have hti := hw.til
  have hsq := hw.seq
  have hks := BK.tail_size a.key n
  have lk := BK.textB_len (a.key.extract n a.key.size) (by omega)
  have lv := BK.textB_len a.value (by omega)
  have hsl := fun W => str_tail W a.key n hn
  have HP := Lib.hid (fun W => put_any (n : Int) W (by omega) (by omega))
  have HQ := Lib.hid (fun W => put_any a.seq W (by omega) (by omega))
  have HK := Lib.hid (fun W => putText_any (a.key.extract n a.key.size) W (by omega))
  have HV := Lib.hid (fun W => putText_any a.value W (by omega))
  simp only [BK.textEnc_eq] at HK HV
  have lp := (VM.enc_len (n := (n : Int)) (by omega) (by omega)).2
  have lq := (VM.enc_len (n := a.seq) (by omega) (by omega)).2
  obtain ⟨TK, hTK⟩ : ∃ TK : ByteArray, TK = ⟨(BK.textB (a.key.extract n a.key.size)).toArray⟩ := ⟨_, rfl⟩
  obtain ⟨TV, hTV⟩ : ∃ TV : ByteArray, TV = ⟨(BK.textB a.value).toArray⟩ := ⟨_, rfl⟩
  obtain ⟨TP, hTP⟩ : ∃ TP : ByteArray, TP = ⟨(VM.enc (n : Int)).toArray⟩ := ⟨_, rfl⟩
  obtain ⟨TQ, hTQ⟩ : ∃ TQ : ByteArray, TQ = ⟨(VM.enc a.seq).toArray⟩ := ⟨_, rfl⟩
  have sk : TK.size ≤ 74 := by rw [hTK, mk_size]; omega
  have sv : TV.size ≤ 522 := by rw [hTV, mk_size]; omega
  have sp : TP.size ≤ 10 := by rw [hTP, mk_size]; omega
  have sq : TQ.size ≤ 10 := by rw [hTQ, mk_size]; omega
  rw [← hTK] at HK
  rw [← hTV] at HV
  rw [← hTP] at HP
  rw [← hTQ] at HQ
  obtain ⟨KT, hKT⟩ : ∃ KT, a.key.extract n a.key.size = KT := ⟨_, rfl⟩
  rw [hKT] at HK
  simp only [hKT] at hsl
  have k1 : ¬ 9223372036854775807 < TP.size + TK.size := by omega
  have k2 : ¬ 9223372036854775807 < TP.size + TK.size + TQ.size := by omega
  have hnn : (0 : Int) ≤ (n : Int) := by omega
  by_cases hgo : a.gone = true
  · have hgf := hgo
    have HN := Lib.hid (fun W => put_any 0 W (by omega) (by omega))
    have hn0 := (VM.enc_len (n := 0) (by omega) (by omega)).2
    obtain ⟨N, hN⟩ : ∃ N : ByteArray, N = ⟨(VM.enc 0).toArray⟩ := ⟨_, rfl⟩
    have HE : Hid ((TP ++ TK ++ TQ ++ N : ByteArray) = ⟨(BK.entB a n).toArray⟩) := Lib.hid (by
      apply ByteArray.ext
      apply Array.toList_inj.1
      rw [hTK, hTP, hTQ, hN]
      simp [BK.entB, hgo])
    have sn : N.size ≤ 10 := by rw [hN, mk_size]; omega
    have k3 : ¬ 9223372036854775807 < TP.size + TK.size + TQ.size + N.size := by omega
    rw [← hN] at HN
    clear hgo
    obtain ⟨R, hR⟩ : ∃ R : ByteArray, ⟨(BK.entB a n).toArray⟩ = R := ⟨_, rfl⟩
    rw [hR] at HE ⊢
    have htl : a.til + 1 ≤ 9223372036854775807 := by omega
    clear hR hN hTK hTV hTP hTQ lk lv lp lq hw hg ht h1 h2 h3 h4 hsq hn0 hks hKT hn
    obtain ⟨k, q, g, v, t⟩ := a
    simp only [E.val] at HK HV HN HE HQ hgf htl h5 hti hsl ⊢
    subst hgf
    have hrow : (w.alloc (.cells #[.string k, .int .i64 q, .bool true, .string v, .int .i64 t] 45)).heap[w.heap.size]? = some (.cells #[.string k, .int .i64 q, .bool true, .string v, .int .i64 t] 45 (0, 0)) := heap_alloc_new w _
    have hk0 : Below w.heap.size w (w.alloc (.cells #[.string k, .int .i64 q, .bool true, .string v, .int .i64 t] 45)) := (Below.refl _ w).alloc (Nat.le_refl _) _
    go_enter Try.func25, Try.ntmps25
    go_wp2_with fail
    generalize w.alloc (.cells #[.string k, .int .i64 q, .bool true, .string v, .int .i64 t] 45) = w0 at hrow hk0 ⊢
    obtain ⟨x, hx⟩ : ∃ x, w.heap.size = x := ⟨_, rfl⟩
    rw [hx] at hrow hk0 ⊢
    have hlt := (Array.getElem?_eq_some_iff.1 hrow).1
    have HX := Lib.hid hx
    have HR0 := Lib.hid hrow
    have HK0 := Lib.hid hk0
    have HZ0 : Hid (x < w0.heap.size) := Lib.hid hlt
    obtain ⟨e0, e1, e3, e4⟩ : w0.cell? ⟨x, 0, none⟩ = some (.string k) ∧ w0.cell? ⟨x, 1, none⟩ = some (.int .i64 q) ∧ w0.cell? ⟨x, 3, none⟩ = some (.string v) ∧ w0.cell? ⟨x, 4, none⟩ = some (.int .i64 t) := ⟨cell_of_row _ _ _ _ _ _ HR0.out, cell_of_row _ _ _ _ _ _ HR0.out, cell_of_row _ _ _ _ _ _ HR0.out, cell_of_row _ _ _ _ _ _ HR0.out⟩
    clear hrow hk0 hlt hx
    go_region_held3 (fun w' => w'.cell? ⟨x, 0, none⟩ = some (.string k) ∧ w'.cell? ⟨x, 1, none⟩ = some (.int .i64 q) ∧ w'.cell? ⟨x, 3, none⟩ = some (.string v) ∧ w'.cell? ⟨x, 4, none⟩ = some (.int .i64 t))
      (first | exact HS3.out | exact HS2.out | exact HS1.out | go_keep | fail)
      (first
        | (have hk2 := HK2.out; go_at_call 23; refine (HQ.out _).mono ?_; rintro r w3 ⟨rfl, hb⟩
           have HR3 := Lib.hid ((hb.block x (by have := HZ2.out; simp; omega)).trans HR2.out)
           have HZ3 : Hid (x < w3.heap.size) := Lib.hid (Array.getElem?_eq_some_iff.1 HR3.out).1
           have HS3 : Hid (w3.cell? ⟨x, 0, none⟩ = some (.string k) ∧ w3.cell? ⟨x, 1, none⟩ = some (.int .i64 q) ∧ w3.cell? ⟨x, 3, none⟩ = some (.string v) ∧ w3.cell? ⟨x, 4, none⟩ = some (.int .i64 t)) := Lib.hid ⟨cell_of_row _ _ _ _ _ _ HR3.out, cell_of_row _ _ _ _ _ _ HR3.out, cell_of_row _ _ _ _ _ _ HR3.out, cell_of_row _ _ _ _ _ _ HR3.out⟩
           have HK3 : Hid (Below x w w3) := Lib.hid (Below.trans HK2.out (hb.mono (by have := HZ2.out; simp; omega)))
           clear hb hk2)
        | (go_at_call 42; refine (HK.out _).mono ?_; rintro r w2 ⟨rfl, hb⟩
           have HR2 := Lib.hid ((hb.block x (by have := HZ1.out; simp; omega)).trans HR1.out)
           have HZ2 : Hid (x < w2.heap.size) := Lib.hid (Array.getElem?_eq_some_iff.1 HR2.out).1
           have HS2 : Hid (w2.cell? ⟨x, 0, none⟩ = some (.string k) ∧ w2.cell? ⟨x, 1, none⟩ = some (.int .i64 q) ∧ w2.cell? ⟨x, 3, none⟩ = some (.string v) ∧ w2.cell? ⟨x, 4, none⟩ = some (.int .i64 t)) := Lib.hid ⟨cell_of_row _ _ _ _ _ _ HR2.out, cell_of_row _ _ _ _ _ _ HR2.out, cell_of_row _ _ _ _ _ _ HR2.out, cell_of_row _ _ _ _ _ _ HR2.out⟩
           have HK2 : Hid (Below x w w2) := Lib.hid (Below.trans HK1.out (hb.mono (by have := HZ1.out; simp; omega)))
           clear hb)
        | (go_at_call 23; refine (HP.out _).mono ?_; rintro r w1 ⟨rfl, hb⟩
           have HR1 := Lib.hid ((hb.block x (by have := HZ0.out; simp; omega)).trans HR0.out)
           have HZ1 : Hid (x < w1.heap.size) := Lib.hid (Array.getElem?_eq_some_iff.1 HR1.out).1
           have HS1 : Hid (w1.cell? ⟨x, 0, none⟩ = some (.string k) ∧ w1.cell? ⟨x, 1, none⟩ = some (.int .i64 q) ∧ w1.cell? ⟨x, 3, none⟩ = some (.string v) ∧ w1.cell? ⟨x, 4, none⟩ = some (.int .i64 t)) := Lib.hid ⟨cell_of_row _ _ _ _ _ _ HR1.out, cell_of_row _ _ _ _ _ _ HR1.out, cell_of_row _ _ _ _ _ _ HR1.out, cell_of_row _ _ _ _ _ _ HR1.out⟩
           have HK1 : Hid (Below x w w1) := Lib.hid (Below.trans (Below.drew HK0.out) (hb.mono (by have := HZ0.out; simp; omega)))
           clear hb)
        | fail)
    all_goals
      clear HS1 HS2 HS3
      have c2 : w3.cell? ⟨x, 2, none⟩ = some (.bool true) := cell_of_row _ _ _ _ _ _ HR3.out
      go_wp2_with fail
      refine (HN.out _).mono ?_
      rintro r w4 ⟨rfl, hb⟩
      have HK4 : Hid (Below x w w4) := Lib.hid (HK3.out.trans (hb.mono (by have := HZ3.out; omega)))
      clear hb
      go_wp2
      go_ret
      exact ⟨by rw [HE.out]; rfl, by rw [HX.out]; exact HK4.out⟩
  · have hgf : a.gone = false := by simpa using hgo
    have HN := Lib.hid (fun W => put_any (a.til + 1) W (by omega) (by omega))
    have hn0 := (VM.enc_len (n := a.til + 1) (by omega) (by omega)).2
    obtain ⟨N, hN⟩ : ∃ N : ByteArray, N = ⟨(VM.enc (a.til + 1)).toArray⟩ := ⟨_, rfl⟩
    have HE : Hid ((TP ++ TK ++ TQ ++ N ++ TV : ByteArray) = ⟨(BK.entB a n).toArray⟩) := Lib.hid (by
      apply ByteArray.ext
      apply Array.toList_inj.1
      rw [hTK, hTP, hTQ, hN, hTV]
      simp [BK.entB, hgf])
    have sn : N.size ≤ 10 := by rw [hN, mk_size]; omega
    have k3 : ¬ 9223372036854775807 < TP.size + TK.size + TQ.size + N.size := by omega
    have k4 : ¬ 9223372036854775807 < TP.size + TK.size + TQ.size + N.size + TV.size := by omega
    rw [← hN] at HN
    clear hgo
    obtain ⟨R, hR⟩ : ∃ R : ByteArray, ⟨(BK.entB a n).toArray⟩ = R := ⟨_, rfl⟩
    rw [hR] at HE ⊢
    have htl : a.til + 1 ≤ 9223372036854775807 := by omega
    clear hR hN hTK hTV hTP hTQ lk lv lp lq hw hg ht h1 h2 h3 h4 hsq hn0 hks hKT hn
    obtain ⟨k, q, g, v, t⟩ := a
    simp only [E.val] at HK HV HN HE HQ hgf htl h5 hti hsl ⊢
    subst hgf
    have hrow : (w.alloc (.cells #[.string k, .int .i64 q, .bool false, .string v, .int .i64 t] 45)).heap[w.heap.size]? = some (.cells #[.string k, .int .i64 q, .bool false, .string v, .int .i64 t] 45 (0, 0)) := heap_alloc_new w _
    have hk0 : Below w.heap.size w (w.alloc (.cells #[.string k, .int .i64 q, .bool false, .string v, .int .i64 t] 45)) := (Below.refl _ w).alloc (Nat.le_refl _) _
    have hwr : IntKind.i64.wrap (t + 1) = t + 1 := IntWalk.i64_in _ ⟨by omega, by omega⟩
    go_enter Try.func25, Try.ntmps25
    go_wp2_with fail
    generalize w.alloc (.cells #[.string k, .int .i64 q, .bool false, .string v, .int .i64 t] 45) = w0 at hrow hk0 ⊢
    obtain ⟨x, hx⟩ : ∃ x, w.heap.size = x := ⟨_, rfl⟩
    rw [hx] at hrow hk0 ⊢
    have hlt := (Array.getElem?_eq_some_iff.1 hrow).1
    have HX := Lib.hid hx
    have HR0 := Lib.hid hrow
    have HK0 := Lib.hid hk0
    have HZ0 : Hid (x < w0.heap.size) := Lib.hid hlt
    obtain ⟨e0, e1, e3, e4⟩ : w0.cell? ⟨x, 0, none⟩ = some (.string k) ∧ w0.cell? ⟨x, 1, none⟩ = some (.int .i64 q) ∧ w0.cell? ⟨x, 3, none⟩ = some (.string v) ∧ w0.cell? ⟨x, 4, none⟩ = some (.int .i64 t) := ⟨cell_of_row _ _ _ _ _ _ HR0.out, cell_of_row _ _ _ _ _ _ HR0.out, cell_of_row _ _ _ _ _ _ HR0.out, cell_of_row _ _ _ _ _ _ HR0.out⟩
    clear hrow hk0 hlt hx
    go_region_held3 (fun w' => w'.cell? ⟨x, 0, none⟩ = some (.string k) ∧ w'.cell? ⟨x, 1, none⟩ = some (.int .i64 q) ∧ w'.cell? ⟨x, 3, none⟩ = some (.string v) ∧ w'.cell? ⟨x, 4, none⟩ = some (.int .i64 t))
      (first | exact HS3.out | exact HS2.out | exact HS1.out | go_keep | fail)
      (first
        | (have hk2 := HK2.out; go_at_call 23; refine (HQ.out _).mono ?_; rintro r w3 ⟨rfl, hb⟩
           have HR3 := Lib.hid ((hb.block x (by have := HZ2.out; simp; omega)).trans HR2.out)
           have HZ3 : Hid (x < w3.heap.size) := Lib.hid (Array.getElem?_eq_some_iff.1 HR3.out).1
           have HS3 : Hid (w3.cell? ⟨x, 0, none⟩ = some (.string k) ∧ w3.cell? ⟨x, 1, none⟩ = some (.int .i64 q) ∧ w3.cell? ⟨x, 3, none⟩ = some (.string v) ∧ w3.cell? ⟨x, 4, none⟩ = some (.int .i64 t)) := Lib.hid ⟨cell_of_row _ _ _ _ _ _ HR3.out, cell_of_row _ _ _ _ _ _ HR3.out, cell_of_row _ _ _ _ _ _ HR3.out, cell_of_row _ _ _ _ _ _ HR3.out⟩
           have HK3 : Hid (Below x w w3) := Lib.hid (Below.trans HK2.out (hb.mono (by have := HZ2.out; simp; omega)))
           clear hb hk2)
        | (go_at_call 42; refine (HK.out _).mono ?_; rintro r w2 ⟨rfl, hb⟩
           have HR2 := Lib.hid ((hb.block x (by have := HZ1.out; simp; omega)).trans HR1.out)
           have HZ2 : Hid (x < w2.heap.size) := Lib.hid (Array.getElem?_eq_some_iff.1 HR2.out).1
           have HS2 : Hid (w2.cell? ⟨x, 0, none⟩ = some (.string k) ∧ w2.cell? ⟨x, 1, none⟩ = some (.int .i64 q) ∧ w2.cell? ⟨x, 3, none⟩ = some (.string v) ∧ w2.cell? ⟨x, 4, none⟩ = some (.int .i64 t)) := Lib.hid ⟨cell_of_row _ _ _ _ _ _ HR2.out, cell_of_row _ _ _ _ _ _ HR2.out, cell_of_row _ _ _ _ _ _ HR2.out, cell_of_row _ _ _ _ _ _ HR2.out⟩
           have HK2 : Hid (Below x w w2) := Lib.hid (Below.trans HK1.out (hb.mono (by have := HZ1.out; simp; omega)))
           clear hb)
        | (go_at_call 23; refine (HP.out _).mono ?_; rintro r w1 ⟨rfl, hb⟩
           have HR1 := Lib.hid ((hb.block x (by have := HZ0.out; simp; omega)).trans HR0.out)
           have HZ1 : Hid (x < w1.heap.size) := Lib.hid (Array.getElem?_eq_some_iff.1 HR1.out).1
           have HS1 : Hid (w1.cell? ⟨x, 0, none⟩ = some (.string k) ∧ w1.cell? ⟨x, 1, none⟩ = some (.int .i64 q) ∧ w1.cell? ⟨x, 3, none⟩ = some (.string v) ∧ w1.cell? ⟨x, 4, none⟩ = some (.int .i64 t)) := Lib.hid ⟨cell_of_row _ _ _ _ _ _ HR1.out, cell_of_row _ _ _ _ _ _ HR1.out, cell_of_row _ _ _ _ _ _ HR1.out, cell_of_row _ _ _ _ _ _ HR1.out⟩
           have HK1 : Hid (Below x w w1) := Lib.hid (Below.trans (Below.drew HK0.out) (hb.mono (by have := HZ0.out; simp; omega)))
           clear hb)
        | fail)
    all_goals
      clear HS1 HS2 HS3
      have c2 : w3.cell? ⟨x, 2, none⟩ = some (.bool false) := cell_of_row _ _ _ _ _ _ HR3.out
      obtain ⟨f0, f1, f3, f4⟩ : w3.cell? ⟨x, 0, none⟩ = some (.string k) ∧ w3.cell? ⟨x, 1, none⟩ = some (.int .i64 q) ∧ w3.cell? ⟨x, 3, none⟩ = some (.string v) ∧ w3.cell? ⟨x, 4, none⟩ = some (.int .i64 t) := ⟨cell_of_row _ _ _ _ _ _ HR3.out, cell_of_row _ _ _ _ _ _ HR3.out, cell_of_row _ _ _ _ _ _ HR3.out, cell_of_row _ _ _ _ _ _ HR3.out⟩
      clear e0 e1 e3 e4
      go_wp2_with fail
      go_region_held3 (fun w' => w'.cell? ⟨x, 0, none⟩ = some (.string k) ∧ w'.cell? ⟨x, 1, none⟩ = some (.int .i64 q) ∧ w'.cell? ⟨x, 3, none⟩ = some (.string v) ∧ w'.cell? ⟨x, 4, none⟩ = some (.int .i64 t))
        (first | exact HS5.out | exact HS4.out | go_keep | fail)
        (first
          | (go_at_call 42; refine (HV.out _).mono ?_; rintro r w5 ⟨rfl, hb⟩
             have HR5 := Lib.hid ((hb.block x (by have := HZ4.out; simp; omega)).trans HR4.out)
             have HZ5 : Hid (x < w5.heap.size) := Lib.hid (Array.getElem?_eq_some_iff.1 HR5.out).1
             have HS5 : Hid (w5.cell? ⟨x, 0, none⟩ = some (.string k) ∧ w5.cell? ⟨x, 1, none⟩ = some (.int .i64 q) ∧ w5.cell? ⟨x, 3, none⟩ = some (.string v) ∧ w5.cell? ⟨x, 4, none⟩ = some (.int .i64 t)) := Lib.hid ⟨cell_of_row _ _ _ _ _ _ HR5.out, cell_of_row _ _ _ _ _ _ HR5.out, cell_of_row _ _ _ _ _ _ HR5.out, cell_of_row _ _ _ _ _ _ HR5.out⟩
             have HK5 : Hid (Below x w w5) := Lib.hid (Below.trans HK4.out (hb.mono (by have := HZ4.out; simp; omega)))
             clear hb)
          | (go_at_call 23; refine (HN.out _).mono ?_; rintro r w4 ⟨rfl, hb⟩
             have HR4 := Lib.hid ((hb.block x (by have := HZ3.out; simp; omega)).trans HR3.out)
             have HZ4 : Hid (x < w4.heap.size) := Lib.hid (Array.getElem?_eq_some_iff.1 HR4.out).1
             have HS4 : Hid (w4.cell? ⟨x, 0, none⟩ = some (.string k) ∧ w4.cell? ⟨x, 1, none⟩ = some (.int .i64 q) ∧ w4.cell? ⟨x, 3, none⟩ = some (.string v) ∧ w4.cell? ⟨x, 4, none⟩ = some (.int .i64 t)) := Lib.hid ⟨cell_of_row _ _ _ _ _ _ HR4.out, cell_of_row _ _ _ _ _ _ HR4.out, cell_of_row _ _ _ _ _ _ HR4.out, cell_of_row _ _ _ _ _ _ HR4.out⟩
             have HK4 : Hid (Below x w w4) := Lib.hid (Below.trans (Below.drew HK3.out) (hb.mono (by have := HZ3.out; simp; omega)))
             clear hb)
          | fail)
      all_goals
        clear HS4 HS5
        go_wp2
        go_ret
        exact ⟨by rw [HE.out]; rfl, by rw [HX.out]; exact HK5.out⟩
end Go.Proofs.Ytcmnbfcceeljpaa
