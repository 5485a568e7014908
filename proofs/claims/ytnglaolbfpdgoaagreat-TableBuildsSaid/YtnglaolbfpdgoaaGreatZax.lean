/- Texts joined by bundle.py: Al, Rd, Ri. -/
import Derived.Test.YtnglaolbfpdgoaaGreatZaw
import Derived.Test.YtnglaolbfpdgoaaGreatZaf
import Derived.Test.YtnglaolbfpdgoaaGreatZas

/- What keys share: alike; an entry's bytes. -/
namespace Go.Proofs.YtnglaolbfpdgoaaGreat
open Go.RowKit
open SK

set_option maxRecDepth 100000 in
theorem alike_any (a b : ByteArray) (w : World) (ha : a.size ≤ 140737488355328) (_ : b.size ≤ 140737488355328) :
    Calls Tryz.prog 88 #[.string a, .string b] w fun r w' => r = .returned (.int .i64 (BK.alike a.data.toList b.data.toList)) ∧ Below w.heap.size w w' := by
  have HST : Hid (∀ i (h1 : i < a.size) (h2 : i < b.size), a.data.toList.take i = b.data.toList.take i → a[i] ≠ b[i] → BK.alike a.data.toList b.data.toList = i) := Lib.hid (fun i h1 h2 h hne => BK.alike_stop h (by rw [size_list]; exact h1) (by rw [size_list]; exact h2) hne)
  have HNX : Hid (∀ i (h1 : i < a.size) (h2 : i < b.size), a.data.toList.take i = b.data.toList.take i → a[i] = b[i] → a.data.toList.take (i + 1) = b.data.toList.take (i + 1)) := Lib.hid (fun i h1 h2 h he => BK.alike_next h (by rw [size_list]; exact h1) (by rw [size_list]; exact h2) he)
  have HEN : Hid (∀ i, i ≤ a.size → i ≤ b.size → (i = a.size ∨ i = b.size) → a.data.toList.take i = b.data.toList.take i → BK.alike a.data.toList b.data.toList = i) := Lib.hid (fun i h1 h2 hm h => BK.alike_end h (by rw [size_list]; exact h1) (by rw [size_list]; exact h2) (by rw [size_list, size_list]; exact hm))
  obtain ⟨R, hR⟩ : ∃ R, BK.alike a.data.toList b.data.toList = R := ⟨_, rfl⟩
  rw [hR] at HST HEN ⊢
  obtain ⟨m, hm⟩ : ∃ m, min a.size b.size = m := ⟨_, rfl⟩
  have hmm : min (a.size : Int) (b.size : Int) = (m : Int) := by omega
  have hma : m ≤ a.size := by omega
  have hmb : m ≤ b.size := by omega
  have HME : Hid (m = a.size ∨ m = b.size) := Lib.hid (by omega)
  clear hR hm
  go_enter Tryz.func88, Tryz.ntmps88
  go_wp2
  go_loopw [13] (fun i wr => ∃ j : Nat, j ≤ m ∧ i = .int .i64 j ∧ a.data.toList.take j = b.data.toList.take j ∧ Below w.heap.size w wr) (fun i _ => m - (intOf i).toNat)
  case atStart => exact ⟨0, by omega, rfl, by simp, Below.refl _ _⟩
  case round =>
    obtain ⟨j, hj, rfl, hup, hbel⟩ := hrel
    have HUP := Lib.hid hup
    have HBEL := Lib.hid hbel
    clear hup hbel
    by_cases hlt : j < m
    · have ja : j < a.size := by omega
      have jb : j < b.size := by omega
      have g0 : (0 : Int) ≤ (j : Int) := by omega
      have g1 : (j : Int) < (a.size : Int) := by omega
      have g2 : (j : Int) < (b.size : Int) := by omega
      by_cases he : a[j] = b[j]
      · have heq : ((a[j].toNat : Int) == (b[j].toNat : Int)) = true := by rw [he]; exact beq_self_eq_true _
        have HN := Lib.hid (HNX.out j ja jb HUP.out he)
        clear he
        go_wp2_with fail
        go_quiet (fail)
        go_wp2
        go_roundw
        case rel => exact ⟨j + 1, by omega, by go_num, HN.out, below_drewN HBEL.out _⟩
        case measure => simp [intOf]; omega
      · have heq : ((a[j].toNat : Int) == (b[j].toNat : Int)) = false := beq_eq_false_iff_ne.2 (fun h => he (UInt8.toNat_inj.1 (by omega)))
        have HR : Hid (R = j) := Lib.hid (HST.out j ja jb HUP.out he)
        clear he
        go_wp2_with fail
        go_quiet (fail)
        go_wp2
        go_ret
        exact ⟨by rw [HR.out]; rfl, below_drewN HBEL.out _⟩
    · have hjm : j = m := by omega
      have HR : Hid (R = j) := Lib.hid (HEN.out j (by omega) (by omega) (by rw [hjm]; exact HME.out) HUP.out)
      subst hjm
      go_wp2
      go_ret
      exact ⟨by rw [HR.out]; rfl, HBEL.out⟩

theorem str_tail (W : World) (s : ByteArray) (a : Nat) (h : a ≤ s.size) :
    (Instr.slice 9 (.string s) (some (.int .i64 (a : Int))) none none).run Tryz.prog W = .ok (.string (s.extract a s.size)) W := by
  have i1 : (0 : Int) ≤ (a : Int) := by omega
  have i4 : (a : Int) ≤ (s.size : Int) := by omega
  simp [Instr.slice, run_underlying Tryz.underlying9, Instr.sliceBounds, run_sliceBound, i1, i4]

theorem mk_size (l : List UInt8) : (⟨l.toArray⟩ : ByteArray).size = l.length := by show l.toArray.size = _; rw [List.size_toArray]

set_option maxRecDepth 100000 in
set_option maxHeartbeats 1000000 in
/-- an entry's bytes -/
theorem bytesOf_any (a : E) (n : Nat) (w : World) (hw : a.wf) (hg : good a = 0) (ht : a.til ≠ 9223372036854775807) (hn : n ≤ a.key.size) :
    Calls Tryz.prog 89 #[a.val, .int .i64 n] w fun e w' => e = .returned (.string ⟨(BK.entB a n).toArray⟩) ∧ Below w.heap.size w w' := by
  obtain ⟨h1, h2, h3, h4, h5⟩ := good_zero hg
  have hti := hw.til
  have hsq := hw.seq
  have hks := BK.tail_size a.key n
  have lk := BK.textB_len (a.key.extract n a.key.size) (by omega)
  have lv := BK.textB_len a.value (by omega)
  have hsl := fun W => str_tail W a.key n hn
  have HP := Lib.hid (fun W => put_any (n : Int) W (by omega) (by omega))
  have HQ := Lib.hid (fun W => put_any a.seq W (by omega) (by omega))
  have HK := Lib.hid (fun W => putText_any (a.key.extract n a.key.size) W (by omega))
  have HV := Lib.hid (fun W => putText_any a.value W (by omega))
  simp only [BK.textEnc_eq] at HK HV
  have lp := (VM.enc_len (n := (n : Int)) (by omega) (by omega)).2
  have lq := (VM.enc_len (n := a.seq) (by omega) (by omega)).2
  obtain ⟨TK, hTK⟩ : ∃ TK : ByteArray, TK = ⟨(BK.textB (a.key.extract n a.key.size)).toArray⟩ := ⟨_, rfl⟩
  obtain ⟨TV, hTV⟩ : ∃ TV : ByteArray, TV = ⟨(BK.textB a.value).toArray⟩ := ⟨_, rfl⟩
  obtain ⟨TP, hTP⟩ : ∃ TP : ByteArray, TP = ⟨(VM.enc (n : Int)).toArray⟩ := ⟨_, rfl⟩
  obtain ⟨TQ, hTQ⟩ : ∃ TQ : ByteArray, TQ = ⟨(VM.enc a.seq).toArray⟩ := ⟨_, rfl⟩
  have sk : TK.size ≤ 74 := by rw [hTK, mk_size]; omega
  have sv : TV.size ≤ 522 := by rw [hTV, mk_size]; omega
  have sp : TP.size ≤ 10 := by rw [hTP, mk_size]; omega
  have sq : TQ.size ≤ 10 := by rw [hTQ, mk_size]; omega
  rw [← hTK] at HK
  rw [← hTV] at HV
  rw [← hTP] at HP
  rw [← hTQ] at HQ
  obtain ⟨KT, hKT⟩ : ∃ KT, a.key.extract n a.key.size = KT := ⟨_, rfl⟩
  rw [hKT] at HK
  simp only [hKT] at hsl
  have k1 : ¬ 9223372036854775807 < TP.size + TK.size := by omega
  have k2 : ¬ 9223372036854775807 < TP.size + TK.size + TQ.size := by omega
  have hnn : (0 : Int) ≤ (n : Int) := by omega
  by_cases hgo : a.gone = true
  · have hgf := hgo
    have HN := Lib.hid (fun W => put_any 0 W (by omega) (by omega))
    have hn0 := (VM.enc_len (n := 0) (by omega) (by omega)).2
    obtain ⟨N, hN⟩ : ∃ N : ByteArray, N = ⟨(VM.enc 0).toArray⟩ := ⟨_, rfl⟩
    have HE : Hid ((TP ++ TK ++ TQ ++ N : ByteArray) = ⟨(BK.entB a n).toArray⟩) := Lib.hid (by
      apply ByteArray.ext
      apply Array.toList_inj.1
      rw [hTK, hTP, hTQ, hN]
      simp [BK.entB, hgo])
    have sn : N.size ≤ 10 := by rw [hN, mk_size]; omega
    have k3 : ¬ 9223372036854775807 < TP.size + TK.size + TQ.size + N.size := by omega
    rw [← hN] at HN
    clear hgo
    obtain ⟨R, hR⟩ : ∃ R : ByteArray, ⟨(BK.entB a n).toArray⟩ = R := ⟨_, rfl⟩
    rw [hR] at HE ⊢
    have htl : a.til + 1 ≤ 9223372036854775807 := by omega
    clear hR hN hTK hTV hTP hTQ lk lv lp lq hw hg ht h1 h2 h3 h4 hsq hn0 hks hKT hn
    obtain ⟨k, q, g, v, t⟩ := a
    simp only [E.val] at HK HV HN HE HQ hgf htl h5 hti hsl ⊢
    subst hgf
    have hrow : (w.alloc (.cells #[.string k, .int .i64 q, .bool true, .string v, .int .i64 t] 57)).heap[w.heap.size]? = some (.cells #[.string k, .int .i64 q, .bool true, .string v, .int .i64 t] 57 (0, 0)) := heap_alloc_new w _
    have hk0 : Below w.heap.size w (w.alloc (.cells #[.string k, .int .i64 q, .bool true, .string v, .int .i64 t] 57)) := (Below.refl _ w).alloc (Nat.le_refl _) _
    go_enter Tryz.func89, Tryz.ntmps89
    go_wp2_with fail
    generalize w.alloc (.cells #[.string k, .int .i64 q, .bool true, .string v, .int .i64 t] 57) = w0 at hrow hk0 ⊢
    obtain ⟨x, hx⟩ : ∃ x, w.heap.size = x := ⟨_, rfl⟩
    rw [hx] at hrow hk0 ⊢
    have hlt := (Array.getElem?_eq_some_iff.1 hrow).1
    have HX := Lib.hid hx
    have HR0 := Lib.hid hrow
    have HK0 := Lib.hid hk0
    have HZ0 : Hid (x < w0.heap.size) := Lib.hid hlt
    obtain ⟨e0, e1, e3, e4⟩ : w0.cell? ⟨x, 0, none⟩ = some (.string k) ∧ w0.cell? ⟨x, 1, none⟩ = some (.int .i64 q) ∧ w0.cell? ⟨x, 3, none⟩ = some (.string v) ∧ w0.cell? ⟨x, 4, none⟩ = some (.int .i64 t) := ⟨cell_of_row _ _ _ _ _ _ HR0.out, cell_of_row _ _ _ _ _ _ HR0.out, cell_of_row _ _ _ _ _ _ HR0.out, cell_of_row _ _ _ _ _ _ HR0.out⟩
    clear hrow hk0 hlt hx
    go_region_held3 (fun w' => w'.cell? ⟨x, 0, none⟩ = some (.string k) ∧ w'.cell? ⟨x, 1, none⟩ = some (.int .i64 q) ∧ w'.cell? ⟨x, 3, none⟩ = some (.string v) ∧ w'.cell? ⟨x, 4, none⟩ = some (.int .i64 t))
      (first | exact HS3.out | exact HS2.out | exact HS1.out | go_keep | fail)
      (first
        | (have hk2 := HK2.out; go_at_call 87; refine (HQ.out _).mono ?_; rintro r w3 ⟨rfl, hb⟩
           have HR3 := Lib.hid ((hb.block x (by have := HZ2.out; simp; omega)).trans HR2.out)
           have HZ3 : Hid (x < w3.heap.size) := Lib.hid (Array.getElem?_eq_some_iff.1 HR3.out).1
           have HS3 : Hid (w3.cell? ⟨x, 0, none⟩ = some (.string k) ∧ w3.cell? ⟨x, 1, none⟩ = some (.int .i64 q) ∧ w3.cell? ⟨x, 3, none⟩ = some (.string v) ∧ w3.cell? ⟨x, 4, none⟩ = some (.int .i64 t)) := Lib.hid ⟨cell_of_row _ _ _ _ _ _ HR3.out, cell_of_row _ _ _ _ _ _ HR3.out, cell_of_row _ _ _ _ _ _ HR3.out, cell_of_row _ _ _ _ _ _ HR3.out⟩
           have HK3 : Hid (Below x w w3) := Lib.hid (Below.trans HK2.out (hb.mono (by have := HZ2.out; simp; omega)))
           clear hb hk2)
        | (go_at_call 90; refine (HK.out _).mono ?_; rintro r w2 ⟨rfl, hb⟩
           have HR2 := Lib.hid ((hb.block x (by have := HZ1.out; simp; omega)).trans HR1.out)
           have HZ2 : Hid (x < w2.heap.size) := Lib.hid (Array.getElem?_eq_some_iff.1 HR2.out).1
           have HS2 : Hid (w2.cell? ⟨x, 0, none⟩ = some (.string k) ∧ w2.cell? ⟨x, 1, none⟩ = some (.int .i64 q) ∧ w2.cell? ⟨x, 3, none⟩ = some (.string v) ∧ w2.cell? ⟨x, 4, none⟩ = some (.int .i64 t)) := Lib.hid ⟨cell_of_row _ _ _ _ _ _ HR2.out, cell_of_row _ _ _ _ _ _ HR2.out, cell_of_row _ _ _ _ _ _ HR2.out, cell_of_row _ _ _ _ _ _ HR2.out⟩
           have HK2 : Hid (Below x w w2) := Lib.hid (Below.trans HK1.out (hb.mono (by have := HZ1.out; simp; omega)))
           clear hb)
        | (go_at_call 87; refine (HP.out _).mono ?_; rintro r w1 ⟨rfl, hb⟩
           have HR1 := Lib.hid ((hb.block x (by have := HZ0.out; simp; omega)).trans HR0.out)
           have HZ1 : Hid (x < w1.heap.size) := Lib.hid (Array.getElem?_eq_some_iff.1 HR1.out).1
           have HS1 : Hid (w1.cell? ⟨x, 0, none⟩ = some (.string k) ∧ w1.cell? ⟨x, 1, none⟩ = some (.int .i64 q) ∧ w1.cell? ⟨x, 3, none⟩ = some (.string v) ∧ w1.cell? ⟨x, 4, none⟩ = some (.int .i64 t)) := Lib.hid ⟨cell_of_row _ _ _ _ _ _ HR1.out, cell_of_row _ _ _ _ _ _ HR1.out, cell_of_row _ _ _ _ _ _ HR1.out, cell_of_row _ _ _ _ _ _ HR1.out⟩
           have HK1 : Hid (Below x w w1) := Lib.hid (Below.trans (Below.drew HK0.out) (hb.mono (by have := HZ0.out; simp; omega)))
           clear hb)
        | fail)
    all_goals
      clear HS1 HS2 HS3
      have c2 : w3.cell? ⟨x, 2, none⟩ = some (.bool true) := cell_of_row _ _ _ _ _ _ HR3.out
      go_wp2_with fail
      refine (HN.out _).mono ?_
      rintro r w4 ⟨rfl, hb⟩
      have HK4 : Hid (Below x w w4) := Lib.hid (HK3.out.trans (hb.mono (by have := HZ3.out; omega)))
      clear hb
      go_wp2
      go_ret
      exact ⟨by rw [HE.out]; rfl, by rw [HX.out]; exact HK4.out⟩
  · have hgf : a.gone = false := by simpa using hgo
    have HN := Lib.hid (fun W => put_any (a.til + 1) W (by omega) (by omega))
    have hn0 := (VM.enc_len (n := a.til + 1) (by omega) (by omega)).2
    obtain ⟨N, hN⟩ : ∃ N : ByteArray, N = ⟨(VM.enc (a.til + 1)).toArray⟩ := ⟨_, rfl⟩
    have HE : Hid ((TP ++ TK ++ TQ ++ N ++ TV : ByteArray) = ⟨(BK.entB a n).toArray⟩) := Lib.hid (by
      apply ByteArray.ext
      apply Array.toList_inj.1
      rw [hTK, hTP, hTQ, hN, hTV]
      simp [BK.entB, hgf])
    have sn : N.size ≤ 10 := by rw [hN, mk_size]; omega
    have k3 : ¬ 9223372036854775807 < TP.size + TK.size + TQ.size + N.size := by omega
    have k4 : ¬ 9223372036854775807 < TP.size + TK.size + TQ.size + N.size + TV.size := by omega
    rw [← hN] at HN
    clear hgo
    obtain ⟨R, hR⟩ : ∃ R : ByteArray, ⟨(BK.entB a n).toArray⟩ = R := ⟨_, rfl⟩
    rw [hR] at HE ⊢
    have htl : a.til + 1 ≤ 9223372036854775807 := by omega
    clear hR hN hTK hTV hTP hTQ lk lv lp lq hw hg ht h1 h2 h3 h4 hsq hn0 hks hKT hn
    obtain ⟨k, q, g, v, t⟩ := a
    simp only [E.val] at HK HV HN HE HQ hgf htl h5 hti hsl ⊢
    subst hgf
    have hrow : (w.alloc (.cells #[.string k, .int .i64 q, .bool false, .string v, .int .i64 t] 57)).heap[w.heap.size]? = some (.cells #[.string k, .int .i64 q, .bool false, .string v, .int .i64 t] 57 (0, 0)) := heap_alloc_new w _
    have hk0 : Below w.heap.size w (w.alloc (.cells #[.string k, .int .i64 q, .bool false, .string v, .int .i64 t] 57)) := (Below.refl _ w).alloc (Nat.le_refl _) _
    have hwr : IntKind.i64.wrap (t + 1) = t + 1 := IntWalk.i64_in _ ⟨by omega, by omega⟩
    go_enter Tryz.func89, Tryz.ntmps89
    go_wp2_with fail
    generalize w.alloc (.cells #[.string k, .int .i64 q, .bool false, .string v, .int .i64 t] 57) = w0 at hrow hk0 ⊢
    obtain ⟨x, hx⟩ : ∃ x, w.heap.size = x := ⟨_, rfl⟩
    rw [hx] at hrow hk0 ⊢
    have hlt := (Array.getElem?_eq_some_iff.1 hrow).1
    have HX := Lib.hid hx
    have HR0 := Lib.hid hrow
    have HK0 := Lib.hid hk0
    have HZ0 : Hid (x < w0.heap.size) := Lib.hid hlt
    obtain ⟨e0, e1, e3, e4⟩ : w0.cell? ⟨x, 0, none⟩ = some (.string k) ∧ w0.cell? ⟨x, 1, none⟩ = some (.int .i64 q) ∧ w0.cell? ⟨x, 3, none⟩ = some (.string v) ∧ w0.cell? ⟨x, 4, none⟩ = some (.int .i64 t) := ⟨cell_of_row _ _ _ _ _ _ HR0.out, cell_of_row _ _ _ _ _ _ HR0.out, cell_of_row _ _ _ _ _ _ HR0.out, cell_of_row _ _ _ _ _ _ HR0.out⟩
    clear hrow hk0 hlt hx
    go_region_held3 (fun w' => w'.cell? ⟨x, 0, none⟩ = some (.string k) ∧ w'.cell? ⟨x, 1, none⟩ = some (.int .i64 q) ∧ w'.cell? ⟨x, 3, none⟩ = some (.string v) ∧ w'.cell? ⟨x, 4, none⟩ = some (.int .i64 t))
      (first | exact HS3.out | exact HS2.out | exact HS1.out | go_keep | fail)
      (first
        | (have hk2 := HK2.out; go_at_call 87; refine (HQ.out _).mono ?_; rintro r w3 ⟨rfl, hb⟩
           have HR3 := Lib.hid ((hb.block x (by have := HZ2.out; simp; omega)).trans HR2.out)
           have HZ3 : Hid (x < w3.heap.size) := Lib.hid (Array.getElem?_eq_some_iff.1 HR3.out).1
           have HS3 : Hid (w3.cell? ⟨x, 0, none⟩ = some (.string k) ∧ w3.cell? ⟨x, 1, none⟩ = some (.int .i64 q) ∧ w3.cell? ⟨x, 3, none⟩ = some (.string v) ∧ w3.cell? ⟨x, 4, none⟩ = some (.int .i64 t)) := Lib.hid ⟨cell_of_row _ _ _ _ _ _ HR3.out, cell_of_row _ _ _ _ _ _ HR3.out, cell_of_row _ _ _ _ _ _ HR3.out, cell_of_row _ _ _ _ _ _ HR3.out⟩
           have HK3 : Hid (Below x w w3) := Lib.hid (Below.trans HK2.out (hb.mono (by have := HZ2.out; simp; omega)))
           clear hb hk2)
        | (go_at_call 90; refine (HK.out _).mono ?_; rintro r w2 ⟨rfl, hb⟩
           have HR2 := Lib.hid ((hb.block x (by have := HZ1.out; simp; omega)).trans HR1.out)
           have HZ2 : Hid (x < w2.heap.size) := Lib.hid (Array.getElem?_eq_some_iff.1 HR2.out).1
           have HS2 : Hid (w2.cell? ⟨x, 0, none⟩ = some (.string k) ∧ w2.cell? ⟨x, 1, none⟩ = some (.int .i64 q) ∧ w2.cell? ⟨x, 3, none⟩ = some (.string v) ∧ w2.cell? ⟨x, 4, none⟩ = some (.int .i64 t)) := Lib.hid ⟨cell_of_row _ _ _ _ _ _ HR2.out, cell_of_row _ _ _ _ _ _ HR2.out, cell_of_row _ _ _ _ _ _ HR2.out, cell_of_row _ _ _ _ _ _ HR2.out⟩
           have HK2 : Hid (Below x w w2) := Lib.hid (Below.trans HK1.out (hb.mono (by have := HZ1.out; simp; omega)))
           clear hb)
        | (go_at_call 87; refine (HP.out _).mono ?_; rintro r w1 ⟨rfl, hb⟩
           have HR1 := Lib.hid ((hb.block x (by have := HZ0.out; simp; omega)).trans HR0.out)
           have HZ1 : Hid (x < w1.heap.size) := Lib.hid (Array.getElem?_eq_some_iff.1 HR1.out).1
           have HS1 : Hid (w1.cell? ⟨x, 0, none⟩ = some (.string k) ∧ w1.cell? ⟨x, 1, none⟩ = some (.int .i64 q) ∧ w1.cell? ⟨x, 3, none⟩ = some (.string v) ∧ w1.cell? ⟨x, 4, none⟩ = some (.int .i64 t)) := Lib.hid ⟨cell_of_row _ _ _ _ _ _ HR1.out, cell_of_row _ _ _ _ _ _ HR1.out, cell_of_row _ _ _ _ _ _ HR1.out, cell_of_row _ _ _ _ _ _ HR1.out⟩
           have HK1 : Hid (Below x w w1) := Lib.hid (Below.trans (Below.drew HK0.out) (hb.mono (by have := HZ0.out; simp; omega)))
           clear hb)
        | fail)
    all_goals
      clear HS1 HS2 HS3
      have c2 : w3.cell? ⟨x, 2, none⟩ = some (.bool false) := cell_of_row _ _ _ _ _ _ HR3.out
      obtain ⟨f0, f1, f3, f4⟩ : w3.cell? ⟨x, 0, none⟩ = some (.string k) ∧ w3.cell? ⟨x, 1, none⟩ = some (.int .i64 q) ∧ w3.cell? ⟨x, 3, none⟩ = some (.string v) ∧ w3.cell? ⟨x, 4, none⟩ = some (.int .i64 t) := ⟨cell_of_row _ _ _ _ _ _ HR3.out, cell_of_row _ _ _ _ _ _ HR3.out, cell_of_row _ _ _ _ _ _ HR3.out, cell_of_row _ _ _ _ _ _ HR3.out⟩
      clear e0 e1 e3 e4
      go_wp2_with fail
      go_region_held3 (fun w' => w'.cell? ⟨x, 0, none⟩ = some (.string k) ∧ w'.cell? ⟨x, 1, none⟩ = some (.int .i64 q) ∧ w'.cell? ⟨x, 3, none⟩ = some (.string v) ∧ w'.cell? ⟨x, 4, none⟩ = some (.int .i64 t))
        (first | exact HS5.out | exact HS4.out | go_keep | fail)
        (first
          | (go_at_call 90; refine (HV.out _).mono ?_; rintro r w5 ⟨rfl, hb⟩
             have HR5 := Lib.hid ((hb.block x (by have := HZ4.out; simp; omega)).trans HR4.out)
             have HZ5 : Hid (x < w5.heap.size) := Lib.hid (Array.getElem?_eq_some_iff.1 HR5.out).1
             have HS5 : Hid (w5.cell? ⟨x, 0, none⟩ = some (.string k) ∧ w5.cell? ⟨x, 1, none⟩ = some (.int .i64 q) ∧ w5.cell? ⟨x, 3, none⟩ = some (.string v) ∧ w5.cell? ⟨x, 4, none⟩ = some (.int .i64 t)) := Lib.hid ⟨cell_of_row _ _ _ _ _ _ HR5.out, cell_of_row _ _ _ _ _ _ HR5.out, cell_of_row _ _ _ _ _ _ HR5.out, cell_of_row _ _ _ _ _ _ HR5.out⟩
             have HK5 : Hid (Below x w w5) := Lib.hid (Below.trans HK4.out (hb.mono (by have := HZ4.out; simp; omega)))
             clear hb)
          | (go_at_call 87; refine (HN.out _).mono ?_; rintro r w4 ⟨rfl, hb⟩
             have HR4 := Lib.hid ((hb.block x (by have := HZ3.out; simp; omega)).trans HR3.out)
             have HZ4 : Hid (x < w4.heap.size) := Lib.hid (Array.getElem?_eq_some_iff.1 HR4.out).1
             have HS4 : Hid (w4.cell? ⟨x, 0, none⟩ = some (.string k) ∧ w4.cell? ⟨x, 1, none⟩ = some (.int .i64 q) ∧ w4.cell? ⟨x, 3, none⟩ = some (.string v) ∧ w4.cell? ⟨x, 4, none⟩ = some (.int .i64 t)) := Lib.hid ⟨cell_of_row _ _ _ _ _ _ HR4.out, cell_of_row _ _ _ _ _ _ HR4.out, cell_of_row _ _ _ _ _ _ HR4.out, cell_of_row _ _ _ _ _ _ HR4.out⟩
             have HK4 : Hid (Below x w w4) := Lib.hid (Below.trans (Below.drew HK3.out) (hb.mono (by have := HZ3.out; simp; omega)))
             clear hb)
          | fail)
      all_goals
        clear HS4 HS5
        go_wp2
        go_ret
        exact ⟨by rw [HE.out]; rfl, by rw [HX.out]; exact HK5.out⟩
end Go.Proofs.YtnglaolbfpdgoaaGreat

/- Reading: leave, number, text: what is read, or the fault by which reading is left. -/
namespace Go.Proofs.YtnglaolbfpdgoaaGreat
open Go.RowKit
open SK

/-- the panic by which reading is left -/
def fault (c : Int) : List PanicEntry := [{ v := .iface 168 (.int .i64 c), recovered := false }]

theorem leave_ok (w : World) : Calls Tryz.prog 119 #[.int .i64 0] w fun e w' => e = .returned (.tuple #[]) ∧ w = w' := by
  go_enter Tryz.func119, Tryz.ntmps119
  go_wp2
  go_end0
  exact ⟨rfl, rfl⟩

theorem leave_bad (c : Int) (w : World) (hc : c ≠ 0) : Calls Tryz.prog 119 #[.int .i64 c] w fun e w' => e = .panicked (fault c) ∧ w = w' := by
  have h1 : (c == 0) = false := by simpa using hc
  have h2 : (c != 0) = true := by simpa using hc
  go_enter Tryz.func119, Tryz.ntmps119
  go_wp2
  exact ⟨rfl, rfl, rfl⟩

/-- the reader in block r: its bytes, and its place -/
def RdAt (w : World) (r : Nat) (s : ByteArray) (p : Nat) : Prop := w.heap[r]? = some (.cells #[.string s, .int .i64 p] 164 (0, 0))

theorem RdAt.below {w w' : World} {r p : Nat} {s : ByteArray} (h : RdAt w r s p) (hb : Below w.heap.size w w') : RdAt w' r s p := (hb.block r (Array.getElem?_eq_some_iff.1 h).1).trans h
theorem RdAt.lt {w : World} {r p : Nat} {s : ByteArray} (h : RdAt w r s p) : r < w.heap.size := (Array.getElem?_eq_some_iff.1 h).1
theorem RdAt.c0 {w : World} {r p : Nat} {s : ByteArray} (h : RdAt w r s p) : w.cell? ⟨r, 0, none⟩ = some (.string s) := cell_of_row _ _ _ _ _ _ h
theorem RdAt.c1 {w : World} {r p : Nat} {s : ByteArray} (h : RdAt w r s p) : w.cell? ⟨r, 1, none⟩ = some (.int .i64 p) := cell_of_row _ _ _ _ _ _ h
theorem RdAt.f1 {w : World} {r p : Nat} {s : ByteArray} (h : RdAt w r s p) : w.frozen? ⟨r, 1, none⟩ = false := frozen_of_row _ _ _ _ _ h
theorem RdAt.set {w : World} {r p : Nat} {s : ByteArray} (h : RdAt w r s p) (q : Nat) : RdAt (w.setCell ⟨r, 1, none⟩ (.int .i64 q)) r s q := heap_set_fr h 1 (.int .i64 q)

/-- what a reader's call comes to: a value and the place behind it, or a fault -/
def Out {α : Type} (enc : α → Value) (r : Nat) (s : ByteArray) (w : World) (x : Except Int (α × Nat)) (e : Ending) (w' : World) : Prop :=
  w.grownBy w' (some r) ∧ match x with
    | .ok (a, q) => e = .returned (enc a) ∧ RdAt w' r s q
    | .error c => e = .panicked (fault c)

def numV (n : Int) : Value := .int .i64 n
def textV (t : ByteArray) : Value := .string t

theorem num_bad {l : List UInt8} {p : Nat} {c : Int} (h : BK.rNum l p = .error c) : (VM.vget l p).2.2 = c ∧ c ≠ 0 := by
  unfold BK.rNum at h
  split at h
  · cases h
  · rename_i h0
    simp only [Except.error.injEq] at h
    exact ⟨h, by rw [← h]; exact h0⟩
theorem num_good {l : List UInt8} {p q : Nat} {n : Int} (h : BK.rNum l p = .ok (n, q)) : VM.vget l p = (n, (q : Int), 0) := by
  have hle := BK.num_ok h
  unfold BK.rNum at h
  split at h
  · rename_i h0
    obtain ⟨-, hp, k, -, -, -, hb, -⟩ := VM.vget_ok h0
    simp only [Except.ok.injEq, Prod.mk.injEq] at h
    obtain ⟨h1, h2⟩ := h
    refine Prod.ext h1 (Prod.ext ?_ h0)
    show (VM.vget l p).2.1 = (q : Int)
    omega
  · cases h
theorem text_bad {l : List UInt8} {p : Nat} {c : Int} (h : BK.rText l p = .error c) : (vtext l p).2.2 = c ∧ c ≠ 0 := by
  unfold BK.rText at h
  split at h
  · cases h
  · rename_i h0
    simp only [Except.error.injEq] at h
    exact ⟨h, by rw [← h]; exact h0⟩
theorem text_good {l : List UInt8} {p q : Nat} {t : ByteArray} (h : BK.rText l p = .ok (t, q)) : vtext l p = (t.data.toList, (q : Int), 0) := by
  have hle := BK.text_ok h
  have hnn : 0 ≤ (vtext l p).2.1 ∨ (vtext l p).2.2 ≠ 0 := by
    unfold vtext
    by_cases h0 : (VM.vget l p).2.2 = 0
    · obtain ⟨-, hp, k, -, -, -, hb, -⟩ := VM.vget_ok h0
      simp only [h0, ne_eq, not_true_eq_false, if_false]
      split
      · right; decide
      · split
        · right; decide
        · split
          · right; decide
          · left; show 0 ≤ (VM.vget l p).2.1 + (VM.vget l p).1; omega
    · right; simp [h0]
  unfold BK.rText at h
  split at h
  · rename_i h0
    simp only [Except.ok.injEq, Prod.mk.injEq] at h
    obtain ⟨h1, h2⟩ := h
    refine Prod.ext ?_ (Prod.ext ?_ h0)
    · rw [← h1]
    · show (vtext l p).2.1 = (q : Int)
      rcases hnn with hnn | hnn
      · omega
      · exact absurd h0 hnn
  · cases h

theorem grown_r {w w' : World} {r : Nat} (h : w.grownBy w' none) : w.grownBy w' (some r) := ⟨h.os, h.tape, h.output, h.size, fun k hk _ => h.block k hk (by simp)⟩
theorem grown_same (w : World) (r : Option Nat) : w.grownBy w r := grown_refl w r

set_option maxRecDepth 100000 in
theorem number_any (w : World) (r p : Nat) (s : ByteArray) (h : RdAt w r s p) (hs : s.size ≤ 281474976710656) (hp : p ≤ s.size) :
    Calls Tryz.prog 120 #[.pointer (some ⟨r, 0, none⟩)] w fun e w' => Out numV r s w (BK.rNum s.data.toList p) e w' := by
  have HG0 := Lib.hid (fun W => get_any s (p : Int) W (by omega) (by omega) (by omega))
  cases hx : BK.rNum s.data.toList p with
  | ok x =>
    obtain ⟨n, q⟩ := x
    have hv := num_good hx
    have HG : Hid (∀ W, Calls Tryz.prog 102 #[.string s, .int .i64 p] W fun e w' => e = .returned (.tuple #[.int .i64 n, .int .i64 q, .int .i64 0]) ∧ w' = W) := Lib.hid (fun W => (HG0.out W).mono fun e w' h => ⟨by have := h.1; unfold GetOut at this; rw [hv] at this; exact this, h.2.symm⟩)
    have c0 := h.c0
    have c1 := h.c1
    have f1 := h.f1
    have HR : Hid (∀ m, RdAt ((w.drewN m).setCell ⟨r, 1, none⟩ (.int .i64 q)) r s q) := Lib.hid (fun m => RdAt.set (w := w.drewN m) (p := p) h q)
    clear hx h hv HG0
    go_enter Tryz.func120, Tryz.ntmps120
    go_wp2_with fail
    go_quiet ((go_at_call 102; exact Calls.quiet_of_same (HG.out _)))
    go_wp2_with fail
    refine (leave_ok _).mono ?_
    rintro e w1 ⟨rfl, rfl⟩
    go_wp2
    go_ret
    exact ⟨grown_set (grown_drewN (grown_refl w _) _) _ _, rfl, HR.out _⟩
  | error c =>
    obtain ⟨hv, hc⟩ := num_bad hx
    obtain ⟨n, q, hv'⟩ : ∃ n q, VM.vget s.data.toList p = (n, q, c) := ⟨_, _, by rw [← hv]⟩
    have HG : Hid (∀ W, Calls Tryz.prog 102 #[.string s, .int .i64 p] W fun e w' => e = .returned (.tuple #[.int .i64 n, .int .i64 q, .int .i64 c]) ∧ w' = W) := Lib.hid (fun W => (HG0.out W).mono fun e w' h => ⟨by have := h.1; unfold GetOut at this; rw [hv'] at this; exact this, h.2.symm⟩)
    have c0 := h.c0
    have c1 := h.c1
    clear hx h hv hv' HG0
    go_enter Tryz.func120, Tryz.ntmps120
    go_wp2_with fail
    go_quiet ((go_at_call 102; exact Calls.quiet_of_same (HG.out _)))
    go_wp2_with fail
    refine (leave_bad c _ hc).mono ?_
    rintro e w1 ⟨rfl, rfl⟩
    exact ⟨rfl, grown_drewN (grown_refl w _) _, rfl⟩

set_option maxRecDepth 100000 in
set_option maxHeartbeats 1000000 in
theorem text_any (w : World) (r p : Nat) (s : ByteArray) (h : RdAt w r s p) (hs : s.size ≤ 281474976710656) (hp : p ≤ s.size) :
    Calls Tryz.prog 122 #[.pointer (some ⟨r, 0, none⟩)] w fun e w' => Out textV r s w (BK.rText s.data.toList p) e w' := by
  have HG0 := Lib.hid (fun W => getText_any s (p : Int) W (by omega) (by omega) (by omega))
  have HLT : Hid (r < w.heap.size) := Lib.hid h.lt
  cases hx : BK.rText s.data.toList p with
  | ok x =>
    obtain ⟨t, q⟩ := x
    have hv := text_good hx
    have HG : Hid (∀ W, Calls Tryz.prog 104 #[.string s, .int .i64 p] W fun e w' => e = .returned (.tuple #[.string t, .int .i64 q, .int .i64 0]) ∧ Below W.heap.size W w') := Lib.hid (fun W => (HG0.out W).mono fun e w' h => ⟨by have h1 := h.1; unfold TextOut at h1; rw [hv, str_mk] at h1; exact h1, h.2⟩)
    have c0 := h.c0
    have c1 := h.c1
    have HR := Lib.hid h
    clear hx h hv HG0
    go_enter Tryz.func122, Tryz.ntmps122
    go_wp2_with fail
    go_region_held3 (fun w' => w'.cell? ⟨r, 0, none⟩ = some (.string s) ∧ w'.cell? ⟨r, 1, none⟩ = some (.int .i64 p))
      (first | go_keep | exact HS1.out | fail)
      (first
        | (go_at_call 104; refine (HG.out _).mono ?_; rintro e w1 ⟨rfl, hb⟩
           have HG1 : Hid (w.grownBy w1 none) := Lib.hid (grown_trans (grown_drewN (grown_refl w _) 1) (grown_below hb))
           have HR1 : Hid (RdAt w1 r s p) := Lib.hid ((HG1.out.block r HLT.out (by simp)).trans HR.out)
           have HS1 : Hid (w1.cell? ⟨r, 0, none⟩ = some (.string s) ∧ w1.cell? ⟨r, 1, none⟩ = some (.int .i64 p)) := Lib.hid ⟨HR1.out.c0, HR1.out.c1⟩
           clear hb)
        | fail)
    all_goals
      clear HS1
      have f1 := HR1.out.f1
      have HR2 := Lib.hid (HR1.out.set q)
      go_wp2_with fail
      refine (leave_ok _).mono ?_
      rintro e w2 ⟨rfl, rfl⟩
      go_wp2
      go_ret
      exact ⟨grown_set (grown_r HG1.out) _ _, rfl, HR2.out⟩
  | error c =>
    obtain ⟨hv, hc⟩ := text_bad hx
    obtain ⟨n, q, hv'⟩ : ∃ n q, vtext s.data.toList p = (n, q, c) := ⟨_, _, by rw [← hv]⟩
    have HG : Hid (∀ W, Calls Tryz.prog 104 #[.string s, .int .i64 p] W fun e w' => e = .returned (.tuple #[.string ⟨n.toArray⟩, .int .i64 q, .int .i64 c]) ∧ Below W.heap.size W w') := Lib.hid (fun W => (HG0.out W).mono fun e w' h => ⟨by have h1 := h.1; unfold TextOut at h1; rw [hv'] at h1; exact h1, h.2⟩)
    have c0 := h.c0
    have c1 := h.c1
    have HR := Lib.hid h
    clear hx h hv hv' HG0
    go_enter Tryz.func122, Tryz.ntmps122
    go_wp2_with fail
    go_region_held3 (fun w' => w'.cell? ⟨r, 0, none⟩ = some (.string s) ∧ w'.cell? ⟨r, 1, none⟩ = some (.int .i64 p))
      (first | go_keep | exact HS1.out | fail)
      (first
        | (go_at_call 104; refine (HG.out _).mono ?_; rintro e w1 ⟨rfl, hb⟩
           have HG1 : Hid (w.grownBy w1 none) := Lib.hid (grown_trans (grown_drewN (grown_refl w _) 1) (grown_below hb))
           have HR1 : Hid (RdAt w1 r s p) := Lib.hid ((HG1.out.block r HLT.out (by simp)).trans HR.out)
           have HS1 : Hid (w1.cell? ⟨r, 0, none⟩ = some (.string s) ∧ w1.cell? ⟨r, 1, none⟩ = some (.int .i64 p)) := Lib.hid ⟨HR1.out.c0, HR1.out.c1⟩
           clear hb)
        | fail)
    all_goals
      clear HS1
      go_wp2_with fail
      refine (leave_bad c _ hc).mono ?_
      rintro e w2 ⟨rfl, rfl⟩
      exact ⟨rfl, grown_r HG1.out, rfl⟩
end Go.Proofs.YtnglaolbfpdgoaaGreat

/- Reading: count. -/
namespace Go.Proofs.YtnglaolbfpdgoaaGreat
open Go.RowKit
open SK

namespace BK
/-- how many entries there are said to be -/
def rCount (l : List UInt8) (p : Nat) : Except Int (Int × Nat) :=
  match rNum l p with
  | .error c => .error c
  | .ok (n, q) => if 4096 < n then .error 5 else if n < 0 then .error 4 else .ok (n, q)
theorem get_count (l : List UInt8) : getOut l = match rCount l 0 with
    | .error c => .error c
    | .ok (n, p) => rEnd l (rEnts l n.toNat p []) := by
  unfold getOut rCount
  cases rNum l 0 with
  | error c => rfl
  | ok x =>
    obtain ⟨n, p⟩ := x
    simp only
    split
    · rfl
    · split
      · rfl
      · rfl
theorem count_ok {l : List UInt8} {p q : Nat} {n : Int} (h : rCount l p = .ok (n, q)) : 0 ≤ n ∧ n ≤ 4096 ∧ q ≤ l.length := by
  unfold rCount at h
  cases hn : rNum l p with
  | error c => rw [hn] at h; cases h
  | ok x =>
    obtain ⟨m, b⟩ := x
    rw [hn] at h
    simp only at h
    split at h
    · cases h
    · split at h
      · cases h
      · simp only [Except.ok.injEq, Prod.mk.injEq] at h
        obtain ⟨rfl, rfl⟩ := h
        exact ⟨by omega, by omega, num_le hn⟩
end BK

theorem Out.after {α : Type} {enc : α → Value} {r : Nat} {s : ByteArray} {w w1 w' : World} {x : Except Int (α × Nat)} {e : Ending} (h : Out enc r s w1 x e w') (hg : w.grownBy w1 (some r)) : Out enc r s w x e w' :=
  ⟨grown_trans hg h.1, h.2⟩

set_option maxRecDepth 100000 in
theorem count_any (w : World) (r p : Nat) (s : ByteArray) (h : RdAt w r s p) (hs : s.size ≤ 281474976710656) (hp : p ≤ s.size) :
    Calls Tryz.prog 117 #[.pointer (some ⟨r, 0, none⟩)] w fun e w' => Out numV r s w (BK.rCount s.data.toList p) e w' := by
  have HN := Lib.hid (number_any w r p s h hs hp)
  unfold BK.rCount
  cases hx : BK.rNum s.data.toList p with
  | error c =>
    rw [hx] at HN
    go_enter Tryz.func117, Tryz.ntmps117
    go_wp2_with fail
    refine HN.out.mono ?_
    rintro e w1 ⟨hg, rfl⟩
    exact ⟨rfl, hg, rfl⟩
  | ok x =>
    obtain ⟨n, q⟩ := x
    rw [hx] at HN
    clear hx
    simp only
    by_cases h1 : 4096 < n
    · rw [if_pos h1]
      go_enter Tryz.func117, Tryz.ntmps117
      go_wp2_with fail
      refine HN.out.mono ?_
      rintro e w1 ⟨hg, rfl, hr⟩
      simp only [numV]
      go_wp2_with fail
      refine (leave_bad 5 _ (by decide)).mono ?_
      rintro e w2 ⟨rfl, rfl⟩
      exact ⟨rfl, hg, rfl⟩
    · rw [if_neg h1]
      by_cases h2 : n < 0
      · rw [if_pos h2]
        go_enter Tryz.func117, Tryz.ntmps117
        go_wp2_with fail
        refine HN.out.mono ?_
        rintro e w1 ⟨hg, rfl, hr⟩
        simp only [numV]
        go_wp2_with fail
        refine (leave_bad 4 _ (by decide)).mono ?_
        rintro e w2 ⟨rfl, rfl⟩
        exact ⟨rfl, hg, rfl⟩
      · rw [if_neg h2]
        go_enter Tryz.func117, Tryz.ntmps117
        go_wp2_with fail
        refine HN.out.mono ?_
        rintro e w1 ⟨hg, rfl, hr⟩
        have HG := Lib.hid hg
        have HR := Lib.hid hr
        clear hg hr
        simp only [numV]
        go_wp2
        go_ret
        exact ⟨HG.out, rfl, HR.out⟩


theorem grown_alloc (w : World) (o : Obj) (r : Option Nat) : w.grownBy (w.alloc o) r :=
  ⟨rfl, rfl, rfl, by simp, fun k hk _ => Below.heap_alloc w o k hk⟩
theorem RdAt.grown {w w' : World} {r p : Nat} {s : ByteArray} (h : RdAt w r s p) (hg : w.grownBy w' none) : RdAt w' r s p := (hg.block r h.lt (by simp)).trans h
theorem grown_new {a b : World} {r : Option Nat} (h : a.grownBy b r) (x j : Nat) (u : Value) (hx : a.heap.size ≤ x) : a.grownBy (b.setCell ⟨x, j, none⟩ u) r :=
  ⟨h.os, h.tape, h.output, Nat.le_trans h.size (by simp [World.setCell]), fun k hk hr => (Below.heap_setCell _ _ _ _ (by intro e; subst e; exact absurd hk (by simp; omega))).trans (h.block k hk hr)⟩
theorem EntsIn.grown {w w' : World} {A : Option Addr} {a : List E} {r : Nat} (h : EntsIn w A a) (hg : w.grownBy w' (some r)) (hr : ∀ x ∈ fb A, x ≠ r) : EntsIn w' A a :=
  ⟨h.wf, fun hn => by
    obtain ⟨b, off, hA, hlt, hc⟩ := h.at_ hn
    have hbr : b ≠ r := hr b (by rw [hA]; simp [fb])
    have hblk := hg.block b hlt (by simpa using hbr)
    have hcell : ∀ o, w'.cell? ⟨b, o, none⟩ = w.cell? ⟨b, o, none⟩ := fun o => by simp only [World.cell?, hblk]
    refine ⟨b, off, hA, Nat.lt_of_lt_of_le hlt hg.size, fun j hj => ?_⟩
    obtain ⟨c0, c1, c2, c3, c4⟩ := hc j hj
    exact ⟨(hcell _).trans c0, (hcell _).trans c1, (hcell _).trans c2, (hcell _).trans c3, (hcell _).trans c4⟩⟩
end Go.Proofs.YtnglaolbfpdgoaaGreat

