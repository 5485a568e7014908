/- The reference: all. -/
import Derived.Test.YtadokmihabfbjaaRfB
namespace Go.Proofs.Ytadokmihabfbjaa
open Go.RowKit Go.Maps
open DM

theorem rw_len (c : Bs × Int) : ∀ (b : Bool) (l : RN), (rw' c b l).length ≤ l.length + 1
  | true, [] => by simp [rw']
  | false, [] => by simp [rw']
  | true, p :: r => by
    have := rw_len c true r
    rw [rw']; split
    · simp; omega
    · rw [if_neg (by simp)]; simp; omega
  | false, p :: r => by
    have h1 := rw_len c true r
    have h2 := rw_len c false r
    have h3 : (rw' c true r).length ≤ r.length := by
      clear h1 h2
      induction r with
      | nil => simp [rw']
      | cons q t ih =>
        rw [rw']; split
        · simp; omega
        · rw [if_neg (by simp)]; simp; omega
    rw [rw']; split
    · simp; omega
    · split
      · simp; omega
      · simp; omega
theorem rwith_len (l : RN) (c : Bs × Int) : (rwith l c).length ≤ l.length + 1 := rw_len _ _ _
theorem rall_len (l x : RN) : (rall l x).length ≤ l.length + x.length := by
  unfold rall
  induction x generalizing l with
  | nil => simp
  | cons c r ih =>
    have h1 := ih (rwith l c)
    have h2 := rwith_len l c
    simp only [List.foldl_cons, List.length_cons]
    omega
theorem rall_step {l x : RN} {j : Nat} (h : j < x.length) : rall l (x.take (j + 1)) = rwith (rall l (x.take j)) x[j] := by
  unfold rall
  rw [List.take_succ_eq_append_getElem h, List.foldl_append]
  rfl

set_option maxRecDepth 100000 in
set_option maxHeartbeats 1000000 in
theorem rall_any {B : Nat} (v xv : Value) (l x : RN) (w : World) (hv : Prs B w v l) (hx : Prs B w xv x) (_hB : B ≤ w.heap.size) (hl : l.length + x.length ≤ 1099511627776) :
    Calls Try.prog 59 #[v, .agg #[xv]] w fun e w' => ∃ v', e = .returned v' ∧ Prs B w' v' (rall l x) ∧ Below w.heap.size w w' := by
  obtain ⟨A, c, rfl, hz⟩ := hx.slice
  have HZ := Lib.hid hz
  obtain ⟨n, hn⟩ : ∃ n, x.length = n := ⟨_, rfl⟩
  rw [hn] at hl ⊢
  have HN := Lib.hid hn
  have HV := Lib.hid hv
  have HB0 : Hid (Below w.heap.size w (w.alloc (.cells #[.slice A n c] 91)) ∧ (w.alloc (.cells #[.slice A n c] 91)).heap[w.heap.size]? = some (.cells #[.slice A n c] 91 (0, 0)) ∧ (w.alloc (.cells #[.slice A n c] 91)).heap.size = w.heap.size + 1) := ⟨(Below.refl _ w).alloc (Nat.le_refl _) _, heap_alloc_new w _, by simp⟩
  clear hv hx hz hn
  go_enter Try.func59, Try.ntmps59
  go_wp2_with fail
  obtain ⟨W, hW⟩ : ∃ W, w.alloc (.cells #[.slice A n c] 91) = W := ⟨_, rfl⟩
  rw [hW] at HB0 ⊢
  have HST : Hid (Prs B W v (rall l (x.take 0))) := own_below HV.out HB0.out.1
  clear hW
  go_loopw [0, 5] (fun o i wr => ∃ j : Nat, i = .int .i64 j ∧ j ≤ n ∧ Prs B wr o (rall l (x.take j)) ∧ Below (w.heap.size + 1) W wr) (fun _ i _ => n - (intOf i).toNat)
  case atStart => exact ⟨0, rfl, by omega, HST.out, Below.refl _ _⟩
  case round =>
    obtain ⟨j, rfl, hj, hrow, hB'⟩ := hrel
    have HR := Lib.hid hrow
    have HBW := Lib.hid hB'
    have z3 : wr.cell? ⟨w.heap.size, 0, none⟩ = some (.slice A n c) := (hB'.cell (p := ⟨w.heap.size, 0, none⟩) (Nat.lt_succ_self _)).trans (cell_of_row _ _ _ _ _ _ HB0.out.2.1)
    clear hrow hB' HST
    have HSZ : Hid (w.heap.size ≤ wr.heap.size) := by have := HBW.out.size; have := HB0.out.2.2; exact Lib.hid (by omega)
    by_cases hlt : j < n
    · have hjl : j < x.length := by rw [HN.out]; exact hlt
      obtain ⟨b, rfl, hbB, hbw, hc⟩ := HZ.out (by omega)
      obtain ⟨z1, z2⟩ := hc wr ((HBW.out.block b (by omega)).trans (HB0.out.1.block b hbw)) j hjl
      have hst := rall_step (l := l) hjl
      have hlen := rall_len l (x.take j)
      have htk : (x.take j).length ≤ j := List.length_take_le _ _
      obtain ⟨p, hp⟩ : ∃ p, x[j] = p := ⟨_, rfl⟩
      rw [hp] at z1 z2 hst
      obtain ⟨t, ht, htl⟩ : ∃ t : ByteArray, encS p.1 = .string t ∧ t.data.toList = p.1 := ⟨⟨p.1.toArray⟩, rfl, by simp⟩
      rw [ht] at z1
      obtain ⟨L, hL⟩ : ∃ L, rall l (x.take j) = L := ⟨_, rfl⟩
      rw [hL] at HR hst hlen
      have HWI : Hid (Calls Try.prog 70 #[u0, .agg #[.string t, .int .i64 p.2]] wr fun e w' => ∃ v', e = .returned v' ∧ Prs wr.heap.size w' v' (rwith L p) ∧ Below wr.heap.size wr w') := by
        have := with_any u0 L t p.2 wr HR.out (by omega)
        rw [htl] at this
        exact Lib.hid this
      rw [← hst] at HWI
      have g0 : (0 : Int) ≤ (j : Int) := by omega
      have g1 : (j : Int) < (n : Int) := by omega
      clear hc hp hst hlen htk ht htl hL
      go_wp2_with fail
      refine HWI.out.mono ?_
      rintro e w2 ⟨v', rfl, hr2, hB2⟩
      have HR2 : Hid (Prs B w2 v' (rall l (x.take (j + 1)))) := own_less hr2 (by have := HSZ.out; omega)
      have HB2 : Hid (Below (w.heap.size + 1) W w2) := HBW.out.trans (hB2.mono (by have := HBW.out.size; have := HB0.out.2.2; omega))
      clear hr2 hB2 HWI
      go_wp2
      go_roundw
      case rel => exact ⟨j + 1, by go_num, by omega, HR2.out, HB2.out⟩
      case measure => simp [intOf]; omega
    · have HE : Hid (x.take j = x) := Lib.hid (List.take_of_length_le (by rw [HN.out]; omega))
      go_wp2
      go_ret
      exact ⟨_, rfl, by rw [← HE.out]; rw [HE.out]; have := HR.out; rw [HE.out] at this; exact this, HB0.out.1.trans (HBW.out.mono (by omega))⟩
end Go.Proofs.Ytadokmihabfbjaa
