/- Texts joined by bundle.py: Th, Ti, Tj. -/
import Derived.Test.YtnglaolbfpdgoaaGreatZbh
import Derived.Test.YtnglaolbfpdgoaaGreatZaq
import Derived.Test.YtnglaolbfpdgoaaGreatZbi
import Derived.StillTailTactics

/- May, Which, Block of a table. -/
namespace Go.Proofs.YtnglaolbfpdgoaaGreat
open Go.RowKit
open SK
open TB (Bs Sp)

theorem Tab.lt {w : World} {t x : Nat} {s : ByteArray} {ss : List Sp} {fl : ByteArray} (h : Tab w t x s ss fl) : t < w.heap.size := by
  obtain ⟨A, c, h1, -⟩ := h.row
  exact (Array.getElem?_eq_some_iff.1 h1).1

set_option maxRecDepth 100000 in
theorem tmay_any (t x : Nat) (s : ByteArray) (ss : List Sp) (fl key : ByteArray) (w : World) (h : Tab w t x s ss fl) (hf : fl.size ≤ 140737488351232) (hk : key.size ≤ 140737488351232) :
    Calls Tryz.prog 13 #[.pointer (some ⟨t, 0, none⟩), .string key] w fun e w' => e = .returned (.bool (B9.BL.has fl.data.toList key.data.toList)) ∧ Below w.heap.size w w' := by
  obtain ⟨A, c, hrow, -⟩ := h.row
  have c2 : w.cell? ⟨t, 2, none⟩ = some (.string fl) := cell_of_row _ _ _ _ _ _ hrow
  have HH := Lib.hid (fun W => B9.has_any fl key W hf hk)
  clear hrow h
  go_enter Tryz.func13, Tryz.ntmps13
  go_wp2_with fail
  refine (HH.out _).mono ?_
  rintro e w1 ⟨rfl, hb⟩
  go_wp2
  go_ret
  exact ⟨rfl, hb⟩

theorem tmay_nil (key : ByteArray) (w : World) :
    Calls Tryz.prog 13 #[.pointer none, .string key] w fun e w' => e = .returned (.bool false) ∧ Below w.heap.size w w' := by
  go_enter Tryz.func13, Tryz.ntmps13
  go_wp2
  go_ret
  exact ⟨rfl, Below.refl _ _⟩

set_option maxRecDepth 100000 in
set_option maxHeartbeats 1000000 in
/-- the closure: is a block's last key not below? -/
theorem twhich1_any (w : World) (a b t x : Nat) (s : ByteArray) (ss : List Sp) (fl key : ByteArray) (j : Nat) (h : Tab w t x s ss fl) (hj : j < ss.length)
    (ha : w.cell? ⟨a, 0, none⟩ = some (.pointer (some ⟨t, 0, none⟩))) (hb : w.cell? ⟨b, 0, none⟩ = some (.string key)) :
    Calls Tryz.prog 34 #[.int .i64 j, .pointer (some ⟨a, 0, none⟩), .pointer (some ⟨b, 0, none⟩)] w fun e w' => e = .returned (.bool (!TB.lt ss[j].last key)) ∧ Below w.heap.size w w' := by
  obtain ⟨A, c, hrow, hin⟩ := h.row
  obtain ⟨bb, off, rfl, hbl, hc⟩ := hin.at_ (by omega)
  obtain ⟨z0, -, -⟩ := hc j hj
  have c1 : w.cell? ⟨t, 1, none⟩ = some (.slice (some ⟨bb, off, none⟩) ss.length c) := cell_of_row _ _ _ _ _ _ hrow
  obtain ⟨La, hLa⟩ : ∃ La, ss[j].last = La := ⟨_, rfl⟩
  rw [hLa] at z0 ⊢
  obtain ⟨n, hn⟩ : ∃ n, ss.length = n := ⟨_, rfl⟩
  rw [hn] at c1 hj
  have g0 : (0 : Int) ≤ (j : Int) := by omega
  have g1 : (j : Int) < (n : Int) := by omega
  have HL : Hid (TB.lt La key = Op.bytesLess La.toList key.toList) := Lib.hid (by rw [text_less]; rfl)
  rw [HL.out]
  clear hrow hin hc hbl h hLa hn
  go_enter Tryz.func34, Tryz.ntmps34
  go_wp2_with fail
  go_quiet (fail)
  go_wp2
  go_ret
  exact ⟨rfl, below_drewN (Below.refl _ _) _⟩

set_option maxRecDepth 100000 in
set_option maxHeartbeats 1000000 in
theorem twhich_any (t x : Nat) (s : ByteArray) (ss : List Sp) (fl key : ByteArray) (w : World) (h : Tab w t x s ss fl) :
    Calls Tryz.prog 11 #[.pointer (some ⟨t, 0, none⟩), .string key] w fun e w' => e = .returned (.int .i64 (TB.which ss key : Nat)) ∧ Below w.heap.size w w' := by
  have hmf : ∀ (fn : Fn) (first cap : Array Value) (w : World), (Instr.makeFunc fn first cap).run Tryz.prog w = .ok (.func fn first cap) w := fun _ _ _ _ => rfl
  obtain ⟨a, haa⟩ : ∃ a, w.heap.size = a := ⟨_, rfl⟩
  have r0 : ((w.alloc (.cells #[.pointer (some ⟨t, 0, none⟩)] 35)).alloc (.cells #[.string key] 9)).heap[a]? = some (.cells #[.pointer (some ⟨t, 0, none⟩)] 35 (0, 0)) := by rw [← haa]; exact (Below.heap_alloc _ _ _ (by simp)).trans (heap_alloc_new w _)
  have r1 : ((w.alloc (.cells #[.pointer (some ⟨t, 0, none⟩)] 35)).alloc (.cells #[.string key] 9)).heap[a + 1]? = some (.cells #[.string key] 9 (0, 0)) := by rw [← haa]; exact heap_new2 w _ _
  have hB : Below a w ((w.alloc (.cells #[.pointer (some ⟨t, 0, none⟩)] 35)).alloc (.cells #[.string key] 9)) := ((Below.refl _ w).alloc (by omega) _).alloc (by simp; omega) _
  have hT : Tab ((w.alloc (.cells #[.pointer (some ⟨t, 0, none⟩)] 35)).alloc (.cells #[.string key] 9)) t x s ss fl := h.below (by rw [haa]; exact hB)
  have hlen := h.len
  rw [haa]
  have c0 : ((w.alloc (.cells #[.pointer (some ⟨t, 0, none⟩)] 35)).alloc (.cells #[.string key] 9)).cell? ⟨a, 0, none⟩ = some (.pointer (some ⟨t, 0, none⟩)) := cell_of_row _ _ _ _ _ _ r0
  obtain ⟨A, c, hrow, hin⟩ := hT.row
  have c1 : ((w.alloc (.cells #[.pointer (some ⟨t, 0, none⟩)] 35)).alloc (.cells #[.string key] 9)).cell? ⟨t, 1, none⟩ = some (.slice A ss.length c) := cell_of_row _ _ _ _ _ _ hrow
  have HS : Hid (Calls Tryz.prog 33 #[.int .i64 (ss.length : Nat), .func (.func 34) #[] #[.pointer (some ⟨a, 0, none⟩), .pointer (some ⟨a + 1, 0, none⟩)]] ((w.alloc (.cells #[.pointer (some ⟨t, 0, none⟩)] 35)).alloc (.cells #[.string key] 9)) fun e w' => e = .returned (.int .i64 (TB.which ss key : Nat)) ∧ Below a w w') := Lib.hid (by
    refine (search_any ss.length _ (by omega) 34 #[.pointer (some ⟨a, 0, none⟩), .pointer (some ⟨a + 1, 0, none⟩)] (fun m => if hm : m < ss.length then !TB.lt ss[m].last key else false)
      (fun W q => cf_any (fn := Tryz.f34) (by kernel_rfl) (by kernel_rfl) (by kernel_rfl) _ W) ?_).mono ?_
    · intro W hW p hp
      have hc0 := (hW.cell (p := ⟨a, 0, none⟩) (by simp; omega)).trans (cell_of_row _ _ _ _ _ _ r0)
      have hc1 := (hW.cell (p := ⟨a + 1, 0, none⟩) (by simp; omega)).trans (cell_of_row _ _ _ _ _ _ r1)
      have := twhich1_any W a (a + 1) t x s ss fl key p (hT.below hW) hp hc0 hc1
      simp only [hp, dif_pos]
      exact this
    · rintro e w' ⟨i, rfl, hi, h0, h1, hb⟩
      refine ⟨?_, below_seq hB hb (by simp; omega)⟩
      rw [TB.which_search h.srt hi (fun m hm hmi => by have := h0 m hmi; simp only [hm, dif_pos] at this; simpa using this) (fun hl => by have := h1 hl; simp only [hl, dif_pos] at this; simpa using this)])
  clear r0 r1 hB hT h hlen hrow hin
  go_enter Tryz.func11, Tryz.ntmps11
  go_wp2_with fail
  refine HS.out.mono ?_
  rintro e w1 ⟨rfl, hb⟩
  go_wp2
  go_ret
  exact ⟨rfl, hb⟩

theorem twhich_nil (key : ByteArray) (w : World) :
    Calls Tryz.prog 11 #[.pointer none, .string key] w fun e w' => e = .returned (.int .i64 0) ∧ Below w.heap.size w w' := by
  have HB := Lib.hid (((Below.refl _ w).alloc (Nat.le_refl _) (.cells #[.pointer none] 35)).alloc (by simp) (.cells #[.string key] 9))
  go_enter Tryz.func11, Tryz.ntmps11
  go_wp2
  go_ret
  exact ⟨rfl, HB.out⟩
end Go.Proofs.YtnglaolbfpdgoaaGreat

/- Block of a table. -/
namespace Go.Proofs.YtnglaolbfpdgoaaGreat
open Go.RowKit
open SK
open TB (Bs Sp)

/-- what the closure of Block comes to: the body lies in its variable, or a fault leaves it -/
def BlkIn (w : World) (b : Nat) (r : Except Int Bs) (e : Ending) (w' : World) : Prop :=
  w.grownBy w' (some b) ∧ match r with
    | .ok p => e = .returned (.tuple #[]) ∧ w'.heap[b]? = some (.cells #[.string ⟨p.toArray⟩] 9 (0, 0))
    | .error c => e = .panicked (tfault c) ∧ w'.heap[b]? = w.heap[b]?

set_option maxRecDepth 100000 in
set_option maxHeartbeats 4000000 in
theorem tblock1_any (w : World) (a i b t x : Nat) (s : ByteArray) (ss : List Sp) (fl : ByteArray) (j : Nat) (h : Tab w t x s ss fl) (hj : j < ss.length) (hs : s.size ≤ 281474976710656)
    (ha : w.heap[a]? = some (.cells #[.pointer (some ⟨t, 0, none⟩)] 35 (0, 0))) (hi : w.heap[i]? = some (.cells #[.int .i64 (j : Nat)] 3 (0, 0))) (hb : w.heap[b]? = some (.cells #[.string ⟨#[]⟩] 9 (0, 0))) :
    Calls Tryz.prog 39 #[.pointer (some ⟨a, 0, none⟩), .pointer (some ⟨i, 0, none⟩), .pointer (some ⟨b, 0, none⟩)] w fun e w' => BlkIn w b (TB.bodyOf s.data.toList ss[j].at_ ss[j].n) e w' := by
  obtain ⟨A, c, hrow, hin⟩ := h.row
  obtain ⟨bb, off, rfl, hbl, hc⟩ := hin.at_ (by omega)
  obtain ⟨-, z1, z2⟩ := hc j hj
  have hwf := hin.wf ss[j] (List.getElem_mem hj)
  have ca : w.cell? ⟨a, 0, none⟩ = some (.pointer (some ⟨t, 0, none⟩)) := cell_of_row _ _ _ _ _ _ ha
  have ci : w.cell? ⟨i, 0, none⟩ = some (.int .i64 (j : Nat)) := cell_of_row _ _ _ _ _ _ hi
  have c1 : w.cell? ⟨t, 1, none⟩ = some (.slice (some ⟨bb, off, none⟩) ss.length c) := cell_of_row _ _ _ _ _ _ hrow
  have ct : w.cell? ⟨t, 0, none⟩ = some (srcV x) := cell_of_row _ _ _ _ _ _ hrow
  have cx : w.cell? ⟨x, 0, none⟩ = some (.string s) := cell_of_row _ _ _ _ _ _ h.src
  obtain ⟨at_, hat⟩ : ∃ q, ss[j].at_ = q := ⟨_, rfl⟩
  obtain ⟨m, hm⟩ : ∃ q, ss[j].n = q := ⟨_, rfl⟩
  obtain ⟨-, w1, w2⟩ := hwf
  rw [hat] at z1 w1 ⊢
  rw [hm] at z2 w2 ⊢
  obtain ⟨n, hn⟩ : ∃ n, ss.length = n := ⟨_, rfl⟩
  rw [hn] at c1 hj
  have HT := Lib.hid h.lt
  have HXL := Lib.hid (Array.getElem?_eq_some_iff.1 h.src).1
  have HBODY : Hid (∀ W, W.cell? ⟨t, 0, none⟩ = some (srcV x) → W.cell? ⟨x, 0, none⟩ = some (.string s) → Calls Tryz.prog 40 #[.pointer (some ⟨t, 0, none⟩), .int .i64 (at_ : Nat), .int .i64 (m : Nat)] W fun e w' => TextOr W (TB.bodyOf s.data.toList at_ m) e w') := Lib.hid (fun W h1 h2 => tbody_any t x s at_ m W h1 h2 hs (by omega) (by omega) (by omega) (by omega))
  have HB := Lib.hid hb
  have HBL := Lib.hid (Array.getElem?_eq_some_iff.1 hb).1
  have g0 : (0 : Int) ≤ (j : Int) := by omega
  have g1 : (j : Int) < (n : Int) := by omega
  have HCT := Lib.hid ct
  have HCX := Lib.hid cx
  obtain ⟨X, hX⟩ : ∃ X, TB.bodyOf s.data.toList at_ m = X := ⟨_, rfl⟩
  rw [hX] at HBODY ⊢
  clear hX hrow hin hc hbl h hat hm hn ha hi hb hs ct cx
  have HB0 : Hid (∀ W, Below w.heap.size w W → W.cell? ⟨t, 0, none⟩ = some (srcV x) ∧ W.cell? ⟨x, 0, none⟩ = some (.string s)) := Lib.hid fun W hW => ⟨(hW.cell (p := ⟨t, 0, none⟩) HT.out).trans HCT.out, (hW.cell (p := ⟨x, 0, none⟩) HXL.out).trans HCX.out⟩
  have hb0 : Below w.heap.size w (w.drewN 1) := below_drewN (Below.refl _ _) 1
  have HC := Lib.hid (HBODY.out (w.drewN 1) (HB0.out _ hb0).1 (HB0.out _ hb0).2)
  have HB1 := Lib.hid hb0
  clear hb0 HBODY HB0 HCT HCX
  go_enter Tryz.func39, Tryz.ntmps39
  go_wp2_with fail
  go_still_tail 17, (by kernel_rfl)
  go_wp2_with fail
  refine HC.out.mono ?_
  rintro e w2 ⟨hb2, hx⟩
  have HBW2 : Hid (Below w.heap.size w w2) := Lib.hid (below_seq HB1.out hb2 (Nat.le_refl _))
  cases X with
  | error e0 =>
    simp only at hx
    subst hx
    exact ⟨rfl, grown_below HBW2.out, rfl, HBW2.out.block b HBL.out⟩
  | ok p =>
    simp only at hx
    subst hx
    have hrow2 := (HBW2.out.block b HBL.out).trans HB.out
    have cb : w2.cell? ⟨b, 0, none⟩ = some (.string ⟨#[]⟩) := cell_of_row _ _ _ _ _ _ hrow2
    have fb : w2.frozen? ⟨b, 0, none⟩ = false := frozen_of_row _ _ _ _ _ hrow2
    have HRES : Hid (BlkIn w b (.ok p) (.returned (.tuple #[])) (w2.setCell ⟨b, 0, none⟩ (.string ⟨p.toArray⟩))) := Lib.hid ⟨grown_set (grown_below HBW2.out) 0 _, rfl, heap_set_fr hrow2 0 _⟩
    clear hb2 hrow2 HC HB1
    go_wp2
    go_end0
    exact HRES.out

/-- what Block comes to -/
def BlkOut (w : World) (r : Except Int Bs) (e : Ending) (w' : World) : Prop :=
  Below w.heap.size w w' ∧ match r with
    | .ok p => e = .returned (.tuple #[.string ⟨p.toArray⟩, .int .i64 0])
    | .error c => e = .returned (.tuple #[.string ⟨#[]⟩, .int .i64 c])

theorem tblock_nil (i : Int) (w : World) :
    Calls Tryz.prog 16 #[.pointer none, .int .i64 i] w fun e w' => e = .returned (.tuple #[.string ⟨#[]⟩, .int .i64 1]) ∧ Below w.heap.size w w' := by
  have HB := Lib.hid (((Below.refl _ w).alloc (Nat.le_refl _) (.cells #[.pointer none] 35)).alloc (by simp) (.cells #[.int .i64 i] 3))
  go_enter Tryz.func16, Tryz.ntmps16
  go_wp2
  go_ret2
  exact ⟨rfl, HB.out⟩

set_option maxRecDepth 100000 in
set_option maxHeartbeats 4000000 in
theorem tblock_any (t x : Nat) (s : ByteArray) (ss : List Sp) (fl : ByteArray) (i : Int) (w : World) (h : Tab w t x s ss fl) (hs : s.size ≤ 281474976710656) (_ : -9223372036854775808 ≤ i) (_ : i ≤ 9223372036854775807) :
    Calls Tryz.prog 16 #[.pointer (some ⟨t, 0, none⟩), .int .i64 i] w fun e w' => BlkOut w (TB.blk s.data.toList ss i) e w' := by
  have hmf : ∀ (fn : Fn) (first cap : Array Value) (w : World), (Instr.makeFunc fn first cap).run Tryz.prog w = .ok (.func fn first cap) w := fun _ _ _ _ => rfl
  obtain ⟨a, haa⟩ : ∃ a, w.heap.size = a := ⟨_, rfl⟩
  have r0 : ((w.alloc (.cells #[.pointer (some ⟨t, 0, none⟩)] 35)).alloc (.cells #[.int .i64 i] 3)).heap[a]? = some (.cells #[.pointer (some ⟨t, 0, none⟩)] 35 (0, 0)) := by rw [← haa]; exact (Below.heap_alloc _ _ _ (by simp)).trans (heap_alloc_new w _)
  have r1 : ((w.alloc (.cells #[.pointer (some ⟨t, 0, none⟩)] 35)).alloc (.cells #[.int .i64 i] 3)).heap[a + 1]? = some (.cells #[.int .i64 i] 3 (0, 0)) := by rw [← haa]; exact heap_new2 w _ _
  have hB : Below a w ((w.alloc (.cells #[.pointer (some ⟨t, 0, none⟩)] 35)).alloc (.cells #[.int .i64 i] 3)) := ((Below.refl _ w).alloc (by omega) _).alloc (by simp; omega) _
  have hT : Tab ((w.alloc (.cells #[.pointer (some ⟨t, 0, none⟩)] 35)).alloc (.cells #[.int .i64 i] 3)) t x s ss fl := h.below (by rw [haa]; exact hB)
  have hS : ((w.alloc (.cells #[.pointer (some ⟨t, 0, none⟩)] 35)).alloc (.cells #[.int .i64 i] 3)).heap.size = a + 2 := by simp; omega
  have hlen := h.len
  unfold BlkOut
  simp only [haa]
  obtain ⟨A, c, hrow, hin⟩ := hT.row
  have hc0 : ((w.alloc (.cells #[.pointer (some ⟨t, 0, none⟩)] 35)).alloc (.cells #[.int .i64 i] 3)).cell? ⟨a, 0, none⟩ = some (.pointer (some ⟨t, 0, none⟩)) := cell_of_row _ _ _ _ _ _ r0
  have hc1 : ((w.alloc (.cells #[.pointer (some ⟨t, 0, none⟩)] 35)).alloc (.cells #[.int .i64 i] 3)).cell? ⟨a + 1, 0, none⟩ = some (.int .i64 i) := cell_of_row _ _ _ _ _ _ r1
  have hc2 : ((w.alloc (.cells #[.pointer (some ⟨t, 0, none⟩)] 35)).alloc (.cells #[.int .i64 i] 3)).cell? ⟨t, 1, none⟩ = some (.slice A ss.length c) := cell_of_row _ _ _ _ _ _ hrow
  have HT := Lib.hid hT
  have HBB := Lib.hid hB
  have HR0 := Lib.hid r0
  have HR1 := Lib.hid r1
  have HSS := Lib.hid hS
  obtain ⟨n, hn⟩ : ∃ n, ss.length = n := ⟨_, rfl⟩
  rw [hn] at hc2
  have HN := Lib.hid hn
  clear hrow hin hT h hB r0 r1 hn hS
  by_cases hi0 : i < 0
  · have d1 : decide (i < 0) = true := by simpa using hi0
    have HF : Hid (TB.blk s.data.toList ss i = .error 2) := Lib.hid (by unfold TB.blk; rw [dif_pos (Or.inl hi0)])
    rw [HF.out]
    go_enter Tryz.func16, Tryz.ntmps16
    go_wp2_with fail
    generalize (w.alloc (.cells #[.pointer (some ⟨t, 0, none⟩)] 35)).alloc (.cells #[.int .i64 i] 3) = w0 at hc0 hc1 hc2 HBB ⊢
    go_quiet (fail)
    go_wp2
    go_ret2
    exact ⟨below_drewN HBB.out _, rfl⟩
  · have d1 : decide (i < 0) = false := by simpa using hi0
    obtain ⟨j, rfl⟩ := Int.eq_ofNat_of_zero_le (show 0 ≤ i by omega)
    by_cases hj : j < n
    · have d2 : decide ((n : Int) ≤ (j : Int)) = false := by simp; omega
      have d2' : decide (n ≤ j) = false := by simp; omega
      have hjs : j < ss.length := by rw [HN.out]; exact hj
      have HF : Hid (TB.blk s.data.toList ss (j : Nat) = TB.bodyOf s.data.toList ss[j].at_ ss[j].n) := Lib.hid (by unfold TB.blk; rw [dif_neg (by omega)]; rfl)
      rw [HF.out]
      obtain ⟨X, hX⟩ : ∃ X, TB.bodyOf s.data.toList ss[j].at_ ss[j].n = X := ⟨_, rfl⟩
      have HXX := Lib.hid hX
      rw [hX]
      clear hX HF
      go_enter Tryz.func16, Tryz.ntmps16
      go_wp2_with fail
      generalize (w.alloc (.cells #[.pointer (some ⟨t, 0, none⟩)] 35)).alloc (.cells #[.int .i64 (j : Nat)] 3) = w0 at hc0 hc1 hc2 HBB HT HR0 HR1 HSS ⊢
      go_quiet (fail)
      have hss := HSS.out
      go_wp2_with fail
      have r2 : ((w0.drewN nq).alloc (.cells #[.string ⟨#[]⟩] 9)).heap[a + 2]? = some (.cells #[.string ⟨#[]⟩] 9 (0, 0)) := by rw [← hss]; exact heap_alloc_new (w0.drewN nq) _
      have hB2 : Below (a + 2) w0 ((w0.drewN nq).alloc (.cells #[.string ⟨#[]⟩] 9)) := (below_drewN (Below.refl _ w0) nq).alloc (by show a + 2 ≤ w0.heap.size; omega) _
      have hs2 : ((w0.drewN nq).alloc (.cells #[.string ⟨#[]⟩] 9)).heap.size = a + 3 := by simp; omega
      generalize (w0.drewN nq).alloc (.cells #[.string ⟨#[]⟩] 9) = w2 at r2 hB2 hs2 ⊢
      have hal : ∀ k, k < a + 3 → (w2.alloc (.cells #[.int .i64 0] 27)).heap[k]? = w2.heap[k]? := fun k hk => Below.heap_alloc _ _ _ (by omega)
      have hT2 : Tab (w2.alloc (.cells #[.int .i64 0] 27)) t x s ss fl := HT.out.below (by rw [hss]; exact hB2.alloc (by omega) _)
      have HC := tblock1_any (w2.alloc (.cells #[.int .i64 0] 27)) a (a + 1) (a + 2) t x s ss fl j hT2 hjs hs
        ((hal a (by omega)).trans ((hB2.block a (by omega)).trans HR0.out)) ((hal (a + 1) (by omega)).trans ((hB2.block (a + 1) (by omega)).trans HR1.out)) ((hal (a + 2) (by omega)).trans r2)
      rw [HXX.out] at HC
      have hcf : ∀ W, (callFunc 39 #[.pointer (some ⟨a, 0, none⟩), .pointer (some ⟨a + 1, 0, none⟩), .pointer (some ⟨a + 2, 0, none⟩)]).run Tryz.prog W = .ok (.enter 39 #[.pointer (some ⟨a, 0, none⟩), .pointer (some ⟨a + 1, 0, none⟩), .pointer (some ⟨a + 2, 0, none⟩)]) W := fun W => cf_any (fn := Tryz.f39) (by kernel_rfl) (by kernel_rfl) (by kernel_rfl) _ W
      have HBW : Hid (Below a w w2) := Lib.hid (HBB.out.trans ⟨hB2.os, hB2.tape, hB2.output, hB2.size, fun k hk => hB2.block k (by omega)⟩)
      have HS2 := Lib.hid hs2
      have HAL2 : Hid ((w2.alloc (.cells #[.int .i64 0] 27)).heap[a + 2]? = some (.cells #[.string ⟨#[]⟩] 9 (0, 0))) := Lib.hid ((hal (a + 2) (by omega)).trans r2)
      have HHC := Lib.hid HC
      have HCF := Lib.hid hcf
      clear r2 hB2 hal hT2 HC hcf HT HR0 HR1 hc0 hc1 hc2 hss HSS hs2 HBB
      cases X with
      | error c =>
        refine (tcaught_bad w2 39 _ c (fun w' => Below a w w' ∧ w'.heap[a + 2]? = some (.cells #[.string ⟨#[]⟩] 9 (0, 0))) HCF.out (HHC.out.mono ?_)).mono ?_
        · rintro e w' ⟨hg, rfl, hrb⟩
          refine ⟨rfl, noErr_grown hg (by have := HS2.out; omega), ?_, ?_⟩
          · refine below_via (y := w2.heap.size) (w1 := w') ?_ (grownBy_setCell _ _ _) (by have := hg.size; simp at this; have := HS2.out; omega) (by have := HS2.out; omega)
            exact below_via (y := a + 2) (HBW.out.alloc (by have := HS2.out; omega) _) hg (by have := HS2.out; simp; omega) (by omega)
          · exact (Below.heap_setCell _ _ _ _ (by have := HS2.out; simp; omega)).trans (hrb.trans HAL2.out)
        · rintro e w4 ⟨rfl, hB, hr⟩
          have c2 : w4.cell? ⟨a + 2, 0, none⟩ = some (.string ⟨#[]⟩) := cell_of_row _ _ _ _ _ _ hr
          have HB := Lib.hid hB
          clear hB HHC hr
          go_wp2
          go_ret2
          exact ⟨HB.out, rfl⟩
      | ok p =>
        refine (tcaught_ok w2 39 _ (fun w' => Below a w w' ∧ w'.heap[a + 2]? = some (.cells #[.string ⟨p.toArray⟩] 9 (0, 0))) HCF.out (HHC.out.mono ?_)).mono ?_
        · rintro e w' ⟨hg, rfl, hrb⟩
          exact ⟨rfl, noErr_grown hg (by have := HS2.out; omega), below_via (y := a + 2) (HBW.out.alloc (by have := HS2.out; omega) _) hg (by have := HS2.out; simp; omega) (by omega), hrb⟩
        · rintro e w4 ⟨rfl, hB, hr⟩
          have c2 : w4.cell? ⟨a + 2, 0, none⟩ = some (.string ⟨p.toArray⟩) := cell_of_row _ _ _ _ _ _ hr
          have HB := Lib.hid hB
          clear hB HHC hr
          go_wp2
          go_ret2
          exact ⟨HB.out, rfl⟩
    · have d2 : decide ((n : Int) ≤ (j : Int)) = true := by simp; omega
      have d2' : decide (n ≤ j) = true := by simp; omega
      have HF : Hid (TB.blk s.data.toList ss (j : Nat) = .error 2) := Lib.hid (by unfold TB.blk; rw [dif_pos (by have := HN.out; omega)])
      rw [HF.out]
      go_enter Tryz.func16, Tryz.ntmps16
      go_wp2_with fail
      generalize (w.alloc (.cells #[.pointer (some ⟨t, 0, none⟩)] 35)).alloc (.cells #[.int .i64 (j : Nat)] 3) = w0 at hc0 hc1 hc2 HBB ⊢
      go_quiet (fail)
      go_wp2
      go_ret2
      exact ⟨below_drewN HBB.out _, rfl⟩
end Go.Proofs.YtnglaolbfpdgoaaGreat

/- behind, entries of a table. -/
namespace Go.Proofs.YtnglaolbfpdgoaaGreat
open Go.RowKit
open SK
open TB (Bs Sp)

theorem ents_of_row {w : World} {g : Nat} {l : List E} {t : TypeId} (h : w.heap[g]? = some (.cells (ecs l).toArray t (0, 0))) (hw : ∀ e ∈ l, e.wf) : EntsIn w (some ⟨g, 0, none⟩) l :=
  ⟨hw, fun _ => ⟨g, 0, rfl, (Array.getElem?_eq_some_iff.1 h).1, fun j hj => by
    have hcell : ∀ i x, i < 5 → (l[j]).cells[i]? = some x → w.cell? ⟨g, 0 + j * 5 + i, none⟩ = some x := by
      intro i x hi hx
      rw [cell_of_row _ _ _ _ _ _ h, Nat.zero_add, List.getElem?_toArray, ecs_at l j hj i hi]
      exact hx
    exact ⟨hcell 0 _ (by omega) rfl, hcell 1 _ (by omega) rfl, hcell 2 _ (by omega) rfl, hcell 3 _ (by omega) rfl, hcell 4 _ (by omega) rfl⟩⟩⟩

/-- entries that were read: all good -/
def Fine (l : List E) : Prop := ∀ e ∈ l, e.wf ∧ good e = 0 ∧ e.til ≠ 9223372036854775807

theorem ord_two {x y : E} (hx : good x = 0 ∧ x.til ≠ 9223372036854775807) (hy : good y = 0 ∧ y.til ≠ 9223372036854775807) : (BK.ord [x, y]).2 = if less x y = true then 0 else 16 := by
  have h1 : BK.nb [] x = 0 := by unfold BK.nb; simp [hx.1, hx.2]
  have h2 : BK.nb [x] y = if less x y = true then 0 else 16 := by unfold BK.nb; simp [hy.1, hy.2]
  unfold BK.ord
  simp only [BK.ordF, h1, ne_eq, not_true_eq_false, if_false, List.nil_append]
  by_cases hl : less x y = true
  · simp [h2, hl]
  · simp [h2, hl]

set_option maxRecDepth 100000 in
set_option maxHeartbeats 4000000 in
theorem behind_any (A B : Option Addr) (n1 c1 n2 c2 : Nat) (a es : List E) (w : World) (h1 : a.length = n1) (h2 : es.length = n2) (hin1 : EntsIn w A a) (hin2 : EntsIn w B es) (hf1 : Fine a) (hf2 : Fine es) (hne : es ≠ []) (hb : n1 ≤ 4096) (hb2 : n2 ≤ 4096) :
    Calls Tryz.prog 80 #[.slice A n1 c1, .slice B n2 c2] w fun e w' => e = .returned (.bool (TB.fits a es)) ∧ Below w.heap.size w w' := by
  obtain ⟨y, rest, rfl⟩ := List.exists_cons_of_ne_nil hne
  have hy := hf2 y (List.mem_cons_self ..)
  rcases List.eq_nil_or_concat a with rfl | ⟨b, x, rfl⟩
  · have : n1 = 0 := by rw [← h1]; rfl
    subst this
    have HF : Hid (TB.fits [] (y :: rest) = true) := Lib.hid rfl
    rw [HF.out]
    go_enter Tryz.func80, Tryz.ntmps80
    go_wp2
    go_ret
    exact ⟨rfl, Below.refl _ _⟩
  · simp only [List.concat_eq_append] at *
    have hx := hf1 x (by simp)
    obtain ⟨m, hm⟩ : ∃ m, b.length = m := ⟨_, rfl⟩
    have hn1 : n1 = m + 1 := by rw [← h1]; simp [hm]
    obtain ⟨b1, o1, rfl, hl1, hc1⟩ := hin1.at_ (by simp)
    obtain ⟨p0, p1, p2, p3, p4⟩ := hc1 m (by simp; omega)
    have hgx : (b ++ [x])[m]'(by simp; omega) = x := by rw [List.getElem_append_right (by omega)]; simp [hm]
    rw [hgx] at p0 p1 p2 p3 p4
    obtain ⟨b2, o2, rfl, hl2, hc2⟩ := hin2.at_ (by simp)
    obtain ⟨q0, q1, q2, q3, q4⟩ := hc2 0 (by simp)
    simp only [List.getElem_cons_zero, Nat.zero_mul, Nat.add_zero] at q0 q1 q2 q3 q4
    have HF : Hid (TB.fits (b ++ [x]) (y :: rest) = less x y) := Lib.hid (by unfold TB.fits; simp)
    have HO : Hid ((BK.ord [x, y]).2 = if less x y = true then 0 else 16) := Lib.hid (ord_two hx.2 hy.2)
    rw [HF.out]
    obtain ⟨O1, O2, hO⟩ : ∃ O1 O2, BK.ord [x, y] = (O1, O2) := ⟨_, _, rfl⟩
    have HOB : Hid (∀ W, EntsIn W (some ⟨w.heap.size, 0, none⟩) [x, y] → Calls Tryz.prog 20 #[.slice (some ⟨w.heap.size, 0, none⟩) 2 2] W fun r w' => r = .returned (.tuple #[.int .i64 O1, .int .i64 O2]) ∧ Below W.heap.size W w') := Lib.hid fun W hW => by
      have := bord_any (some ⟨w.heap.size, 0, none⟩) 2 2 [x, y] W rfl (by omega) hW (by omega)
      rw [hO] at this
      exact this
    have HO2 : Hid (O2 = if less x y = true then 0 else 16) := Lib.hid (by rw [← HO.out, hO])
    have HWF : Hid (∀ e ∈ [x, y], e.wf) := Lib.hid fun e he => by
      rcases List.mem_cons.1 he with rfl | he
      · exact hx.1
      · simp only [List.mem_singleton] at he; rw [he]; exact hy.1
    obtain ⟨L, hL⟩ : ∃ L, less x y = L := ⟨_, rfl⟩
    rw [hL] at HO2 ⊢
    have hwr : IntKind.i64.wrap ((n1 : Int) - 1) = (m : Int) := by rw [IntWalk.i64_in _ ⟨by omega, by omega⟩]; omega
    have e0 : ((n1 : Int) == 0) = false := beq_eq_false_iff_ne.2 (by omega)
    have g0 : (0 : Int) ≤ (m : Int) := by omega
    have g1 : (m : Int) < (n1 : Int) := by omega
    have g2' : 0 < n2 := by rw [← h2]; simp
    have g2 : (0 : Int) < (n2 : Int) := by omega
    have HROW : Hid (∀ W : World, (W.alloc (.cells (ecs [x, y]).toArray 57)).heap[W.heap.size]? = some (.cells (ecs [x, y]).toArray 57 (0, 0))) := Lib.hid fun W => heap_alloc_new W _
    have HL1 := Lib.hid hl1
    have HL2 := Lib.hid hl2
    clear hc1 hc2 hin1 hin2 hf1 hf2 hne h1 h2 hx hy HF HO hO hL hl1 hl2 hgx hm
    obtain ⟨k1, r1, z1, v1, t1⟩ := x
    obtain ⟨k2, r2, z2, v2, t2⟩ := y
    simp only [ecs, List.flatMap_cons, List.flatMap_nil, E.cells, List.append_nil, List.cons_append, List.nil_append] at HROW
    simp only at p0 p1 p2 p3 p4 q0 q1 q2 q3 q4
    have HKEEP : Hid (∀ W, Below w.heap.size w W → W.cell? ⟨b1, o1 + m * 5, none⟩ = some (.string k1) ∧ W.cell? ⟨b1, o1 + m * 5 + 1, none⟩ = some (.int .i64 r1) ∧ W.cell? ⟨b1, o1 + m * 5 + 2, none⟩ = some (.bool z1) ∧ W.cell? ⟨b1, o1 + m * 5 + 3, none⟩ = some (.string v1) ∧ W.cell? ⟨b1, o1 + m * 5 + 4, none⟩ = some (.int .i64 t1) ∧ W.cell? ⟨b2, o2, none⟩ = some (.string k2) ∧ W.cell? ⟨b2, o2 + 1, none⟩ = some (.int .i64 r2) ∧ W.cell? ⟨b2, o2 + 2, none⟩ = some (.bool z2) ∧ W.cell? ⟨b2, o2 + 3, none⟩ = some (.string v2) ∧ W.cell? ⟨b2, o2 + 4, none⟩ = some (.int .i64 t2)) := Lib.hid (fun W h =>
      ⟨(h.cell (p := ⟨_, _, none⟩) HL1.out).trans p0, (h.cell (p := ⟨_, _, none⟩) HL1.out).trans p1, (h.cell (p := ⟨_, _, none⟩) HL1.out).trans p2, (h.cell (p := ⟨_, _, none⟩) HL1.out).trans p3, (h.cell (p := ⟨_, _, none⟩) HL1.out).trans p4,
        (h.cell (p := ⟨_, _, none⟩) HL2.out).trans q0, (h.cell (p := ⟨_, _, none⟩) HL2.out).trans q1, (h.cell (p := ⟨_, _, none⟩) HL2.out).trans q2, (h.cell (p := ⟨_, _, none⟩) HL2.out).trans q3, (h.cell (p := ⟨_, _, none⟩) HL2.out).trans q4⟩)
    have hn1' := Lib.hid hn1
    clear hn1
    have HB1 : Hid (∀ o, Below w.heap.size w (w.drew.alloc o)) := Lib.hid fun o => (below_drewN (Below.refl _ w) 1).alloc (Nat.le_refl _) o
    have HEI : Hid (EntsIn (w.drew.alloc (.cells #[.string k1, .int .i64 r1, .bool z1, .string v1, .int .i64 t1, .string k2, .int .i64 r2, .bool z2, .string v2, .int .i64 t2] 57)) (some ⟨w.heap.size, 0, none⟩) [⟨k1, r1, z1, v1, t1⟩, ⟨k2, r2, z2, v2, t2⟩]) := Lib.hid (ents_of_row (HROW.out w.drew) HWF.out)
    go_enter Tryz.func80, Tryz.ntmps80
    go_wp2_with fail
    go_region_held3 (fun W => W.cell? ⟨b1, o1 + m * 5, none⟩ = some (.string k1) ∧ W.cell? ⟨b1, o1 + m * 5 + 1, none⟩ = some (.int .i64 r1) ∧ W.cell? ⟨b1, o1 + m * 5 + 2, none⟩ = some (.bool z1) ∧ W.cell? ⟨b1, o1 + m * 5 + 3, none⟩ = some (.string v1) ∧ W.cell? ⟨b1, o1 + m * 5 + 4, none⟩ = some (.int .i64 t1) ∧ W.cell? ⟨b2, o2, none⟩ = some (.string k2) ∧ W.cell? ⟨b2, o2 + 1, none⟩ = some (.int .i64 r2) ∧ W.cell? ⟨b2, o2 + 2, none⟩ = some (.bool z2) ∧ W.cell? ⟨b2, o2 + 3, none⟩ = some (.string v2) ∧ W.cell? ⟨b2, o2 + 4, none⟩ = some (.int .i64 t2))
      (first | exact HS2.out | go_keep | fail)
      (first
        | (go_at_call 20; refine (HOB.out _ HEI.out).mono ?_; rintro r w2 ⟨rfl, hb2⟩
           have HBW2 : Hid (Below w.heap.size w w2) := Lib.hid (below_seq (HB1.out _) hb2 (by simp))
           have HS2 := Lib.hid (HKEEP.out _ HBW2.out)
           clear hb2)
        | fail)
    all_goals
      clear HS2
      cases L with
      | true =>
        have hO2 : O2 = 0 := by rw [HO2.out]; rfl
        subst hO2
        go_wp2
        go_ret
        exact ⟨rfl, HBW2.out⟩
      | false =>
        have hO2 : O2 = 16 := by rw [HO2.out]; rfl
        subst hO2
        go_wp2
        go_ret
        exact ⟨rfl, HBW2.out⟩
end Go.Proofs.YtnglaolbfpdgoaaGreat

