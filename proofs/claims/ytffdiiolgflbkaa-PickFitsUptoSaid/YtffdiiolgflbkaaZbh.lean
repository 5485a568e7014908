/- Texts joined by bundle.py: Lp. -/
import Derived.Test.YtffdiiolgflbkaaZbf
import Derived.Test.YtffdiiolgflbkaaZbd
import Derived.Test.YtffdiiolgflbkaaZas
import Derived.Test.YtffdiiolgflbkaaZax
import Derived.Test.YtffdiiolgflbkaaZbg
import Derived.Deep.RegionHeld3

/- VersionOver: the walk. Made by gen_lp.py. -/
namespace Go.Proofs.Ytffdiiolgflbkaa
open Go.RowKit Go.Maps
open VS
attribute [local go_sem ↓] Go.wp_at_zero Go.wp_at_succ

namespace VS
theorem over_lvl {z : Int} {lo hi : ByteArray} {l : List M} {m : M} (h : m ∈ over z lo hi l) : m.lvl = z ∧ m ∈ l := lev_mem (List.mem_filter.1 h).1
theorem over_len (z : Int) (lo hi : ByteArray) (l : List M) : (over z lo hi l).length ≤ l.length := Nat.le_trans (List.length_filter_le _ _) (lev_len z l)
theorem count_take {l : List M} {j : Nat} (h : j < l.length) (y : Int) : (files (l.take (j + 1))).count y = (files (l.take j)).count y + if (l[j].file == y) = true then 1 else 0 := by
  rw [List.take_succ_eq_append_getElem h, files_append, List.count_append]
  congr 1
  show List.count y [l[j].file] = _
  rw [List.count_singleton]
theorem count_one : ∀ {l : List Int} {y : Int}, l.Nodup → y ∈ l → l.count y = 1
  | a :: l, y, hn, h => by
    obtain ⟨h1, h2⟩ := List.nodup_cons.1 hn
    rw [List.count_cons]
    by_cases ha : a = y
    · subst ha
      rw [List.count_eq_zero_of_not_mem h1]
      simp
    · rcases List.mem_cons.1 h with e | h
      · exact absurd e.symm ha
      · rw [count_one h2 h]
        simp [ha]
theorem count_le (l : List Int) (y : Int) : l.count y ≤ l.length := List.count_le_length
theorem strict_of {l : List Int} (hs : l.Pairwise (fun a b => a ≤ b)) (hn : l.Nodup) {i : Nat} (h : i + 1 < l.length) : l[i] < l[i + 1] := by
  have h1 := List.pairwise_iff_getElem.1 hs i (i + 1) (by omega) h (Nat.lt_succ_self i)
  have h2 := List.pairwise_iff_getElem.1 hn i (i + 1) (by omega) h (Nat.lt_succ_self i)
  omega
end VS

/-- the program's Over, of any level -/
theorem pover_any (A : Nat → Option Addr) (N C : Nat → Nat) (L : List M) (lg nx sq z : Int) (lo hi : ByteArray) (w : World) (h : VerIn w A N C L) (hL : L.length ≤ 10000000) (hf : ∀ m ∈ L, 0 ≤ m.lvl ∧ m.lvl < 4) :
    Calls Try.prog 20 #[.agg #[.slice (A 0) (N 0) (C 0), .slice (A 1) (N 1) (C 1), .slice (A 2) (N 2) (C 2), .slice (A 3) (N 3) (C 3), .int .i64 lg, .int .i64 nx, .int .i64 sq], .int .i64 z, .string lo, .string hi] w fun r w' => ∃ v, r = .returned v ∧ w'.ownsRow w.heap.size 64 4 v (over z lo hi L).length (cs4 (over z lo hi L)) ∧ Below w.heap.size w w' := by
  by_cases hz : 0 ≤ z ∧ z < 4
  · obtain ⟨k, rfl⟩ : ∃ k : Nat, z = k := ⟨z.toNat, by omega⟩
    exact pover_in A N C L lg nx sq k lo hi w h (by omega) hL
  · refine (pover_out _ _ _ _ lg nx sq z lo hi w hz).mono ?_
    rintro r w' ⟨rfl, hb⟩
    rw [over_out hz lo hi hf]
    exact ⟨_, rfl, World.ownsRow_nil _ _ _ _, hb⟩

namespace lawOver
set_option maxRecDepth 100000 in
set_option maxHeartbeats 4000000 in
theorem walk (A0 : Option Addr) (n0 c0 : Nat) (l0 : List EX) (lv : Int) (s0 s1 : ByteArray) (w : World) (hl : l0.length = n0) (hin : EdsIn w A0 l0) (hc : n0 ≤ c0) (hs : (l0.map fun x => x.e.wt).sum ≤ 1048576) :
    Calls Try.prog 6 #[.slice A0 n0 c0, .int .i64 lv, .agg #[.string s0, .string s1]] w fun r w' => r = .returned (.bool true) ∧ Below w.heap.size w w' := by
  have HAF := Lib.hid (after_any A0 n0 c0 l0 (w.alloc (.cells #[.string s0, .string s1] 59)) hl (hin.below ((Below.refl _ w).alloc (Nat.le_refl _) _)) hc hs)
  have HWK := Lib.hid wakes_any
  have HS0 := Lib.hid (heap_alloc_new w (.cells #[.string s0, .string s1] 59))
  have HS1 : Hid ((w.alloc (.cells #[.string s0, .string s1] 59)).heap.size = w.heap.size + 1) := Lib.hid (by simp)
  have HS2 := Lib.hid ((Below.refl w.heap.size w).alloc (Nat.le_refl _) (.cells #[.string s0, .string s1] 59))
  clear hl hin hc hs
  go_enter Try.func6, Try.ntmps6
  go_wp2_with fail
  refine HAF.out.mono ?_
  rintro r w1 ⟨⟨A, N, C, A5, n5, c5, ⟨L, lg, nx, sq⟩, rfl, hv, h5, hn, hn6, hok, -⟩, hb1⟩
  simp only at hv hn h5
  generalize w.alloc (.cells #[.string s0, .string s1] 59) = w0 at HAF HS0 HS1 HS2 hb1
  have HV := Lib.hid hv
  have H5 := Lib.hid h5
  have HN := Lib.hid (And.intro hn hn6)
  have HOK := Lib.hid hok
  have HB1 := Lib.hid hb1
  have HFI : Hid (∀ m ∈ L, 0 ≤ m.lvl ∧ m.lvl < 4) := Lib.hid fun m hm => ⟨(fine_num (hok.fine m hm)).1, (fine_num (hok.fine m hm)).2.1⟩
  have HUQ : Hid (files L).Nodup := Lib.hid hok.uniq
  have HWF : Hid (∀ m ∈ L, m.wf) := Lib.hid h5.wf
  have HF4 : Hid (front L 4 = L) := Lib.hid (by rw [front_four]; exact hok.levs)
  clear hv hn hn6 hok hb1 h5 HAF HOK
  go_upto_region 3 with fail
  have hb2 : Below w1.heap.size w1 (((w1.alloc (.cells #[.slice (A 0) (N 0) (C 0), .slice (A 1) (N 1) (C 1), .slice (A 2) (N 2) (C 2), .slice (A 3) (N 3) (C 3), .int .i64 lg, .int .i64 nx, .int .i64 sq] 26)).alloc (.cells #[.slice A5 n5 c5, .int .i64 lg, .int .i64 nx, .int .i64 sq] 29)).alloc (.cells #[.int .i64 lv, .int .i64 0, .int .i64 1, .int .i64 2, .int .i64 3] 3)) := (((Below.refl _ w1).alloc (Nat.le_refl _) _).alloc (by simp) _).alloc (by simp <;> omega) _
  have hr0 : (((w1.alloc (.cells #[.slice (A 0) (N 0) (C 0), .slice (A 1) (N 1) (C 1), .slice (A 2) (N 2) (C 2), .slice (A 3) (N 3) (C 3), .int .i64 lg, .int .i64 nx, .int .i64 sq] 26)).alloc (.cells #[.slice A5 n5 c5, .int .i64 lg, .int .i64 nx, .int .i64 sq] 29)).alloc (.cells #[.int .i64 lv, .int .i64 0, .int .i64 1, .int .i64 2, .int .i64 3] 3)).heap[w1.heap.size]? = some (.cells #[.slice (A 0) (N 0) (C 0), .slice (A 1) (N 1) (C 1), .slice (A 2) (N 2) (C 2), .slice (A 3) (N 3) (C 3), .int .i64 lg, .int .i64 nx, .int .i64 sq] 26 (0, 0)) := by
    rw [Below.heap_alloc _ _ _ (by simp <;> omega), Below.heap_alloc _ _ _ (by simp <;> omega)]
    exact heap_alloc_new w1 _
  have hr1 : (((w1.alloc (.cells #[.slice (A 0) (N 0) (C 0), .slice (A 1) (N 1) (C 1), .slice (A 2) (N 2) (C 2), .slice (A 3) (N 3) (C 3), .int .i64 lg, .int .i64 nx, .int .i64 sq] 26)).alloc (.cells #[.slice A5 n5 c5, .int .i64 lg, .int .i64 nx, .int .i64 sq] 29)).alloc (.cells #[.int .i64 lv, .int .i64 0, .int .i64 1, .int .i64 2, .int .i64 3] 3)).heap[w1.heap.size + 1]? = some (.cells #[.slice A5 n5 c5, .int .i64 lg, .int .i64 nx, .int .i64 sq] 29 (0, 0)) := by
    rw [Below.heap_alloc _ _ _ (by simp <;> omega)]
    have := heap_alloc_new (w1.alloc (.cells #[.slice (A 0) (N 0) (C 0), .slice (A 1) (N 1) (C 1), .slice (A 2) (N 2) (C 2), .slice (A 3) (N 3) (C 3), .int .i64 lg, .int .i64 nx, .int .i64 sq] 26)) (.cells #[.slice A5 n5 c5, .int .i64 lg, .int .i64 nx, .int .i64 sq] 29)
    simpa using this
  have hr2 : (((w1.alloc (.cells #[.slice (A 0) (N 0) (C 0), .slice (A 1) (N 1) (C 1), .slice (A 2) (N 2) (C 2), .slice (A 3) (N 3) (C 3), .int .i64 lg, .int .i64 nx, .int .i64 sq] 26)).alloc (.cells #[.slice A5 n5 c5, .int .i64 lg, .int .i64 nx, .int .i64 sq] 29)).alloc (.cells #[.int .i64 lv, .int .i64 0, .int .i64 1, .int .i64 2, .int .i64 3] 3)).heap[w1.heap.size + 2]? = some (.cells #[.int .i64 lv, .int .i64 0, .int .i64 1, .int .i64 2, .int .i64 3] 3 (0, 0)) := by
    have := heap_alloc_new ((w1.alloc (.cells #[.slice (A 0) (N 0) (C 0), .slice (A 1) (N 1) (C 1), .slice (A 2) (N 2) (C 2), .slice (A 3) (N 3) (C 3), .int .i64 lg, .int .i64 nx, .int .i64 sq] 26)).alloc (.cells #[.slice A5 n5 c5, .int .i64 lg, .int .i64 nx, .int .i64 sq] 29)) (.cells #[.int .i64 lv, .int .i64 0, .int .i64 1, .int .i64 2, .int .i64 3] 3)
    simpa using this
  have hsz : (((w1.alloc (.cells #[.slice (A 0) (N 0) (C 0), .slice (A 1) (N 1) (C 1), .slice (A 2) (N 2) (C 2), .slice (A 3) (N 3) (C 3), .int .i64 lg, .int .i64 nx, .int .i64 sq] 26)).alloc (.cells #[.slice A5 n5 c5, .int .i64 lg, .int .i64 nx, .int .i64 sq] 29)).alloc (.cells #[.int .i64 lv, .int .i64 0, .int .i64 1, .int .i64 2, .int .i64 3] 3)).heap.size = w1.heap.size + 3 := by simp
  generalize ((w1.alloc (.cells #[.slice (A 0) (N 0) (C 0), .slice (A 1) (N 1) (C 1), .slice (A 2) (N 2) (C 2), .slice (A 3) (N 3) (C 3), .int .i64 lg, .int .i64 nx, .int .i64 sq] 26)).alloc (.cells #[.slice A5 n5 c5, .int .i64 lg, .int .i64 nx, .int .i64 sq] 29)).alloc (.cells #[.int .i64 lv, .int .i64 0, .int .i64 1, .int .i64 2, .int .i64 3] 3) = w2 at hb2 hr0 hr1 hr2 hsz ⊢
  obtain ⟨p, hp⟩ : ∃ p, w1.heap.size = p := ⟨_, rfl⟩
  obtain ⟨x, hx⟩ : ∃ x, w.heap.size = x := ⟨_, rfl⟩
  have HXX : Hid (w.heap.size = x) := Lib.hid hx
  have HXP : Hid (x < p) := Lib.hid (by have := HB1.out.size; have := HS1.out; omega)
  have hrs : w2.heap[x]? = some (.cells #[.string s0, .string s1] 59 (0, 0)) := by
    have h0 := HS0.out
    rw [hx] at h0
    have hxl : x < w0.heap.size := by have := HS1.out; omega
    exact (hb2.block x (by have := HXP.out; omega)).trans ((HB1.out.block x hxl).trans h0)
  have HV2 := Lib.hid (HV.out.below hb2)
  have H52 := Lib.hid (H5.out.below hb2)
  have HB2 : Hid (Below w.heap.size w w2) := Lib.hid (HS2.out.trans ((HB1.out.trans (hb2.mono HB1.out.size)).mono (by have := HS1.out; omega)))
  rw [hp] at hr0 hr1 hr2 hsz ⊢
  rw [hx]
  try rw [show p + 1 + 1 = p + 2 by omega]
  obtain ⟨S0, hS0⟩ : ∃ S0, Value.slice (A 0) (N 0) (C 0) = S0 := ⟨_, rfl⟩
  obtain ⟨S1, hS1⟩ : ∃ S1, Value.slice (A 1) (N 1) (C 1) = S1 := ⟨_, rfl⟩
  obtain ⟨S2, hS2⟩ : ∃ S2, Value.slice (A 2) (N 2) (C 2) = S2 := ⟨_, rfl⟩
  obtain ⟨S3, hS3⟩ : ∃ S3, Value.slice (A 3) (N 3) (C 3) = S3 := ⟨_, rfl⟩
  have HPO : Hid (∀ (z : Int) (W : World), VerIn W A N C L → Calls Try.prog 20 #[.agg #[S0, S1, S2, S3, .int .i64 lg, .int .i64 nx, .int .i64 sq], .int .i64 z, .string s0, .string s1] W fun r w' => ∃ v, r = .returned v ∧ w'.ownsRow W.heap.size 64 4 v (over z s0 s1 L).length (cs4 (over z s0 s1 L)) ∧ Below W.heap.size W w') := Lib.hid fun z W hv => by
    rw [← hS0, ← hS1, ← hS2, ← hS3]
    exact pover_any A N C L lg nx sq z s0 s1 W hv (by have := HN.out; omega) HFI.out
  have HPF : Hid (∀ (W : World), VerIn W A N C L → Calls Try.prog 22 #[.agg #[S0, S1, S2, S3, .int .i64 lg, .int .i64 nx, .int .i64 sq]] W fun r w' => ∃ v ys, r = .returned v ∧ ys.Perm (files (front L 4)) ∧ ys.Pairwise (fun a b => a ≤ b) ∧ w'.ownsRow W.heap.size 2 1 v (front L 4).length (nums ys) ∧ Below W.heap.size W w') := Lib.hid fun W hv => by
    rw [← hS0, ← hS1, ← hS2, ← hS3]
    exact pfiles_any A N C L lg nx sq W hv (by have := HN.out; omega)
  have HRO : Hid (∀ (z : Int) (W : World), In5 W A5 L → Calls Try.prog 21 #[.agg #[.slice A5 n5 c5, .int .i64 lg, .int .i64 nx, .int .i64 sq], .int .i64 z, .string s0, .string s1] W fun r w' => ∃ v, r = .returned v ∧ w'.ownsRow W.heap.size 66 5 v (over z s0 s1 L).length (cs5 (over z s0 s1 L)) ∧ Below W.heap.size W w') := Lib.hid fun z W h5 =>
    rover_any A5 n5 c5 L lg nx sq z s0 s1 W h5 HN.out.1 (by have := HN.out; omega)
  rw [hS0, hS1, hS2, hS3] at hr0
  simp only [hS0, hS1, hS2, hS3]
  have HROW : Hid (∀ W, Below (p + 3) w2 W → W.heap[p]? = some (.cells #[S0, S1, S2, S3, .int .i64 lg, .int .i64 nx, .int .i64 sq] 26 (0, 0)) ∧ W.heap[p + 1]? = some (.cells #[.slice A5 n5 c5, .int .i64 lg, .int .i64 nx, .int .i64 sq] 29 (0, 0)) ∧ W.heap[p + 2]? = some (.cells #[.int .i64 lv, .int .i64 0, .int .i64 1, .int .i64 2, .int .i64 3] 3 (0, 0)) ∧ W.heap[x]? = some (.cells #[.string s0, .string s1] 59 (0, 0))) := Lib.hid fun W h => ⟨(h.block p (by omega)).trans hr0, (h.block (p + 1) (by omega)).trans hr1, (h.block (p + 2) (by omega)).trans hr2, (h.block x (by have := HXP.out; omega)).trans hrs⟩
  have HVW : Hid (∀ W, Below (p + 3) w2 W → VerIn W A N C L ∧ In5 W A5 L) := Lib.hid fun W hW => ⟨HV2.out.below (by rw [hsz]; exact hW), H52.out.below (by rw [hsz]; exact hW)⟩
  have HBW : Hid (∀ W, Below (p + 3) w2 W → Below x w W) := Lib.hid fun W hW => by rw [← hx]; exact HB2.out.trans (hW.mono (by have := HXP.out; omega))
  have HSZ := Lib.hid hsz
  clear hb2 hr0 hr1 hr2 hrs hsz hp hx hS0 hS1 hS2 hS3
  go_loopw [28] (fun i wr => ∃ k : Nat, k ≤ 5 ∧ i = .int .i64 k ∧ Below (p + 3) w2 wr) (fun i _ => 5 - (intOf i).toNat)
  case atStart => exact ⟨0, by omega, rfl, Below.refl _ _⟩
  case round =>
    obtain ⟨k, hk, rfl, hbw⟩ := hrel
    by_cases hk5 : k < 5
    · obtain ⟨z, hz⟩ : ∃ z : Int, wr.cell? ⟨p + 2, k, none⟩ = some (.int .i64 z) := by
        have h2 := (HROW.out wr hbw).2.2.1
        rcases (by omega : k = 0 ∨ k = 1 ∨ k = 2 ∨ k = 3 ∨ k = 4) with rfl | rfl | rfl | rfl | rfl
        · exact ⟨_, cell_of_row _ _ _ _ _ _ h2⟩
        · exact ⟨_, cell_of_row _ _ _ _ _ _ h2⟩
        · exact ⟨_, cell_of_row _ _ _ _ _ _ h2⟩
        · exact ⟨_, cell_of_row _ _ _ _ _ _ h2⟩
        · exact ⟨_, cell_of_row _ _ _ _ _ _ h2⟩
      have HB := Lib.hid hbw
      have HRW := Lib.hid (HROW.out wr hbw)
      have hvw := HVW.out wr.drew hbw.drew
      have HVD : Hid (VerIn wr.drew A N C L ∧ In5 wr.drew A5 L) := Lib.hid hvw
      have HBD : Hid (Below (p + 3) w2 wr.drew) := Lib.hid hbw.drew
      have HSD : Hid (wr.drew.cell? ⟨p, 0, none⟩ = some (S0) ∧ wr.drew.cell? ⟨p, 1, none⟩ = some (S1) ∧ wr.drew.cell? ⟨p, 2, none⟩ = some (S2) ∧ wr.drew.cell? ⟨p, 3, none⟩ = some (S3) ∧ wr.drew.cell? ⟨p, 4, none⟩ = some (.int .i64 lg) ∧ wr.drew.cell? ⟨p, 5, none⟩ = some (.int .i64 nx) ∧ wr.drew.cell? ⟨p, 6, none⟩ = some (.int .i64 sq) ∧ wr.drew.cell? ⟨p + 1, 0, none⟩ = some (.slice A5 n5 c5) ∧ wr.drew.cell? ⟨p + 1, 1, none⟩ = some (.int .i64 lg) ∧ wr.drew.cell? ⟨p + 1, 2, none⟩ = some (.int .i64 nx) ∧ wr.drew.cell? ⟨p + 1, 3, none⟩ = some (.int .i64 sq) ∧ wr.drew.cell? ⟨x, 0, none⟩ = some (.string s0) ∧ wr.drew.cell? ⟨x, 1, none⟩ = some (.string s1)) := by
        have h := HROW.out wr.drew hbw.drew
        exact Lib.hid ⟨cell_of_row _ _ _ _ _ _ h.1, cell_of_row _ _ _ _ _ _ h.1, cell_of_row _ _ _ _ _ _ h.1, cell_of_row _ _ _ _ _ _ h.1, cell_of_row _ _ _ _ _ _ h.1, cell_of_row _ _ _ _ _ _ h.1, cell_of_row _ _ _ _ _ _ h.1, cell_of_row _ _ _ _ _ _ h.2.1, cell_of_row _ _ _ _ _ _ h.2.1, cell_of_row _ _ _ _ _ _ h.2.1, cell_of_row _ _ _ _ _ _ h.2.1, cell_of_row _ _ _ _ _ _ h.2.2.2, cell_of_row _ _ _ _ _ _ h.2.2.2⟩
      clear hbw hvw
      have HSR := HRW.out
      have m0 : wr.cell? ⟨p, 0, none⟩ = some (S0) := cell_of_row _ _ _ _ _ _ HSR.1
      have m1 : wr.cell? ⟨p, 1, none⟩ = some (S1) := cell_of_row _ _ _ _ _ _ HSR.1
      have m2 : wr.cell? ⟨p, 2, none⟩ = some (S2) := cell_of_row _ _ _ _ _ _ HSR.1
      have m3 : wr.cell? ⟨p, 3, none⟩ = some (S3) := cell_of_row _ _ _ _ _ _ HSR.1
      have m4 : wr.cell? ⟨p, 4, none⟩ = some (.int .i64 lg) := cell_of_row _ _ _ _ _ _ HSR.1
      have m5 : wr.cell? ⟨p, 5, none⟩ = some (.int .i64 nx) := cell_of_row _ _ _ _ _ _ HSR.1
      have m6 : wr.cell? ⟨p, 6, none⟩ = some (.int .i64 sq) := cell_of_row _ _ _ _ _ _ HSR.1
      have r0 : wr.cell? ⟨p + 1, 0, none⟩ = some (.slice A5 n5 c5) := cell_of_row _ _ _ _ _ _ HSR.2.1
      have r1 : wr.cell? ⟨p + 1, 1, none⟩ = some (.int .i64 lg) := cell_of_row _ _ _ _ _ _ HSR.2.1
      have r2 : wr.cell? ⟨p + 1, 2, none⟩ = some (.int .i64 nx) := cell_of_row _ _ _ _ _ _ HSR.2.1
      have r3 : wr.cell? ⟨p + 1, 3, none⟩ = some (.int .i64 sq) := cell_of_row _ _ _ _ _ _ HSR.2.1
      have k0 : wr.cell? ⟨x, 0, none⟩ = some (.string s0) := cell_of_row _ _ _ _ _ _ HSR.2.2.2
      have k1 : wr.cell? ⟨x, 1, none⟩ = some (.string s1) := cell_of_row _ _ _ _ _ _ HSR.2.2.2
      clear HSR
      go_upto_region 5 with fail
      clear hz
      go_region_held3 (fun s => s.cell? ⟨p, 0, none⟩ = some (S0) ∧ s.cell? ⟨p, 1, none⟩ = some (S1) ∧ s.cell? ⟨p, 2, none⟩ = some (S2) ∧ s.cell? ⟨p, 3, none⟩ = some (S3) ∧ s.cell? ⟨p, 4, none⟩ = some (.int .i64 lg) ∧ s.cell? ⟨p, 5, none⟩ = some (.int .i64 nx) ∧ s.cell? ⟨p, 6, none⟩ = some (.int .i64 sq) ∧ s.cell? ⟨p + 1, 0, none⟩ = some (.slice A5 n5 c5) ∧ s.cell? ⟨p + 1, 1, none⟩ = some (.int .i64 lg) ∧ s.cell? ⟨p + 1, 2, none⟩ = some (.int .i64 nx) ∧ s.cell? ⟨p + 1, 3, none⟩ = some (.int .i64 sq) ∧ s.cell? ⟨x, 0, none⟩ = some (.string s0) ∧ s.cell? ⟨x, 1, none⟩ = some (.string s1))
        (first | with_reducible exact HT1.out | with_reducible exact HT2.out | with_reducible exact HTF.out | with_reducible exact HSD.out | go_keep | fail)
        (first
          | (have hv1 := HV1.out
             go_at_call 21
             refine (HRO.out z _ hv1.2).mono ?_
             rintro r wf ⟨vb, rfl, hob, hbb⟩
             have HBF : Hid (Below (p + 3) w2 wf) := Lib.hid (HY1.out.trans (hbb.mono (by have := HY1.out.size; have := HSZ.out; omega)))
             have HOA : Hid (wf.ownsRow (p + 3) 64 4 _ (over z s0 s1 L).length (cs4 (over z s0 s1 L))) := Lib.hid (own_below HO1.out hbb)
             have HOB : Hid (wf.ownsRow (p + 3) 66 5 _ (over z s0 s1 L).length (cs5 (over z s0 s1 L))) := Lib.hid (own_lower hob (by have := HY1.out.size; have := HSZ.out; omega))
             have HTF : Hid (wf.cell? ⟨p, 0, none⟩ = some (S0) ∧ wf.cell? ⟨p, 1, none⟩ = some (S1) ∧ wf.cell? ⟨p, 2, none⟩ = some (S2) ∧ wf.cell? ⟨p, 3, none⟩ = some (S3) ∧ wf.cell? ⟨p, 4, none⟩ = some (.int .i64 lg) ∧ wf.cell? ⟨p, 5, none⟩ = some (.int .i64 nx) ∧ wf.cell? ⟨p, 6, none⟩ = some (.int .i64 sq) ∧ wf.cell? ⟨p + 1, 0, none⟩ = some (.slice A5 n5 c5) ∧ wf.cell? ⟨p + 1, 1, none⟩ = some (.int .i64 lg) ∧ wf.cell? ⟨p + 1, 2, none⟩ = some (.int .i64 nx) ∧ wf.cell? ⟨p + 1, 3, none⟩ = some (.int .i64 sq) ∧ wf.cell? ⟨x, 0, none⟩ = some (.string s0) ∧ wf.cell? ⟨x, 1, none⟩ = some (.string s1)) := by
               have h := HROW.out wf HBF.out
               exact Lib.hid ⟨cell_of_row _ _ _ _ _ _ h.1, cell_of_row _ _ _ _ _ _ h.1, cell_of_row _ _ _ _ _ _ h.1, cell_of_row _ _ _ _ _ _ h.1, cell_of_row _ _ _ _ _ _ h.1, cell_of_row _ _ _ _ _ _ h.1, cell_of_row _ _ _ _ _ _ h.1, cell_of_row _ _ _ _ _ _ h.2.1, cell_of_row _ _ _ _ _ _ h.2.1, cell_of_row _ _ _ _ _ _ h.2.1, cell_of_row _ _ _ _ _ _ h.2.1, cell_of_row _ _ _ _ _ _ h.2.2.2, cell_of_row _ _ _ _ _ _ h.2.2.2⟩
             clear hob hbb hv1)
          | (have hv2 := HV2'.out
             go_at_call 20
             refine (HPO.out z _ hv2.1).mono ?_
             rintro r wf ⟨va, rfl, hoa, hba⟩
             have HBF : Hid (Below (p + 3) w2 wf) := Lib.hid (HY2.out.trans (hba.mono (by have := HY2.out.size; have := HSZ.out; omega)))
             have HOB : Hid (wf.ownsRow (p + 3) 66 5 _ (over z s0 s1 L).length (cs5 (over z s0 s1 L))) := Lib.hid (own_below HO2.out hba)
             have HOA : Hid (wf.ownsRow (p + 3) 64 4 _ (over z s0 s1 L).length (cs4 (over z s0 s1 L))) := Lib.hid (own_lower hoa (by have := HY2.out.size; have := HSZ.out; omega))
             have HTF : Hid (wf.cell? ⟨p, 0, none⟩ = some (S0) ∧ wf.cell? ⟨p, 1, none⟩ = some (S1) ∧ wf.cell? ⟨p, 2, none⟩ = some (S2) ∧ wf.cell? ⟨p, 3, none⟩ = some (S3) ∧ wf.cell? ⟨p, 4, none⟩ = some (.int .i64 lg) ∧ wf.cell? ⟨p, 5, none⟩ = some (.int .i64 nx) ∧ wf.cell? ⟨p, 6, none⟩ = some (.int .i64 sq) ∧ wf.cell? ⟨p + 1, 0, none⟩ = some (.slice A5 n5 c5) ∧ wf.cell? ⟨p + 1, 1, none⟩ = some (.int .i64 lg) ∧ wf.cell? ⟨p + 1, 2, none⟩ = some (.int .i64 nx) ∧ wf.cell? ⟨p + 1, 3, none⟩ = some (.int .i64 sq) ∧ wf.cell? ⟨x, 0, none⟩ = some (.string s0) ∧ wf.cell? ⟨x, 1, none⟩ = some (.string s1)) := by
               have h := HROW.out wf HBF.out
               exact Lib.hid ⟨cell_of_row _ _ _ _ _ _ h.1, cell_of_row _ _ _ _ _ _ h.1, cell_of_row _ _ _ _ _ _ h.1, cell_of_row _ _ _ _ _ _ h.1, cell_of_row _ _ _ _ _ _ h.1, cell_of_row _ _ _ _ _ _ h.1, cell_of_row _ _ _ _ _ _ h.1, cell_of_row _ _ _ _ _ _ h.2.1, cell_of_row _ _ _ _ _ _ h.2.1, cell_of_row _ _ _ _ _ _ h.2.1, cell_of_row _ _ _ _ _ _ h.2.1, cell_of_row _ _ _ _ _ _ h.2.2.2, cell_of_row _ _ _ _ _ _ h.2.2.2⟩
             clear hoa hba hv2)
          | (go_at_call 20
             refine (HPO.out z _ HVD.out.1).mono ?_
             rintro r wy ⟨va, rfl, hoa, hba⟩
             have HY1 : Hid (Below (p + 3) w2 wy) := Lib.hid (HBD.out.trans (hba.mono (by have := HBD.out.size; have := HSZ.out; omega)))
             have HO1 : Hid (wy.ownsRow (p + 3) 64 4 va (over z s0 s1 L).length (cs4 (over z s0 s1 L))) := Lib.hid (own_lower hoa (by have := HBD.out.size; have := HSZ.out; omega))
             have HV1 := Lib.hid (HVW.out wy HY1.out)
             have HT1 : Hid (wy.cell? ⟨p, 0, none⟩ = some (S0) ∧ wy.cell? ⟨p, 1, none⟩ = some (S1) ∧ wy.cell? ⟨p, 2, none⟩ = some (S2) ∧ wy.cell? ⟨p, 3, none⟩ = some (S3) ∧ wy.cell? ⟨p, 4, none⟩ = some (.int .i64 lg) ∧ wy.cell? ⟨p, 5, none⟩ = some (.int .i64 nx) ∧ wy.cell? ⟨p, 6, none⟩ = some (.int .i64 sq) ∧ wy.cell? ⟨p + 1, 0, none⟩ = some (.slice A5 n5 c5) ∧ wy.cell? ⟨p + 1, 1, none⟩ = some (.int .i64 lg) ∧ wy.cell? ⟨p + 1, 2, none⟩ = some (.int .i64 nx) ∧ wy.cell? ⟨p + 1, 3, none⟩ = some (.int .i64 sq) ∧ wy.cell? ⟨x, 0, none⟩ = some (.string s0) ∧ wy.cell? ⟨x, 1, none⟩ = some (.string s1)) := by
               have h := HROW.out wy HY1.out
               exact Lib.hid ⟨cell_of_row _ _ _ _ _ _ h.1, cell_of_row _ _ _ _ _ _ h.1, cell_of_row _ _ _ _ _ _ h.1, cell_of_row _ _ _ _ _ _ h.1, cell_of_row _ _ _ _ _ _ h.1, cell_of_row _ _ _ _ _ _ h.1, cell_of_row _ _ _ _ _ _ h.1, cell_of_row _ _ _ _ _ _ h.2.1, cell_of_row _ _ _ _ _ _ h.2.1, cell_of_row _ _ _ _ _ _ h.2.1, cell_of_row _ _ _ _ _ _ h.2.1, cell_of_row _ _ _ _ _ _ h.2.2.2, cell_of_row _ _ _ _ _ _ h.2.2.2⟩
             clear hoa hba)
          | (go_at_call 21
             refine (HRO.out z _ HVD.out.2).mono ?_
             rintro r wy ⟨vb, rfl, hob, hbb⟩
             have HY2 : Hid (Below (p + 3) w2 wy) := Lib.hid (HBD.out.trans (hbb.mono (by have := HBD.out.size; have := HSZ.out; omega)))
             have HO2 : Hid (wy.ownsRow (p + 3) 66 5 vb (over z s0 s1 L).length (cs5 (over z s0 s1 L))) := Lib.hid (own_lower hob (by have := HBD.out.size; have := HSZ.out; omega))
             have HV2' := Lib.hid (HVW.out wy HY2.out)
             have HT2 : Hid (wy.cell? ⟨p, 0, none⟩ = some (S0) ∧ wy.cell? ⟨p, 1, none⟩ = some (S1) ∧ wy.cell? ⟨p, 2, none⟩ = some (S2) ∧ wy.cell? ⟨p, 3, none⟩ = some (S3) ∧ wy.cell? ⟨p, 4, none⟩ = some (.int .i64 lg) ∧ wy.cell? ⟨p, 5, none⟩ = some (.int .i64 nx) ∧ wy.cell? ⟨p, 6, none⟩ = some (.int .i64 sq) ∧ wy.cell? ⟨p + 1, 0, none⟩ = some (.slice A5 n5 c5) ∧ wy.cell? ⟨p + 1, 1, none⟩ = some (.int .i64 lg) ∧ wy.cell? ⟨p + 1, 2, none⟩ = some (.int .i64 nx) ∧ wy.cell? ⟨p + 1, 3, none⟩ = some (.int .i64 sq) ∧ wy.cell? ⟨x, 0, none⟩ = some (.string s0) ∧ wy.cell? ⟨x, 1, none⟩ = some (.string s1)) := by
               have h := HROW.out wy HY2.out
               exact Lib.hid ⟨cell_of_row _ _ _ _ _ _ h.1, cell_of_row _ _ _ _ _ _ h.1, cell_of_row _ _ _ _ _ _ h.1, cell_of_row _ _ _ _ _ _ h.1, cell_of_row _ _ _ _ _ _ h.1, cell_of_row _ _ _ _ _ _ h.1, cell_of_row _ _ _ _ _ _ h.1, cell_of_row _ _ _ _ _ _ h.2.1, cell_of_row _ _ _ _ _ _ h.2.1, cell_of_row _ _ _ _ _ _ h.2.1, cell_of_row _ _ _ _ _ _ h.2.1, cell_of_row _ _ _ _ _ _ h.2.2.2, cell_of_row _ _ _ _ _ _ h.2.2.2⟩
             clear hob hbb)
          | fail)
      all_goals
        try clear HT1
        try clear HT2
        try clear HV1 HO1 HY1
        try clear HV2' HO2 HY2
        clear HTF HSD HVD HBD HRW m0 m1 m2 m3 m4 m5 m6 r0 r1 r2 r3 k0 k1
        obtain ⟨Aa, ca, rfl, hia, -, -⟩ := own4 (fun m hm => HWF.out m (over_lvl hm).2) rfl HOA.out
        obtain ⟨Ab, cb, rfl, hib, -, -⟩ := own5 (fun m hm => HWF.out m (over_lvl hm).2) rfl HOB.out
        have HOL : Hid (∀ m ∈ over z s0 s1 L, m.lvl = z) := Lib.hid fun m hm => (over_lvl hm).1
        have hno : (over z s0 s1 L).length ≤ 1048576 := Nat.le_trans (over_len _ _ _ _) (by have := HN.out; omega)
        obtain ⟨O, hO⟩ : ∃ O, over z s0 s1 L = O := ⟨_, rfl⟩
        rw [hO] at hia hib HOL hno
        simp only [hO]
        have HIA := Lib.hid hia
        have HIB := Lib.hid hib
        have HLE : Hid (O.length = O.length) := Lib.hid rfl
        obtain ⟨n, hnn⟩ : ∃ n, O.length = n := ⟨_, rfl⟩
        simp only [hnn] at hno ⊢
        have HNN := Lib.hid hnn
        clear hia hib hO hnn HOA HOB
        go_wp2_with fail
        go_loopw [53] (fun i wr => ∃ j : Nat, j ≤ n ∧ i = .int .i64 j ∧ Below wf.heap.size wf wr) (fun i _ => n - (intOf i).toNat)
        case atStart => exact ⟨0, by omega, rfl, Below.refl _ _⟩
        case round =>
          obtain ⟨j, hj, rfl, hbq⟩ := hrel
          have HBQ := Lib.hid hbq
          by_cases hlt : j < n
          · have hjl : j < O.length := by rw [HNN.out]; exact hlt
            obtain ⟨c4, off4, hA4, hbl4, hc4⟩ := (HIA.out.below hbq).at_ (by omega)
            obtain ⟨c0, c1, c2, c3⟩ := hc4 j hjl
            obtain ⟨b5, off5, hA5, hbl5, hc5⟩ := (HIB.out.below hbq).at_ (by omega)
            obtain ⟨d0, d1, d2, d3, d4⟩ := hc5 j hjl
            have hlz := HOL.out _ (List.getElem_mem hjl)
            obtain ⟨e, he⟩ : ∃ e, O[j] = e := ⟨_, rfl⟩
            rw [he] at c0 c1 c2 c3 d0 d1 d2 d3 d4 hlz
            rw [hlz] at d0
            obtain ⟨e0, q, g, s, t⟩ := e
            simp only at c0 c1 c2 c3 d1 d2 d3 d4
            have g0 : (0 : Int) ≤ (j : Int) := by omega
            have g1 : (j : Int) < (n : Int) := by omega
            subst hA4 hA5
            clear hc4 hc5 he hlz hbl4 hbq
            go_upto_region 11 with fail
            have hba : Below wr.heap.size wr (wr.alloc (.cells #[.int .i64 q, .int .i64 g, .string s, .string t] 64)) := (Below.refl _ wr).alloc (Nat.le_refl _) _
            have hra := heap_alloc_new wr (.cells #[.int .i64 q, .int .i64 g, .string s, .string t] 64)
            generalize wr.alloc (.cells #[.int .i64 q, .int .i64 g, .string s, .string t] 64) = wa at hba hra ⊢
            have hdr : Below wr.heap.size wr { wa with drawn := wa.drawn + 1 } := hba.drew
            have hra : ({ wa with drawn := wa.drawn + 1 } : World).heap[wr.heap.size]? = some (.cells #[.int .i64 q, .int .i64 g, .string s, .string t] 64 (0, 0)) := hra
            refine wp_region_still_lit (by kernel_rfl) (by kernel_rfl) ?_
            generalize ({ wa with drawn := wa.drawn + 1 } : World) = wd at hdr hra ⊢
            have e0 : wd.cell? ⟨wr.heap.size, 0, none⟩ = some (.int .i64 q) := cell_of_row _ _ _ _ _ _ hra
            have e1 : wd.cell? ⟨wr.heap.size, 1, none⟩ = some (.int .i64 g) := cell_of_row _ _ _ _ _ _ hra
            have e2 : wd.cell? ⟨wr.heap.size, 2, none⟩ = some (.string s) := cell_of_row _ _ _ _ _ _ hra
            have e3 : wd.cell? ⟨wr.heap.size, 3, none⟩ = some (.string t) := cell_of_row _ _ _ _ _ _ hra
            have f0 : wd.cell? ⟨b5, off5 + j * 5, none⟩ = some (.int .i64 z) := (hdr.cell (p := ⟨b5, off5 + j * 5, none⟩) hbl5).trans d0
            have f1 : wd.cell? ⟨b5, off5 + j * 5 + 1, none⟩ = some (.int .i64 q) := (hdr.cell (p := ⟨b5, off5 + j * 5 + 1, none⟩) hbl5).trans d1
            have f2 : wd.cell? ⟨b5, off5 + j * 5 + 2, none⟩ = some (.int .i64 g) := (hdr.cell (p := ⟨b5, off5 + j * 5 + 2, none⟩) hbl5).trans d2
            have f3 : wd.cell? ⟨b5, off5 + j * 5 + 3, none⟩ = some (.string s) := (hdr.cell (p := ⟨b5, off5 + j * 5 + 3, none⟩) hbl5).trans d3
            have f4 : wd.cell? ⟨b5, off5 + j * 5 + 4, none⟩ = some (.string t) := (hdr.cell (p := ⟨b5, off5 + j * 5 + 4, none⟩) hbl5).trans d4
            have HBE : Hid (Below wf.heap.size wf wd) := Lib.hid (HBQ.out.trans (hdr.mono HBQ.out.size))
            clear hba hdr hra c0 c1 c2 c3 d0 d1 d2 d3 d4 hbl5
            refine still_letter fun W hW => ?_
            iterate 15 (refine hW.out.cons (fun K hK => ?_); go_simp; refine hK _ ?_; clear hK K)
            refine hW.out.nil ?_
            clear hW W
            go_wp2_with fail
            go_roundw
            case rel => exact ⟨j + 1, by omega, by go_num, HBE.out⟩
            case measure => simp [intOf]; omega
          · obtain rfl : j = n := by omega
            clear hbq
            go_wp2_with fail
            go_roundw
            case rel => exact ⟨k + 1, by omega, by go_num, HBF.out.trans (HBQ.out.mono (by have := HBF.out.size; have := HSZ.out; omega))⟩
            case measure => simp [intOf]; omega
    · obtain rfl : k = 5 := by omega
      have HB := Lib.hid hbw
      have HVR := Lib.hid (HVW.out wr hbw)
      have hr0 := (HROW.out wr hbw).1
      have a0 : wr.cell? ⟨p, 0, none⟩ = some (S0) := cell_of_row _ _ _ _ _ _ hr0
      have a1 : wr.cell? ⟨p, 1, none⟩ = some (S1) := cell_of_row _ _ _ _ _ _ hr0
      have a2 : wr.cell? ⟨p, 2, none⟩ = some (S2) := cell_of_row _ _ _ _ _ _ hr0
      have a3 : wr.cell? ⟨p, 3, none⟩ = some (S3) := cell_of_row _ _ _ _ _ _ hr0
      have a4 : wr.cell? ⟨p, 4, none⟩ = some (.int .i64 lg) := cell_of_row _ _ _ _ _ _ hr0
      have a5 : wr.cell? ⟨p, 5, none⟩ = some (.int .i64 nx) := cell_of_row _ _ _ _ _ _ hr0
      have a6 : wr.cell? ⟨p, 6, none⟩ = some (.int .i64 sq) := cell_of_row _ _ _ _ _ _ hr0
      clear hr0 hbw HPO HRO
      go_wp2_with fail
      refine (HPF.out _ HVR.out.1).mono ?_
      rintro r w3 ⟨v3, ys, rfl, hperm, hsort, hown, hb3⟩
      rw [HF4.out] at hperm hown
      rw [HN.out.1] at hown
      have HYS : Hid (∀ i, (h : i + 1 < ys.length) → ys[i] < ys[i + 1]) := Lib.hid fun i h => strict_of hsort (hperm.symm.nodup HUQ.out) h
      have hyl : ys.length = n5 := by rw [hperm.length_eq]; simpa [files] using HN.out.1
      have hyi : ∀ y ∈ ys, i64 y := fun y hy => by
        obtain ⟨m, hm, rfl⟩ := List.mem_map.1 (hperm.subset hy)
        exact (HWF.out m hm).file
      have HYM : Hid (∀ y ∈ ys, (files L).count y = 1) := Lib.hid fun y hy => count_one HUQ.out (hperm.subset hy)
      obtain ⟨By, dy, rfl, hints, -, -⟩ := own_nums hyi hyl hown
      have HYI := Lib.hid hints
      have HYL := Lib.hid hyl
      have HB3 : Hid (Below (p + 3) w2 w3) := Lib.hid (HB.out.trans (hb3.mono (by have := HB.out.size; have := HSZ.out; omega)))
      have HBW3 : Hid (∀ W, Below w3.heap.size w3 W → Below (p + 3) w2 W) := Lib.hid fun W h => HB3.out.trans (h.mono (by have := HB3.out.size; have := HSZ.out; omega))
      have HIW3 : Hid (∀ W, Below w3.heap.size w3 W → IntsIn W W.heap.size By ys) := Lib.hid fun W h => IntsIn.mono HYI.out h
      have HN5 : Hid (n5 ≤ 1048576) := Lib.hid HN.out.2
      have hr1 := (HROW.out w3 HB3.out).2.1
      have b0 : w3.cell? ⟨p + 1, 0, none⟩ = some (.slice A5 n5 c5) := cell_of_row _ _ _ _ _ _ hr1
      have b1 : w3.cell? ⟨p + 1, 1, none⟩ = some (.int .i64 lg) := cell_of_row _ _ _ _ _ _ hr1
      have b2 : w3.cell? ⟨p + 1, 2, none⟩ = some (.int .i64 nx) := cell_of_row _ _ _ _ _ _ hr1
      have b3 : w3.cell? ⟨p + 1, 3, none⟩ = some (.int .i64 sq) := cell_of_row _ _ _ _ _ _ hr1
      clear hr1 hperm hsort hown hb3 hyl hyi hints a0 a1 a2 a3 a4 a5 a6
      have hnb5 := HN5.out
      go_wp2_with fail
      clear b0 b1 b2 b3
      go_loopw [85] (fun i wr => ∃ j : Nat, j ≤ n5 ∧ i = .int .i64 j ∧ Below w3.heap.size w3 wr) (fun i _ => n5 - (intOf i).toNat)
      case atStart => exact ⟨0, by omega, rfl, Below.refl _ _⟩
      case round =>
        obtain ⟨j, hj, rfl, hbj⟩ := hrel
        by_cases hlt : j < n5
        · have hjl : j < ys.length := by rw [HYL.out]; exact hlt
          have HYJ := List.getElem_mem hjl
          have HLT := Lib.hid hlt
          obtain ⟨y, hy⟩ : ∃ y, ys[j] = y := ⟨_, rfl⟩
          have HCY : Hid ((files L).count y = 1) := Lib.hid (HYM.out y (hy ▸ HYJ))
          have HEY := Lib.hid hy
          have HJL := Lib.hid hjl
          clear HYJ
          have hr1 := (HROW.out wr (HBW3.out _ hbj)).2.1
          have r0 : wr.cell? ⟨p + 1, 0, none⟩ = some (.slice A5 n5 c5) := cell_of_row _ _ _ _ _ _ hr1
          have HBJ := Lib.hid hbj
          clear hr1 hbj hy
          go_wp2_with fail
          clear r0
          go_loopw [17, 91] (fun c i wr => ∃ m : Nat, m ≤ n5 ∧ i = .int .i64 m ∧ c = .int .i64 (((files (L.take m)).count y : Nat) : Int) ∧ Below w3.heap.size w3 wr) (fun _ i _ => n5 - (intOf i).toNat)
          case atStart => exact ⟨0, by omega, rfl, rfl, HBJ.out⟩
          case round =>
            obtain ⟨m, hm, rfl, rfl, hbq⟩ := hrel
            have HBQ := Lib.hid hbq
            by_cases hlm : m < n5
            · have hml : m < L.length := by rw [HN.out.1]; exact hlm
              obtain ⟨b5, off5, hA5, hbl5, hc5⟩ := (HVW.out wr (HBW3.out _ hbq)).2.at_ (by omega)
              obtain ⟨d0, d1, d2, d3, d4⟩ := hc5 m hml
              obtain ⟨by_, offy, hAy, hbly, hcy⟩ := (HIW3.out wr hbq).2 (by have := HJL.out; omega)
              have f0 := hcy j HJL.out
              rw [HEY.out] at f0
              have HCT := Lib.hid (count_take hml y)
              obtain ⟨cn, hcn⟩ : ∃ cn, (files (L.take m)).count y = cn := ⟨_, rfl⟩
              have hcb : cn ≤ 1048576 := by
                rw [← hcn]
                refine Nat.le_trans (count_le _ _) ?_
                simp only [files, List.length_map, List.length_take]
                have := HN5.out
                omega
              obtain ⟨e, he⟩ : ∃ e, L[m] = e := ⟨_, rfl⟩
              rw [he] at d0 d1 d2 d3 d4 HCT
              rw [hcn] at HCT
              simp only [hcn]
              obtain ⟨e0, q, g, s, t⟩ := e
              simp only at d0 d1 d2 d3 d4 HCT
              have g0 : (0 : Int) ≤ (j : Int) := by omega
              have g1 : (j : Int) < (n5 : Int) := by omega
              subst hA5 hAy
              clear hc5 hcy he hbl5 hbq hcn hml
              go_upto_region 25 with fail
              have hba : Below wr.heap.size wr (wr.alloc (.cells #[.int .i64 e0, .int .i64 q, .int .i64 g, .string s, .string t] 66)) := (Below.refl _ wr).alloc (Nat.le_refl _) _
              have hra := heap_alloc_new wr (.cells #[.int .i64 e0, .int .i64 q, .int .i64 g, .string s, .string t] 66)
              generalize wr.alloc (.cells #[.int .i64 e0, .int .i64 q, .int .i64 g, .string s, .string t] 66) = wa at hba hra ⊢
              have hdr : Below wr.heap.size wr { wa with drawn := wa.drawn + 1 } := hba.drew
              have hra : ({ wa with drawn := wa.drawn + 1 } : World).heap[wr.heap.size]? = some (.cells #[.int .i64 e0, .int .i64 q, .int .i64 g, .string s, .string t] 66 (0, 0)) := hra
              refine wp_region_still_lit (by kernel_rfl) (by kernel_rfl) ?_
              generalize ({ wa with drawn := wa.drawn + 1 } : World) = wd at hdr hra ⊢
              have k0 : wd.cell? ⟨wr.heap.size, 0, none⟩ = some (.int .i64 e0) := cell_of_row _ _ _ _ _ _ hra
              have k1 : wd.cell? ⟨wr.heap.size, 1, none⟩ = some (.int .i64 q) := cell_of_row _ _ _ _ _ _ hra
              have k2 : wd.cell? ⟨wr.heap.size, 2, none⟩ = some (.int .i64 g) := cell_of_row _ _ _ _ _ _ hra
              have k3 : wd.cell? ⟨wr.heap.size, 3, none⟩ = some (.string s) := cell_of_row _ _ _ _ _ _ hra
              have k4 : wd.cell? ⟨wr.heap.size, 4, none⟩ = some (.string t) := cell_of_row _ _ _ _ _ _ hra
              have f1 : wd.cell? ⟨by_, offy + j, none⟩ = some (.int .i64 y) := (hdr.cell (p := ⟨by_, offy + j, none⟩) hbly).trans f0
              have HBE : Hid (Below w3.heap.size w3 wd) := Lib.hid (HBQ.out.trans (hdr.mono HBQ.out.size))
              clear hba hdr hra d0 d1 d2 d3 d4 f0 hbly
              cases hqy : (q == y) with
              | true =>
                rw [hqy, if_pos rfl] at HCT
                refine still_letter fun W hW => ?_
                iterate 7 (refine hW.out.cons (fun K hK => ?_); go_simp; refine hK _ ?_; clear hK K)
                refine hW.out.nil ?_
                clear hW W
                go_wp2_with fail
                go_roundw
                case rel => exact ⟨m + 1, by omega, by go_num, by rw [HCT.out]; go_num, HBE.out⟩
                case measure => simp [intOf]; omega
              | false =>
                rw [hqy, if_neg (by simp), Nat.add_zero] at HCT
                refine still_letter fun W hW => ?_
                iterate 7 (refine hW.out.cons (fun K hK => ?_); go_simp; refine hK _ ?_; clear hK K)
                refine hW.out.nil ?_
                clear hW W
                go_wp2_with fail
                go_roundw
                case rel => exact ⟨m + 1, by omega, by go_num, by rw [HCT.out]; rfl, HBE.out⟩
                case measure => simp [intOf]; omega
            · obtain rfl : m = n5 := by omega
              have htk : L.take m = L := List.take_of_length_le (by rw [HN.out.1]; exact Nat.le_refl _)
              have hc1 : (((files (L.take m)).count y : Nat) : Int) = 1 := by rw [htk, HCY.out]; rfl
              rw [hc1]
              clear htk hc1
              go_upto_region 28 with fail
              have hdr : Below wr.heap.size wr { wr with drawn := wr.drawn + 1 } := (Below.refl _ wr).drew
              refine wp_region_still_lit (by kernel_rfl) (by kernel_rfl) ?_
              generalize ({ wr with drawn := wr.drawn + 1 } : World) = wd at hdr ⊢
              have HBE : Hid (Below w3.heap.size w3 wd) := Lib.hid (HBQ.out.trans (hdr.mono HBQ.out.size))
              clear hdr hbq
              have hltj := HLT.out
              rcases Nat.eq_zero_or_pos j with hj0 | hj0
              · have dj : decide (0 < j) = false := decide_eq_false (by omega)
                have dj2 : decide ((0 : Int) < (j : Int)) = false := decide_eq_false (by omega)
                clear hj0
                refine still_letter fun W hW => ?_
                iterate 18 (refine hW.out.cons (fun K hK => ?_); go_simp; refine hK _ ?_; clear hK K)
                refine hW.out.nil ?_
                clear hW W
                go_wp2_with fail
                go_roundw
                case rel => exact ⟨j + 1, by omega, by go_num, HBE.out⟩
                case measure => simp [intOf]; omega
              · obtain ⟨i, rfl⟩ : ∃ i, j = i + 1 := ⟨j - 1, by omega⟩
                obtain ⟨by_, offy, hAy, hbly, hcy⟩ := (HIW3.out wd HBE.out).2 (by have := HJL.out; omega)
                have f1 := hcy (i + 1) HJL.out
                rw [HEY.out] at f1
                have f0 := hcy i (by have := HJL.out; omega)
                have hlty := HYS.out i HJL.out
                rw [HEY.out] at hlty
                obtain ⟨y0, hy0⟩ : ∃ y0, ys[i]'(by have := HJL.out; omega) = y0 := ⟨_, rfl⟩
                rw [hy0] at f0 hlty
                have dy : decide (y ≤ y0) = false := decide_eq_false (by omega)
                have hwi : IntKind.i64.wrap (((i + 1 : Nat) : Int) - 1) = (i : Int) := by rw [IntWalk.i64_in _ ⟨by omega, by omega⟩]; omega
                have hwi2 : IntKind.i64.wrap ((i : Int) + 1 - 1) = (i : Int) := by rw [IntWalk.i64_in _ ⟨by omega, by omega⟩]; omega
                have hwi3 : IntKind.i64.wrap (i : Int) = (i : Int) := IntWalk.i64_in _ ⟨by omega, by omega⟩
                have di : decide ((0 : Int) < ((i + 1 : Nat) : Int)) = true := decide_eq_true (by omega)
                have g2 : (0 : Int) ≤ (i : Int) := by omega
                have g3 : (i : Int) < (m : Int) := by omega
                have g4 : (0 : Int) ≤ (i : Int) + 1 := by omega
                have g5 : (i : Int) + 1 < (m : Int) := by omega
                subst hAy
                clear hcy hbly hlty hy0 HEY HJL HYS hj0
                refine still_letter fun W hW => ?_
                iterate 18 (refine hW.out.cons (fun K hK => ?_); go_simp; refine hK _ ?_; clear hK K)
                refine hW.out.nil ?_
                clear hW W
                go_wp2_with fail
                go_roundw
                case rel => exact ⟨i + 1 + 1, by omega, by go_num, HBE.out⟩
                case measure => simp [intOf]; omega
        · obtain rfl : j = n5 := by omega
          have HBJ := Lib.hid hbj
          clear hbj
          go_wp2_with fail
          refine (HWK.out _).mono ?_
          rintro r w9 ⟨rfl, hb9⟩
          have HEND : Hid (Below w.heap.size w w9) := Lib.hid (by
            have h1 := HBW.out _ (HBW3.out _ HBJ.out)
            rw [← HXX.out] at h1
            exact h1.trans (hb9.mono h1.size))
          clear hb9
          go_wp2_with fail
          go_ret
          exact ⟨rfl, HEND.out⟩
end lawOver
end Go.Proofs.Ytffdiiolgflbkaa

