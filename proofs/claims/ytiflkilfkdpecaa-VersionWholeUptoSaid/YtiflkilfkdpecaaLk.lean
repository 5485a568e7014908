/- Whole: the edit that makes a version out of none. -/
import Derived.Test.YtiflkilfkdpecaaLm
import Derived.Deep.RegionLaw
namespace Go.Proofs.Ytiflkilfkdpecaa
open Go.RowKit Go.Maps
open VS
attribute [local go_sem ↓] Go.wp_at_zero Go.wp_at_succ

/-- an edit in the making -/
structure Wh (p : Nat) (w : World) (va : Value) (l : List M) (lg nx sq : Int) : Prop where
  row : w.heap[p]? = some (.cells #[va, .slice none 0 0, .int .i64 lg, .int .i64 nx, .int .i64 sq] 36 (0, 0))
  own : w.ownsRow (p + 1) 72 5 va l.length (cs5 l)
section
variable {p : Nat} {w w' : World} {va : Value} {l : List M} {lg nx sq : Int}
theorem Wh.lt (h : Wh p w va l lg nx sq) : p < w.heap.size := (Array.getElem?_eq_some_iff.1 h.row).1
theorem Wh.below (h : Wh p w va l lg nx sq) (hb : Below w.heap.size w w') : Wh p w' va l lg nx sq := ⟨(hb.block p h.lt).trans h.row, own_below h.own hb⟩
set_option maxHeartbeats 1000000 in
theorem Wh.app {W7 : World} (h : Wh p w va l lg nx sq) (hlen : l.length ≤ 10000000) (h7 : Below w.heap.size w W7) (e : M) :
    ∃ A6 c6 w8, (Builtin.append_ #[34, 34] 34 #[va, .slice (some ⟨W7.heap.size, 0, none⟩) 1 1]).run Try.prog (W7.alloc (.cells #[.int .i64 e.lvl, .int .i64 e.file, .int .i64 e.size, .string e.lo, .string e.hi] 72)) = .ok (.slice A6 (l.length + 1) c6) w8 ∧
      w8.cell? ⟨p, 0, none⟩ = some va ∧ w8.frozen? ⟨p, 0, none⟩ = false ∧ Below p w (w8.setCell ⟨p, 0, none⟩ (.slice A6 (l.length + 1) c6)) ∧ Wh p (w8.setCell ⟨p, 0, none⟩ (.slice A6 (l.length + 1) c6)) (.slice A6 (l.length + 1) c6) (l ++ [e]) lg nx sq ∧ (∀ b, w.heap.size ≤ b → b < W7.heap.size → w8.heap[b]? = W7.heap[b]?) := by
  obtain ⟨i0, hi0, hz0, hz1, hz2⟩ := info_parts info_place
  have hyl := h.lt
  have how7 := own_below h.own h7
  have hsz := h7.size
  obtain ⟨v', w8, happ, hown8, hg8, -, -⟩ := run_append_own_at (P := Try.prog) (W7.alloc (.cells #[.int .i64 e.lvl, .int .i64 e.file, .int .i64 e.size, .string e.lo, .string e.hi] 72)) (p + 1) 34 34 72 i0 _ 5 56 Try.underlying34 hi0 hz0 hz1 hz2 rfl (by decide) va l.length _ (how7.alloc _)
    ⟨W7.heap.size, 0, none⟩ 1 1 (M.c5 e) rfl (cells5 W7 e _) (one5 _) (by unfold maxLen; omega) (by omega) (by simp; omega)
  obtain ⟨A6, c6, rfl⟩ : ∃ A6 c6, v' = .slice A6 (l.length + 1) c6 := own_shape hown8
  have hb7 : Below w.heap.size w (W7.alloc (.cells #[.int .i64 e.lvl, .int .i64 e.file, .int .i64 e.size, .string e.lo, .string e.hi] 72)) := h7.alloc hsz _
  have hne : some p ≠ va.ownBlock := fun he => by
    have := (how7.lt p he.symm).1
    omega
  have hrow8 := (hg8.block p (Nat.lt_of_lt_of_le hyl hb7.size) hne).trans ((hb7.block p hyl).trans h.row)
  have hset := grownBy_setCell w8 ⟨p, 0, none⟩ (.slice A6 (l.length + 1) c6)
  have hs9 := hb7.size
  have hs8 := hg8.size
  refine ⟨A6, c6, w8, happ, cell_of_row _ _ _ _ _ _ hrow8, frozen_of_row _ _ _ _ _ hrow8, ?_, ⟨?_, ?_⟩, fun b hb1 hb2 => (hg8.block b (by simp; omega) (fun e => by have := (h.own.lt b e.symm).2; omega)).trans (Below.heap_alloc _ _ _ hb2)⟩
  · exact ((hb7.mono (Nat.le_of_lt hyl)).grown hg8 (by omega) (fun r e => by have := (how7.lt r e).1; omega)).grown hset (by omega) (fun r e => by cases e; exact Nat.le_refl _)
  · rw [heap_set_fr hrow8]
    rfl
  · rw [List.length_append, cs5_snoc]
    exact own_set hown8 (by omega) _ _
end

set_option maxRecDepth 100000 in
set_option maxHeartbeats 4000000 in
theorem whole_any (A : Nat → Option Addr) (N C : Nat → Nat) (L : List M) (lg nx sq : Int) (w : World) (h : VerIn w A N C L) (hL : L.length ≤ 2000000) (hnd : front L 4 = L) (hi6 : i64 lg ∧ i64 nx ∧ i64 sq) :
    Calls Try.prog 18 #[.agg #[.slice (A 0) (N 0) (C 0), .slice (A 1) (N 1) (C 1), .slice (A 2) (N 2) (C 2), .slice (A 3) (N 3) (C 3), .int .i64 lg, .int .i64 nx, .int .i64 sq]] w fun r w' => ∃ A1 c1, r = .returned (.agg #[.slice A1 L.length c1, .slice none 0 0, .int .i64 lg, .int .i64 nx, .int .i64 sq]) ∧ EdIn w' A1 L.length c1 none 0 0 ⟨L, [], lg, nx, sq⟩ ∧ Below w.heap.size w w' := by
  have HNF := Lib.hid hnd
  have HI6 := Lib.hid hi6
  have HGET := Lib.hid (fun (k j : Nat) (hk : k < 4) (hj : j < (lev k L).length) => front_get hnd hk hj)
  clear hnd hi6
  have HIX := Lib.hid (fun (k : Nat) (hk : k < 4) W => arr_index A N C hk W)
  have HV := Lib.hid h
  have HFL := Lib.hid (fun k : Nat => front_len L k)
  have HLL := Lib.hid hL
  obtain ⟨S0, hS0⟩ : ∃ S0, Value.slice (A 0) (N 0) (C 0) = S0 := ⟨_, rfl⟩
  obtain ⟨S1, hS1⟩ : ∃ S1, Value.slice (A 1) (N 1) (C 1) = S1 := ⟨_, rfl⟩
  obtain ⟨S2, hS2⟩ : ∃ S2, Value.slice (A 2) (N 2) (C 2) = S2 := ⟨_, rfl⟩
  obtain ⟨S3, hS3⟩ : ∃ S3, Value.slice (A 3) (N 3) (C 3) = S3 := ⟨_, rfl⟩
  rw [hS0, hS1, hS2, hS3] at HIX
  rw [hS0, hS1, hS2, hS3]
  clear hS0 hS1 hS2 hS3 h hL
  go_enter Try.func18, Try.ntmps18
  go_upto_region 2 with fail
  have hal : Below w.heap.size w (((w.alloc (.cells #[S0, S1, S2, S3, .int .i64 lg, .int .i64 nx, .int .i64 sq] 26)).alloc (.cells #[.slice none 0 0, .slice none 0 0, .int .i64 0, .int .i64 0, .int .i64 0] 36)).alloc (.cells #[.slice none 0 0, .slice none 0 0, .int .i64 lg, .int .i64 nx, .int .i64 sq] 36)) := (((Below.refl _ w).alloc (Nat.le_refl _) _).alloc (by simp) _).alloc (by simp <;> omega) _
  have hsz : (((w.alloc (.cells #[S0, S1, S2, S3, .int .i64 lg, .int .i64 nx, .int .i64 sq] 26)).alloc (.cells #[.slice none 0 0, .slice none 0 0, .int .i64 0, .int .i64 0, .int .i64 0] 36)).alloc (.cells #[.slice none 0 0, .slice none 0 0, .int .i64 lg, .int .i64 nx, .int .i64 sq] 36)).heap.size = w.heap.size + 3 := by simp
  have hr0 : (((w.alloc (.cells #[S0, S1, S2, S3, .int .i64 lg, .int .i64 nx, .int .i64 sq] 26)).alloc (.cells #[.slice none 0 0, .slice none 0 0, .int .i64 0, .int .i64 0, .int .i64 0] 36)).alloc (.cells #[.slice none 0 0, .slice none 0 0, .int .i64 lg, .int .i64 nx, .int .i64 sq] 36)).heap[w.heap.size]? = some (.cells #[S0, S1, S2, S3, .int .i64 lg, .int .i64 nx, .int .i64 sq] 26 (0, 0)) := by
    rw [Below.heap_alloc _ _ _ (by simp <;> omega), Below.heap_alloc _ _ _ (by simp <;> omega)]
    exact heap_alloc_new w _
  have hr1 : (((w.alloc (.cells #[S0, S1, S2, S3, .int .i64 lg, .int .i64 nx, .int .i64 sq] 26)).alloc (.cells #[.slice none 0 0, .slice none 0 0, .int .i64 0, .int .i64 0, .int .i64 0] 36)).alloc (.cells #[.slice none 0 0, .slice none 0 0, .int .i64 lg, .int .i64 nx, .int .i64 sq] 36)).heap[w.heap.size + 1]? = some (.cells #[.slice none 0 0, .slice none 0 0, .int .i64 0, .int .i64 0, .int .i64 0] 36 (0, 0)) := by
    rw [Below.heap_alloc _ _ _ (by simp <;> omega)]
    have := heap_alloc_new (w.alloc (.cells #[S0, S1, S2, S3, .int .i64 lg, .int .i64 nx, .int .i64 sq] 26)) (.cells #[.slice none 0 0, .slice none 0 0, .int .i64 0, .int .i64 0, .int .i64 0] 36)
    simpa using this
  have hr2 : (((w.alloc (.cells #[S0, S1, S2, S3, .int .i64 lg, .int .i64 nx, .int .i64 sq] 26)).alloc (.cells #[.slice none 0 0, .slice none 0 0, .int .i64 0, .int .i64 0, .int .i64 0] 36)).alloc (.cells #[.slice none 0 0, .slice none 0 0, .int .i64 lg, .int .i64 nx, .int .i64 sq] 36)).heap[w.heap.size + 2]? = some (.cells #[.slice none 0 0, .slice none 0 0, .int .i64 lg, .int .i64 nx, .int .i64 sq] 36 (0, 0)) := by
    have := heap_alloc_new ((w.alloc (.cells #[S0, S1, S2, S3, .int .i64 lg, .int .i64 nx, .int .i64 sq] 26)).alloc (.cells #[.slice none 0 0, .slice none 0 0, .int .i64 0, .int .i64 0, .int .i64 0] 36)) (.cells #[.slice none 0 0, .slice none 0 0, .int .i64 lg, .int .i64 nx, .int .i64 sq] 36)
    simpa using this
  generalize (((w.alloc (.cells #[S0, S1, S2, S3, .int .i64 lg, .int .i64 nx, .int .i64 sq] 26)).alloc (.cells #[.slice none 0 0, .slice none 0 0, .int .i64 0, .int .i64 0, .int .i64 0] 36)).alloc (.cells #[.slice none 0 0, .slice none 0 0, .int .i64 lg, .int .i64 nx, .int .i64 sq] 36)) = w0 at hal hsz hr0 hr1 hr2 ⊢
  obtain ⟨x, hx⟩ : ∃ x, w.heap.size = x := ⟨_, rfl⟩
  have HX := Lib.hid hx
  have HV0 := Lib.hid (HV.out.below hal)
  have HLOW : Hid (∀ W, Below (x + 2) w0 W → Below w.heap.size w W) := Lib.hid fun W h => hal.trans (h.mono (by omega))
  rw [hx] at hal hsz hr0 hr1 hr2 ⊢
  try rw [show x + 1 + 1 = x + 2 by omega]
  have HS0 := Lib.hid hsz
  have HR1 := Lib.hid hr1
  have HWH0 : Hid (Wh (x + 2) w0 (.slice none 0 0) [] lg nx sq) := Lib.hid ⟨hr2, World.ownsRow_nil _ _ _ _⟩
  have q0 : w0.cell? ⟨x, 0, none⟩ = some S0 := cell_of_row _ _ _ _ _ _ hr0
  have q1 : w0.cell? ⟨x, 1, none⟩ = some S1 := cell_of_row _ _ _ _ _ _ hr0
  have q2 : w0.cell? ⟨x, 2, none⟩ = some S2 := cell_of_row _ _ _ _ _ _ hr0
  have q3 : w0.cell? ⟨x, 3, none⟩ = some S3 := cell_of_row _ _ _ _ _ _ hr0
  have HVW : Hid (∀ W, Below (x + 2) w0 W → VerIn W A N C L) := Lib.hid fun W hW => HV.out.below (HLOW.out W hW)
  clear hal hsz hx hr0 hr1 hr2
  go_wp2_with fail
  go_loopw [17] (fun i wr => ∃ k : Nat, k ≤ 4 ∧ i = .int .i64 k ∧ Below (x + 2) w0 wr ∧ ∃ va, Wh (x + 2) wr va (front L k) lg nx sq) (fun i _ => 4 - (intOf i).toNat)
  case atStart => exact ⟨0, by omega, rfl, Below.refl _ _, _, HWH0.out⟩
  case round =>
    obtain ⟨k, hk, rfl, hbw, va, hwh⟩ := hrel
    clear q0 q1 q2 q3
    have HB0 := Lib.hid hbw
    have HWH := Lib.hid hwh
    by_cases hk4 : k < 4
    · have hd4 : decide ((k : Int) < 4) = true := decide_eq_true (by omega)
      have hd4' : decide (k < 4) = true := decide_eq_true hk4
      have hix := HIX.out k hk4
      have hlen := HV.out.len k hk4
      have HK4 := Lib.hid hk4
      have HGK := Lib.hid (fun j hj => (HGET.out k j hk4 hj))
      have HFK : Hid (front L (k + 1) = front L k ++ lev k L) := Lib.hid rfl
      have hfl := HFL.out k
      obtain ⟨F, hF⟩ : ∃ F, front L k = F := ⟨_, rfl⟩
      have hll : (lev k L).length ≤ 2000000 := Nat.le_trans (lev_len _ _) HLL.out
      have hF4 : F.length ≤ 8000000 := by
        rw [← hF]
        have := HLL.out
        have h2 : k * L.length ≤ 4 * L.length := Nat.mul_le_mul_right _ (by omega)
        omega
      have HLV : Hid (∀ j (hj : j < (lev k L).length), ((lev k L)[j]).lvl = k) := Lib.hid fun j hj => by
        obtain ⟨-, -, h3⟩ := HGK.out j hj
        exact h3
      rw [hF] at HFK HWH
      obtain ⟨nk, hnk⟩ : ∃ x, N k = x := ⟨_, rfl⟩
      obtain ⟨ck, hck⟩ : ∃ x, C k = x := ⟨_, rfl⟩
      obtain ⟨ak, hak⟩ : ∃ x, A k = x := ⟨_, rfl⟩
      rw [hak, hnk, hck] at hix
      rw [hnk] at hlen
      have HAK := Lib.hid hak
      have HLEN := Lib.hid hlen
      have HSM : Hid ((lev k L).length ≤ 2000000 ∧ F.length ≤ 8000000) := Lib.hid ⟨hll, hF4⟩
      have hnb : nk ≤ 2000000 := by omega
      clear hwh hbw hlen hF hak hnk hck hfl hll hF4 HGK
      go_wp2_with fail
      go_loopw [23] (fun i wr => ∃ j : Nat, j ≤ nk ∧ i = .int .i64 j ∧ Below (x + 2) w0 wr ∧ ∃ va, Wh (x + 2) wr va (F ++ (lev k L).take j) lg nx sq) (fun i _ => nk - (intOf i).toNat)
      case atStart => exact ⟨0, by omega, rfl, HB0.out, _, by simpa using HWH.out⟩
      case round =>
        obtain ⟨j, hj, rfl, hbw, va, hwh⟩ := hrel
        have HBW := Lib.hid hbw
        have HWJ := Lib.hid hwh
        by_cases hlt : j < nk
        · have hjl : j < (lev k L).length := by rw [← HLEN.out]; exact hlt
          obtain ⟨c, off, hA, hbl, hc⟩ := ((HVW.out wr hbw).at_ k HK4.out).at_ (by omega)
          obtain ⟨c0, c1, c2, c3⟩ := hc j hjl
          have HTK : Hid ((lev k L).take (j + 1) = (lev k L).take j ++ [(lev k L)[j]]) := Lib.hid (List.take_succ_eq_append_getElem hjl)
          have hlv := HLV.out j hjl
          have HWF := Lib.hid (((HVW.out wr hbw).at_ k HK4.out).wf _ (List.getElem_mem hjl))
          obtain ⟨e, he⟩ : ∃ e, (lev k L)[j] = e := ⟨_, rfl⟩
          rw [he] at c0 c1 c2 c3 HTK hlv HWF
          rw [HAK.out] at hA
          obtain ⟨lv, q, g, s, t⟩ := e
          simp only at c0 c1 c2 c3 hlv
          subst hlv
          have HC := Lib.hid (fun W => mclone_any q g s t W (by have := HWF.out.lo; simp only at this; omega) (by have := HWF.out.hi; simp only at this; omega))
          have hpl := HWJ.out.lt
          have hal := (Below.refl wr.heap.size wr).alloc (Nat.le_refl _) (.cells #[.int .i64 q, .int .i64 g, .string s, .string t] 64)
          have hrx := heap_alloc_new wr (.cells #[.int .i64 q, .int .i64 g, .string s, .string t] 64)
          have hsx : (wr.alloc (.cells #[.int .i64 q, .int .i64 g, .string s, .string t] 64)).heap.size = wr.heap.size + 1 := by simp
          have g0 : (0 : Int) ≤ (j : Int) := by omega
          have g1 : (j : Int) < (nk : Int) := by omega
          subst hA
          have hln : (F ++ (lev k L).take j).length ≤ 10000000 := by
            have := HSM.out
            rw [List.length_append, List.length_take]
            omega
          have HLN := Lib.hid hln
          clear hc he hbw hwh hjl hln
          go_upto_region 8 with fail
          generalize wr.alloc (.cells #[.int .i64 q, .int .i64 g, .string s, .string t] 64) = wa at hal hrx hsx ⊢
          obtain ⟨bx, hbx⟩ : ∃ bx, wr.heap.size = bx := ⟨_, rfl⟩
          have HWA := Lib.hid (HWJ.out.below hal)
          have cv : wa.cell? ⟨x + 2, 0, none⟩ = some va := cell_of_row _ _ _ _ _ _ HWA.out.row
          have fv : wa.frozen? ⟨x + 2, 0, none⟩ = false := frozen_of_row _ _ _ _ _ HWA.out.row
          have HBWA : Hid (Below (x + 2) w0 wa) := Lib.hid (HBW.out.trans (hal.mono (by omega)))
          obtain ⟨nl, hnl⟩ : ∃ n, (F ++ (lev k L).take j).length = n := ⟨_, rfl⟩
          have HAP : Hid (∀ W7, Below wa.heap.size wa W7 → ∃ A6 c6 w8, (Builtin.append_ #[34, 34] 34 #[va, .slice (some ⟨W7.heap.size, 0, none⟩) 1 1]).run Try.prog (W7.alloc (.cells #[.int .i64 k, .int .i64 q, .int .i64 g, .string s, .string t] 72)) = .ok (.slice A6 (nl + 1) c6) w8 ∧
              w8.cell? ⟨x + 2, 0, none⟩ = some va ∧ w8.frozen? ⟨x + 2, 0, none⟩ = false ∧ Below (x + 2) w0 (w8.setCell ⟨x + 2, 0, none⟩ (.slice A6 (nl + 1) c6)) ∧ Wh (x + 2) (w8.setCell ⟨x + 2, 0, none⟩ (.slice A6 (nl + 1) c6)) (.slice A6 (nl + 1) c6) (F ++ (lev k L).take (j + 1)) lg nx sq) := Lib.hid fun W7 h7 => by
            rw [← hnl]
            obtain ⟨A6, c6, w8, r1, r2, r3, r4, r5, -⟩ := HWA.out.app HLN.out h7 ⟨k, q, g, s, t⟩
            exact ⟨A6, c6, w8, r1, r2, r3, HBWA.out.trans r4, by rw [HTK.out, ← List.append_assoc]; exact r5⟩
          rw [hbx] at hrx hsx hpl ⊢
          have y0 : wa.cell? ⟨bx, 0, none⟩ = some (.int .i64 q) := by simp [World.cell?, hrx]
          have y1 : wa.cell? ⟨bx, 1, none⟩ = some (.int .i64 g) := by simp [World.cell?, hrx]
          have y2 : wa.cell? ⟨bx, 2, none⟩ = some (.string s) := by simp [World.cell?, hrx]
          have y3 : wa.cell? ⟨bx, 3, none⟩ = some (.string t) := by simp [World.cell?, hrx]
          have HBX : Hid (bx < wa.heap.size ∧ x + 2 < wa.heap.size) := Lib.hid (by omega)
          clear hal hrx hsx hpl hbx HWA HWJ c0 c1 c2 c3 hnl
          go_region_law (first
              | (refine step_app 34 (by rfl) _ _ (by rfl) (by rfl) _ _ (by rfl) (by rfl) _ _ HAPP.out ?_)
              | (go_simp
                 go_at_call 42
                 refine (HC.out _).mono ?_
                 rintro r w1 ⟨rfl, hb⟩
                 have hb1 : Below wa.heap.size wa w1 := Below.trans ((Below.refl _ wa).drew) hb
                 have z0 : w1.cell? ⟨x + 2, 0, none⟩ = some va := (hb1.cell (p := ⟨x + 2, 0, none⟩) HBX.out.2).trans cv
                 have hb2 := hb1.alloc hb1.size (.cells #[.int .i64 k, .int .i64 q, .int .i64 g, .string s, .string t] 72)
                 have o0 : (w1.alloc (.cells #[.int .i64 k, .int .i64 q, .int .i64 g, .string s, .string t] 72)).cell? ⟨x + 2, 0, none⟩ = some va := (hb2.cell (p := ⟨x + 2, 0, none⟩) HBX.out.2).trans cv
                 obtain ⟨A6, c6, w8, happ, e1, e2, e3, e4⟩ := HAP.out w1 hb1
                 have HE3 := Lib.hid e3
                 have HE4 := Lib.hid e4
                 have HAPP := Lib.hid happ
                 clear e3 e4 happ hb hb1 hb2)
              | fail)
          all_goals
            clear cv fv y0 y1 y2 y3
            go_wp2_with fail
            go_roundw
            case rel => exact ⟨j + 1, by omega, by go_num, HE3.out, _, HE4.out⟩
            case measure => simp [intOf]; omega
        · obtain rfl : j = nk := by omega
          have htk : (lev k L).take j = lev k L := List.take_of_length_le (by rw [← HLEN.out]; exact Nat.le_refl _)
          rw [htk] at HWJ
          rw [← HFK.out] at HWJ
          clear hbw hwh htk
          go_wp2_with fail
          go_roundw
          case rel => exact ⟨k + 1, by omega, by go_num, HBW.out, _, HWJ.out⟩
          case measure => simp [intOf]; omega
    · obtain rfl : k = 4 := by omega
      rw [HNF.out] at hwh
      have hlow := HLOW.out wr hbw
      have hwfL : ∀ m ∈ L, m.wf := by
        intro m hm
        rw [← HNF.out] at hm
        simp only [front, List.nil_append, List.mem_append] at hm
        rcases hm with ((hm | hm) | hm) | hm
        · exact (HV.out.at_ 0 (by decide)).wf m hm
        · exact (HV.out.at_ 1 (by decide)).wf m hm
        · exact (HV.out.at_ 2 (by decide)).wf m hm
        · exact (HV.out.at_ 3 (by decide)).wf m hm
      obtain ⟨A1, c1, rfl, hin1, hfb1, hcap1⟩ := own5 hwfL rfl hwh.own
      have HIN1 := Lib.hid (And.intro hin1 (And.intro hfb1 hcap1))
      have hr1 := (hbw.block (x + 1) (by omega)).trans HR1.out
      have hr2 := hwh.row
      have HWR := Lib.hid (And.intro hr1 hr2)
      obtain ⟨nl, hnl⟩ : ∃ n, L.length = n := ⟨_, rfl⟩
      rw [hnl] at hr2 HWR HIN1
      have HNL := Lib.hid hnl
      have ra0 : wr.cell? ⟨x + 2, 0, none⟩ = some (.slice A1 nl c1) := cell_of_row _ _ _ _ _ _ hr2
      have ra1 : wr.cell? ⟨x + 2, 1, none⟩ = some (.slice none 0 0) := cell_of_row _ _ _ _ _ _ hr2
      have ra2 : wr.cell? ⟨x + 2, 2, none⟩ = some (.int .i64 lg) := cell_of_row _ _ _ _ _ _ hr2
      have ra3 : wr.cell? ⟨x + 2, 3, none⟩ = some (.int .i64 nx) := cell_of_row _ _ _ _ _ _ hr2
      have ra4 : wr.cell? ⟨x + 2, 4, none⟩ = some (.int .i64 sq) := cell_of_row _ _ _ _ _ _ hr2
      have rb0 : wr.cell? ⟨x + 1, 0, none⟩ = some (.slice none 0 0) := cell_of_row _ _ _ _ _ _ hr1
      have rb1 : wr.cell? ⟨x + 1, 1, none⟩ = some (.slice none 0 0) := cell_of_row _ _ _ _ _ _ hr1
      have rb2 : wr.cell? ⟨x + 1, 2, none⟩ = some (.int .i64 0) := cell_of_row _ _ _ _ _ _ hr1
      have rb3 : wr.cell? ⟨x + 1, 3, none⟩ = some (.int .i64 0) := cell_of_row _ _ _ _ _ _ hr1
      have rb4 : wr.cell? ⟨x + 1, 4, none⟩ = some (.int .i64 0) := cell_of_row _ _ _ _ _ _ hr1
      have rc0 : wr.frozen? ⟨x + 1, 0, none⟩ = false := frozen_of_row _ _ _ _ _ hr1
      have rc1 : wr.frozen? ⟨x + 1, 1, none⟩ = false := frozen_of_row _ _ _ _ _ hr1
      have rc2 : wr.frozen? ⟨x + 1, 2, none⟩ = false := frozen_of_row _ _ _ _ _ hr1
      have rc3 : wr.frozen? ⟨x + 1, 3, none⟩ = false := frozen_of_row _ _ _ _ _ hr1
      have rc4 : wr.frozen? ⟨x + 1, 4, none⟩ = false := frozen_of_row _ _ _ _ _ hr1
      have HLW : Hid (Below w.heap.size w wr ∧ x + 2 < wr.heap.size) := Lib.hid ⟨hlow, hwh.lt⟩
      clear hbw hwh hlow hwfL hin1 hfb1 hcap1 hr1 hr2 hnl
      go_wp2_with fail
      have hq1 := five_row wr (x + 1) _ _ _ _ _ _ (.slice A1 nl c1) (.slice none 0 0) (.int .i64 lg) (.int .i64 nx) (.int .i64 sq) HWR.out.1
      have hq2 : ∀ k, k ≠ x + 1 → (((((wr.setCell ⟨x + 1, 0, none⟩ (.slice A1 nl c1)).setCell ⟨x + 1, 1, none⟩ (.slice none 0 0)).setCell ⟨x + 1, 2, none⟩ (.int .i64 lg)).setCell ⟨x + 1, 3, none⟩ (.int .i64 nx)).setCell ⟨x + 1, 4, none⟩ (.int .i64 sq)).heap[k]? = wr.heap[k]? := fun k hk => five_far wr (x + 1) k hk (.slice A1 nl c1) (.slice none 0 0) (.int .i64 lg) (.int .i64 nx) (.int .i64 sq)
      have hq3 := five_below (Below.refl 0 wr) (x + 1) (Nat.zero_le _) (.slice A1 nl c1) (.slice none 0 0) (.int .i64 lg) (.int .i64 nx) (.int .i64 sq)
      generalize (((((wr.setCell ⟨x + 1, 0, none⟩ (.slice A1 nl c1)).setCell ⟨x + 1, 1, none⟩ (.slice none 0 0)).setCell ⟨x + 1, 2, none⟩ (.int .i64 lg)).setCell ⟨x + 1, 3, none⟩ (.int .i64 nx)).setCell ⟨x + 1, 4, none⟩ (.int .i64 sq)) = w9 at hq1 hq2 hq3 ⊢
      have HEND : Hid (EdIn w9 A1 nl c1 none 0 0 ⟨L, [], lg, nx, sq⟩ ∧ Below w.heap.size w w9) := Lib.hid ⟨⟨in5_far HIN1.out.1 hq3.size fun z hz => hq2 z (by have := HIN1.out.2.1 z hz; omega), HNL.out, HIN1.out.2.2, ⟨by simp, by simp⟩, rfl, Nat.le_refl _, HI6.out.1, HI6.out.2.1, HI6.out.2.2⟩, HLW.out.1.trans ⟨hq3.os, hq3.tape, hq3.output, hq3.size, fun k hk => hq2 k (by have := HX.out; omega)⟩⟩
      refine bodyPost_ret (results_cell_row (P := Try.prog) rfl _ w9 (x + 1) _ _ _ _ rfl hq1 Try.underlying36 rfl rfl) rfl ?_
      exact ⟨A1, c1, by rw [HNL.out], by rw [HNL.out]; exact HEND.out.1, HEND.out.2⟩
end Go.Proofs.Ytiflkilfkdpecaa
