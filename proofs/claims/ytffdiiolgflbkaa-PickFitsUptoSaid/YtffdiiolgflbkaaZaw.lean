/- Texts joined by bundle.py: Ls. -/
import Derived.Test.YtffdiiolgflbkaaZau
import Derived.Deep.CutRange
import Derived.StillTailTactics

/- sameVersion: true of the same tables and numbers. Made by gen_ls.py. -/
namespace Go.Proofs.Ytffdiiolgflbkaa
open Go.RowKit Go.Maps
open VS
attribute [local go_sem ↓] Go.wp_at_zero Go.wp_at_succ

namespace VS
theorem front_split (L : List M) {k : Nat} (hk : k < 4) : ∃ r, front L 4 = front L k ++ lev k L ++ r := by
  rcases (by omega : k = 0 ∨ k = 1 ∨ k = 2 ∨ k = 3) with rfl | rfl | rfl | rfl
  · exact ⟨lev 1 L ++ lev 2 L ++ lev 3 L, by simp [front]⟩
  · exact ⟨lev 2 L ++ lev 3 L, by simp [front]⟩
  · exact ⟨lev 3 L, by simp [front]⟩
  · exact ⟨[], by simp [front]⟩
theorem front_get {L : List M} (hf : front L 4 = L) {k j : Nat} (hk : k < 4) (hj : j < (lev k L).length) : ∃ h : (front L k).length + j < L.length, L[(front L k).length + j] = (lev k L)[j] ∧ ((lev k L)[j]).lvl = k := by
  obtain ⟨r, hr⟩ := front_split L hk
  rw [hf] at hr
  have hlen : L.length = (front L k).length + (lev k L).length + r.length := by
    have := congrArg List.length hr
    simp only [List.length_append] at this
    exact this
  have hlt : (front L k).length + j < L.length := by omega
  have h1 : L[(front L k).length + j]? = some (lev k L)[j] := by
    have h2 : L[(front L k).length + j]? = (front L k ++ lev k L ++ r)[(front L k).length + j]? := congrArg (fun l : List M => l[(front L k).length + j]?) hr
    rw [h2, List.append_assoc, List.getElem?_append_right (by omega), Nat.add_sub_cancel_left, List.getElem?_append_left hj, List.getElem?_eq_getElem hj]
  refine ⟨hlt, by rw [List.getElem?_eq_getElem hlt] at h1; exact Option.some.inj h1, ?_⟩
  have := (List.mem_filter.1 (show (lev k L)[j] ∈ List.filter _ L from List.getElem_mem hj)).2
  simpa using this
end VS

set_option maxRecDepth 100000 in
set_option maxHeartbeats 4000000 in
theorem same_any (A : Nat → Option Addr) (N C : Nat → Nat) (L : List M) (lg nx sq : Int) (A5 : Option Addr) (n c : Nat) (w : World) (h : VerIn w A N C L) (h5 : In5 w A5 L) (hn : L.length = n) (hf : front L 4 = L) (hL : n ≤ 10000000) :
    Calls Try.prog 12 #[.agg #[.slice (A 0) (N 0) (C 0), .slice (A 1) (N 1) (C 1), .slice (A 2) (N 2) (C 2), .slice (A 3) (N 3) (C 3), .int .i64 lg, .int .i64 nx, .int .i64 sq], .agg #[.slice A5 n c, .int .i64 lg, .int .i64 nx, .int .i64 sq]] w fun r w' => r = .returned (.bool true) ∧ Below w.heap.size w w' := by
  have HIX := Lib.hid (fun (k : Nat) (hk : k < 4) W => arr_index A N C hk W)
  have HV := Lib.hid h
  have H5 := Lib.hid h5
  have HN := Lib.hid hn
  have HF4 := Lib.hid hf
  have HGET := Lib.hid (fun (k j : Nat) (hk : k < 4) (hj : j < (lev k L).length) => front_get hf hk hj)
  obtain ⟨S0, hS0⟩ : ∃ S0, Value.slice (A 0) (N 0) (C 0) = S0 := ⟨_, rfl⟩
  obtain ⟨S1, hS1⟩ : ∃ S1, Value.slice (A 1) (N 1) (C 1) = S1 := ⟨_, rfl⟩
  obtain ⟨S2, hS2⟩ : ∃ S2, Value.slice (A 2) (N 2) (C 2) = S2 := ⟨_, rfl⟩
  obtain ⟨S3, hS3⟩ : ∃ S3, Value.slice (A 3) (N 3) (C 3) = S3 := ⟨_, rfl⟩
  rw [hS0, hS1, hS2, hS3] at HIX
  rw [hS0, hS1, hS2, hS3]
  clear hS0 hS1 hS2 hS3 h h5 hn hf
  go_enter Try.func12, Try.ntmps12
  go_wp2_with fail
  have hal : Below w.heap.size w ((w.alloc (.cells #[S0, S1, S2, S3, .int .i64 lg, .int .i64 nx, .int .i64 sq] 26)).alloc (.cells #[.slice A5 n c, .int .i64 lg, .int .i64 nx, .int .i64 sq] 29)) := ((Below.refl _ w).alloc (Nat.le_refl _) _).alloc (by simp) _
  have hsz : ((w.alloc (.cells #[S0, S1, S2, S3, .int .i64 lg, .int .i64 nx, .int .i64 sq] 26)).alloc (.cells #[.slice A5 n c, .int .i64 lg, .int .i64 nx, .int .i64 sq] 29)).heap.size = w.heap.size + 2 := by simp
  have hr0 : ((w.alloc (.cells #[S0, S1, S2, S3, .int .i64 lg, .int .i64 nx, .int .i64 sq] 26)).alloc (.cells #[.slice A5 n c, .int .i64 lg, .int .i64 nx, .int .i64 sq] 29)).heap[w.heap.size]? = some (.cells #[S0, S1, S2, S3, .int .i64 lg, .int .i64 nx, .int .i64 sq] 26) := (Below.heap_alloc _ _ _ (by simp)).trans (heap_alloc_new w _)
  have hr1 : ((w.alloc (.cells #[S0, S1, S2, S3, .int .i64 lg, .int .i64 nx, .int .i64 sq] 26)).alloc (.cells #[.slice A5 n c, .int .i64 lg, .int .i64 nx, .int .i64 sq] 29)).heap[w.heap.size + 1]? = some (.cells #[.slice A5 n c, .int .i64 lg, .int .i64 nx, .int .i64 sq] 29) := by
    have := heap_alloc_new (w.alloc (.cells #[S0, S1, S2, S3, .int .i64 lg, .int .i64 nx, .int .i64 sq] 26)) (.cells #[.slice A5 n c, .int .i64 lg, .int .i64 nx, .int .i64 sq] 29)
    simpa using this
  generalize (w.alloc (.cells #[S0, S1, S2, S3, .int .i64 lg, .int .i64 nx, .int .i64 sq] 26)).alloc (.cells #[.slice A5 n c, .int .i64 lg, .int .i64 nx, .int .i64 sq] 29) = w0 at hal hsz hr0 hr1 ⊢
  obtain ⟨x, hx⟩ : ∃ x, w.heap.size = x := ⟨_, rfl⟩
  have HX := Lib.hid hx
  have HV0 := Lib.hid (HV.out.below hal)
  have H50 := Lib.hid (H5.out.below hal)
  rw [hx] at hal hsz hr0 hr1 ⊢
  have HS0 := Lib.hid hsz
  have HLOW : Hid (∀ W, Below (x + 2) w0 W → Below w.heap.size w W) := Lib.hid fun W h => by
    rw [hx]
    exact hal.trans (h.mono (by omega))
  have HRW : Hid (∀ W, Below (x + 2) w0 W → W.heap[x]? = some (.cells #[S0, S1, S2, S3, .int .i64 lg, .int .i64 nx, .int .i64 sq] 26 (0, 0)) ∧ W.heap[x + 1]? = some (.cells #[.slice A5 n c, .int .i64 lg, .int .i64 nx, .int .i64 sq] 29 (0, 0))) := Lib.hid fun W hW => ⟨(hW.block x (by omega)).trans hr0, (hW.block (x + 1) (by omega)).trans hr1⟩
  have HVW : Hid (∀ W, Below (x + 2) w0 W → VerIn W A N C L ∧ In5 W A5 L) := Lib.hid fun W hW => ⟨HV0.out.below (by rw [HS0.out]; exact hW), H50.out.below (by rw [HS0.out]; exact hW)⟩
  have b0 : w0.cell? ⟨x, 0, none⟩ = some (S0) := cell_of_row _ _ _ _ _ _ hr0
  have b1 : w0.cell? ⟨x, 1, none⟩ = some (S1) := cell_of_row _ _ _ _ _ _ hr0
  have b2 : w0.cell? ⟨x, 2, none⟩ = some (S2) := cell_of_row _ _ _ _ _ _ hr0
  have b3 : w0.cell? ⟨x, 3, none⟩ = some (S3) := cell_of_row _ _ _ _ _ _ hr0
  have b4 : w0.cell? ⟨x, 4, none⟩ = some (.int .i64 lg) := cell_of_row _ _ _ _ _ _ hr0
  have b5 : w0.cell? ⟨x, 5, none⟩ = some (.int .i64 nx) := cell_of_row _ _ _ _ _ _ hr0
  have b6 : w0.cell? ⟨x, 6, none⟩ = some (.int .i64 sq) := cell_of_row _ _ _ _ _ _ hr0
  clear hal hsz hx hr0 hr1
  go_wp2_with fail
  go_loopw [5, 12] (fun p i wr => ∃ k : Nat, k ≤ 4 ∧ i = .int .i64 k ∧ p = .int .i64 ((front L k).length : Int) ∧ Below (x + 2) w0 wr) (fun _ i _ => 4 - (intOf i).toNat)
  case atStart => exact ⟨0, by omega, rfl, by simp [front], Below.refl _ _⟩
  case round =>
    obtain ⟨k, hk, rfl, rfl, hbw⟩ := hrel
    clear b0 b1 b2 b3 b4 b5 b6
    have HB0 := Lib.hid hbw
    by_cases hk4 : k < 4
    · have hd4 : decide ((k : Int) < 4) = true := decide_eq_true (by omega)
      have hd4' : decide (k < 4) = true := decide_eq_true hk4
      have hix := HIX.out k hk4
      have hlen := HV.out.len k hk4
      have HK4 := Lib.hid hk4
      have HFK : Hid ((front L (k + 1)).length = (front L k).length + N k) := Lib.hid (by rw [hlen]; simp [front])
      have HGK : Hid (∀ j, j < N k → ∃ m, (lev k L)[j]? = some m ∧ L[(front L k).length + j]? = some m ∧ m.lvl = k) := Lib.hid fun j hj => by
        have hj2 : j < (lev k L).length := by omega
        obtain ⟨h1, h2, h3⟩ := HGET.out k j hk4 hj2
        exact ⟨_, List.getElem?_eq_getElem hj2, by rw [List.getElem?_eq_getElem h1, h2], h3⟩
      obtain ⟨f, hfe⟩ : ∃ f, (front L k).length = f := ⟨_, rfl⟩
      obtain ⟨ak, hak⟩ : ∃ a, A k = a := ⟨_, rfl⟩
      obtain ⟨nk, hnk⟩ : ∃ a, N k = a := ⟨_, rfl⟩
      obtain ⟨ck, hck⟩ : ∃ a, C k = a := ⟨_, rfl⟩
      rw [hak, hnk, hck] at hix
      have HAK := Lib.hid hak
      rw [hnk] at HGK HFK hlen
      simp only [hfe] at HGK HFK ⊢
      have hfl : f + nk ≤ 10000000 := by
        by_cases h0 : nk = 0
        · have := front_len L k
          obtain ⟨r, hr⟩ := front_split L hk4
          rw [HF4.out] at hr
          have := congrArg List.length hr
          simp only [List.length_append] at this
          have := HN.out
          omega
        · obtain ⟨_, _, h1, _⟩ := HGK.out (nk - 1) (by omega)
          have h1 := (List.getElem?_eq_some_iff.1 h1).1
          have := HN.out
          omega
      have HSM := Lib.hid hfl
      have hnb : nk ≤ 10000000 := by omega
      clear hbw hlen hak hnk hck hfe hfl
      go_wp2_with fail
      go_loopw [5, 18] (fun p i wr => ∃ j : Nat, j ≤ nk ∧ i = .int .i64 j ∧ p = .int .i64 ((f + j : Nat) : Int) ∧ Below (x + 2) w0 wr) (fun _ i _ => nk - (intOf i).toNat)
      case atStart => exact ⟨0, by omega, rfl, rfl, HB0.out⟩
      case round =>
        obtain ⟨j, hj, rfl, rfl, hbw⟩ := hrel
        have HBW := Lib.hid hbw
        by_cases hlt : j < nk
        · obtain ⟨e, hl1, hl2, hlv⟩ := HGK.out j hlt
          obtain ⟨hjl, he⟩ := List.getElem?_eq_some_iff.1 hl1
          obtain ⟨hin, hge⟩ := List.getElem?_eq_some_iff.1 hl2
          obtain ⟨hv, h5⟩ := HVW.out wr hbw
          obtain ⟨c4, off, hA, hbl, hc⟩ := (hv.at_ k HK4.out).at_ (by omega)
          obtain ⟨c0, c1, c2, c3⟩ := hc j hjl
          obtain ⟨b5, off5, hA5, hbl5, hc5⟩ := h5.at_ (by omega)
          obtain ⟨d0, d1, d2, d3, d4⟩ := hc5 (f + j) hin
          rw [hge] at d0 d1 d2 d3 d4
          rw [hlv] at d0
          rw [he] at c0 c1 c2 c3
          rw [HAK.out] at hA
          obtain ⟨lv, q, g, s, t⟩ := e
          simp only at c0 c1 c2 c3 d1 d2 d3 d4
          have hfn : f + j < n := by rw [← HN.out]; exact hin
          have HFN := Lib.hid hfn
          have hl5 : (f + (j + 1) : Nat) = f + j + 1 := by omega
          obtain ⟨a, hae⟩ : ∃ a, f + j = a := ⟨_, rfl⟩
          rw [hae] at d0 d1 d2 d3 d4 hfn hl5 HFN
          simp only [hae]
          have HL5 := Lib.hid hl5
          have hwa : IntKind.i64.wrap ((a : Int) + 1) = ((a + 1 : Nat) : Int) := by rw [IntWalk.i64_in _ ⟨by omega, by omega⟩]; omega
          have hda : decide ((n : Int) ≤ (a : Int)) = false := decide_eq_false (by omega)
          have hdb : decide (n ≤ a) = false := decide_eq_false (by omega)
          have g0 : (0 : Int) ≤ (j : Int) := by omega
          have g1 : (j : Int) < (nk : Int) := by omega
          have g2 : (0 : Int) ≤ (a : Int) := by omega
          have g3 : (a : Int) < (n : Int) := by omega
          have hro := (HRW.out wr hbw).2
          subst hA hA5
          clear hv h5 hc hc5 he hge hin hjl hlv hl1 hl2 hae hl5
          go_upto_region 8 with fail
          have hba : Below wr.heap.size wr (wr.alloc (.cells #[.int .i64 q, .int .i64 g, .string s, .string t] 64)) := (Below.refl _ wr).alloc (Nat.le_refl _) _
          have hra := heap_alloc_new wr (.cells #[.int .i64 q, .int .i64 g, .string s, .string t] 64)
          generalize wr.alloc (.cells #[.int .i64 q, .int .i64 g, .string s, .string t] 64) = wa at hba hra ⊢
          have hdr : Below wr.heap.size wr { wa with drawn := wa.drawn + 1 } := hba.drew
          have hra : ({ wa with drawn := wa.drawn + 1 } : World).heap[wr.heap.size]? = some (.cells #[.int .i64 q, .int .i64 g, .string s, .string t] 64 (0, 0)) := hra
          refine wp_region_still_lit (by kernel_rfl) (by kernel_rfl) ?_
          generalize ({ wa with drawn := wa.drawn + 1 } : World) = wd at hdr hra ⊢
          have e0 : wd.cell? ⟨wr.heap.size, 0, none⟩ = some (.int .i64 q) := cell_of_row _ _ _ _ _ _ hra
          have e1 : wd.cell? ⟨wr.heap.size, 1, none⟩ = some (.int .i64 g) := cell_of_row _ _ _ _ _ _ hra
          have e2 : wd.cell? ⟨wr.heap.size, 2, none⟩ = some (.string s) := cell_of_row _ _ _ _ _ _ hra
          have e3 : wd.cell? ⟨wr.heap.size, 3, none⟩ = some (.string t) := cell_of_row _ _ _ _ _ _ hra
          have f0 : wd.cell? ⟨b5, off5 + a * 5, none⟩ = some (.int .i64 k) := (hdr.cell (p := ⟨b5, off5 + a * 5, none⟩) hbl5).trans d0
          have f1 : wd.cell? ⟨b5, off5 + a * 5 + 1, none⟩ = some (.int .i64 q) := (hdr.cell (p := ⟨b5, off5 + a * 5 + 1, none⟩) hbl5).trans d1
          have f2 : wd.cell? ⟨b5, off5 + a * 5 + 2, none⟩ = some (.int .i64 g) := (hdr.cell (p := ⟨b5, off5 + a * 5 + 2, none⟩) hbl5).trans d2
          have f3 : wd.cell? ⟨b5, off5 + a * 5 + 3, none⟩ = some (.string s) := (hdr.cell (p := ⟨b5, off5 + a * 5 + 3, none⟩) hbl5).trans d3
          have f4 : wd.cell? ⟨b5, off5 + a * 5 + 4, none⟩ = some (.string t) := (hdr.cell (p := ⟨b5, off5 + a * 5 + 4, none⟩) hbl5).trans d4
          have hr1 := (HRW.out wd (HBW.out.trans (hdr.mono (by have := HBW.out.size; have := HS0.out; omega)))).2
          have r0 : wd.cell? ⟨x + 1, 0, none⟩ = some (.slice (some ⟨b5, off5, none⟩) n c) := cell_of_row _ _ _ _ _ _ hr1
          have r1 : wd.cell? ⟨x + 1, 1, none⟩ = some (.int .i64 lg) := cell_of_row _ _ _ _ _ _ hr1
          have r2 : wd.cell? ⟨x + 1, 2, none⟩ = some (.int .i64 nx) := cell_of_row _ _ _ _ _ _ hr1
          have r3 : wd.cell? ⟨x + 1, 3, none⟩ = some (.int .i64 sq) := cell_of_row _ _ _ _ _ _ hr1
          have HBD : Hid (Below (x + 2) w0 wd) := Lib.hid (HBW.out.trans (hdr.mono (by have := HBW.out.size; have := HS0.out; omega)))
          clear hba hbw hdr hra hr1
          repeat still_step
          refine wpStill_nil ?_
          go_wp2_with fail
          go_roundw
          case rel => exact ⟨j + 1, by omega, by go_num, by rw [HL5.out]; go_num, HBD.out⟩
          case measure => simp [intOf]; omega
        · obtain rfl : j = nk := by omega
          clear hbw
          go_wp2_with fail
          go_roundw
          case rel => exact ⟨k + 1, by omega, by go_num, by rw [HFK.out], HBW.out⟩
          case measure => simp [intOf]; omega
    · obtain rfl : k = 4 := by omega
      have hfn : (front L 4).length = n := by rw [HF4.out]; exact HN.out
      simp only [hfn]
      have hr0 := (HRW.out wr hbw).1
      have hr1 := (HRW.out wr hbw).2
      have m0 : wr.cell? ⟨x, 0, none⟩ = some (S0) := cell_of_row _ _ _ _ _ _ hr0
      have m1 : wr.cell? ⟨x, 1, none⟩ = some (S1) := cell_of_row _ _ _ _ _ _ hr0
      have m2 : wr.cell? ⟨x, 2, none⟩ = some (S2) := cell_of_row _ _ _ _ _ _ hr0
      have m3 : wr.cell? ⟨x, 3, none⟩ = some (S3) := cell_of_row _ _ _ _ _ _ hr0
      have m4 : wr.cell? ⟨x, 4, none⟩ = some (.int .i64 lg) := cell_of_row _ _ _ _ _ _ hr0
      have m5 : wr.cell? ⟨x, 5, none⟩ = some (.int .i64 nx) := cell_of_row _ _ _ _ _ _ hr0
      have m6 : wr.cell? ⟨x, 6, none⟩ = some (.int .i64 sq) := cell_of_row _ _ _ _ _ _ hr0
      have r0 : wr.cell? ⟨x + 1, 0, none⟩ = some (.slice A5 n c) := cell_of_row _ _ _ _ _ _ hr1
      have r1 : wr.cell? ⟨x + 1, 1, none⟩ = some (.int .i64 lg) := cell_of_row _ _ _ _ _ _ hr1
      have r2 : wr.cell? ⟨x + 1, 2, none⟩ = some (.int .i64 nx) := cell_of_row _ _ _ _ _ _ hr1
      have r3 : wr.cell? ⟨x + 1, 3, none⟩ = some (.int .i64 sq) := cell_of_row _ _ _ _ _ _ hr1
      have HEND := Lib.hid (HLOW.out wr hbw)
      clear hbw hr0 hr1 hfn
      go_wp2_with fail
      go_ret
      exact ⟨rfl, HEND.out⟩
end Go.Proofs.Ytffdiiolgflbkaa

