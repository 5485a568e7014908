/- Texts joined by bundle.py: Kl. -/
import Derived.Test.YtffdiiolgflbkaaZbi
import Derived.Test.YtffdiiolgflbkaaZax

/- wakes (layer 15's): a job that the document fixes. -/
namespace Go.Proofs.Ytffdiiolgflbkaa
open Go.RowKit Go.Maps
open VS
attribute [local go_sem ↓] Go.wp_at_zero Go.wp_at_succ

def p1 : M := ⟨0, 1, 1, ⟨#[97]⟩, ⟨#[99]⟩⟩
def p2 : M := ⟨0, 2, 1, ⟨#[98]⟩, ⟨#[102]⟩⟩
def p3 : M := ⟨1, 3, 1, ⟨#[101]⟩, ⟨#[107]⟩⟩
def vW : V := ⟨[p2, p1, p3], 0, 4, 0⟩
theorem a5 : apply V.none ⟨[p1, p2, p3], [], 0, 4, 0⟩ = (vW, 0) := by rfl
theorem vW_lev : lev 0 vW.L = [p2, p1] := by rfl
theorem vW_over {lo hi : ByteArray} (h1 : IsLo [p2, p1] lo) (h2 : IsHi [p2, p1] hi) : over (1 : Int) lo hi vW.L = [p3] := by
  obtain ⟨h3, m, hm, rfl⟩ := And.intro h1.1 h1.2
  obtain ⟨h5, q, hq, rfl⟩ := And.intro h2.1 h2.2
  simp only [List.mem_cons, List.not_mem_nil, or_false] at hm hq
  have hx := h5 p2 (by simp)
  rcases hm with rfl | rfl <;> rcases hq with rfl | rfl <;> first | rfl | (exact absurd hx (by decide))

theorem three_in (W : World) (b : Nat) (hr : W.heap[b]? = some (.cells #[.int .i64 0, .int .i64 1, .int .i64 1, .string ⟨#[97]⟩, .string ⟨#[99]⟩, .int .i64 0, .int .i64 2, .int .i64 1, .string ⟨#[98]⟩, .string ⟨#[102]⟩, .int .i64 1, .int .i64 3, .int .i64 1, .string ⟨#[101]⟩, .string ⟨#[107]⟩] 81 (0, 0))) :
    EdIn W (some ⟨b, 0, none⟩) 3 3 none 0 0 ⟨[p1, p2, p3], [], 0, 4, 0⟩ :=
  ⟨⟨fun m hm => by
      simp only [List.mem_cons, List.not_mem_nil, or_false] at hm
      rcases hm with rfl | rfl | rfl <;> exact ⟨i64_lit (by decide), i64_lit (by decide), i64_lit (by decide), by decide, by decide⟩,
    fun _ => ⟨b, 0, rfl, (Array.getElem?_eq_some_iff.1 hr).1, fun j hj => by
      have hj2 : j < 3 := hj
      rcases (by omega : j = 0 ∨ j = 1 ∨ j = 2) with rfl | rfl | rfl <;> simp [World.cell?, hr, p1, p2, p3]⟩⟩, rfl, Nat.le_refl _, ⟨by simp, by simp⟩, rfl, Nat.le_refl _, i64_lit (by decide), i64_lit (by decide), i64_lit (by decide)⟩

set_option maxHeartbeats 1000000 in
theorem wakeA (W : World) (b : Nat) (hr : W.heap[b]? = some (.cells #[.int .i64 0, .int .i64 1, .int .i64 1, .string ⟨#[97]⟩, .string ⟨#[99]⟩, .int .i64 0, .int .i64 2, .int .i64 1, .string ⟨#[98]⟩, .string ⟨#[102]⟩, .int .i64 1, .int .i64 3, .int .i64 1, .string ⟨#[101]⟩, .string ⟨#[107]⟩] 81 (0, 0))) :
    Calls Try.prog 10 #[.agg #[.slice none 0 0, .slice none 0 0, .slice none 0 0, .slice none 0 0, .int .i64 0, .int .i64 0, .int .i64 0], .agg #[.slice (some ⟨b, 0, none⟩) 3 3, .slice none 0 0, .int .i64 0, .int .i64 4, .int .i64 0]] W fun r w' =>
      ∃ (A : Nat → Option Addr) (N C : Nat → Nat), r = .returned (.tuple #[.agg #[.slice (A 0) (N 0) (C 0), .slice (A 1) (N 1) (C 1), .slice (A 2) (N 2) (C 2), .slice (A 3) (N 3) (C 3), .int .i64 0, .int .i64 4, .int .i64 0], .int .i64 0]) ∧ VerIn w' A N C vW.L ∧ Ok vW ∧ Below W.heap.size W w' := by
  refine (apply_any nilA nilN nilN V.none (some ⟨b, 0, none⟩) 3 3 none 0 0 _ W (VerIn.nil W) ok_none (by decide) (three_in W b hr) (by decide) (by decide)).mono ?_
  rintro r w' ⟨⟨A, N, C, rfl, hv, hfr⟩, hb⟩
  have hf := apply_fine ok_none ⟨[p1, p2, p3], [], 0, 4, 0⟩
  rw [a5] at hv hf ⊢
  exact ⟨A, N, C, rfl, hv, hf, hb⟩

set_option maxHeartbeats 1000000 in
theorem wakeP (W : World) (A : Nat → Option Addr) (N C : Nat → Nat) (hv : VerIn W A N C vW.L) (hok : Ok vW) :
    Calls Try.prog 24 #[.agg #[.slice (A 0) (N 0) (C 0), .slice (A 1) (N 1) (C 1), .slice (A 2) (N 2) (C 2), .slice (A 3) (N 3) (C 3), .int .i64 0, .int .i64 4, .int .i64 0], .agg #[.int .i64 2, .int .i64 0, .int .i64 0], .agg #[.string ⟨#[]⟩, .string ⟨#[]⟩, .string ⟨#[]⟩, .string ⟨#[]⟩]] W fun r w' =>
      ∃ A1 c1 b9 o9 c2, r = .returned (.tuple #[.agg #[.int .i64 0, .slice A1 2 c1, .slice (some ⟨b9, o9, none⟩) 1 c2, .bool true], .bool true]) ∧ b9 < w'.heap.size ∧ w'.cell? ⟨b9, o9, none⟩ = some (.int .i64 3) ∧ Below W.heap.size W w' := by
  refine (pick_any A N C vW 2 0 0 (fun _ => ⟨#[]⟩) W hv (by decide) hok (i64_lit (by decide))).mono ?_
  rintro r w' ⟨ho, hb⟩
  rcases ho with ⟨-, hn⟩ | ⟨k, jv, rfl, hj, hk⟩
  · exact absurd (by rw [vW_lev]; decide) hn
  · obtain rfl := hk (by rw [vW_lev]; decide)
    obtain ⟨fr, tw, bt, A1, c1, A2, c2, h0, h1, h2, h3, h4, h5, h6, h7, h8, h9⟩ := hj
    have hfr := h6 rfl
    rw [vW_lev] at hfr
    subst hfr
    obtain ⟨lo, hi, hl, hh, htw⟩ := h5.span
    have htw2 : tw = [p3] := htw.trans (vW_over hl hh)
    subst htw2
    have hbt := h7 (by decide)
    subst hbt
    obtain ⟨b9, o9, rfl, hb9, hc9⟩ := h2.2 (by decide)
    refine ⟨A1, c1, b9, o9, c2, ?_, hb9, hc9 0 (by decide), hb⟩
    have := Ending.returned.inj h0
    rw [this]
    rfl

set_option maxRecDepth 100000 in
set_option maxHeartbeats 1000000 in
theorem place15 (lv q : Int) (s t : ByteArray) (w : World) : Calls Try.prog 52 #[.int .i64 lv, .int .i64 q, .string s, .string t] w fun r w' => r = .returned (.agg #[.int .i64 lv, .int .i64 q, .int .i64 1, .string s, .string t]) ∧ Below w.heap.size w w' := by
  go_enter Try.func52, Try.ntmps52
  go_wp2_with fail
  refine bodyPost_ret (results_cell_row (P := Try.prog) rfl _ _ w.heap.size _ _ _ _ rfl (heap_alloc_new w _) Try.underlying81 rfl rfl) rfl ?_
  exact ⟨rfl, (Below.refl _ w).alloc (Nat.le_refl _) _⟩

set_option maxRecDepth 100000 in
set_option maxHeartbeats 2000000 in
theorem wakes15_any (w : World) : Calls Try.prog 25 #[] w fun r w' => r = .returned (.bool true) ∧ Below w.heap.size w w' := by
  have HPL := Lib.hid place15
  have HPP := Lib.hid wakeP
  go_enter Try.func25, Try.ntmps25
  go_wp2_with fail
  refine (HPL.out 0 1 _ _ w).mono ?_
  rintro r w1 ⟨rfl, hb1⟩
  go_wp2_with fail
  refine (HPL.out 0 2 _ _ w1).mono ?_
  rintro r w2 ⟨rfl, hb2⟩
  go_wp2_with fail
  refine (HPL.out 1 3 _ _ w2).mono ?_
  rintro r w3 ⟨rfl, hb3⟩
  have HB3 : Hid (Below w.heap.size w w3) := Lib.hid ((hb1.trans (hb2.mono hb1.size)).trans (hb3.mono (Nat.le_trans hb1.size hb2.size)))
  clear hb1 hb2 hb3
  go_wp2_with fail
  have hba := (Below.refl w3.heap.size w3).alloc (Nat.le_refl _) (.cells #[.int .i64 0, .int .i64 1, .int .i64 1, .string ⟨#[97]⟩, .string ⟨#[99]⟩, .int .i64 0, .int .i64 2, .int .i64 1, .string ⟨#[98]⟩, .string ⟨#[102]⟩, .int .i64 1, .int .i64 3, .int .i64 1, .string ⟨#[101]⟩, .string ⟨#[107]⟩] 81)
  refine (wakeA _ w3.heap.size (heap_alloc_new w3 _)).mono ?_
  generalize w3.alloc (.cells #[.int .i64 0, .int .i64 1, .int .i64 1, .string ⟨#[97]⟩, .string ⟨#[99]⟩, .int .i64 0, .int .i64 2, .int .i64 1, .string ⟨#[98]⟩, .string ⟨#[102]⟩, .int .i64 1, .int .i64 3, .int .i64 1, .string ⟨#[101]⟩, .string ⟨#[107]⟩] 81) = w4 at hba ⊢
  rintro r w5 ⟨A, N, C, rfl, hv, hok, hb5⟩
  have HB5 : Hid (Below w.heap.size w w5) := Lib.hid ((HB3.out.trans (hba.mono HB3.out.size)).trans (hb5.mono (Nat.le_trans HB3.out.size hba.size)))
  clear hba hb5
  go_upto_region 3 with fail
  have hb6 := (Below.refl w5.heap.size w5).alloc (Nat.le_refl _) (.cells #[.slice (A 0) (N 0) (C 0), .slice (A 1) (N 1) (C 1), .slice (A 2) (N 2) (C 2), .slice (A 3) (N 3) (C 3), .int .i64 0, .int .i64 4, .int .i64 0] 26)
  have hr6 := heap_alloc_new w5 (.cells #[.slice (A 0) (N 0) (C 0), .slice (A 1) (N 1) (C 1), .slice (A 2) (N 2) (C 2), .slice (A 3) (N 3) (C 3), .int .i64 0, .int .i64 4, .int .i64 0] 26)
  have HV6 := Lib.hid (hv.below hb6)
  generalize w5.alloc (.cells #[.slice (A 0) (N 0) (C 0), .slice (A 1) (N 1) (C 1), .slice (A 2) (N 2) (C 2), .slice (A 3) (N 3) (C 3), .int .i64 0, .int .i64 4, .int .i64 0] 26) = w6 at hb6 hr6 HV6 ⊢
  obtain ⟨x, hx⟩ : ∃ x, w5.heap.size = x := ⟨_, rfl⟩
  have HB6 : Hid (Below w.heap.size w w6) := Lib.hid (HB5.out.trans (hb6.mono HB5.out.size))
  rw [hx] at hr6 ⊢
  have y0 : w6.cell? ⟨x, 0, none⟩ = some (.slice (A 0) (N 0) (C 0)) := cell_of_row _ _ _ _ _ _ hr6
  have y1 : w6.cell? ⟨x, 1, none⟩ = some (.slice (A 1) (N 1) (C 1)) := cell_of_row _ _ _ _ _ _ hr6
  have y2 : w6.cell? ⟨x, 2, none⟩ = some (.slice (A 2) (N 2) (C 2)) := cell_of_row _ _ _ _ _ _ hr6
  have y3 : w6.cell? ⟨x, 3, none⟩ = some (.slice (A 3) (N 3) (C 3)) := cell_of_row _ _ _ _ _ _ hr6
  have y4 : w6.cell? ⟨x, 4, none⟩ = some (.int .i64 0) := cell_of_row _ _ _ _ _ _ hr6
  have y5 : w6.cell? ⟨x, 5, none⟩ = some (.int .i64 4) := cell_of_row _ _ _ _ _ _ hr6
  have y6 : w6.cell? ⟨x, 6, none⟩ = some (.int .i64 0) := cell_of_row _ _ _ _ _ _ hr6
  clear hb6 hr6 hv hx
  go_wp2_with fail
  refine (HPP.out w6 A N C HV6.out hok).mono ?_
  rintro r w7 ⟨A1, c1, b9, o9, c2, rfl, hlt, hc9, hb7⟩
  have HB7 : Hid (Below w.heap.size w w7) := Lib.hid (HB6.out.trans (hb7.mono HB6.out.size))
  clear hb7 y0 y1 y2 y3 y4 y5 y6
  go_upto_region 4 with fail
  have hb8 := (Below.refl w7.heap.size w7).alloc (Nat.le_refl _) (.cells #[.int .i64 0, .slice A1 2 c1, .slice (some ⟨b9, o9, none⟩) 1 c2, .bool true] 76)
  have hr8 := heap_alloc_new w7 (.cells #[.int .i64 0, .slice A1 2 c1, .slice (some ⟨b9, o9, none⟩) 1 c2, .bool true] 76)
  have h9 := (hb8.cell (p := ⟨b9, o9, none⟩) hlt).trans hc9
  generalize w7.alloc (.cells #[.int .i64 0, .slice A1 2 c1, .slice (some ⟨b9, o9, none⟩) 1 c2, .bool true] 76) = w8 at hb8 hr8 h9 ⊢
  obtain ⟨z, hz⟩ : ∃ x, w7.heap.size = x := ⟨_, rfl⟩
  have HB8 : Hid (Below w.heap.size w w8) := Lib.hid (HB7.out.trans (hb8.mono HB7.out.size))
  rw [hz] at hr8 ⊢
  have z1 : w8.cell? ⟨z, 1, none⟩ = some (.slice A1 2 c1) := cell_of_row _ _ _ _ _ _ hr8
  have z2 : w8.cell? ⟨z, 2, none⟩ = some (.slice (some ⟨b9, o9, none⟩) 1 c2) := cell_of_row _ _ _ _ _ _ hr8
  have z3 : w8.cell? ⟨z, 3, none⟩ = some (.bool true) := cell_of_row _ _ _ _ _ _ hr8
  have HRM := Lib.hid (room_any 0 3 4 2 w8 (by decide) (by decide) (i64_lit (by decide)))
  have er : roomGo (max 4 1) (2 - 1) (min (max 3 1) most) = 12 := by decide
  rw [er] at HRM
  clear hb8 hr8 hz hlt hc9
  go_wp2_with fail
  refine HRM.out.mono ?_
  rintro r w9 ⟨rfl, hb9⟩
  go_wp2_with fail
  go_ret
  exact ⟨rfl, HB8.out.trans (hb9.mono HB8.out.size)⟩
end Go.Proofs.Ytffdiiolgflbkaa

