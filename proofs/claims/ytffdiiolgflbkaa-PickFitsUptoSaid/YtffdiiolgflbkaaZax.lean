/- Texts joined by bundle.py: Lw. -/
import Derived.Test.YtffdiiolgflbkaaZas
import Derived.Deep.CutRange

/- wakes: what the document fixes. -/
namespace Go.Proofs.Ytffdiiolgflbkaa
open Go.RowKit Go.Maps
open VS
attribute [local go_sem ↓] Go.wp_at_zero Go.wp_at_succ

def m3 : M := ⟨0, 3, 9, ⟨#[97]⟩, ⟨#[99]⟩⟩
def m4 : M := ⟨0, 4, 9, ⟨#[98]⟩, ⟨#[98]⟩⟩
def n3 : M := ⟨1, 3, 9, ⟨#[97]⟩, ⟨#[99]⟩⟩
def n4 : M := ⟨1, 4, 9, ⟨#[98]⟩, ⟨#[98]⟩⟩
theorem a1 : apply V.none ⟨[m3, m4], [], 0, 5, 0⟩ = (⟨[m4, m3], 0, 5, 0⟩, 0) := by rfl
theorem a2 : apply V.none ⟨[n3, n4], [], 0, 5, 0⟩ = (V.none, 17) := by rfl
theorem i64_lit {z : Int} (h : -100 ≤ z ∧ z ≤ 100) : i64 z := by unfold i64; omega

theorem in4_far {w w' : World} {A : Option Addr} {l : List M} (h : In4 w A l) (hs : w.heap.size ≤ w'.heap.size) (hb : ∀ a, A = some a → a.block < w.heap.size → w'.heap[a.block]? = w.heap[a.block]?) : In4 w' A l :=
  ⟨h.wf, fun hl => by
    obtain ⟨b, off, rfl, hlt, hc⟩ := h.at_ hl
    have e := hb ⟨b, off, none⟩ rfl hlt
    have e2 : ∀ k, w'.cell? ⟨b, k, none⟩ = w.cell? ⟨b, k, none⟩ := fun k => by simp only [World.cell?, e]
    refine ⟨b, off, rfl, Nat.lt_of_lt_of_le hlt hs, fun j hj => ?_⟩
    simpa only [e2] using hc j hj⟩
theorem ver_far {w w' : World} {A : Nat → Option Addr} {N C : Nat → Nat} {L : List M} (h : VerIn w A N C L) (hs : w.heap.size ≤ w'.heap.size) (hb : ∀ k, k < 4 → ∀ a, A k = some a → a.block < w.heap.size → w'.heap[a.block]? = w.heap[a.block]?) : VerIn w' A N C L :=
  ⟨h.len, h.cap, fun k hk => in4_far (h.at_ k hk) hs (hb k hk)⟩

theorem two_in (W : World) (b : Nat) (lv : Int) (hlv : lv = 0 ∨ lv = 1) (hr : W.heap[b]? = some (.cells #[.int .i64 lv, .int .i64 3, .int .i64 9, .string ⟨#[97]⟩, .string ⟨#[99]⟩, .int .i64 lv, .int .i64 4, .int .i64 9, .string ⟨#[98]⟩, .string ⟨#[98]⟩] 81 (0, 0))) :
    EdIn W (some ⟨b, 0, none⟩) 2 2 none 0 0 ⟨[⟨lv, 3, 9, ⟨#[97]⟩, ⟨#[99]⟩⟩, ⟨lv, 4, 9, ⟨#[98]⟩, ⟨#[98]⟩⟩], [], 0, 5, 0⟩ := by
  rcases hlv with rfl | rfl
  all_goals exact ⟨⟨fun m hm => by
      simp only [List.mem_cons, List.not_mem_nil, or_false] at hm
      rcases hm with rfl | rfl <;> exact ⟨i64_lit (by decide), i64_lit (by decide), i64_lit (by decide), by decide, by decide⟩,
    fun _ => ⟨b, 0, rfl, (Array.getElem?_eq_some_iff.1 hr).1, fun j hj => by
      have hj2 : j < 2 := hj
      rcases (by omega : j = 0 ∨ j = 1) with rfl | rfl <;> simp [World.cell?, hr]⟩⟩, rfl, Nat.le_refl _, ⟨by simp, by simp⟩, rfl, Nat.le_refl _, i64_lit (by decide), i64_lit (by decide), i64_lit (by decide)⟩

theorem one_drew {G wr : World} {x : Nat} {o1 : Obj} (h1 : G.heap[x]? = some o1) (h3 : ∀ k, k ≠ x → G.heap[k]? = wr.heap[k]?) (h4 : Below 0 wr G) : G.drew.heap[x]? = some o1 ∧ (∀ k, k ≠ x → G.drew.heap[k]? = wr.heap[k]?) ∧ Below 0 wr G.drew := ⟨h1, h3, h4.drew⟩
theorem sorted_two {ys : List Int} (hp : ys.Perm [4, 3]) (hs : ys.Pairwise (fun a b => a ≤ b)) : ys = [3, 4] := by
  have hl := hp.length_eq
  match ys, hl with
  | [a, b], _ =>
    have ha : a ∈ [4, 3] := hp.subset (by simp)
    have hb : b ∈ [4, 3] := hp.subset (by simp)
    have hn : [a, b].Nodup := hp.nodup_iff.2 (by decide)
    simp at ha hb hn hs
    have e1 : a = 3 := by omega
    have e2 : b = 4 := by omega
    rw [e1, e2]

set_option maxHeartbeats 1000000 in
theorem wake1 (W : World) (b : Nat) (hr : W.heap[b]? = some (.cells #[.int .i64 0, .int .i64 3, .int .i64 9, .string ⟨#[97]⟩, .string ⟨#[99]⟩, .int .i64 0, .int .i64 4, .int .i64 9, .string ⟨#[98]⟩, .string ⟨#[98]⟩] 81 (0, 0))) :
    Calls Try.prog 10 #[.agg #[.slice none 0 0, .slice none 0 0, .slice none 0 0, .slice none 0 0, .int .i64 0, .int .i64 0, .int .i64 0], .agg #[.slice (some ⟨b, 0, none⟩) 2 2, .slice none 0 0, .int .i64 0, .int .i64 5, .int .i64 0]] W fun r w' =>
      ∃ b0 o0 C0 A1 N1 C1 A2 N2 C2 A3 N3 C3, r = .returned (.tuple #[.agg #[.slice (some ⟨b0, o0, none⟩) 2 C0, .slice A1 N1 C1, .slice A2 N2 C2, .slice A3 N3 C3, .int .i64 0, .int .i64 5, .int .i64 0], .int .i64 0]) ∧ (W.heap.size ≤ b0 ∧ b0 < w'.heap.size) ∧ w'.cell? ⟨b0, o0, none⟩ = some (.int .i64 4) ∧ Below W.heap.size W w' ∧
        ∀ W1, w'.heap.size ≤ W1.heap.size → (∀ z, W.heap.size ≤ z → z < w'.heap.size → W1.heap[z]? = w'.heap[z]?) → Calls Try.prog 22 #[.agg #[.slice (some ⟨b0, o0, none⟩) 2 C0, .slice A1 N1 C1, .slice A2 N2 C2, .slice A3 N3 C3, .int .i64 0, .int .i64 5, .int .i64 0]] W1 fun r w2 => ∃ b9 o9 c9, r = .returned (.slice (some ⟨b9, o9, none⟩) 2 c9) ∧ w2.cell? ⟨b9, o9, none⟩ = some (.int .i64 3) ∧ Below W1.heap.size W1 w2 := by
  refine (apply_any nilA nilN nilN V.none (some ⟨b, 0, none⟩) 2 2 none 0 0 _ W (VerIn.nil W) ok_none (by decide) (two_in W b 0 (.inl rfl) hr) (by decide) (by decide)).mono ?_
  rintro r w' ⟨⟨A, N, C, rfl, hv, hfr⟩, hb⟩
  have e1 : apply V.none ⟨[⟨0, 3, 9, ⟨#[97]⟩, ⟨#[99]⟩⟩, ⟨0, 4, 9, ⟨#[98]⟩, ⟨#[98]⟩⟩], [], 0, 5, 0⟩ = (⟨[m4, m3], 0, 5, 0⟩, 0) := a1
  rw [e1] at hv ⊢
  simp only at hv ⊢
  have hn : N 0 = 2 := hv.len 0 (by decide)
  have h0 := hv.at_ 0 (by decide)
  obtain ⟨b0, o0, hA, hlt, hc⟩ := h0.at_ (by decide)
  obtain ⟨c0, -⟩ := hc 0 (by decide)
  refine ⟨b0, o0, C 0, A 1, N 1, C 1, A 2, N 2, C 2, A 3, N 3, C 3, ?_, ⟨hfr 0 (by decide) _ hA, hlt⟩, ?_, hb, fun W1 hs1 hW => ?_⟩
  · unfold verV
    rw [hA, hn]
  · rw [Nat.zero_mul, Nat.add_zero] at c0
    exact c0
  · have hf := pfiles_any A N C [m4, m3] 0 5 0 W1 (ver_far hv hs1 fun k hk a ha hlt => hW _ (hfr k hk a ha) hlt) (by decide)
    rw [hA, hn] at hf
    refine hf.mono ?_
    rintro r w2 ⟨v, ys, rfl, hp, hs, ho, hb2⟩
    have hy := sorted_two (ys := ys) hp hs
    subst hy
    obtain ⟨B, d, rfl, hin, -, -⟩ := own_nums (l := [3, 4]) (by intro z hz; simp at hz; rcases hz with rfl | rfl <;> exact i64_lit (by decide)) rfl ho
    obtain ⟨b9, o9, rfl, -, hc9⟩ := hin.2 (by decide)
    exact ⟨b9, o9, d, rfl, by simpa using hc9 0 (by decide), hb2⟩

theorem wake2 (W : World) (b : Nat) (hr : W.heap[b]? = some (.cells #[.int .i64 1, .int .i64 3, .int .i64 9, .string ⟨#[97]⟩, .string ⟨#[99]⟩, .int .i64 1, .int .i64 4, .int .i64 9, .string ⟨#[98]⟩, .string ⟨#[98]⟩] 81 (0, 0))) :
    Calls Try.prog 10 #[.agg #[.slice none 0 0, .slice none 0 0, .slice none 0 0, .slice none 0 0, .int .i64 0, .int .i64 0, .int .i64 0], .agg #[.slice (some ⟨b, 0, none⟩) 2 2, .slice none 0 0, .int .i64 0, .int .i64 5, .int .i64 0]] W fun r w' =>
      ∃ A0 N0 C0 A1 N1 C1 A2 N2 C2 A3 N3 C3, r = .returned (.tuple #[.agg #[.slice A0 N0 C0, .slice A1 N1 C1, .slice A2 N2 C2, .slice A3 N3 C3, .int .i64 0, .int .i64 0, .int .i64 0], .int .i64 17]) ∧ Below W.heap.size W w' := by
  refine (apply_any nilA nilN nilN V.none (some ⟨b, 0, none⟩) 2 2 none 0 0 _ W (VerIn.nil W) ok_none (by decide) (two_in W b 1 (.inr rfl) hr) (by decide) (by decide)).mono ?_
  rintro r w' ⟨⟨A, N, C, rfl, hv, -⟩, hb⟩
  have e1 : apply V.none ⟨[⟨1, 3, 9, ⟨#[97]⟩, ⟨#[99]⟩⟩, ⟨1, 4, 9, ⟨#[98]⟩, ⟨#[98]⟩⟩], [], 0, 5, 0⟩ = (V.none, 17) := a2
  rw [e1]
  exact ⟨_, _, _, _, _, _, _, _, _, _, _, _, rfl, hb⟩

set_option maxRecDepth 100000 in
set_option maxHeartbeats 4000000 in
theorem wakes_any (w : World) : Calls Try.prog 13 #[] w fun r w' => r = .returned (.bool true) ∧ Below w.heap.size w w' := by
  go_enter Try.func13, Try.ntmps13
  go_wp2_with fail
  have hal : Below w.heap.size w ((w.alloc (.cells #[.int .i64 0, .int .i64 3, .int .i64 9, .string ⟨#[97]⟩, .string ⟨#[99]⟩, .int .i64 0, .int .i64 4, .int .i64 9, .string ⟨#[98]⟩, .string ⟨#[98]⟩] 81)).alloc (.cells #[.slice (some ⟨w.heap.size, 0, none⟩) 2 2, .slice none 0 0, .int .i64 0, .int .i64 5, .int .i64 0] 36)) := ((Below.refl _ w).alloc (Nat.le_refl _) _).alloc (by simp) _
  have hsz : ((w.alloc (.cells #[.int .i64 0, .int .i64 3, .int .i64 9, .string ⟨#[97]⟩, .string ⟨#[99]⟩, .int .i64 0, .int .i64 4, .int .i64 9, .string ⟨#[98]⟩, .string ⟨#[98]⟩] 81)).alloc (.cells #[.slice (some ⟨w.heap.size, 0, none⟩) 2 2, .slice none 0 0, .int .i64 0, .int .i64 5, .int .i64 0] 36)).heap.size = w.heap.size + 2 := by simp
  have hr0 : ((w.alloc (.cells #[.int .i64 0, .int .i64 3, .int .i64 9, .string ⟨#[97]⟩, .string ⟨#[99]⟩, .int .i64 0, .int .i64 4, .int .i64 9, .string ⟨#[98]⟩, .string ⟨#[98]⟩] 81)).alloc (.cells #[.slice (some ⟨w.heap.size, 0, none⟩) 2 2, .slice none 0 0, .int .i64 0, .int .i64 5, .int .i64 0] 36)).heap[w.heap.size]? = some (.cells #[.int .i64 0, .int .i64 3, .int .i64 9, .string ⟨#[97]⟩, .string ⟨#[99]⟩, .int .i64 0, .int .i64 4, .int .i64 9, .string ⟨#[98]⟩, .string ⟨#[98]⟩] 81 (0, 0)) := (Below.heap_alloc _ _ _ (by simp)).trans (heap_alloc_new w _)
  have hr1 : ((w.alloc (.cells #[.int .i64 0, .int .i64 3, .int .i64 9, .string ⟨#[97]⟩, .string ⟨#[99]⟩, .int .i64 0, .int .i64 4, .int .i64 9, .string ⟨#[98]⟩, .string ⟨#[98]⟩] 81)).alloc (.cells #[.slice (some ⟨w.heap.size, 0, none⟩) 2 2, .slice none 0 0, .int .i64 0, .int .i64 5, .int .i64 0] 36)).heap[w.heap.size + 1]? = some (.cells #[.slice (some ⟨w.heap.size, 0, none⟩) 2 2, .slice none 0 0, .int .i64 0, .int .i64 5, .int .i64 0] 36 (0, 0)) := by
    have := heap_alloc_new (w.alloc (.cells #[.int .i64 0, .int .i64 3, .int .i64 9, .string ⟨#[97]⟩, .string ⟨#[99]⟩, .int .i64 0, .int .i64 4, .int .i64 9, .string ⟨#[98]⟩, .string ⟨#[98]⟩] 81)) (.cells #[.slice (some ⟨w.heap.size, 0, none⟩) 2 2, .slice none 0 0, .int .i64 0, .int .i64 5, .int .i64 0] 36)
    simpa using this
  generalize (w.alloc (.cells #[.int .i64 0, .int .i64 3, .int .i64 9, .string ⟨#[97]⟩, .string ⟨#[99]⟩, .int .i64 0, .int .i64 4, .int .i64 9, .string ⟨#[98]⟩, .string ⟨#[98]⟩] 81)).alloc (.cells #[.slice (some ⟨w.heap.size, 0, none⟩) 2 2, .slice none 0 0, .int .i64 0, .int .i64 5, .int .i64 0] 36) = w0 at hal hsz hr0 hr1 ⊢
  obtain ⟨x, hx⟩ : ∃ x, w.heap.size = x := ⟨_, rfl⟩
  have HX := Lib.hid hx
  rw [hx] at hal hsz hr0 hr1 ⊢
  have HS0 := Lib.hid hsz
  have HAL := Lib.hid hal
  have HR0 := Lib.hid hr0
  have HR1 := Lib.hid hr1
  have HW1 := Lib.hid (wake1 w0 x hr0)
  have e0 : w0.cell? ⟨x + 1, 0, none⟩ = some (.slice (some ⟨x, 0, none⟩) 2 2) := cell_of_row _ _ _ _ _ _ hr1
  have e1 : w0.cell? ⟨x + 1, 1, none⟩ = some (.slice none 0 0) := cell_of_row _ _ _ _ _ _ hr1
  have e2 : w0.cell? ⟨x + 1, 2, none⟩ = some (.int .i64 0) := cell_of_row _ _ _ _ _ _ hr1
  have e3 : w0.cell? ⟨x + 1, 3, none⟩ = some (.int .i64 5) := cell_of_row _ _ _ _ _ _ hr1
  have e4 : w0.cell? ⟨x + 1, 4, none⟩ = some (.int .i64 0) := cell_of_row _ _ _ _ _ _ hr1
  clear hal hsz hr0 hr1 hx
  go_wp2_with fail
  refine HW1.out.mono ?_
  rintro r w1 ⟨b0, o0, C0, A1, N1, C1, A2, N2, C2, A3, N3, C3, rfl, hlt0, hc0, hb1, hfi⟩
  have HFI := Lib.hid hfi
  have HB1 := Lib.hid hb1
  have HC0 : Hid ((w0.heap.size ≤ b0 ∧ b0 < w1.heap.size) ∧ w1.cell? ⟨b0, o0, none⟩ = some (.int .i64 4)) := Lib.hid ⟨hlt0, hc0⟩
  clear hlt0 hc0 hb1 hfi e0 e1 e2 e3 e4
  go_upto_region 3 with fail
  have hb2 : Below (x + 2) w0 (w1.alloc (.cells #[.slice (some ⟨b0, o0, none⟩) 2 C0, .slice A1 N1 C1, .slice A2 N2 C2, .slice A3 N3 C3, .int .i64 0, .int .i64 5, .int .i64 0] 26)) := by
    rw [← HS0.out]
    exact HB1.out.alloc HB1.out.size _
  have hry := heap_alloc_new w1 (.cells #[.slice (some ⟨b0, o0, none⟩) 2 C0, .slice A1 N1 C1, .slice A2 N2 C2, .slice A3 N3 C3, .int .i64 0, .int .i64 5, .int .i64 0] 26)
  have hby : Below w1.heap.size w1 (w1.alloc (.cells #[.slice (some ⟨b0, o0, none⟩) 2 C0, .slice A1 N1 C1, .slice A2 N2 C2, .slice A3 N3 C3, .int .i64 0, .int .i64 5, .int .i64 0] 26)) := (Below.refl _ w1).alloc (Nat.le_refl _) _
  have hsy : (w1.alloc (.cells #[.slice (some ⟨b0, o0, none⟩) 2 C0, .slice A1 N1 C1, .slice A2 N2 C2, .slice A3 N3 C3, .int .i64 0, .int .i64 5, .int .i64 0] 26)).heap.size = w1.heap.size + 1 := by simp
  generalize w1.alloc (.cells #[.slice (some ⟨b0, o0, none⟩) 2 C0, .slice A1 N1 C1, .slice A2 N2 C2, .slice A3 N3 C3, .int .i64 0, .int .i64 5, .int .i64 0] 26) = w2 at hb2 hry hby hsy ⊢
  obtain ⟨y, hy⟩ : ∃ y, w1.heap.size = y := ⟨_, rfl⟩
  have hyx : x + 2 ≤ y := by have := HB1.out.size; have := HS0.out; omega
  have HY := Lib.hid hy
  have HYX := Lib.hid hyx
  have hr0 := (hb2.block x (by omega)).trans HR0.out
  have hr1 := (hb2.block (x + 1) (by omega)).trans HR1.out
  rw [hy] at hry hsy ⊢
  have HRY := Lib.hid hry
  have HR12 := Lib.hid hr1
  have HR02 := Lib.hid hr0
  have HB2 := Lib.hid hb2
  have HBY := Lib.hid hby
  have HSY := Lib.hid hsy
  have e0 : w2.cell? ⟨x + 1, 0, none⟩ = some (.slice (some ⟨x, 0, none⟩) 2 2) := cell_of_row _ _ _ _ _ _ hr1
  have p0 : w2.cell? ⟨x, 0, none⟩ = some (.int .i64 0) := cell_of_row _ _ _ _ _ _ hr0
  have p5 : w2.cell? ⟨x, 5, none⟩ = some (.int .i64 0) := cell_of_row _ _ _ _ _ _ hr0
  have pf0 : w2.frozen? ⟨x, 0, none⟩ = false := frozen_of_row _ _ _ _ _ hr0
  have pf5 : w2.frozen? ⟨x, 5, none⟩ = false := frozen_of_row _ _ _ _ _ hr0
  clear hb2 hry hby hsy hy hr0 hr1 hyx
  go_cut [] from 19 to 26 (fun wx => wx.heap[x]? = some (.cells #[.int .i64 1, .int .i64 3, .int .i64 9, .string ⟨#[97]⟩, .string ⟨#[99]⟩, .int .i64 1, .int .i64 4, .int .i64 9, .string ⟨#[98]⟩, .string ⟨#[98]⟩] 81 (0, 0)) ∧ (∀ k, k ≠ x → wx.heap[k]? = w2.heap[k]?) ∧ Below 0 w2 wx)
  case first =>
    rename_i J1 K1 hJ1 hK1
    have hq0 : ((w2.setCell ⟨x, 0, none⟩ (.int .i64 1)).setCell ⟨x, 5, none⟩ (.int .i64 1)).heap[x]? = some (.cells #[.int .i64 1, .int .i64 3, .int .i64 9, .string ⟨#[97]⟩, .string ⟨#[99]⟩, .int .i64 1, .int .i64 4, .int .i64 9, .string ⟨#[98]⟩, .string ⟨#[98]⟩] 81 (0, 0)) := by
      have := Lib.heap_setCell_same (i := 5) (Lib.heap_setCell_same (i := 0) HR02.out (.int .i64 1)) (.int .i64 1)
      simpa using this
    have HQ := Lib.hid (one_drew hq0 (fun k hk => (Below.heap_setCell _ ⟨x, 5, none⟩ (.int .i64 1) k hk).trans (Below.heap_setCell w2 ⟨x, 0, none⟩ (.int .i64 1) k hk)) (((Below.refl 0 w2).setCell (p := ⟨x, 0, none⟩) (Nat.zero_le _) (.int .i64 1)).setCell (p := ⟨x, 5, none⟩) (Nat.zero_le _) (.int .i64 1)))
    clear hq0
    go_region
    refine hK1 _ _ (Met.intro (hJ1 _ _ ?_))
    (repeat apply Exists.intro)
    refine ⟨?_, rfl⟩
    with_reducible exact HQ.out
  case rest =>
  obtain ⟨hx0, hxk, hx4⟩ := hcut
  rename World => w3
  have hr1 := (hxk (x + 1) (by omega)).trans HR12.out
  have hry := (hxk y (by have := HYX.out; omega)).trans HRY.out
  have HRY3 := Lib.hid hry
  have HW2 := Lib.hid (wake2 w3 x hx0)
  have HX4 : Hid (Below 0 w2 w3 ∧ ∀ k, k ≠ x → w3.heap[k]? = w2.heap[k]?) := Lib.hid ⟨hx4, hxk⟩
  have k0 : w3.cell? ⟨x + 1, 0, none⟩ = some (.slice (some ⟨x, 0, none⟩) 2 2) := cell_of_row _ _ _ _ _ _ hr1
  have k1 : w3.cell? ⟨x + 1, 1, none⟩ = some (.slice none 0 0) := cell_of_row _ _ _ _ _ _ hr1
  have k2 : w3.cell? ⟨x + 1, 2, none⟩ = some (.int .i64 0) := cell_of_row _ _ _ _ _ _ hr1
  have k3 : w3.cell? ⟨x + 1, 3, none⟩ = some (.int .i64 5) := cell_of_row _ _ _ _ _ _ hr1
  have k4 : w3.cell? ⟨x + 1, 4, none⟩ = some (.int .i64 0) := cell_of_row _ _ _ _ _ _ hr1
  clear hxk hx4 hr1 hry hx0 e0 p0 p5 pf0 pf5
  go_wp2_with fail
  refine HW2.out.mono ?_
  rintro r w4 ⟨B0, M0, D0, B1, M1, D1, B2, M2, D2, B3, M3, D3, rfl, hb4⟩
  have HB4 := Lib.hid hb4
  clear hb4 k0 k1 k2 k3 k4
  go_upto_region 5 with fail
  have hb5 : Below w3.heap.size w3 (w4.alloc (.cells #[.slice B0 M0 D0, .slice B1 M1 D1, .slice B2 M2 D2, .slice B3 M3 D3, .int .i64 0, .int .i64 0, .int .i64 0] 26)) := HB4.out.alloc HB4.out.size _
  generalize w4.alloc (.cells #[.slice B0 M0 D0, .slice B1 M1 D1, .slice B2 M2 D2, .slice B3 M3 D3, .int .i64 0, .int .i64 0, .int .i64 0] 26) = w5 at hb5 ⊢
  have HS3 : Hid (y + 1 ≤ w3.heap.size) := Lib.hid (by have := HX4.out.1.size; have := HSY.out; omega)
  have HLIV : Hid (∀ z, x < z → z < w1.heap.size → w5.heap[z]? = w1.heap[z]?) := Lib.hid fun z h1 h2 => (hb5.block z (by have := HS3.out; have := HY.out; omega)).trans ((HX4.out.2 z (by omega)).trans (HBY.out.block z h2))
  have HFO := Lib.hid (HFI.out w5 (by have := hb5.size; have := HS3.out; have := HY.out; omega) fun z h1 h2 => HLIV.out z (by have := HS0.out; omega) h2)
  have hry := (hb5.block y (by have := HS3.out; omega)).trans HRY3.out
  have HRY5 := Lib.hid hry
  have HB5 := Lib.hid hb5
  have m0 : w5.cell? ⟨y, 0, none⟩ = some (.slice (some ⟨b0, o0, none⟩) 2 C0) := cell_of_row _ _ _ _ _ _ hry
  have m1 : w5.cell? ⟨y, 1, none⟩ = some (.slice A1 N1 C1) := cell_of_row _ _ _ _ _ _ hry
  have m2 : w5.cell? ⟨y, 2, none⟩ = some (.slice A2 N2 C2) := cell_of_row _ _ _ _ _ _ hry
  have m3 : w5.cell? ⟨y, 3, none⟩ = some (.slice A3 N3 C3) := cell_of_row _ _ _ _ _ _ hry
  have m4 : w5.cell? ⟨y, 4, none⟩ = some (.int .i64 0) := cell_of_row _ _ _ _ _ _ hry
  have m5 : w5.cell? ⟨y, 5, none⟩ = some (.int .i64 5) := cell_of_row _ _ _ _ _ _ hry
  have m6 : w5.cell? ⟨y, 6, none⟩ = some (.int .i64 0) := cell_of_row _ _ _ _ _ _ hry
  clear hb5 hry
  go_wp2_with fail
  refine HFO.out.mono ?_
  rintro r w6 ⟨b9, o9, c9, rfl, hc9, hb6⟩
  have hry := (hb6.block y (by have := HB5.out.size; have := HS3.out; omega)).trans HRY5.out
  have hcb : w6.cell? ⟨b0, o0, none⟩ = some (.int .i64 4) := by
    rw [← HC0.out.2]
    have h1 : w6.heap[b0]? = w1.heap[b0]? := (hb6.block b0 (by have := HB5.out.size; have := HS3.out; have := HY.out; have := HC0.out.1; omega)).trans (HLIV.out b0 (by have := HC0.out.1; have := HS0.out; omega) HC0.out.1.2)
    simp only [World.cell?, h1]
  have HEND : Hid (Below w.heap.size w w6) := Lib.hid (by
    have h1 : Below x w2 w3 := ⟨HX4.out.1.os, HX4.out.1.tape, HX4.out.1.output, HX4.out.1.size, fun k hk => HX4.out.2 k (by omega)⟩
    have hs3 := HS3.out
    have hyx := HYX.out
    have hs5 := HB5.out.size
    rw [HX.out]
    exact (((HAL.out.trans (HB2.out.mono (by omega))).trans h1).trans (HB5.out.mono (by omega))).trans (hb6.mono (by omega)))
  have z0 : w6.cell? ⟨y, 0, none⟩ = some (.slice (some ⟨b0, o0, none⟩) 2 C0) := cell_of_row _ _ _ _ _ _ hry
  clear hb6 hry m0 m1 m2 m3 m4 m5 m6
  go_wp2_with fail
  go_ret
  exact ⟨rfl, HEND.out⟩
end Go.Proofs.Ytffdiiolgflbkaa

