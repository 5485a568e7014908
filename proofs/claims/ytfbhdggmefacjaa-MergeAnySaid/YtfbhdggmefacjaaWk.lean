/- What the document fixes. -/
import Derived.Test.YtfbhdggmefacjaaCg
import Derived.Test.YtfbhdggmefacjaaHz
import Derived.Test.YtfbhdggmefacjaaRd
namespace Go.Proofs.Ytfbhdggmefacjaa
open Go.RowKit
open SK HP VB

def a3 : SK.E := ⟨⟨#[97]⟩, 3, true, ⟨#[]⟩, 0⟩
def b1 : SK.E := ⟨⟨#[98]⟩, 1, false, ⟨#[121]⟩, 0⟩
def a2 : SK.E := ⟨⟨#[97]⟩, 2, false, ⟨#[120]⟩, 0⟩
theorem wakes_mrg : mrg [[a3, b1], [a2]].flatten = [a3, a2, b1] := by decide +kernel
theorem wakes_vis2 : (vis 2 0 [a3, a2, b1]).length = 2 := by decide +kernel
theorem wakes_vis3 : (vis 3 0 [a3, a2, b1]).length = 1 := by decide +kernel
theorem wakes_cpt0 : (cpt [] 0 true [a3, a2, b1]).length = 1 := by decide +kernel
theorem wakes_cpt2 : (cpt [2] 0 true [a3, a2, b1]).length = 3 := by decide +kernel
theorem wakes_alive : alive a2 9 = true := by decide +kernel

theorem wf_a3 : a3.wf := by constructor <;> decide
theorem wf_b1 : b1.wf := by constructor <;> decide
theorem wf_a2 : a2.wf := by constructor <;> decide
theorem sorted_a3b1 : Sorted [a3, b1] := List.pairwise_cons.2 ⟨fun x hx => by
  rcases (by simpa using hx) with rfl
  decide +kernel, List.pairwise_singleton _ _⟩

set_option maxRecDepth 100000 in
set_option maxHeartbeats 4000000 in
theorem wakes_any (w : World) : Calls Try.prog 10 #[] w fun e w' => e = .returned (.bool true) ∧ Below w.heap.size w w' := by
  go_enter Try.func10, Try.ntmps10
  go_wp2_with fail
  have hr0 : (((w.alloc (.cells #[.string ⟨#[97]⟩, .int .i64 3, .bool true, .string ⟨#[]⟩, .int .i64 0, .string ⟨#[98]⟩, .int .i64 1, .bool false, .string ⟨#[121]⟩, .int .i64 0] 37)).alloc (.cells #[.string ⟨#[97]⟩, .int .i64 2, .bool false, .string ⟨#[120]⟩, .int .i64 0] 37)).alloc (.cells #[.slice (some ⟨w.heap.size, 0, none⟩) 2 2, .slice (some ⟨w.heap.size + 1, 0, none⟩) 1 1] 23)).heap[w.heap.size]? = some (.cells #[.string ⟨#[97]⟩, .int .i64 3, .bool true, .string ⟨#[]⟩, .int .i64 0, .string ⟨#[98]⟩, .int .i64 1, .bool false, .string ⟨#[121]⟩, .int .i64 0] 37 (0, 0)) := (Below.heap_alloc _ _ _ (by simp; omega)).trans ((Below.heap_alloc _ _ _ (by simp)).trans (heap_alloc_new w _))
  have hr1 : (((w.alloc (.cells #[.string ⟨#[97]⟩, .int .i64 3, .bool true, .string ⟨#[]⟩, .int .i64 0, .string ⟨#[98]⟩, .int .i64 1, .bool false, .string ⟨#[121]⟩, .int .i64 0] 37)).alloc (.cells #[.string ⟨#[97]⟩, .int .i64 2, .bool false, .string ⟨#[120]⟩, .int .i64 0] 37)).alloc (.cells #[.slice (some ⟨w.heap.size, 0, none⟩) 2 2, .slice (some ⟨w.heap.size + 1, 0, none⟩) 1 1] 23)).heap[w.heap.size + 1]? = some (.cells #[.string ⟨#[97]⟩, .int .i64 2, .bool false, .string ⟨#[120]⟩, .int .i64 0] 37 (0, 0)) := (Below.heap_alloc _ _ _ (by simp)).trans (by have := heap_alloc_new (w.alloc (.cells #[.string ⟨#[97]⟩, .int .i64 3, .bool true, .string ⟨#[]⟩, .int .i64 0, .string ⟨#[98]⟩, .int .i64 1, .bool false, .string ⟨#[121]⟩, .int .i64 0] 37)) (.cells #[.string ⟨#[97]⟩, .int .i64 2, .bool false, .string ⟨#[120]⟩, .int .i64 0] 37); simpa using this)
  have hr2 : (((w.alloc (.cells #[.string ⟨#[97]⟩, .int .i64 3, .bool true, .string ⟨#[]⟩, .int .i64 0, .string ⟨#[98]⟩, .int .i64 1, .bool false, .string ⟨#[121]⟩, .int .i64 0] 37)).alloc (.cells #[.string ⟨#[97]⟩, .int .i64 2, .bool false, .string ⟨#[120]⟩, .int .i64 0] 37)).alloc (.cells #[.slice (some ⟨w.heap.size, 0, none⟩) 2 2, .slice (some ⟨w.heap.size + 1, 0, none⟩) 1 1] 23)).heap[w.heap.size + 1 + 1]? = some (.cells #[.slice (some ⟨w.heap.size, 0, none⟩) 2 2, .slice (some ⟨w.heap.size + 1, 0, none⟩) 1 1] 23 (0, 0)) := by
    have := heap_alloc_new ((w.alloc (.cells #[.string ⟨#[97]⟩, .int .i64 3, .bool true, .string ⟨#[]⟩, .int .i64 0, .string ⟨#[98]⟩, .int .i64 1, .bool false, .string ⟨#[121]⟩, .int .i64 0] 37)).alloc (.cells #[.string ⟨#[97]⟩, .int .i64 2, .bool false, .string ⟨#[120]⟩, .int .i64 0] 37)) (.cells #[.slice (some ⟨w.heap.size, 0, none⟩) 2 2, .slice (some ⟨w.heap.size + 1, 0, none⟩) 1 1] 23)
    simpa using this
  have hb0 : Below w.heap.size w (((w.alloc (.cells #[.string ⟨#[97]⟩, .int .i64 3, .bool true, .string ⟨#[]⟩, .int .i64 0, .string ⟨#[98]⟩, .int .i64 1, .bool false, .string ⟨#[121]⟩, .int .i64 0] 37)).alloc (.cells #[.string ⟨#[97]⟩, .int .i64 2, .bool false, .string ⟨#[120]⟩, .int .i64 0] 37)).alloc (.cells #[.slice (some ⟨w.heap.size, 0, none⟩) 2 2, .slice (some ⟨w.heap.size + 1, 0, none⟩) 1 1] 23)) := (((Below.refl _ w).alloc (Nat.le_refl _) _).alloc (by simp) _).alloc (by simp; omega) _
  generalize ((w.alloc (.cells #[.string ⟨#[97]⟩, .int .i64 3, .bool true, .string ⟨#[]⟩, .int .i64 0, .string ⟨#[98]⟩, .int .i64 1, .bool false, .string ⟨#[121]⟩, .int .i64 0] 37)).alloc (.cells #[.string ⟨#[97]⟩, .int .i64 2, .bool false, .string ⟨#[120]⟩, .int .i64 0] 37)).alloc (.cells #[.slice (some ⟨w.heap.size, 0, none⟩) 2 2, .slice (some ⟨w.heap.size + 1, 0, none⟩) 1 1] 23) = w1 at hr0 hr1 hr2 hb0 ⊢
  have hl : ListsIn w1 (some ⟨w.heap.size + 1 + 1, 0, none⟩) [⟨some ⟨w.heap.size, 0, none⟩, 2, [a3, b1]⟩, ⟨some ⟨w.heap.size + 1, 0, none⟩, 1, [a2]⟩] := by
    refine ⟨fun x hx => ?_, fun _ => ⟨_, _, rfl, (Array.getElem?_eq_some_iff.1 hr2).1, fun j hj => ?_⟩⟩
    · rcases (by simpa using hx) with rfl | rfl
      · refine ⟨⟨fun e he => ?_, fun _ => ⟨_, _, rfl, (Array.getElem?_eq_some_iff.1 hr0).1, fun j hj => ?_⟩⟩, by simp⟩
        · rcases (by simpa using he) with rfl | rfl
          · exact wf_a3
          · exact wf_b1
        · rcases (by simp at hj; omega : j = 0 ∨ j = 1) with rfl | rfl <;> simp [World.cell?, hr0, a3, b1]
      · refine ⟨⟨fun e he => ?_, fun _ => ⟨_, _, rfl, (Array.getElem?_eq_some_iff.1 hr1).1, fun j hj => ?_⟩⟩, by simp⟩
        · rcases (by simpa using he) with rfl
          exact wf_a2
        · obtain rfl : j = 0 := by simpa using hj
          simp [World.cell?, hr1, a2]
    · rcases (by simp at hj; omega : j = 0 ∨ j = 1) with rfl | rfl <;> simp [World.cell?, hr2]
  refine (merge_any (some ⟨w.heap.size + 1 + 1, 0, none⟩) 2 2 _ w1 rfl hl (by decide) (by
    intro x hx
    rcases (by simpa using hx) with rfl | rfl
    · exact sorted_a3b1
    · exact List.pairwise_singleton _ _) (by simp)).mono ?_
  rintro e w2 ⟨v, rfl, ho, hb2⟩
  simp only [List.map_cons, List.map_nil, wakes_mrg] at ho
  obtain ⟨A, c, rfl, hin, -, hc⟩ := own_ents (l := [a3, a2, b1]) (n := 3) (by
    intro x hx
    rcases (by simpa using hx) with rfl | rfl | rfl
    · exact wf_a3
    · exact wf_a2
    · exact wf_b1) rfl ho
  have HIN := Lib.hid hin
  have HB2 := Lib.hid (hb0.trans (hb2.mono hb0.size))
  clear hl ho hr0 hr1 hr2 hb0 hb2 hin
  obtain ⟨b, off, hA, hbl, hcc⟩ := HIN.out.at_ (by decide)
  subst hA
  have z1 := (hcc 1 (by decide)).2.1
  have HV2 : Hid (∀ W, Below w2.heap.size w2 W → Calls Try.prog 16 #[.slice (some ⟨b, off, none⟩) 3 c, .int .i64 2, .int .i64 0] W fun e w' => ∃ A' c', e = .returned (.slice A' 2 c') ∧ Below W.heap.size W w') := Lib.hid fun W hW => (visible_any _ 3 c [a3, a2, b1] 2 0 W rfl hc (by decide) (HIN.out.below hW)).mono fun e w' ⟨v, h1, h2, h3⟩ => by
    rw [wakes_vis2] at h2
    obtain ⟨A', c', rfl⟩ := own_shape h2
    exact ⟨A', c', h1, h3⟩
  have HV3 : Hid (∀ W, Below w2.heap.size w2 W → Calls Try.prog 16 #[.slice (some ⟨b, off, none⟩) 3 c, .int .i64 3, .int .i64 0] W fun e w' => ∃ A' c', e = .returned (.slice A' 1 c') ∧ Below W.heap.size W w') := Lib.hid fun W hW => (visible_any _ 3 c [a3, a2, b1] 3 0 W rfl hc (by decide) (HIN.out.below hW)).mono fun e w' ⟨v, h1, h2, h3⟩ => by
    rw [wakes_vis3] at h2
    obtain ⟨A', c', rfl⟩ := own_shape h2
    exact ⟨A', c', h1, h3⟩
  have HC0 : Hid (∀ W, Below w2.heap.size w2 W → Calls Try.prog 18 #[.slice (some ⟨b, off, none⟩) 3 c, .slice none 0 0, .int .i64 0, .bool true] W fun e w' => ∃ A' c', e = .returned (.slice A' 1 c') ∧ Below W.heap.size W w') := Lib.hid fun W hW => (compact_any _ none 3 c 0 0 [a3, a2, b1] [] 0 true W rfl hc (by decide) rfl (by decide) (HIN.out.below hW) ⟨by simp⟩).mono fun e w' ⟨v, h1, h2, h3⟩ => by
    rw [wakes_cpt0] at h2
    obtain ⟨A', c', rfl⟩ := own_shape h2
    exact ⟨A', c', h1, h3⟩
  have HC2 : Hid (∀ W, Below w2.heap.size w2 W → ∀ q, W.heap[q]? = some (.cells #[.int .i64 2] 2 (0, 0)) → Calls Try.prog 18 #[.slice (some ⟨b, off, none⟩) 3 c, .slice (some ⟨q, 0, none⟩) 1 1, .int .i64 0, .bool true] W fun e w' => ∃ A' c', e = .returned (.slice A' 3 c') ∧ Below W.heap.size W w') := Lib.hid fun W hW q hq => (compact_any _ _ 3 c 1 1 [a3, a2, b1] [2] 0 true W rfl hc (by decide) rfl (by decide) (HIN.out.below hW) ⟨fun _ => ⟨q, 0, rfl, (Array.getElem?_eq_some_iff.1 hq).1, fun j hj => by
      obtain rfl : j = 0 := by simpa using hj
      simp [World.cell?, hq]⟩⟩).mono fun e w' ⟨v, h1, h2, h3⟩ => by
    rw [wakes_cpt2] at h2
    obtain ⟨A', c', rfl⟩ := own_shape h2
    exact ⟨A', c', h1, h3⟩
  have HAL : Hid (∀ W, Calls Try.prog 14 #[.agg #[.string ⟨#[97]⟩, .int .i64 2, .bool false, .string ⟨#[120]⟩, .int .i64 0], .int .i64 9] W fun e w' => e = .returned (.bool true) ∧ Below W.heap.size W w') := Lib.hid fun W => by
    have := alive_any a2 9 W
    rw [wakes_alive] at this
    exact this
  have HZ := Lib.hid hcc
  simp only [List.getElem_cons_succ, List.getElem_cons_zero, a2] at z1
  clear hcc hc HIN
  go_wp2_with fail
  refine (HV2.out _ (Below.refl _ _)).mono ?_
  rintro e w3 ⟨A3, c3, rfl, hb3⟩
  have HB3 := Lib.hid hb3
  clear hb3 z1
  go_wp2_with fail
  refine (HV3.out _ HB3.out).mono ?_
  rintro e w4 ⟨A4, c4, rfl, hb4⟩
  have HB4 := Lib.hid (HB3.out.trans (hb4.mono HB3.out.size))
  clear hb4
  go_wp2_with fail
  refine (HC0.out _ HB4.out).mono ?_
  rintro e w5 ⟨A5, c5, rfl, hb5⟩
  have HB5 := Lib.hid (HB4.out.trans (hb5.mono HB4.out.size))
  clear hb5
  go_wp2_with fail
  have hal := (Below.refl w5.heap.size w5).alloc (Nat.le_refl _) (.cells #[.int .i64 2] 2)
  have HB6 : Hid (Below w2.heap.size w2 (w5.alloc (.cells #[.int .i64 2] 2))) := Lib.hid (HB5.out.trans (hal.mono HB5.out.size))
  clear hal
  refine (HC2.out _ HB6.out _ (heap_alloc_new w5 _)).mono ?_
  rintro e w6 ⟨A6, c6, rfl, hb6⟩
  have HB7 := Lib.hid (HB6.out.trans (hb6.mono HB6.out.size))
  clear hb6
  have y0 := (HB7.out.cell (p := ⟨b, off + 1 * 5, none⟩) hbl).trans (HZ.out 1 (by decide)).1
  have y1 := (HB7.out.cell (p := ⟨b, off + 1 * 5 + 1, none⟩) hbl).trans (HZ.out 1 (by decide)).2.1
  have y2 := (HB7.out.cell (p := ⟨b, off + 1 * 5 + 2, none⟩) hbl).trans (HZ.out 1 (by decide)).2.2.1
  have y3 := (HB7.out.cell (p := ⟨b, off + 1 * 5 + 3, none⟩) hbl).trans (HZ.out 1 (by decide)).2.2.2.1
  have y4 := (HB7.out.cell (p := ⟨b, off + 1 * 5 + 4, none⟩) hbl).trans (HZ.out 1 (by decide)).2.2.2.2
  simp only [List.getElem_cons_succ, List.getElem_cons_zero, a2] at y0 y1 y2 y3 y4
  go_wp2_with fail
  refine (HAL.out _).mono ?_
  rintro e w7 ⟨rfl, hb7⟩
  have HB8 := Lib.hid (HB2.out.trans ((HB7.out.trans (hb7.mono HB7.out.size)).mono HB2.out.size))
  clear hb7 y0 y1 y2 y3 y4
  go_wp2
  go_ret
  exact ⟨rfl, HB8.out⟩
end Go.Proofs.Ytfbhdggmefacjaa
