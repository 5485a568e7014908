/- act: one call of both. Made by gen_act.py. -/
import Derived.Test.YtapncnbildampaaSame
namespace Go.Proofs.Ytapncnbildampaa
open Go.RowKit
open BM

/-- one call as plain data -/
structure AC where
  d : Int
  k : Int
  n : Int
def AC.wf (a : AC) : Prop := (-9223372036854775808 ≤ a.d ∧ a.d ≤ 9223372036854775807) ∧ (-9223372036854775808 ≤ a.k ∧ a.k ≤ 9223372036854775807) ∧ (-9223372036854775808 ≤ a.n ∧ a.n ≤ 9223372036854775807)
def AC.val (a : AC) : Value := .agg #[.int .i64 a.d, .int .i64 a.k, .int .i64 a.n]
instance : Inhabited AC := ⟨⟨0, 0, 0⟩⟩

theorem mod3 (d : Int) : d.tmod 3 = 0 ∨ d.tmod 3 = 1 ∨ d.tmod 3 = -1 ∨ d.tmod 3 = 2 ∨ d.tmod 3 = -2 := by
  by_cases h : 0 ≤ d
  · rw [Int.tmod_eq_emod_of_nonneg h]; omega
  · obtain ⟨e, rfl⟩ : ∃ e, d = -e := ⟨-d, by omega⟩
    rw [Int.neg_tmod, Int.tmod_eq_emod_of_nonneg (show 0 ≤ e by omega)]; omega

/-- what a call makes of a budget -/
def AC.step (a : AC) (s : S) : Int × S := if a.d.tmod 3 = 1 ∨ a.d.tmod 3 = -1 then release a.k a.n s else if a.d.tmod 3 = 2 ∨ a.d.tmod 3 = -2 then change a.k a.n s else reserve a.k a.n s
theorem AC.ok {a : AC} {s : S} (h : Ok s) : Ok (a.step s).2 := by
  unfold AC.step; repeat' split
  · exact ok_release h _ _
  · exact ok_change h _ _
  · exact ok_reserve h _ _

set_option maxRecDepth 100000 in
set_option maxHeartbeats 4000000 in
theorem act_p0 {W w : World} {b r : Nat} {s t : S} (h : Bo W w b r s t) (a : AC) (hw : a.wf) (hm : a.d.tmod 3 = 0) (heq : (a.step s).1 = (a.step t).1) :
    Calls Try.prog 12 #[.pointer (some ⟨b, 0, none⟩), .pointer (some ⟨r, 0, none⟩), a.val] w fun e w' => e = .returned (.bool true) ∧ Bo W w' b r (a.step s).2 (a.step t).2 := by
  obtain ⟨d, k, n⟩ := a
  have hst : ∀ x, AC.step ⟨d, k, n⟩ x = reserve k n x := fun x => by unfold AC.step; simp only at hm; simp [hm]
  rw [hst, hst] at heq ⊢
  obtain ⟨hd, hk, hn⟩ := hw
  unfold AC.val
  simp only at hm hk hn hd ⊢
  have hbw := h.lv.at_.lt
  have hrw := h.at_.lt
  have HBO := Lib.hid (h.alloc (.cells #[.int .i64 d, .int .i64 k, .int .i64 n] 30))
  have hxx := heap_alloc_new w (.cells #[.int .i64 d, .int .i64 k, .int .i64 n] 30)
  obtain ⟨x, hx⟩ : ∃ x, w.heap.size = x := ⟨_, rfl⟩
  rw [hx] at hxx hbw hrw
  have HX := Lib.hid hxx
  have hxs : x < (w.alloc (.cells #[.int .i64 d, .int .i64 k, .int .i64 n] 30)).heap.size := by simp [hx]
  have HXS := Lib.hid hxs
  have HQ := Lib.hid heq
  have HCB := Lib.hid (fun (W' : World) (hB : Bo W W' b r s t) => hB.reserve k n hn.2)
  have HCR := Lib.hid (fun (W' : World) s' (hB : Bo W W' b r s' t) => hB.rreserve k n hn.2)
  obtain ⟨R, hR⟩ : ∃ R, reserve k n s = R := ⟨_, rfl⟩
  obtain ⟨T, hT⟩ : ∃ T, reserve k n t = T := ⟨_, rfl⟩
  rw [hR] at HCB HQ ⊢
  rw [hT] at HCR HQ ⊢
  obtain ⟨R1, R2⟩ := R
  obtain ⟨T1, T2⟩ := T
  have hq : R1 = T1 := HQ.out
  subst hq
  clear h hst hR hT heq hxx HQ hxs
  go_enter Try.func12, Try.ntmps12
  go_wp2_with fail
  generalize w.alloc (.cells #[.int .i64 d, .int .i64 k, .int .i64 n] 30) = w1 at HBO HX HXS ⊢
  have c1 : w1.cell? ⟨x, 1, none⟩ = some (.int .i64 k) := cell_of_row _ _ _ _ _ _ HX.out
  have c2 : w1.cell? ⟨x, 2, none⟩ = some (.int .i64 n) := cell_of_row _ _ _ _ _ _ HX.out
  have d1 : w1.drew.cell? ⟨x, 1, none⟩ = some (.int .i64 k) := c1
  have d2 : w1.drew.cell? ⟨x, 2, none⟩ = some (.int .i64 n) := c2
  have HBD := Lib.hid HBO.out.drew
  go_region_held3 (fun w' => w'.cell? ⟨x, 1, none⟩ = some (.int .i64 k) ∧ w'.cell? ⟨x, 2, none⟩ = some (.int .i64 n))
    (first | go_keep | exact ⟨z1, z2⟩ | exact ⟨y1, y2⟩ | exact ⟨d1, d2⟩ | fail)
    (first
      | (go_at_call 14
         refine (HCB.out _ HBD.out).mono ?_
         rintro e w2 ⟨rfl, hbo, hg⟩
         have z1 : w2.cell? ⟨x, 1, none⟩ = some (.int .i64 k) := (hg.cell_far ⟨x, _, none⟩ HXS.out (by simp; omega)).trans d1
         have z2 : w2.cell? ⟨x, 2, none⟩ = some (.int .i64 n) := (hg.cell_far ⟨x, _, none⟩ HXS.out (by simp; omega)).trans d2
         have HB2 := Lib.hid hbo
         have hsz2 : Hid (x < w2.heap.size) := Nat.lt_of_lt_of_le HXS.out hg.size
         clear hbo hg)
      | (go_at_call 23; refine (HCR.out _ _ HB2.out).mono ?_
         rintro e w3 ⟨rfl, hbo, hg⟩
         have y1 : w3.cell? ⟨x, 1, none⟩ = some (.int .i64 k) := (hg.cell_far ⟨x, _, none⟩ hsz2.out (by simp; omega)).trans z1
         have y2 : w3.cell? ⟨x, 2, none⟩ = some (.int .i64 n) := (hg.cell_far ⟨x, _, none⟩ hsz2.out (by simp; omega)).trans z2
         have HB3 := Lib.hid hbo
         clear hbo hg)
      )
  go_wp2
  go_ret
  exact ⟨rfl, HB3.out⟩

set_option maxRecDepth 100000 in
set_option maxHeartbeats 4000000 in
theorem act_p1 {W w : World} {b r : Nat} {s t : S} (h : Bo W w b r s t) (a : AC) (hw : a.wf) (hm : a.d.tmod 3 = 1) (heq : (a.step s).1 = (a.step t).1) :
    Calls Try.prog 12 #[.pointer (some ⟨b, 0, none⟩), .pointer (some ⟨r, 0, none⟩), a.val] w fun e w' => e = .returned (.bool true) ∧ Bo W w' b r (a.step s).2 (a.step t).2 := by
  obtain ⟨d, k, n⟩ := a
  have hst : ∀ x, AC.step ⟨d, k, n⟩ x = release k n x := fun x => by unfold AC.step; simp only at hm; simp [hm]
  rw [hst, hst] at heq ⊢
  obtain ⟨hd, hk, hn⟩ := hw
  unfold AC.val
  simp only at hm hk hn hd ⊢
  have hbw := h.lv.at_.lt
  have hrw := h.at_.lt
  have HBO := Lib.hid (h.alloc (.cells #[.int .i64 d, .int .i64 k, .int .i64 n] 30))
  have hxx := heap_alloc_new w (.cells #[.int .i64 d, .int .i64 k, .int .i64 n] 30)
  obtain ⟨x, hx⟩ : ∃ x, w.heap.size = x := ⟨_, rfl⟩
  rw [hx] at hxx hbw hrw
  have HX := Lib.hid hxx
  have hxs : x < (w.alloc (.cells #[.int .i64 d, .int .i64 k, .int .i64 n] 30)).heap.size := by simp [hx]
  have HXS := Lib.hid hxs
  have HQ := Lib.hid heq
  have HCB := Lib.hid (fun (W' : World) (hB : Bo W W' b r s t) => hB.release k n hn.2)
  have HCR := Lib.hid (fun (W' : World) s' (hB : Bo W W' b r s' t) => hB.rrelease k n hn.2)
  obtain ⟨R, hR⟩ : ∃ R, release k n s = R := ⟨_, rfl⟩
  obtain ⟨T, hT⟩ : ∃ T, release k n t = T := ⟨_, rfl⟩
  rw [hR] at HCB HQ ⊢
  rw [hT] at HCR HQ ⊢
  obtain ⟨R1, R2⟩ := R
  obtain ⟨T1, T2⟩ := T
  have hq : R1 = T1 := HQ.out
  subst hq
  clear h hst hR hT heq hxx HQ hxs
  go_enter Try.func12, Try.ntmps12
  go_wp2_with fail
  generalize w.alloc (.cells #[.int .i64 d, .int .i64 k, .int .i64 n] 30) = w1 at HBO HX HXS ⊢
  have c1 : w1.cell? ⟨x, 1, none⟩ = some (.int .i64 k) := cell_of_row _ _ _ _ _ _ HX.out
  have c2 : w1.cell? ⟨x, 2, none⟩ = some (.int .i64 n) := cell_of_row _ _ _ _ _ _ HX.out
  have d1 : w1.drew.cell? ⟨x, 1, none⟩ = some (.int .i64 k) := c1
  have d2 : w1.drew.cell? ⟨x, 2, none⟩ = some (.int .i64 n) := c2
  have HBD := Lib.hid HBO.out.drew
  go_region_held3 (fun w' => w'.cell? ⟨x, 1, none⟩ = some (.int .i64 k) ∧ w'.cell? ⟨x, 2, none⟩ = some (.int .i64 n))
    (first | go_keep | exact ⟨z1, z2⟩ | exact ⟨y1, y2⟩ | exact ⟨d1, d2⟩ | fail)
    (first
      | (go_at_call 15
         refine (HCB.out _ HBD.out).mono ?_
         rintro e w2 ⟨rfl, hbo, hg⟩
         have z1 : w2.cell? ⟨x, 1, none⟩ = some (.int .i64 k) := (hg.cell_far ⟨x, _, none⟩ HXS.out (by simp; omega)).trans d1
         have z2 : w2.cell? ⟨x, 2, none⟩ = some (.int .i64 n) := (hg.cell_far ⟨x, _, none⟩ HXS.out (by simp; omega)).trans d2
         have HB2 := Lib.hid hbo
         have hsz2 : Hid (x < w2.heap.size) := Nat.lt_of_lt_of_le HXS.out hg.size
         clear hbo hg)
      | (go_at_call 21; refine (HCR.out _ _ HB2.out).mono ?_
         rintro e w3 ⟨rfl, hbo, hg⟩
         have y1 : w3.cell? ⟨x, 1, none⟩ = some (.int .i64 k) := (hg.cell_far ⟨x, _, none⟩ hsz2.out (by simp; omega)).trans z1
         have y2 : w3.cell? ⟨x, 2, none⟩ = some (.int .i64 n) := (hg.cell_far ⟨x, _, none⟩ hsz2.out (by simp; omega)).trans z2
         have HB3 := Lib.hid hbo
         clear hbo hg)
      )
  go_wp2
  go_ret
  exact ⟨rfl, HB3.out⟩

set_option maxRecDepth 100000 in
set_option maxHeartbeats 4000000 in
theorem act_n1 {W w : World} {b r : Nat} {s t : S} (h : Bo W w b r s t) (a : AC) (hw : a.wf) (hm : a.d.tmod 3 = -1) (heq : (a.step s).1 = (a.step t).1) :
    Calls Try.prog 12 #[.pointer (some ⟨b, 0, none⟩), .pointer (some ⟨r, 0, none⟩), a.val] w fun e w' => e = .returned (.bool true) ∧ Bo W w' b r (a.step s).2 (a.step t).2 := by
  obtain ⟨d, k, n⟩ := a
  have hst : ∀ x, AC.step ⟨d, k, n⟩ x = release k n x := fun x => by unfold AC.step; simp only at hm; simp [hm]
  rw [hst, hst] at heq ⊢
  obtain ⟨hd, hk, hn⟩ := hw
  unfold AC.val
  simp only at hm hk hn hd ⊢
  have hbw := h.lv.at_.lt
  have hrw := h.at_.lt
  have HBO := Lib.hid (h.alloc (.cells #[.int .i64 d, .int .i64 k, .int .i64 n] 30))
  have hxx := heap_alloc_new w (.cells #[.int .i64 d, .int .i64 k, .int .i64 n] 30)
  obtain ⟨x, hx⟩ : ∃ x, w.heap.size = x := ⟨_, rfl⟩
  rw [hx] at hxx hbw hrw
  have HX := Lib.hid hxx
  have hxs : x < (w.alloc (.cells #[.int .i64 d, .int .i64 k, .int .i64 n] 30)).heap.size := by simp [hx]
  have HXS := Lib.hid hxs
  have HQ := Lib.hid heq
  have HCB := Lib.hid (fun (W' : World) (hB : Bo W W' b r s t) => hB.release k n hn.2)
  have HCR := Lib.hid (fun (W' : World) s' (hB : Bo W W' b r s' t) => hB.rrelease k n hn.2)
  obtain ⟨R, hR⟩ : ∃ R, release k n s = R := ⟨_, rfl⟩
  obtain ⟨T, hT⟩ : ∃ T, release k n t = T := ⟨_, rfl⟩
  rw [hR] at HCB HQ ⊢
  rw [hT] at HCR HQ ⊢
  obtain ⟨R1, R2⟩ := R
  obtain ⟨T1, T2⟩ := T
  have hq : R1 = T1 := HQ.out
  subst hq
  clear h hst hR hT heq hxx HQ hxs
  go_enter Try.func12, Try.ntmps12
  go_wp2_with fail
  generalize w.alloc (.cells #[.int .i64 d, .int .i64 k, .int .i64 n] 30) = w1 at HBO HX HXS ⊢
  have c1 : w1.cell? ⟨x, 1, none⟩ = some (.int .i64 k) := cell_of_row _ _ _ _ _ _ HX.out
  have c2 : w1.cell? ⟨x, 2, none⟩ = some (.int .i64 n) := cell_of_row _ _ _ _ _ _ HX.out
  have d1 : w1.drew.cell? ⟨x, 1, none⟩ = some (.int .i64 k) := c1
  have d2 : w1.drew.cell? ⟨x, 2, none⟩ = some (.int .i64 n) := c2
  have HBD := Lib.hid HBO.out.drew
  go_region_held3 (fun w' => w'.cell? ⟨x, 1, none⟩ = some (.int .i64 k) ∧ w'.cell? ⟨x, 2, none⟩ = some (.int .i64 n))
    (first | go_keep | exact ⟨z1, z2⟩ | exact ⟨y1, y2⟩ | exact ⟨d1, d2⟩ | fail)
    (first
      | (go_at_call 15
         refine (HCB.out _ HBD.out).mono ?_
         rintro e w2 ⟨rfl, hbo, hg⟩
         have z1 : w2.cell? ⟨x, 1, none⟩ = some (.int .i64 k) := (hg.cell_far ⟨x, _, none⟩ HXS.out (by simp; omega)).trans d1
         have z2 : w2.cell? ⟨x, 2, none⟩ = some (.int .i64 n) := (hg.cell_far ⟨x, _, none⟩ HXS.out (by simp; omega)).trans d2
         have HB2 := Lib.hid hbo
         have hsz2 : Hid (x < w2.heap.size) := Nat.lt_of_lt_of_le HXS.out hg.size
         clear hbo hg)
      | (go_at_call 21; refine (HCR.out _ _ HB2.out).mono ?_
         rintro e w3 ⟨rfl, hbo, hg⟩
         have y1 : w3.cell? ⟨x, 1, none⟩ = some (.int .i64 k) := (hg.cell_far ⟨x, _, none⟩ hsz2.out (by simp; omega)).trans z1
         have y2 : w3.cell? ⟨x, 2, none⟩ = some (.int .i64 n) := (hg.cell_far ⟨x, _, none⟩ hsz2.out (by simp; omega)).trans z2
         have HB3 := Lib.hid hbo
         clear hbo hg)
      )
  go_wp2
  go_ret
  exact ⟨rfl, HB3.out⟩

set_option maxRecDepth 100000 in
set_option maxHeartbeats 4000000 in
theorem act_p2 {W w : World} {b r : Nat} {s t : S} (h : Bo W w b r s t) (a : AC) (hw : a.wf) (hm : a.d.tmod 3 = 2) (heq : (a.step s).1 = (a.step t).1) :
    Calls Try.prog 12 #[.pointer (some ⟨b, 0, none⟩), .pointer (some ⟨r, 0, none⟩), a.val] w fun e w' => e = .returned (.bool true) ∧ Bo W w' b r (a.step s).2 (a.step t).2 := by
  obtain ⟨d, k, n⟩ := a
  have hst : ∀ x, AC.step ⟨d, k, n⟩ x = change k n x := fun x => by unfold AC.step; simp only at hm; simp [hm]
  rw [hst, hst] at heq ⊢
  obtain ⟨hd, hk, hn⟩ := hw
  unfold AC.val
  simp only at hm hk hn hd ⊢
  have hbw := h.lv.at_.lt
  have hrw := h.at_.lt
  have HBO := Lib.hid (h.alloc (.cells #[.int .i64 d, .int .i64 k, .int .i64 n] 30))
  have hxx := heap_alloc_new w (.cells #[.int .i64 d, .int .i64 k, .int .i64 n] 30)
  obtain ⟨x, hx⟩ : ∃ x, w.heap.size = x := ⟨_, rfl⟩
  rw [hx] at hxx hbw hrw
  have HX := Lib.hid hxx
  have hxs : x < (w.alloc (.cells #[.int .i64 d, .int .i64 k, .int .i64 n] 30)).heap.size := by simp [hx]
  have HXS := Lib.hid hxs
  have HQ := Lib.hid heq
  have HCB := Lib.hid (fun (W' : World) (hB : Bo W W' b r s t) => hB.change k n hn.2)
  have HCR := Lib.hid (fun (W' : World) s' (hB : Bo W W' b r s' t) => hB.rchange k n hn.2)
  obtain ⟨R, hR⟩ : ∃ R, change k n s = R := ⟨_, rfl⟩
  obtain ⟨T, hT⟩ : ∃ T, change k n t = T := ⟨_, rfl⟩
  rw [hR] at HCB HQ ⊢
  rw [hT] at HCR HQ ⊢
  obtain ⟨R1, R2⟩ := R
  obtain ⟨T1, T2⟩ := T
  have hq : R1 = T1 := HQ.out
  subst hq
  clear h hst hR hT heq hxx HQ hxs
  go_enter Try.func12, Try.ntmps12
  go_wp2_with fail
  generalize w.alloc (.cells #[.int .i64 d, .int .i64 k, .int .i64 n] 30) = w1 at HBO HX HXS ⊢
  have c1 : w1.cell? ⟨x, 1, none⟩ = some (.int .i64 k) := cell_of_row _ _ _ _ _ _ HX.out
  have c2 : w1.cell? ⟨x, 2, none⟩ = some (.int .i64 n) := cell_of_row _ _ _ _ _ _ HX.out
  have d1 : w1.drew.cell? ⟨x, 1, none⟩ = some (.int .i64 k) := c1
  have d2 : w1.drew.cell? ⟨x, 2, none⟩ = some (.int .i64 n) := c2
  have HBD := Lib.hid HBO.out.drew
  go_region_held3 (fun w' => w'.cell? ⟨x, 1, none⟩ = some (.int .i64 k) ∧ w'.cell? ⟨x, 2, none⟩ = some (.int .i64 n))
    (first | go_keep | exact ⟨z1, z2⟩ | exact ⟨y1, y2⟩ | exact ⟨d1, d2⟩ | fail)
    (first
      | (go_at_call 16
         refine (HCB.out _ HBD.out).mono ?_
         rintro e w2 ⟨rfl, hbo, hg⟩
         have z1 : w2.cell? ⟨x, 1, none⟩ = some (.int .i64 k) := (hg.cell_far ⟨x, _, none⟩ HXS.out (by simp; omega)).trans d1
         have z2 : w2.cell? ⟨x, 2, none⟩ = some (.int .i64 n) := (hg.cell_far ⟨x, _, none⟩ HXS.out (by simp; omega)).trans d2
         have HB2 := Lib.hid hbo
         have hsz2 : Hid (x < w2.heap.size) := Nat.lt_of_lt_of_le HXS.out hg.size
         clear hbo hg)
      | (go_at_call 22; refine (HCR.out _ _ HB2.out).mono ?_
         rintro e w3 ⟨rfl, hbo, hg⟩
         have y1 : w3.cell? ⟨x, 1, none⟩ = some (.int .i64 k) := (hg.cell_far ⟨x, _, none⟩ hsz2.out (by simp; omega)).trans z1
         have y2 : w3.cell? ⟨x, 2, none⟩ = some (.int .i64 n) := (hg.cell_far ⟨x, _, none⟩ hsz2.out (by simp; omega)).trans z2
         have HB3 := Lib.hid hbo
         clear hbo hg)
      )
  go_wp2
  go_ret
  exact ⟨rfl, HB3.out⟩

set_option maxRecDepth 100000 in
set_option maxHeartbeats 4000000 in
theorem act_n2 {W w : World} {b r : Nat} {s t : S} (h : Bo W w b r s t) (a : AC) (hw : a.wf) (hm : a.d.tmod 3 = -2) (heq : (a.step s).1 = (a.step t).1) :
    Calls Try.prog 12 #[.pointer (some ⟨b, 0, none⟩), .pointer (some ⟨r, 0, none⟩), a.val] w fun e w' => e = .returned (.bool true) ∧ Bo W w' b r (a.step s).2 (a.step t).2 := by
  obtain ⟨d, k, n⟩ := a
  have hst : ∀ x, AC.step ⟨d, k, n⟩ x = change k n x := fun x => by unfold AC.step; simp only at hm; simp [hm]
  rw [hst, hst] at heq ⊢
  obtain ⟨hd, hk, hn⟩ := hw
  unfold AC.val
  simp only at hm hk hn hd ⊢
  have hbw := h.lv.at_.lt
  have hrw := h.at_.lt
  have HBO := Lib.hid (h.alloc (.cells #[.int .i64 d, .int .i64 k, .int .i64 n] 30))
  have hxx := heap_alloc_new w (.cells #[.int .i64 d, .int .i64 k, .int .i64 n] 30)
  obtain ⟨x, hx⟩ : ∃ x, w.heap.size = x := ⟨_, rfl⟩
  rw [hx] at hxx hbw hrw
  have HX := Lib.hid hxx
  have hxs : x < (w.alloc (.cells #[.int .i64 d, .int .i64 k, .int .i64 n] 30)).heap.size := by simp [hx]
  have HXS := Lib.hid hxs
  have HQ := Lib.hid heq
  have HCB := Lib.hid (fun (W' : World) (hB : Bo W W' b r s t) => hB.change k n hn.2)
  have HCR := Lib.hid (fun (W' : World) s' (hB : Bo W W' b r s' t) => hB.rchange k n hn.2)
  obtain ⟨R, hR⟩ : ∃ R, change k n s = R := ⟨_, rfl⟩
  obtain ⟨T, hT⟩ : ∃ T, change k n t = T := ⟨_, rfl⟩
  rw [hR] at HCB HQ ⊢
  rw [hT] at HCR HQ ⊢
  obtain ⟨R1, R2⟩ := R
  obtain ⟨T1, T2⟩ := T
  have hq : R1 = T1 := HQ.out
  subst hq
  clear h hst hR hT heq hxx HQ hxs
  go_enter Try.func12, Try.ntmps12
  go_wp2_with fail
  generalize w.alloc (.cells #[.int .i64 d, .int .i64 k, .int .i64 n] 30) = w1 at HBO HX HXS ⊢
  have c1 : w1.cell? ⟨x, 1, none⟩ = some (.int .i64 k) := cell_of_row _ _ _ _ _ _ HX.out
  have c2 : w1.cell? ⟨x, 2, none⟩ = some (.int .i64 n) := cell_of_row _ _ _ _ _ _ HX.out
  have d1 : w1.drew.cell? ⟨x, 1, none⟩ = some (.int .i64 k) := c1
  have d2 : w1.drew.cell? ⟨x, 2, none⟩ = some (.int .i64 n) := c2
  have HBD := Lib.hid HBO.out.drew
  go_region_held3 (fun w' => w'.cell? ⟨x, 1, none⟩ = some (.int .i64 k) ∧ w'.cell? ⟨x, 2, none⟩ = some (.int .i64 n))
    (first | go_keep | exact ⟨z1, z2⟩ | exact ⟨y1, y2⟩ | exact ⟨d1, d2⟩ | fail)
    (first
      | (go_at_call 16
         refine (HCB.out _ HBD.out).mono ?_
         rintro e w2 ⟨rfl, hbo, hg⟩
         have z1 : w2.cell? ⟨x, 1, none⟩ = some (.int .i64 k) := (hg.cell_far ⟨x, _, none⟩ HXS.out (by simp; omega)).trans d1
         have z2 : w2.cell? ⟨x, 2, none⟩ = some (.int .i64 n) := (hg.cell_far ⟨x, _, none⟩ HXS.out (by simp; omega)).trans d2
         have HB2 := Lib.hid hbo
         have hsz2 : Hid (x < w2.heap.size) := Nat.lt_of_lt_of_le HXS.out hg.size
         clear hbo hg)
      | (go_at_call 22; refine (HCR.out _ _ HB2.out).mono ?_
         rintro e w3 ⟨rfl, hbo, hg⟩
         have y1 : w3.cell? ⟨x, 1, none⟩ = some (.int .i64 k) := (hg.cell_far ⟨x, _, none⟩ hsz2.out (by simp; omega)).trans z1
         have y2 : w3.cell? ⟨x, 2, none⟩ = some (.int .i64 n) := (hg.cell_far ⟨x, _, none⟩ hsz2.out (by simp; omega)).trans z2
         have HB3 := Lib.hid hbo
         clear hbo hg)
      )
  go_wp2
  go_ret
  exact ⟨rfl, HB3.out⟩

theorem act_both {W w : World} {b r : Nat} {s t : S} (h : Bo W w b r s t) (a : AC) (hw : a.wf) (heq : (a.step s).1 = (a.step t).1) :
    Calls Try.prog 12 #[.pointer (some ⟨b, 0, none⟩), .pointer (some ⟨r, 0, none⟩), a.val] w fun e w' => e = .returned (.bool true) ∧ Bo W w' b r (a.step s).2 (a.step t).2 := by
  rcases mod3 a.d with h1 | h1 | h1 | h1 | h1
  · exact act_p0 h a hw h1 heq
  · exact act_p1 h a hw h1 heq
  · exact act_n1 h a hw h1 heq
  · exact act_p2 h a hw h1 heq
  · exact act_n2 h a hw h1 heq
theorem act_any {W w : World} {b r : Nat} {s : S} (h : Bo W w b r s s) (a : AC) (hw : a.wf) :
    Calls Try.prog 12 #[.pointer (some ⟨b, 0, none⟩), .pointer (some ⟨r, 0, none⟩), a.val] w fun e w' => e = .returned (.bool true) ∧ Bo W w' b r (a.step s).2 (a.step s).2 :=
  act_both h a hw rfl
end Go.Proofs.Ytapncnbildampaa
