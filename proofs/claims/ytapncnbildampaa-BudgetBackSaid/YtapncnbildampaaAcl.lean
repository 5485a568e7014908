/- act, whatever it answers. Made by gen_acl.py. -/
import Derived.Test.YtapncnbildampaaAct
namespace Go.Proofs.Ytapncnbildampaa
open Go.RowKit
open BM

/-- all blocks but two are as they were -/
def Kp (w w' : World) (b r : Nat) : Prop := ∀ y, y < w.heap.size → y ≠ b → y ≠ r → w'.heap[y]? = w.heap[y]?
theorem Kp.of {w w1 w2 w3 : World} {b r x : Nat} (hx : w.heap.size = x) (h : Below x w w1) (h2 : w1.drew.grownBy w2 (some b)) (h3 : w2.grownBy w3 (some r)) : Kp w w3 b r := by
  subst hx
  intro y hy hb hr
  have hs : y < w1.drew.heap.size := Nat.lt_of_lt_of_le hy h.size
  exact ((h3.block y (Nat.lt_of_lt_of_le hs h2.size) (by simpa using hr)).trans (h2.block y hs (by simpa using hb))).trans (h.block y hy)

set_option maxRecDepth 100000 in
set_option maxHeartbeats 4000000 in
theorem acl_p0 {W w : World} {b r : Nat} {s t : S} (h : Bo W w b r s t) (a : AC) (hw : a.wf) (hm : a.d.tmod 3 = 0) :
    Calls Try.prog 12 #[.pointer (some ⟨b, 0, none⟩), .pointer (some ⟨r, 0, none⟩), a.val] w fun e w' => (∃ v, e = .returned (.bool v)) ∧ Bo W w' b r (a.step s).2 (a.step t).2 ∧ Kp w w' b r := by
  obtain ⟨d, k, n⟩ := a
  have hst : ∀ x, AC.step ⟨d, k, n⟩ x = reserve k n x := fun x => by unfold AC.step; simp only at hm; simp [hm]
  rw [hst, hst]
  obtain ⟨hd, hk, hn⟩ := hw
  unfold AC.val
  simp only at hm hk hn hd ⊢
  have hbw := h.lv.at_.lt
  have hrw := h.at_.lt
  have HBO := Lib.hid (h.alloc (.cells #[.int .i64 d, .int .i64 k, .int .i64 n] 30))
  have hxx := heap_alloc_new w (.cells #[.int .i64 d, .int .i64 k, .int .i64 n] 30)
  obtain ⟨x, hx⟩ : ∃ x, w.heap.size = x := ⟨_, rfl⟩
  rw [hx] at hxx hbw hrw
  have HX := Lib.hid hxx
  have hxs : x < (w.alloc (.cells #[.int .i64 d, .int .i64 k, .int .i64 n] 30)).heap.size := by simp [hx]
  have HXS := Lib.hid hxs
  have hkw : Below w.heap.size w (w.alloc (.cells #[.int .i64 d, .int .i64 k, .int .i64 n] 30)) := (Below.refl _ _).alloc (Nat.le_refl _) _
  rw [hx] at hkw
  have HKW := Lib.hid hkw
  have HWX := Lib.hid hx
  have HCB := Lib.hid (fun (W' : World) (hB : Bo W W' b r s t) => hB.reserve k n hn.2)
  have HCR := Lib.hid (fun (W' : World) s' (hB : Bo W W' b r s' t) => hB.rreserve k n hn.2)
  obtain ⟨R, hR⟩ : ∃ R, reserve k n s = R := ⟨_, rfl⟩
  obtain ⟨T, hT⟩ : ∃ T, reserve k n t = T := ⟨_, rfl⟩
  rw [hR] at HCB ⊢
  rw [hT] at HCR ⊢
  obtain ⟨R1, R2⟩ := R
  obtain ⟨T1, T2⟩ := T
  clear h hst hR hT hxx hxs hkw
  go_enter Try.func12, Try.ntmps12
  go_wp2_with fail
  generalize w.alloc (.cells #[.int .i64 d, .int .i64 k, .int .i64 n] 30) = w1 at HBO HX HXS HKW ⊢
  have c1 : w1.cell? ⟨x, 1, none⟩ = some (.int .i64 k) := cell_of_row _ _ _ _ _ _ HX.out
  have c2 : w1.cell? ⟨x, 2, none⟩ = some (.int .i64 n) := cell_of_row _ _ _ _ _ _ HX.out
  have d1 : w1.drew.cell? ⟨x, 1, none⟩ = some (.int .i64 k) := c1
  have d2 : w1.drew.cell? ⟨x, 2, none⟩ = some (.int .i64 n) := c2
  have HBD := Lib.hid HBO.out.drew
  go_region_held3 (fun w' => w'.cell? ⟨x, 1, none⟩ = some (.int .i64 k) ∧ w'.cell? ⟨x, 2, none⟩ = some (.int .i64 n))
    (first | go_keep | exact ⟨z1, z2⟩ | exact ⟨y1, y2⟩ | exact ⟨d1, d2⟩ | fail)
    (first
      | (go_at_call 14
         refine (HCB.out _ HBD.out).mono ?_
         rintro e w2 ⟨rfl, hbo, hg⟩
         have z1 : w2.cell? ⟨x, 1, none⟩ = some (.int .i64 k) := (hg.cell_far ⟨x, _, none⟩ HXS.out (by simp; omega)).trans d1
         have z2 : w2.cell? ⟨x, 2, none⟩ = some (.int .i64 n) := (hg.cell_far ⟨x, _, none⟩ HXS.out (by simp; omega)).trans d2
         have HB2 := Lib.hid hbo
         have HG2 := Lib.hid hg
         have hsz2 : Hid (x < w2.heap.size) := Nat.lt_of_lt_of_le HXS.out hg.size
         clear hbo hg)
      | (go_at_call 23; refine (HCR.out _ _ HB2.out).mono ?_
         rintro e w3 ⟨rfl, hbo, hg⟩
         have y1 : w3.cell? ⟨x, 1, none⟩ = some (.int .i64 k) := (hg.cell_far ⟨x, _, none⟩ hsz2.out (by simp; omega)).trans z1
         have y2 : w3.cell? ⟨x, 2, none⟩ = some (.int .i64 n) := (hg.cell_far ⟨x, _, none⟩ hsz2.out (by simp; omega)).trans z2
         have HB3 := Lib.hid hbo
         have HG3 := Lib.hid hg
         clear hbo hg)
      )
  go_wp2
  go_ret
  exact ⟨⟨_, rfl⟩, HB3.out, Kp.of HWX.out HKW.out HG2.out HG3.out⟩

set_option maxRecDepth 100000 in
set_option maxHeartbeats 4000000 in
theorem acl_p1 {W w : World} {b r : Nat} {s t : S} (h : Bo W w b r s t) (a : AC) (hw : a.wf) (hm : a.d.tmod 3 = 1) :
    Calls Try.prog 12 #[.pointer (some ⟨b, 0, none⟩), .pointer (some ⟨r, 0, none⟩), a.val] w fun e w' => (∃ v, e = .returned (.bool v)) ∧ Bo W w' b r (a.step s).2 (a.step t).2 ∧ Kp w w' b r := by
  obtain ⟨d, k, n⟩ := a
  have hst : ∀ x, AC.step ⟨d, k, n⟩ x = release k n x := fun x => by unfold AC.step; simp only at hm; simp [hm]
  rw [hst, hst]
  obtain ⟨hd, hk, hn⟩ := hw
  unfold AC.val
  simp only at hm hk hn hd ⊢
  have hbw := h.lv.at_.lt
  have hrw := h.at_.lt
  have HBO := Lib.hid (h.alloc (.cells #[.int .i64 d, .int .i64 k, .int .i64 n] 30))
  have hxx := heap_alloc_new w (.cells #[.int .i64 d, .int .i64 k, .int .i64 n] 30)
  obtain ⟨x, hx⟩ : ∃ x, w.heap.size = x := ⟨_, rfl⟩
  rw [hx] at hxx hbw hrw
  have HX := Lib.hid hxx
  have hxs : x < (w.alloc (.cells #[.int .i64 d, .int .i64 k, .int .i64 n] 30)).heap.size := by simp [hx]
  have HXS := Lib.hid hxs
  have hkw : Below w.heap.size w (w.alloc (.cells #[.int .i64 d, .int .i64 k, .int .i64 n] 30)) := (Below.refl _ _).alloc (Nat.le_refl _) _
  rw [hx] at hkw
  have HKW := Lib.hid hkw
  have HWX := Lib.hid hx
  have HCB := Lib.hid (fun (W' : World) (hB : Bo W W' b r s t) => hB.release k n hn.2)
  have HCR := Lib.hid (fun (W' : World) s' (hB : Bo W W' b r s' t) => hB.rrelease k n hn.2)
  obtain ⟨R, hR⟩ : ∃ R, release k n s = R := ⟨_, rfl⟩
  obtain ⟨T, hT⟩ : ∃ T, release k n t = T := ⟨_, rfl⟩
  rw [hR] at HCB ⊢
  rw [hT] at HCR ⊢
  obtain ⟨R1, R2⟩ := R
  obtain ⟨T1, T2⟩ := T
  clear h hst hR hT hxx hxs hkw
  go_enter Try.func12, Try.ntmps12
  go_wp2_with fail
  generalize w.alloc (.cells #[.int .i64 d, .int .i64 k, .int .i64 n] 30) = w1 at HBO HX HXS HKW ⊢
  have c1 : w1.cell? ⟨x, 1, none⟩ = some (.int .i64 k) := cell_of_row _ _ _ _ _ _ HX.out
  have c2 : w1.cell? ⟨x, 2, none⟩ = some (.int .i64 n) := cell_of_row _ _ _ _ _ _ HX.out
  have d1 : w1.drew.cell? ⟨x, 1, none⟩ = some (.int .i64 k) := c1
  have d2 : w1.drew.cell? ⟨x, 2, none⟩ = some (.int .i64 n) := c2
  have HBD := Lib.hid HBO.out.drew
  go_region_held3 (fun w' => w'.cell? ⟨x, 1, none⟩ = some (.int .i64 k) ∧ w'.cell? ⟨x, 2, none⟩ = some (.int .i64 n))
    (first | go_keep | exact ⟨z1, z2⟩ | exact ⟨y1, y2⟩ | exact ⟨d1, d2⟩ | fail)
    (first
      | (go_at_call 15
         refine (HCB.out _ HBD.out).mono ?_
         rintro e w2 ⟨rfl, hbo, hg⟩
         have z1 : w2.cell? ⟨x, 1, none⟩ = some (.int .i64 k) := (hg.cell_far ⟨x, _, none⟩ HXS.out (by simp; omega)).trans d1
         have z2 : w2.cell? ⟨x, 2, none⟩ = some (.int .i64 n) := (hg.cell_far ⟨x, _, none⟩ HXS.out (by simp; omega)).trans d2
         have HB2 := Lib.hid hbo
         have HG2 := Lib.hid hg
         have hsz2 : Hid (x < w2.heap.size) := Nat.lt_of_lt_of_le HXS.out hg.size
         clear hbo hg)
      | (go_at_call 21; refine (HCR.out _ _ HB2.out).mono ?_
         rintro e w3 ⟨rfl, hbo, hg⟩
         have y1 : w3.cell? ⟨x, 1, none⟩ = some (.int .i64 k) := (hg.cell_far ⟨x, _, none⟩ hsz2.out (by simp; omega)).trans z1
         have y2 : w3.cell? ⟨x, 2, none⟩ = some (.int .i64 n) := (hg.cell_far ⟨x, _, none⟩ hsz2.out (by simp; omega)).trans z2
         have HB3 := Lib.hid hbo
         have HG3 := Lib.hid hg
         clear hbo hg)
      )
  go_wp2
  go_ret
  exact ⟨⟨_, rfl⟩, HB3.out, Kp.of HWX.out HKW.out HG2.out HG3.out⟩

set_option maxRecDepth 100000 in
set_option maxHeartbeats 4000000 in
theorem acl_n1 {W w : World} {b r : Nat} {s t : S} (h : Bo W w b r s t) (a : AC) (hw : a.wf) (hm : a.d.tmod 3 = -1) :
    Calls Try.prog 12 #[.pointer (some ⟨b, 0, none⟩), .pointer (some ⟨r, 0, none⟩), a.val] w fun e w' => (∃ v, e = .returned (.bool v)) ∧ Bo W w' b r (a.step s).2 (a.step t).2 ∧ Kp w w' b r := by
  obtain ⟨d, k, n⟩ := a
  have hst : ∀ x, AC.step ⟨d, k, n⟩ x = release k n x := fun x => by unfold AC.step; simp only at hm; simp [hm]
  rw [hst, hst]
  obtain ⟨hd, hk, hn⟩ := hw
  unfold AC.val
  simp only at hm hk hn hd ⊢
  have hbw := h.lv.at_.lt
  have hrw := h.at_.lt
  have HBO := Lib.hid (h.alloc (.cells #[.int .i64 d, .int .i64 k, .int .i64 n] 30))
  have hxx := heap_alloc_new w (.cells #[.int .i64 d, .int .i64 k, .int .i64 n] 30)
  obtain ⟨x, hx⟩ : ∃ x, w.heap.size = x := ⟨_, rfl⟩
  rw [hx] at hxx hbw hrw
  have HX := Lib.hid hxx
  have hxs : x < (w.alloc (.cells #[.int .i64 d, .int .i64 k, .int .i64 n] 30)).heap.size := by simp [hx]
  have HXS := Lib.hid hxs
  have hkw : Below w.heap.size w (w.alloc (.cells #[.int .i64 d, .int .i64 k, .int .i64 n] 30)) := (Below.refl _ _).alloc (Nat.le_refl _) _
  rw [hx] at hkw
  have HKW := Lib.hid hkw
  have HWX := Lib.hid hx
  have HCB := Lib.hid (fun (W' : World) (hB : Bo W W' b r s t) => hB.release k n hn.2)
  have HCR := Lib.hid (fun (W' : World) s' (hB : Bo W W' b r s' t) => hB.rrelease k n hn.2)
  obtain ⟨R, hR⟩ : ∃ R, release k n s = R := ⟨_, rfl⟩
  obtain ⟨T, hT⟩ : ∃ T, release k n t = T := ⟨_, rfl⟩
  rw [hR] at HCB ⊢
  rw [hT] at HCR ⊢
  obtain ⟨R1, R2⟩ := R
  obtain ⟨T1, T2⟩ := T
  clear h hst hR hT hxx hxs hkw
  go_enter Try.func12, Try.ntmps12
  go_wp2_with fail
  generalize w.alloc (.cells #[.int .i64 d, .int .i64 k, .int .i64 n] 30) = w1 at HBO HX HXS HKW ⊢
  have c1 : w1.cell? ⟨x, 1, none⟩ = some (.int .i64 k) := cell_of_row _ _ _ _ _ _ HX.out
  have c2 : w1.cell? ⟨x, 2, none⟩ = some (.int .i64 n) := cell_of_row _ _ _ _ _ _ HX.out
  have d1 : w1.drew.cell? ⟨x, 1, none⟩ = some (.int .i64 k) := c1
  have d2 : w1.drew.cell? ⟨x, 2, none⟩ = some (.int .i64 n) := c2
  have HBD := Lib.hid HBO.out.drew
  go_region_held3 (fun w' => w'.cell? ⟨x, 1, none⟩ = some (.int .i64 k) ∧ w'.cell? ⟨x, 2, none⟩ = some (.int .i64 n))
    (first | go_keep | exact ⟨z1, z2⟩ | exact ⟨y1, y2⟩ | exact ⟨d1, d2⟩ | fail)
    (first
      | (go_at_call 15
         refine (HCB.out _ HBD.out).mono ?_
         rintro e w2 ⟨rfl, hbo, hg⟩
         have z1 : w2.cell? ⟨x, 1, none⟩ = some (.int .i64 k) := (hg.cell_far ⟨x, _, none⟩ HXS.out (by simp; omega)).trans d1
         have z2 : w2.cell? ⟨x, 2, none⟩ = some (.int .i64 n) := (hg.cell_far ⟨x, _, none⟩ HXS.out (by simp; omega)).trans d2
         have HB2 := Lib.hid hbo
         have HG2 := Lib.hid hg
         have hsz2 : Hid (x < w2.heap.size) := Nat.lt_of_lt_of_le HXS.out hg.size
         clear hbo hg)
      | (go_at_call 21; refine (HCR.out _ _ HB2.out).mono ?_
         rintro e w3 ⟨rfl, hbo, hg⟩
         have y1 : w3.cell? ⟨x, 1, none⟩ = some (.int .i64 k) := (hg.cell_far ⟨x, _, none⟩ hsz2.out (by simp; omega)).trans z1
         have y2 : w3.cell? ⟨x, 2, none⟩ = some (.int .i64 n) := (hg.cell_far ⟨x, _, none⟩ hsz2.out (by simp; omega)).trans z2
         have HB3 := Lib.hid hbo
         have HG3 := Lib.hid hg
         clear hbo hg)
      )
  go_wp2
  go_ret
  exact ⟨⟨_, rfl⟩, HB3.out, Kp.of HWX.out HKW.out HG2.out HG3.out⟩

set_option maxRecDepth 100000 in
set_option maxHeartbeats 4000000 in
theorem acl_p2 {W w : World} {b r : Nat} {s t : S} (h : Bo W w b r s t) (a : AC) (hw : a.wf) (hm : a.d.tmod 3 = 2) :
    Calls Try.prog 12 #[.pointer (some ⟨b, 0, none⟩), .pointer (some ⟨r, 0, none⟩), a.val] w fun e w' => (∃ v, e = .returned (.bool v)) ∧ Bo W w' b r (a.step s).2 (a.step t).2 ∧ Kp w w' b r := by
  obtain ⟨d, k, n⟩ := a
  have hst : ∀ x, AC.step ⟨d, k, n⟩ x = change k n x := fun x => by unfold AC.step; simp only at hm; simp [hm]
  rw [hst, hst]
  obtain ⟨hd, hk, hn⟩ := hw
  unfold AC.val
  simp only at hm hk hn hd ⊢
  have hbw := h.lv.at_.lt
  have hrw := h.at_.lt
  have HBO := Lib.hid (h.alloc (.cells #[.int .i64 d, .int .i64 k, .int .i64 n] 30))
  have hxx := heap_alloc_new w (.cells #[.int .i64 d, .int .i64 k, .int .i64 n] 30)
  obtain ⟨x, hx⟩ : ∃ x, w.heap.size = x := ⟨_, rfl⟩
  rw [hx] at hxx hbw hrw
  have HX := Lib.hid hxx
  have hxs : x < (w.alloc (.cells #[.int .i64 d, .int .i64 k, .int .i64 n] 30)).heap.size := by simp [hx]
  have HXS := Lib.hid hxs
  have hkw : Below w.heap.size w (w.alloc (.cells #[.int .i64 d, .int .i64 k, .int .i64 n] 30)) := (Below.refl _ _).alloc (Nat.le_refl _) _
  rw [hx] at hkw
  have HKW := Lib.hid hkw
  have HWX := Lib.hid hx
  have HCB := Lib.hid (fun (W' : World) (hB : Bo W W' b r s t) => hB.change k n hn.2)
  have HCR := Lib.hid (fun (W' : World) s' (hB : Bo W W' b r s' t) => hB.rchange k n hn.2)
  obtain ⟨R, hR⟩ : ∃ R, change k n s = R := ⟨_, rfl⟩
  obtain ⟨T, hT⟩ : ∃ T, change k n t = T := ⟨_, rfl⟩
  rw [hR] at HCB ⊢
  rw [hT] at HCR ⊢
  obtain ⟨R1, R2⟩ := R
  obtain ⟨T1, T2⟩ := T
  clear h hst hR hT hxx hxs hkw
  go_enter Try.func12, Try.ntmps12
  go_wp2_with fail
  generalize w.alloc (.cells #[.int .i64 d, .int .i64 k, .int .i64 n] 30) = w1 at HBO HX HXS HKW ⊢
  have c1 : w1.cell? ⟨x, 1, none⟩ = some (.int .i64 k) := cell_of_row _ _ _ _ _ _ HX.out
  have c2 : w1.cell? ⟨x, 2, none⟩ = some (.int .i64 n) := cell_of_row _ _ _ _ _ _ HX.out
  have d1 : w1.drew.cell? ⟨x, 1, none⟩ = some (.int .i64 k) := c1
  have d2 : w1.drew.cell? ⟨x, 2, none⟩ = some (.int .i64 n) := c2
  have HBD := Lib.hid HBO.out.drew
  go_region_held3 (fun w' => w'.cell? ⟨x, 1, none⟩ = some (.int .i64 k) ∧ w'.cell? ⟨x, 2, none⟩ = some (.int .i64 n))
    (first | go_keep | exact ⟨z1, z2⟩ | exact ⟨y1, y2⟩ | exact ⟨d1, d2⟩ | fail)
    (first
      | (go_at_call 16
         refine (HCB.out _ HBD.out).mono ?_
         rintro e w2 ⟨rfl, hbo, hg⟩
         have z1 : w2.cell? ⟨x, 1, none⟩ = some (.int .i64 k) := (hg.cell_far ⟨x, _, none⟩ HXS.out (by simp; omega)).trans d1
         have z2 : w2.cell? ⟨x, 2, none⟩ = some (.int .i64 n) := (hg.cell_far ⟨x, _, none⟩ HXS.out (by simp; omega)).trans d2
         have HB2 := Lib.hid hbo
         have HG2 := Lib.hid hg
         have hsz2 : Hid (x < w2.heap.size) := Nat.lt_of_lt_of_le HXS.out hg.size
         clear hbo hg)
      | (go_at_call 22; refine (HCR.out _ _ HB2.out).mono ?_
         rintro e w3 ⟨rfl, hbo, hg⟩
         have y1 : w3.cell? ⟨x, 1, none⟩ = some (.int .i64 k) := (hg.cell_far ⟨x, _, none⟩ hsz2.out (by simp; omega)).trans z1
         have y2 : w3.cell? ⟨x, 2, none⟩ = some (.int .i64 n) := (hg.cell_far ⟨x, _, none⟩ hsz2.out (by simp; omega)).trans z2
         have HB3 := Lib.hid hbo
         have HG3 := Lib.hid hg
         clear hbo hg)
      )
  go_wp2
  go_ret
  exact ⟨⟨_, rfl⟩, HB3.out, Kp.of HWX.out HKW.out HG2.out HG3.out⟩

set_option maxRecDepth 100000 in
set_option maxHeartbeats 4000000 in
theorem acl_n2 {W w : World} {b r : Nat} {s t : S} (h : Bo W w b r s t) (a : AC) (hw : a.wf) (hm : a.d.tmod 3 = -2) :
    Calls Try.prog 12 #[.pointer (some ⟨b, 0, none⟩), .pointer (some ⟨r, 0, none⟩), a.val] w fun e w' => (∃ v, e = .returned (.bool v)) ∧ Bo W w' b r (a.step s).2 (a.step t).2 ∧ Kp w w' b r := by
  obtain ⟨d, k, n⟩ := a
  have hst : ∀ x, AC.step ⟨d, k, n⟩ x = change k n x := fun x => by unfold AC.step; simp only at hm; simp [hm]
  rw [hst, hst]
  obtain ⟨hd, hk, hn⟩ := hw
  unfold AC.val
  simp only at hm hk hn hd ⊢
  have hbw := h.lv.at_.lt
  have hrw := h.at_.lt
  have HBO := Lib.hid (h.alloc (.cells #[.int .i64 d, .int .i64 k, .int .i64 n] 30))
  have hxx := heap_alloc_new w (.cells #[.int .i64 d, .int .i64 k, .int .i64 n] 30)
  obtain ⟨x, hx⟩ : ∃ x, w.heap.size = x := ⟨_, rfl⟩
  rw [hx] at hxx hbw hrw
  have HX := Lib.hid hxx
  have hxs : x < (w.alloc (.cells #[.int .i64 d, .int .i64 k, .int .i64 n] 30)).heap.size := by simp [hx]
  have HXS := Lib.hid hxs
  have hkw : Below w.heap.size w (w.alloc (.cells #[.int .i64 d, .int .i64 k, .int .i64 n] 30)) := (Below.refl _ _).alloc (Nat.le_refl _) _
  rw [hx] at hkw
  have HKW := Lib.hid hkw
  have HWX := Lib.hid hx
  have HCB := Lib.hid (fun (W' : World) (hB : Bo W W' b r s t) => hB.change k n hn.2)
  have HCR := Lib.hid (fun (W' : World) s' (hB : Bo W W' b r s' t) => hB.rchange k n hn.2)
  obtain ⟨R, hR⟩ : ∃ R, change k n s = R := ⟨_, rfl⟩
  obtain ⟨T, hT⟩ : ∃ T, change k n t = T := ⟨_, rfl⟩
  rw [hR] at HCB ⊢
  rw [hT] at HCR ⊢
  obtain ⟨R1, R2⟩ := R
  obtain ⟨T1, T2⟩ := T
  clear h hst hR hT hxx hxs hkw
  go_enter Try.func12, Try.ntmps12
  go_wp2_with fail
  generalize w.alloc (.cells #[.int .i64 d, .int .i64 k, .int .i64 n] 30) = w1 at HBO HX HXS HKW ⊢
  have c1 : w1.cell? ⟨x, 1, none⟩ = some (.int .i64 k) := cell_of_row _ _ _ _ _ _ HX.out
  have c2 : w1.cell? ⟨x, 2, none⟩ = some (.int .i64 n) := cell_of_row _ _ _ _ _ _ HX.out
  have d1 : w1.drew.cell? ⟨x, 1, none⟩ = some (.int .i64 k) := c1
  have d2 : w1.drew.cell? ⟨x, 2, none⟩ = some (.int .i64 n) := c2
  have HBD := Lib.hid HBO.out.drew
  go_region_held3 (fun w' => w'.cell? ⟨x, 1, none⟩ = some (.int .i64 k) ∧ w'.cell? ⟨x, 2, none⟩ = some (.int .i64 n))
    (first | go_keep | exact ⟨z1, z2⟩ | exact ⟨y1, y2⟩ | exact ⟨d1, d2⟩ | fail)
    (first
      | (go_at_call 16
         refine (HCB.out _ HBD.out).mono ?_
         rintro e w2 ⟨rfl, hbo, hg⟩
         have z1 : w2.cell? ⟨x, 1, none⟩ = some (.int .i64 k) := (hg.cell_far ⟨x, _, none⟩ HXS.out (by simp; omega)).trans d1
         have z2 : w2.cell? ⟨x, 2, none⟩ = some (.int .i64 n) := (hg.cell_far ⟨x, _, none⟩ HXS.out (by simp; omega)).trans d2
         have HB2 := Lib.hid hbo
         have HG2 := Lib.hid hg
         have hsz2 : Hid (x < w2.heap.size) := Nat.lt_of_lt_of_le HXS.out hg.size
         clear hbo hg)
      | (go_at_call 22; refine (HCR.out _ _ HB2.out).mono ?_
         rintro e w3 ⟨rfl, hbo, hg⟩
         have y1 : w3.cell? ⟨x, 1, none⟩ = some (.int .i64 k) := (hg.cell_far ⟨x, _, none⟩ hsz2.out (by simp; omega)).trans z1
         have y2 : w3.cell? ⟨x, 2, none⟩ = some (.int .i64 n) := (hg.cell_far ⟨x, _, none⟩ hsz2.out (by simp; omega)).trans z2
         have HB3 := Lib.hid hbo
         have HG3 := Lib.hid hg
         clear hbo hg)
      )
  go_wp2
  go_ret
  exact ⟨⟨_, rfl⟩, HB3.out, Kp.of HWX.out HKW.out HG2.out HG3.out⟩

theorem acl_any {W w : World} {b r : Nat} {s t : S} (h : Bo W w b r s t) (a : AC) (hw : a.wf) :
    Calls Try.prog 12 #[.pointer (some ⟨b, 0, none⟩), .pointer (some ⟨r, 0, none⟩), a.val] w fun e w' => (∃ v, e = .returned (.bool v)) ∧ Bo W w' b r (a.step s).2 (a.step t).2 ∧ Kp w w' b r := by
  rcases mod3 a.d with h1 | h1 | h1 | h1 | h1
  · exact acl_p0 h a hw h1
  · exact acl_p1 h a hw h1
  · exact acl_n1 h a hw h1
  · exact acl_p2 h a hw h1
  · exact acl_n2 h a hw h1
end Go.Proofs.Ytapncnbildampaa
