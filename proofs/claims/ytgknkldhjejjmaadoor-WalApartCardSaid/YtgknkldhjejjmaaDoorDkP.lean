/- The calls of a disk: Rename, Append. -/
import Derived.Test.YtgknkldhjejjmaaDoorDkO
namespace Go.Proofs.YtgknkldhjejjmaaDoor
open Go.RowKit Go.Maps
open DM

theorem append_nil (j k : ByteArray) (w : World) : Calls Tryd.prog 32 #[.pointer none, .string j, .string k] w fun e w' => e = .returned (.int .i64 1) ∧ Below w.heap.size w w' := by
  have HE : Hid (∀ W, W = ((w.alloc (.cells #[.pointer none] 31)).alloc (.cells #[.string k] 9)).alloc (.cells #[.pointer none] 68) → Below w.heap.size w W) := fun W hW => by
    subst hW
    exact (((Below.refl _ w).alloc (Nat.le_refl _) _).alloc (by simp) _).alloc (by simp; omega) _
  go_enter Tryd.func32, Tryd.ntmps32
  go_wp2_with (go_at_call 60; refine (find_nil _ _).mono ?_; rintro e w' ⟨rfl, rfl⟩)
  go_ret
  exact ⟨rfl, HE.out _ rfl⟩

set_option maxRecDepth 100000 in
set_option maxHeartbeats 2000000 in
theorem append_any {B : Nat} {w : World} {d : Nat} {s : St} {g : Gh} (h : Rep B w d s g) (ok : Ok s) (hB : B ≤ w.heap.size) (j k : ByteArray) (hj : j.size ≤ 140737488355328) (few : Few s) :
    Calls Tryd.prog 32 #[.pointer (some ⟨d, 0, none⟩), .string j, .string k] w (ChangeOut B w d (append j.data.toList k.data.toList s)) := by
  obtain ⟨q1, q2, q3, q4⟩ := two_boxes h hB (.pointer (some ⟨d, 0, none⟩)) (.string k) 31 9
  have hml : maxLen = 9223372036854775807 := rfl
  have hksz := size_list k
  unfold append
  cases hoff : s.off with
  | true =>
    rw [if_pos rfl]
    have HR := Lib.hid (find_off q1 hoff j)
    obtain ⟨r1, r2, r3⟩ := one_box q1 (Nat.le_trans hB q2.size) (.pointer none) 68
    have HE := Lib.hid (change_out (q2.trans r2) ⟨g, r1⟩ 13)
    clear h ok hoff few q1 q2 q3 q4 r1 r2 r3
    go_enter Tryd.func32, Tryd.ntmps32
    go_wp2_with (go_at_call 60; refine HR.out.mono ?_; rintro e w' ⟨rfl, rfl⟩)
    go_ret
    exact HE.out
  | false =>
    rw [if_neg (by simp)]
    have HR := Lib.hid (find_on q1 hoff (Nat.le_trans hB q2.size) j (by omega))
    have HOK := Lib.hid ok
    have HFEW := Lib.hid few
    have HOFF := Lib.hid hoff
    have HD := Lib.hid q3
    have HK := Lib.hid q4
    have HM := Lib.hid q2
    have hroom := ok.room
    have hul := ok.used_le
    clear h ok hoff few q1 q2 q3 q4
    cases hf : find s.names j.data.toList with
    | none =>
      rw [hf] at HR
      simp only
      clear hf
      go_enter Tryd.func32, Tryd.ntmps32
      go_wp2_with fail
      refine HR.out.mono ?_
      rintro e w3 ⟨hm3, g3, b1, b2, h1, h2, hr3, rfl⟩
      obtain ⟨r1, r2, r3⟩ := one_box hr3 (Nat.le_trans hB (HM.out.trans hm3).size) (.pointer none) 68
      have HE := Lib.hid (change_out ((HM.out.trans hm3).trans r2) ⟨g3, r1⟩ 10)
      clear hm3 h1 h2 hr3 r1 r2 r3
      simp only [pv, Option.isNone_none, if_true]
      go_wp2
      go_ret
      exact HE.out
    | some n =>
      rw [hf] at HR
      simp only
      have HF := Lib.hid hf
      have hll := HOK.out.lens_le n
      have hlen : lens s.files n = (fileAt s n).data.length := rfl
      have HLEN := Lib.hid hlen
      clear hf hlen
      rw [hksz]
      clear hksz
      obtain ⟨L, hL⟩ : ∃ L, lens s.files n = L := ⟨_, rfl⟩
      have HL := Lib.hid hL
      obtain ⟨U, hU⟩ : ∃ U, used s.files s.names = U := ⟨_, rfl⟩
      have HU := Lib.hid hU
      rw [hL] at hll ⊢
      rw [hU] at hul ⊢
      clear hL hU
      have v1 : IntKind.i64.wrap (1048576 - (L : Int)) = 1048576 - (L : Int) := wrapN _ (by omega) (by omega)
      have v2 : IntKind.i64.wrap (s.room - (U : Int)) = s.room - (U : Int) := wrapN _ (by omega) (by omega)
      by_cases hc1 : (1048576 : Int) < (L : Int) + (k.size : Int)
      · rw [if_pos (.inl hc1)]
        have d1 : decide (1048576 - (L : Int) < (k.size : Int)) = true := decide_eq_true (by omega)
        clear hc1
        go_enter Tryd.func32, Tryd.ntmps32
        go_wp2_with fail
        refine HR.out.mono ?_
        rintro e w3 ⟨hm3, g3, b1, b2, h1, h2, hr3, rfl⟩
        have hm3' := HM.out.trans hm3
        obtain ⟨r1, r2, r3⟩ := one_box hr3 (Nat.le_trans hB hm3'.size) (.pointer (some ⟨g3.blk n, 0, none⟩)) 68
        have hfn := find_live r1.body HOK.out.names HF.out
        obtain ⟨RA, RC, hrow⟩ := row_slice hfn
        rw [← HLEN.out, HL.out] at hrow
        have zb : (w3.alloc (.cells #[.pointer (some ⟨g3.blk n, 0, none⟩)] 68)).cell? ⟨g3.blk n, 1, none⟩ = some (.slice RA L RC) := by rw [← hrow]; exact cell_of_row _ _ _ _ _ _ hfn.2.1
        have z0 : (w3.alloc (.cells #[.pointer (some ⟨g3.blk n, 0, none⟩)] 68)).cell? ⟨d, 0, none⟩ = some (.int .i64 s.room) := r1.cells.1
        have zu : (w3.alloc (.cells #[.pointer (some ⟨g3.blk n, 0, none⟩)] 68)).cell? ⟨d, 1, none⟩ = some (.int .i64 U) := by rw [← HU.out]; exact r1.cells.2.1
        have z1 : (w3.alloc (.cells #[.pointer (some ⟨g3.blk n, 0, none⟩)] 68)).cell? ⟨w.heap.size, 0, none⟩ = some (.pointer (some ⟨d, 0, none⟩)) := ((HD.out.moved hm3 (by decide)).moved r2 (by decide)).cell
        have z2 : (w3.alloc (.cells #[.pointer (some ⟨g3.blk n, 0, none⟩)] 68)).cell? ⟨w.heap.size + 1, 0, none⟩ = some (.string k) := ((HK.out.moved hm3 (by decide)).moved r2 (by decide)).cell
        have z3 : (w3.alloc (.cells #[.pointer (some ⟨g3.blk n, 0, none⟩)] 68)).cell? ⟨w3.heap.size, 0, none⟩ = some (.pointer (some ⟨g3.blk n, 0, none⟩)) := r3.cell
        have HM4 := Lib.hid (hm3'.trans r2)
        have HR4 := Lib.hid r1
        have HF4 := Lib.hid r3
        have HD4 := Lib.hid ((HD.out.moved hm3 (by decide)).moved r2 (by decide))
        have HK4 := Lib.hid ((HK.out.moved hm3 (by decide)).moved r2 (by decide))
        have HE1 := Lib.hid h1
        have HE2 := Lib.hid h2
        clear hm3 h1 h2 hr3 r1 r2 r3 hm3' hfn hrow HR
        simp only [pv, Option.isNone_some]
        go_wp2_with fail
        generalize w3.alloc (.cells #[.pointer (some ⟨g3.blk n, 0, none⟩)] 68) = w4 at HM4 HR4 HF4 HD4 HK4 zb z0 zu z1 z2 z3 ⊢
        go_quiet (fail)
        have HE := Lib.hid (change_out (HM4.out.drewN nq) ⟨g3, HR4.out.still ⟨rfl, rfl, rfl, Nat.le_refl _, fun _ _ _ => rfl⟩⟩ 12)
        go_wp2
        go_ret
        exact HE.out
      · by_cases hc2 : s.room < (U : Int) + (k.size : Int)
        · rw [if_pos (.inr hc2)]
          have d1 : decide (1048576 - (L : Int) < (k.size : Int)) = false := decide_eq_false (by omega)
          have d2 : decide (s.room - (U : Int) < (k.size : Int)) = true := decide_eq_true (by omega)
          clear hc1 hc2
          go_enter Tryd.func32, Tryd.ntmps32
          go_wp2_with fail
          refine HR.out.mono ?_
          rintro e w3 ⟨hm3, g3, b1, b2, h1, h2, hr3, rfl⟩
          have hm3' := HM.out.trans hm3
          obtain ⟨r1, r2, r3⟩ := one_box hr3 (Nat.le_trans hB hm3'.size) (.pointer (some ⟨g3.blk n, 0, none⟩)) 68
          have hfn := find_live r1.body HOK.out.names HF.out
          obtain ⟨RA, RC, hrow⟩ := row_slice hfn
          rw [← HLEN.out, HL.out] at hrow
          have zb : (w3.alloc (.cells #[.pointer (some ⟨g3.blk n, 0, none⟩)] 68)).cell? ⟨g3.blk n, 1, none⟩ = some (.slice RA L RC) := by rw [← hrow]; exact cell_of_row _ _ _ _ _ _ hfn.2.1
          have z0 : (w3.alloc (.cells #[.pointer (some ⟨g3.blk n, 0, none⟩)] 68)).cell? ⟨d, 0, none⟩ = some (.int .i64 s.room) := r1.cells.1
          have zu : (w3.alloc (.cells #[.pointer (some ⟨g3.blk n, 0, none⟩)] 68)).cell? ⟨d, 1, none⟩ = some (.int .i64 U) := by rw [← HU.out]; exact r1.cells.2.1
          have z1 : (w3.alloc (.cells #[.pointer (some ⟨g3.blk n, 0, none⟩)] 68)).cell? ⟨w.heap.size, 0, none⟩ = some (.pointer (some ⟨d, 0, none⟩)) := ((HD.out.moved hm3 (by decide)).moved r2 (by decide)).cell
          have z2 : (w3.alloc (.cells #[.pointer (some ⟨g3.blk n, 0, none⟩)] 68)).cell? ⟨w.heap.size + 1, 0, none⟩ = some (.string k) := ((HK.out.moved hm3 (by decide)).moved r2 (by decide)).cell
          have z3 : (w3.alloc (.cells #[.pointer (some ⟨g3.blk n, 0, none⟩)] 68)).cell? ⟨w3.heap.size, 0, none⟩ = some (.pointer (some ⟨g3.blk n, 0, none⟩)) := r3.cell
          have HM4 := Lib.hid (hm3'.trans r2)
          have HR4 := Lib.hid r1
          have HF4 := Lib.hid r3
          have HD4 := Lib.hid ((HD.out.moved hm3 (by decide)).moved r2 (by decide))
          have HK4 := Lib.hid ((HK.out.moved hm3 (by decide)).moved r2 (by decide))
          have HE1 := Lib.hid h1
          have HE2 := Lib.hid h2
          clear hm3 h1 h2 hr3 r1 r2 r3 hm3' hfn hrow HR
          simp only [pv, Option.isNone_some]
          go_wp2_with fail
          generalize w3.alloc (.cells #[.pointer (some ⟨g3.blk n, 0, none⟩)] 68) = w4 at HM4 HR4 HF4 HD4 HK4 zb z0 zu z1 z2 z3 ⊢
          go_quiet (fail)
          have HE := Lib.hid (change_out (HM4.out.drewN nq) ⟨g3, HR4.out.still ⟨rfl, rfl, rfl, Nat.le_refl _, fun _ _ _ => rfl⟩⟩ 12)
          go_wp2
          go_ret
          exact HE.out
        · rw [if_neg (fun h => h.elim hc1 hc2)]
          have d1 : decide (1048576 - (L : Int) < (k.size : Int)) = false := decide_eq_false (by omega)
          have d2 : decide (s.room - (U : Int) < (k.size : Int)) = false := decide_eq_false (by omega)
          have hfit : Hid (L + k.size ≤ 1048576) := by show L + k.size ≤ 1048576; omega
          clear hc1 hc2
          go_enter Tryd.func32, Tryd.ntmps32
          go_wp2_with fail
          refine HR.out.mono ?_
          rintro e w3 ⟨hm3, g3, b1, b2, h1, h2, hr3, rfl⟩
          have hm3' := HM.out.trans hm3
          obtain ⟨r1, r2, r3⟩ := one_box hr3 (Nat.le_trans hB hm3'.size) (.pointer (some ⟨g3.blk n, 0, none⟩)) 68
          have hfn := find_live r1.body HOK.out.names HF.out
          obtain ⟨RA, RC, hrow⟩ := row_slice hfn
          rw [← HLEN.out, HL.out] at hrow
          have zb : (w3.alloc (.cells #[.pointer (some ⟨g3.blk n, 0, none⟩)] 68)).cell? ⟨g3.blk n, 1, none⟩ = some (.slice RA L RC) := by rw [← hrow]; exact cell_of_row _ _ _ _ _ _ hfn.2.1
          have z0 : (w3.alloc (.cells #[.pointer (some ⟨g3.blk n, 0, none⟩)] 68)).cell? ⟨d, 0, none⟩ = some (.int .i64 s.room) := r1.cells.1
          have zu : (w3.alloc (.cells #[.pointer (some ⟨g3.blk n, 0, none⟩)] 68)).cell? ⟨d, 1, none⟩ = some (.int .i64 U) := by rw [← HU.out]; exact r1.cells.2.1
          have z1 : (w3.alloc (.cells #[.pointer (some ⟨g3.blk n, 0, none⟩)] 68)).cell? ⟨w.heap.size, 0, none⟩ = some (.pointer (some ⟨d, 0, none⟩)) := ((HD.out.moved hm3 (by decide)).moved r2 (by decide)).cell
          have z2 : (w3.alloc (.cells #[.pointer (some ⟨g3.blk n, 0, none⟩)] 68)).cell? ⟨w.heap.size + 1, 0, none⟩ = some (.string k) := ((HK.out.moved hm3 (by decide)).moved r2 (by decide)).cell
          have z3 : (w3.alloc (.cells #[.pointer (some ⟨g3.blk n, 0, none⟩)] 68)).cell? ⟨w3.heap.size, 0, none⟩ = some (.pointer (some ⟨g3.blk n, 0, none⟩)) := r3.cell
          have HM4 := Lib.hid (hm3'.trans r2)
          have HR4 := Lib.hid r1
          have HF4 := Lib.hid r3
          have HD4 := Lib.hid ((HD.out.moved hm3 (by decide)).moved r2 (by decide))
          have HK4 := Lib.hid ((HK.out.moved hm3 (by decide)).moved r2 (by decide))
          have HE1 := Lib.hid h1
          have HE2 := Lib.hid h2
          clear hm3 h1 h2 hr3 r1 r2 r3 hm3' hfn hrow HR
          simp only [pv, Option.isNone_some]
          go_wp2_with fail
          generalize w3.alloc (.cells #[.pointer (some ⟨g3.blk n, 0, none⟩)] 68) = w4 at HM4 HR4 HF4 HD4 HK4 zb z0 zu z1 z2 z3 ⊢
          go_quiet (fail)
          have HCH : Hid (Calls Tryd.prog 53 #[.pointer (some ⟨d, 0, none⟩), .bool true, .func (.func 61) #[] #[.pointer (some ⟨w3.heap.size, 0, none⟩), .pointer (some ⟨w.heap.size + 1, 0, none⟩), .pointer (some ⟨w.heap.size, 0, none⟩)]] (w4.drewN nq) (ChangeOut B w d (change true (doAppend n k.data.toList) s))) := by
            have hr5 : Rep B (w4.drewN nq) d s g3 := HR4.out.still ⟨rfl, rfl, rfl, Nat.le_refl _, fun _ _ _ => rfl⟩
            have hm5 : Moves B w (w4.drewN nq) := HM4.out.drewN nq
            have hlt : n < s.files.length := HOK.out.gnames.file _ (find_some HF.out)
            refine (change_any hr5 HOK.out (Nat.le_trans hB hm5.size) HOFF.out true _ _ (doAppend n k.data.toList) (ok_append (ok_counted HOK.out) hlt (by show lens s.files n + _ ≤ _; rw [HL.out, size_list]; exact hfit.out)) ⟨rfl, rfl⟩ (by have := HFEW.out.1; show s.queue.length < _; omega) (by have := HFEW.out.2.1; simp [doAppend, counted]; omega) (by have := HFEW.out.1; omega) (by have := HFEW.out.2.1; omega) HFEW.out.2.2
              (cf_enter Tryd.func61 (by kernel_rfl) (by kernel_rfl) _) (fun W' kk hr' hm' hB' => ?_)).mono fun e w' ho => ho.from hm5
            exact append_do hr' (ok_counted HOK.out) HE1.out HE2.out hB' j k HF.out (by show lens s.files n + _ ≤ _; rw [HL.out]; exact hfit.out) _ _ _ (Cap.moved (w := w4.drewN nq) HF4.out hm' (by decide)) (Cap.moved (w := w4.drewN nq) HK4.out hm' (by decide)) (Cap.moved (w := w4.drewN nq) HD4.out hm' (by decide))
          have y1 : (w4.drewN nq).cell? ⟨w.heap.size, 0, none⟩ = some (.pointer (some ⟨d, 0, none⟩)) := z1
          clear HM4 HR4 HF4 HD4 HK4 zb z0 zu z1 z2 z3
          go_wp2_with fail
          refine HCH.out.mono ?_
          rintro e w5 ho
          have HO := Lib.hid ho
          have he := ho.1
          clear ho
          subst he
          go_wp2
          go_ret
          exact HO.out
end Go.Proofs.YtgknkldhjejjmaaDoor
