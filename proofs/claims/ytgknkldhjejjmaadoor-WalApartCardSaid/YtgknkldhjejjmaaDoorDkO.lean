/- The calls of a disk: Sync, SyncDir, Remove. -/
import Derived.Test.YtgknkldhjejjmaaDoorDkN
namespace Go.Proofs.YtgknkldhjejjmaaDoor
open Go.RowKit Go.Maps
open DM

theorem one_box {B : Nat} {w : World} {d : Nat} {s : St} {g : Gh} (h : Rep B w d s g) (hB : B ≤ w.heap.size) (v : Value) (t : TypeId) :
    Rep B (w.alloc (.cells #[v] t)) d s g ∧ Moves B w (w.alloc (.cells #[v] t)) ∧ Cap (w.alloc (.cells #[v] t)) w.heap.size v t :=
  ⟨h.still (World.grownBy_alloc w _ none), (Moves.refl B w).alloc hB _, heap_alloc_new w _⟩

theorem sync_nil (k : ByteArray) (w : World) : Calls Tryd.prog 34 #[.pointer none, .string k] w fun e w' => e = .returned (.int .i64 1) ∧ Below w.heap.size w w' := by
  have HE : Hid (∀ W, W = w.alloc (.cells #[.pointer none] 68) → Below w.heap.size w W) := fun W hW => by
    subst hW
    exact (Below.refl _ w).alloc (Nat.le_refl _) _
  go_enter Tryd.func34, Tryd.ntmps34
  go_wp2_with (go_at_call 60; refine (find_nil _ _).mono ?_; rintro e w' ⟨rfl, rfl⟩)
  go_ret
  exact ⟨rfl, HE.out _ rfl⟩

theorem syncDir_nil (w : World) : Calls Tryd.prog 28 #[.pointer none] w fun e w' => e = .returned (.int .i64 1) ∧ Below w.heap.size w w' := by
  have HE : Hid (∀ W, W = w.alloc (.cells #[.pointer none] 31) → Below w.heap.size w W) := fun W hW => by
    subst hW
    exact (Below.refl _ w).alloc (Nat.le_refl _) _
  go_enter Tryd.func28, Tryd.ntmps28
  go_wp2_with (go_at_call 51; refine (ready_nil _).mono ?_; rintro e w' ⟨rfl, rfl⟩)
  go_ret
  exact ⟨rfl, HE.out _ rfl⟩

theorem remove_nil (k : ByteArray) (w : World) : Calls Tryd.prog 41 #[.pointer none, .string k] w fun e w' => e = .returned (.int .i64 1) ∧ Below w.heap.size w w' := by
  have HE : Hid (∀ W, W = (w.alloc (.cells #[.pointer none] 31)).alloc (.cells #[.string k] 9) → Below w.heap.size w W) := fun W hW => by
    subst hW
    exact ((Below.refl _ w).alloc (Nat.le_refl _) _).alloc (by simp) _
  go_enter Tryd.func41, Tryd.ntmps41
  go_wp2_with (go_at_call 60; refine (find_nil _ _).mono ?_; rintro e w' ⟨rfl, rfl⟩)
  go_ret
  exact ⟨rfl, HE.out _ rfl⟩

theorem change_out {B : Nat} {w W : World} {d : Nat} {s : St} (hm : Moves B w W) (hr : ∃ g, Rep B W d s g) (n : Int) : ChangeOut B w d (n, s) (.returned (.int .i64 n)) W := ⟨rfl, hm, hr⟩

set_option maxRecDepth 100000 in
set_option maxHeartbeats 2000000 in
theorem sync_any {B : Nat} {w : World} {d : Nat} {s : St} {g : Gh} (h : Rep B w d s g) (ok : Ok s) (hB : B ≤ w.heap.size) (k : ByteArray) (hk : k.size ≤ 140737488355328) (few : Few s) :
    Calls Tryd.prog 34 #[.pointer (some ⟨d, 0, none⟩), .string k] w (ChangeOut B w d (sync k.data.toList s)) := by
  have hml : maxLen = 9223372036854775807 := rfl
  unfold sync
  cases hoff : s.off with
  | true =>
    rw [if_pos rfl]
    have HR := Lib.hid (find_off h hoff k)
    obtain ⟨b1, b2, b3⟩ := one_box h hB (.pointer none) 68
    have HE := Lib.hid (change_out b2 ⟨g, b1⟩ 13)
    clear h ok hoff few b1 b2 b3
    go_enter Tryd.func34, Tryd.ntmps34
    go_wp2_with (go_at_call 60; refine HR.out.mono ?_; rintro e w' ⟨rfl, rfl⟩)
    go_ret
    exact HE.out
  | false =>
    rw [if_neg (by simp)]
    have HR := Lib.hid (find_on h hoff hB k (by omega))
    have HOK := Lib.hid ok
    have HFEW := Lib.hid few
    have HOFF := Lib.hid hoff
    clear h ok hoff few
    cases hf : find s.names k.data.toList with
    | none =>
      rw [hf] at HR
      simp only
      clear hf
      go_enter Tryd.func34, Tryd.ntmps34
      go_wp2_with fail
      refine HR.out.mono ?_
      rintro e w3 ⟨hm3, g3, b1, b2, h1, h2, hr3, rfl⟩
      obtain ⟨q1, q2, q3⟩ := one_box hr3 (Nat.le_trans hB hm3.size) (.pointer none) 68
      have HE := Lib.hid (change_out (hm3.trans q2) ⟨g3, q1⟩ 10)
      clear hm3 h1 h2 hr3 q1 q2 q3
      simp only [pv, Option.isNone_none, if_true]
      go_wp2
      go_ret
      exact HE.out
    | some n =>
      rw [hf] at HR
      simp only
      have HF := Lib.hid hf
      clear hf
      go_enter Tryd.func34, Tryd.ntmps34
      go_wp2_with fail
      refine HR.out.mono ?_
      rintro e w3 ⟨hm3, g3, b1, b2, h1, h2, hr3, rfl⟩
      obtain ⟨q1, q2, q3⟩ := one_box hr3 (Nat.le_trans hB hm3.size) (.pointer (some ⟨g3.blk n, 0, none⟩)) 68
      have hm := hm3.trans q2
      have HCH : Hid (Calls Tryd.prog 53 #[.pointer (some ⟨d, 0, none⟩), .bool false, .func (.func 62) #[] #[.pointer (some ⟨w3.heap.size, 0, none⟩)]] (w3.alloc (.cells #[.pointer (some ⟨g3.blk n, 0, none⟩)] 68)) (ChangeOut B w d (change false (doSync n) s))) := by
        have hlt : n < s.files.length := HOK.out.gnames.file _ (find_some HF.out)
        refine (change_any q1 HOK.out (Nat.le_trans hB hm.size) HOFF.out false _ _ (doSync n) (ok_sync (ok_counted HOK.out) hlt) ⟨rfl, rfl⟩ (by have := HFEW.out.1; show s.queue.length < _; omega) (by have := HFEW.out.2.1; simp [doSync, counted]; omega) (by have := HFEW.out.1; omega) (by have := HFEW.out.2.1; omega) HFEW.out.2.2
          (cf_enter Tryd.func62 (by kernel_rfl) (by kernel_rfl) _) (fun W' kk hr' hm' hB' => ?_)).mono fun e w' ho => ho.from hm
        exact sync_do hr' (ok_counted HOK.out) h1 h2 hB' k HF.out _ (q3.moved hm' (by decide))
      clear hm3 h1 h2 hr3 q1 q2 q3 hm HR
      simp only [pv, Option.isNone_some]
      go_wp2_with fail
      refine HCH.out.mono ?_
      rintro e w5 ho
      have HO := Lib.hid ho
      have he := ho.1
      clear ho
      subst he
      go_wp2
      go_ret
      exact HO.out

set_option maxRecDepth 100000 in
set_option maxHeartbeats 2000000 in
theorem syncDir_any {B : Nat} {w : World} {d : Nat} {s : St} {g : Gh} (h : Rep B w d s g) (ok : Ok s) (hB : B ≤ w.heap.size) (few : Few s) :
    Calls Tryd.prog 28 #[.pointer (some ⟨d, 0, none⟩)] w (ChangeOut B w d (syncDir s)) := by
  obtain ⟨q1, q2, q3⟩ := one_box h hB (.pointer (some ⟨d, 0, none⟩)) 31
  unfold syncDir
  cases hoff : s.off with
  | true =>
    rw [if_pos rfl]
    have HR := Lib.hid (ready_off q1 hoff)
    have HE := Lib.hid (change_out q2 ⟨g, q1⟩ 13)
    clear h ok hoff few q1 q2 q3
    go_enter Tryd.func28, Tryd.ntmps28
    go_wp2_with (go_at_call 51; refine HR.out.mono ?_; rintro e w' ⟨rfl, rfl⟩)
    go_ret
    exact HE.out
  | false =>
    rw [if_neg (by simp)]
    have HR := Lib.hid (ready_on q1 hoff (Nat.le_trans hB q2.size))
    have HOK := Lib.hid ok
    have HFEW := Lib.hid few
    have HOFF := Lib.hid hoff
    have HD := Lib.hid q3
    have HM := Lib.hid q2
    clear h ok hoff few q1 q2 q3
    go_enter Tryd.func28, Tryd.ntmps28
    go_wp2_with fail
    refine HR.out.mono ?_
    rintro e w3 ⟨rfl, ⟨g3, b1, b2, h1, h2, hr3⟩, hm3⟩
    have z1 := (HD.out.moved hm3 (by decide)).cell
    have hm := HM.out.trans hm3
    have HCH : Hid (Calls Tryd.prog 53 #[.pointer (some ⟨d, 0, none⟩), .bool false, .func (.func 57) #[] #[.pointer (some ⟨w.heap.size, 0, none⟩)]] w3 (ChangeOut B w d (change false doSyncDir s))) := by
      refine (change_any hr3 HOK.out (Nat.le_trans hB hm.size) HOFF.out false _ _ doSyncDir (ok_syncDir (ok_counted HOK.out)) ⟨rfl, rfl⟩ (by simp [doSyncDir]) (by have := HFEW.out.2.1; show s.files.length < _; omega) (by have := HFEW.out.1; omega) (by have := HFEW.out.2.1; omega) HFEW.out.2.2
        (cf_enter Tryd.func57 (by kernel_rfl) (by kernel_rfl) _) (fun W' kk hr' hm' hB' => ?_)).mono fun e w' ho => ho.from hm
      exact syncDir_do hr' (ok_counted HOK.out) h1 h2 hB' (by have := HFEW.out.1; show s.queue.length < _; omega) _ ((HD.out.moved hm3 (by decide)).moved hm' (by decide))
    clear hm3 h1 h2 hr3 hm HR
    go_wp2_with fail
    refine HCH.out.mono ?_
    rintro e w5 ho
    have HO := Lib.hid ho
    have he := ho.1
    clear ho
    subst he
    go_wp2
    go_ret
    exact HO.out

set_option maxRecDepth 100000 in
set_option maxHeartbeats 2000000 in
theorem remove_any {B : Nat} {w : World} {d : Nat} {s : St} {g : Gh} (h : Rep B w d s g) (ok : Ok s) (hB : B ≤ w.heap.size) (k : ByteArray) (hk : k.size ≤ 140737488355328) (few : Few s) :
    Calls Tryd.prog 41 #[.pointer (some ⟨d, 0, none⟩), .string k] w (ChangeOut B w d (remove k.data.toList s)) := by
  obtain ⟨q1, q2, q3, q4⟩ := two_boxes h hB (.pointer (some ⟨d, 0, none⟩)) (.string k) 31 9
  have hml : maxLen = 9223372036854775807 := rfl
  unfold remove
  cases hoff : s.off with
  | true =>
    rw [if_pos rfl]
    have HR := Lib.hid (find_off q1 hoff k)
    have HE := Lib.hid (change_out q2 ⟨g, q1⟩ 13)
    clear h ok hoff few q1 q2 q3 q4
    go_enter Tryd.func41, Tryd.ntmps41
    go_wp2_with (go_at_call 60; refine HR.out.mono ?_; rintro e w' ⟨rfl, rfl⟩)
    go_ret
    exact HE.out
  | false =>
    rw [if_neg (by simp)]
    have HR := Lib.hid (find_on q1 hoff (Nat.le_trans hB q2.size) k (by omega))
    have HOK := Lib.hid ok
    have HFEW := Lib.hid few
    have HOFF := Lib.hid hoff
    have HD := Lib.hid q3
    have HK := Lib.hid q4
    have HM := Lib.hid q2
    clear h ok hoff few q1 q2 q3 q4
    cases hf : find s.names k.data.toList with
    | none =>
      rw [hf] at HR
      simp only
      clear hf
      go_enter Tryd.func41, Tryd.ntmps41
      go_wp2_with fail
      refine HR.out.mono ?_
      rintro e w3 ⟨hm3, g3, b1, b2, h1, h2, hr3, rfl⟩
      have HE := Lib.hid (change_out (HM.out.trans hm3) ⟨g3, hr3⟩ 10)
      clear hm3 h1 h2 hr3
      simp only [pv, Option.isNone_none, if_true]
      go_wp2
      go_ret
      exact HE.out
    | some n =>
      rw [hf] at HR
      simp only
      have HF := Lib.hid hf
      clear hf
      go_enter Tryd.func41, Tryd.ntmps41
      go_wp2_with fail
      refine HR.out.mono ?_
      rintro e w3 ⟨hm3, g3, b1, b2, h1, h2, hr3, rfl⟩
      have hm := HM.out.trans hm3
      have z1 := (HD.out.moved hm3 (by decide)).cell
      have HCH : Hid (Calls Tryd.prog 53 #[.pointer (some ⟨d, 0, none⟩), .bool true, .func (.func 66) #[] #[.pointer (some ⟨w.heap.size, 0, none⟩), .pointer (some ⟨w.heap.size + 1, 0, none⟩)]] w3 (ChangeOut B w d (change true (doRemove k.data.toList) s))) := by
        refine (change_any hr3 HOK.out (Nat.le_trans hB hm.size) HOFF.out true _ _ (doRemove k.data.toList) (ok_remove (ok_counted HOK.out) HF.out) ⟨rfl, rfl⟩ (by have := HFEW.out.1; simp [doRemove, point, counted]; omega) (by have := HFEW.out.2.1; show s.files.length < _; omega) (by have := HFEW.out.1; omega) (by have := HFEW.out.2.1; omega) HFEW.out.2.2
          (cf_enter Tryd.func66 (by kernel_rfl) (by kernel_rfl) _) (fun W' kk hr' hm' hB' => ?_)).mono fun e w' ho => ho.from hm
        exact remove_do hr' (ok_counted HOK.out) h1 h2 hB' k HF.out (by have := HFEW.out.1; show s.queue.length < _; omega) _ _ ((HD.out.moved hm3 (by decide)).moved hm' (by decide)) ((HK.out.moved hm3 (by decide)).moved hm' (by decide))
      clear hm3 h1 h2 hr3 hm HR
      simp only [pv, Option.isNone_some]
      go_wp2_with fail
      refine HCH.out.mono ?_
      rintro e w5 ho
      have HO := Lib.hid ho
      have he := ho.1
      clear ho
      subst he
      go_wp2
      go_ret
      exact HO.out
end Go.Proofs.YtgknkldhjejjmaaDoor
