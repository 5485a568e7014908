/- The calls of a disk: New, Create. -/
import Derived.Test.YtgknkldhjejjmaaDoorDkM
import Derived.BigGuardPart
namespace Go.Proofs.YtgknkldhjejjmaaDoor
open Go.RowKit Go.Maps
open DM

theorem cf_enter {P : Program} {f : FuncId} {fn : Func} (hf : P.funcs[f]? = some fn) (hname : (fn.name == "runtime.NumGoroutine") = false) (hb : fn.body.isSome = true) (args : Array Value) (w : World) : (callFunc f args).run P w = .ok (.enter f args) w := by
  have h1 : fn.name ≠ "runtime.NumGoroutine" := by simpa using hname
  obtain ⟨c, hc⟩ := Option.isSome_iff_exists.1 hb
  simp [callFunc, hf, h1, hc]

/-- enough room for one more -/
def Few (s : St) : Prop := s.queue.length < 1099511627775 ∧ s.files.length < 1099511627775 ∧ s.cutBytes.length ≤ 4611686018427387904

theorem ChangeOut.from {B : Nat} {w W : World} {d : Nat} {r : Int × St} {e : Ending} {w' : World} (h : ChangeOut B W d r e w') (hm : Moves B w W) : ChangeOut B w d r e w' := ⟨h.1, hm.trans h.2.1, h.2.2⟩

theorem new_any (room : Int) (w : World) (hr : fits room) :
    Calls Tryd.prog 13 #[.int .i64 room] w fun e w' => e = .returned (.pointer (some ⟨w.heap.size, 0, none⟩)) ∧ ∀ B, B ≤ w.heap.size → Moves B w w' ∧ ∃ g, Rep B w' w.heap.size (new room) g := by
  unfold fits at hr
  have HE : Hid (∀ W, W = w.alloc (.cells #[.int .i64 (max room 0), .int .i64 0, .int .i64 0, .map none, .map none, .slice none 0 0, .bool false, .int .i64 0, .int .i64 0, .slice none 0 0, .int .i64 0] 57) → ∀ B, B ≤ w.heap.size → Moves B w W ∧ ∃ g, Rep B W w.heap.size (new room) g) := fun W hW B hB => by
    subst hW
    refine ⟨(Moves.refl B w).alloc hB _, ⟨none, none, .slice none 0 0, .slice none 0 0, fun _ => 0, fun _ => .slice none 0 0, 0⟩, ⟨.inl ⟨rfl, rfl, rfl, rfl, rfl⟩, World.ownsRow_nil _ _ _ _, fun n hn => ?_, fun n m hn => ?_, World.ownsRow_nil _ _ _ _, fun _ => rfl, Int.le_refl 0, (by decide : (0 : Int) ≤ 9223372036854775807)⟩, ?_, hB⟩
    · rcases hn with ⟨p, hp, _⟩ | ⟨e, he, _⟩
      · cases hp
      · cases he
    · rcases hn with ⟨p, hp, _⟩ | ⟨e, he, _⟩
      · cases hp
      · cases he
    · exact heap_alloc_new w _
  by_cases h0 : room ≤ 0
  · have hm : max room 0 = 0 := by omega
    have hm' : max 0 room = 0 := by omega
    rw [hm] at HE
    go_enter Tryd.func13, Tryd.ntmps13
    go_wp2
    go_ret
    exact ⟨rfl, HE.out _ rfl⟩
  · obtain ⟨m, hm⟩ : ∃ m, max room 0 = m := ⟨_, rfl⟩
    have hm' : max 0 room = m := by omega
    rw [hm] at HE
    go_enter Tryd.func13, Tryd.ntmps13
    go_wp2
    go_ret
    exact ⟨rfl, HE.out _ rfl⟩

theorem create_nil (k : ByteArray) (w : World) : Calls Tryd.prog 27 #[.pointer none, .string k] w fun e w' => e = .returned (.int .i64 1) ∧ Below w.heap.size w w' := by
  have HE : Hid (∀ W, W = (w.alloc (.cells #[.pointer none] 31)).alloc (.cells #[.string k] 9) → Below w.heap.size w W) := fun W hW => by
    subst hW
    exact ((Below.refl _ w).alloc (Nat.le_refl _) _).alloc (by simp) _
  go_enter Tryd.func27, Tryd.ntmps27
  go_wp2_with (go_at_call 51; refine (ready_nil _).mono ?_; rintro e w' ⟨rfl, rfl⟩)
  go_ret
  exact ⟨rfl, HE.out _ rfl⟩

theorem two_boxes {B : Nat} {w : World} {d : Nat} {s : St} {g : Gh} (h : Rep B w d s g) (hB : B ≤ w.heap.size) (v1 v2 : Value) (t1 t2 : TypeId) :
    Rep B ((w.alloc (.cells #[v1] t1)).alloc (.cells #[v2] t2)) d s g ∧ Moves B w ((w.alloc (.cells #[v1] t1)).alloc (.cells #[v2] t2)) ∧ Cap ((w.alloc (.cells #[v1] t1)).alloc (.cells #[v2] t2)) w.heap.size v1 t1 ∧ Cap ((w.alloc (.cells #[v1] t1)).alloc (.cells #[v2] t2)) (w.heap.size + 1) v2 t2 := by
  refine ⟨(h.still (World.grownBy_alloc w _ none)).still (World.grownBy_alloc _ _ none), ((Moves.refl B w).alloc hB _).alloc (by simp; omega) _, alloc_old _ _ _ _ (heap_alloc_new w _), alloc_at _ _ _ (by simp)⟩

set_option maxRecDepth 100000 in
set_option maxHeartbeats 2000000 in
theorem create_any {B : Nat} {w : World} {d : Nat} {s : St} {g : Gh} (h : Rep B w d s g) (ok : Ok s) (hB : B ≤ w.heap.size) (k : ByteArray) (hk : k.size ≤ 140737488355328) (few : Few s) :
    Calls Tryd.prog 27 #[.pointer (some ⟨d, 0, none⟩), .string k] w (ChangeOut B w d (create k.data.toList s)) := by
  obtain ⟨hr2, hm2, cd, ck⟩ := two_boxes h hB (.pointer (some ⟨d, 0, none⟩)) (.string k) 31 9
  have hml : maxLen = 9223372036854775807 := rfl
  unfold create
  cases hoff : s.off with
  | true =>
    rw [if_pos rfl]
    have HR := Lib.hid (ready_off hr2 hoff)
    have HE : Hid (ChangeOut B w d (13, s) (.returned (.int .i64 13)) ((w.alloc (.cells #[.pointer (some ⟨d, 0, none⟩)] 31)).alloc (.cells #[.string k] 9))) := ⟨rfl, hm2, g, hr2⟩
    clear h ok hr2 hm2 cd ck hoff few
    go_enter Tryd.func27, Tryd.ntmps27
    go_wp2_with (go_at_call 51; refine HR.out.mono ?_; rintro e w' ⟨rfl, rfl⟩)
    go_ret
    exact HE.out
  | false =>
    rw [if_neg (by simp)]
    have HR := Lib.hid (ready_on hr2 hoff (by have := hm2.size; omega))
    have HG := Lib.hid (fun W => good_any k W)
    have HM := Lib.hid hm2
    have HD := Lib.hid cd
    have HK := Lib.hid ck
    have x1 := cd.cell
    have x2 := ck.cell
    have HOFF := Lib.hid hoff
    have HOK := Lib.hid ok
    have HFEW := Lib.hid few
    have hbl : (w.heap.size + 1) < w.heap.size + 2 := by omega
    clear h ok hr2 hm2 hoff few cd ck x1 x2
    have pick : ∀ W : World, Hid (Moves B w W) → Hid (∃ g, Rep B W d s g) → ∀ n : Int, ChangeOut B w d (n, s) (.returned (.int .i64 n)) W := fun W h1 h2 n => ⟨rfl, h1.out, h2.out⟩
    have PICK := Lib.hid pick
    clear pick
    cases hgn : goodName k.data.toList with
    | false =>
      rw [if_pos (by simp)]
      rw [hgn] at HG
      clear hgn
      go_enter Tryd.func27, Tryd.ntmps27
      go_wp2_with fail
      refine HR.out.mono ?_
      rintro e w3 ⟨rfl, ⟨g3, b1, b2, h1, h2, hr3⟩, hm3⟩
      have z2 := (HK.out.moved hm3 (by decide)).cell
      have HM3 := Lib.hid (HM.out.trans hm3)
      have HR3 : Hid (∃ g, Rep B w3 d s g) := ⟨g3, hr3⟩
      clear hr3 hm3 h1 h2
      go_wp2_with (go_at_call 52; refine (HG.out _).mono ?_; rintro e w' ⟨rfl, rfl⟩)
      go_ret
      exact PICK.out _ HM3 HR3 2
    | true =>
      rw [if_neg (by simp)]
      rw [hgn] at HG
      have HGN := Lib.hid hgn
      clear hgn
      cases hf : find s.names k.data.toList with
      | some n =>
        rw [if_pos (by simp)]
        have HF := Lib.hid hf
        clear hf
        go_enter Tryd.func27, Tryd.ntmps27
        go_wp2_with fail
        refine HR.out.mono ?_
        rintro e w3 ⟨rfl, ⟨g3, b1, b2, h1, h2, hr3⟩, hm3⟩
        have z1 := (HD.out.moved hm3 (by decide)).cell
        have z2 := (HK.out.moved hm3 (by decide)).cell
        have c3 := hr3.half.cells 3
        simp only [dC, h1] at c3
        have hlk : ∀ N, (Instr.lookup 52 (.map (some b1)) (.string k) false).run Tryd.prog (w3.drewN N) = .ok (.pointer (some ⟨g3.blk n, 0, none⟩)) (w3.drewN N) := fun N => by
          have := look (w := w3.drewN N) (hr3.own1 h1) k (by omega)
          rw [HF.out] at this
          exact this
        have HM3 := Lib.hid (HM.out.trans hm3)
        have HR3 : Hid (∃ g, Rep B w3 d s g) := ⟨g3, hr3⟩
        clear hr3 hm3 h1 h2
        go_wp2_with (go_at_call 52; refine (HG.out _).mono ?_; rintro e w' ⟨rfl, rfl⟩)
        go_quiet (fail)
        go_wp2
        go_ret
        have h9 : Hid (Moves B w (w3.drewN nq)) := HM3.out.drewN _
        exact PICK.out _ h9 (HR3.out.elim fun g hr => ⟨g, hr.still ⟨rfl, rfl, rfl, Nat.le_refl _, fun _ _ _ => rfl⟩⟩) 11
      | none =>
        rw [if_neg (by simp)]
        have HF := Lib.hid hf
        clear hf
        have hrest : Hid (∀ W, Moves B ((w.alloc (.cells #[.pointer (some ⟨d, 0, none⟩)] 31)).alloc (.cells #[.string k] 9)) W → (∃ g b1 b2, g.m1 = some b1 ∧ g.m2 = some b2 ∧ Rep B W d s g) → s.names.length < 4096 → Calls Tryd.prog 53 #[.pointer (some ⟨d, 0, none⟩), .bool true, .func (.func 54) #[] #[.pointer (some ⟨w.heap.size, 0, none⟩), .pointer (some ⟨w.heap.size + 1, 0, none⟩)]] W (ChangeOut B w d (change true (doCreate k.data.toList) s))) := fun W hmW ⟨g, b1, b2, h1, h2, hr⟩ hl => by
          have hm := HM.out.trans hmW
          refine (change_any hr HOK.out (Nat.le_trans hB hm.size) HOFF.out true _ _ (doCreate k.data.toList) (ok_create (ok_counted HOK.out) HGN.out HF.out hl) ⟨rfl, rfl⟩ (by have := HFEW.out.1; simp [doCreate, point, counted]; omega) (by have := HFEW.out.2.1; simp [doCreate, point, counted]; omega) (by have := HFEW.out.1; omega) (by have := HFEW.out.2.1; omega) HFEW.out.2.2
            (cf_enter Tryd.func54 (by kernel_rfl) (by kernel_rfl) _) (fun W' kk hr' hm' hB' => ?_)).mono fun e w' ho => ho.from hm
          exact create_do hr' (ok_counted HOK.out) h1 h2 hB' k HGN.out HF.out hl (by have := HFEW.out.1; show s.queue.length < _; omega) (by have := HFEW.out.2.1; show s.files.length < _; omega) _ _ ((HD.out.moved hmW (by decide)).moved hm' (by decide)) ((HK.out.moved hmW (by decide)).moved hm' (by decide))
        obtain ⟨NL, hNL⟩ : ∃ NL, s.names.length = NL := ⟨_, rfl⟩
        have HNL := Lib.hid hNL
        rw [hNL] at hrest ⊢
        clear hNL
        by_cases hge : 4096 ≤ NL
        · rw [if_pos hge]
          have hge2 := Lib.hid hge
          clear hge
          go_enter Tryd.func27, Tryd.ntmps27
          go_wp2_with fail
          refine HR.out.mono ?_
          rintro e w3 ⟨rfl, ⟨g3, b1, b2, h1, h2, hr3⟩, hm3⟩
          have z1 := (HD.out.moved hm3 (by decide)).cell
          have z2 := (HK.out.moved hm3 (by decide)).cell
          have c3 := hr3.half.cells 3
          simp only [dC, h1] at c3
          have hlk : ∀ N, (Instr.lookup 52 (.map (some b1)) (.string k) false).run Tryd.prog (w3.drewN N) = .ok (.pointer none) (w3.drewN N) := fun N => by
            have := look (w := w3.drewN N) (hr3.own1 h1) k (by omega)
            rw [HF.out] at this
            exact this
          have HM3 := Lib.hid hm3
          have HR3 : Hid (∃ g b1 b2, g.m1 = some b1 ∧ g.m2 = some b2 ∧ Rep B w3 d s g) := ⟨g3, b1, b2, h1, h2, hr3⟩
          have HO3 : Hid (OwnM w3 b1 s.names.length (D g3.blk s.names)) := hr3.own1 h1
          clear hr3 hm3 h1 h2
          go_wp2_with (go_at_call 52; refine (HG.out _).mono ?_; rintro e w' ⟨rfl, rfl⟩)
          go_quiet (fail)
          have HM4 : Hid (Moves B ((w.alloc (.cells #[.pointer (some ⟨d, 0, none⟩)] 31)).alloc (.cells #[.string k] 9)) (w3.drewN nq)) := HM3.out.drewN _
          have HR4 : Hid (∃ g b1 b2, g.m1 = some b1 ∧ g.m2 = some b2 ∧ Rep B (w3.drewN nq) d s g) := HR3.out.elim fun g hr => ⟨g, hr.elim fun b1 hr => ⟨b1, hr.elim fun b2 hr => ⟨b2, hr.1, hr.2.1, hr.2.2.still ⟨rfl, rfl, rfl, Nat.le_refl _, fun _ _ _ => rfl⟩⟩⟩⟩
          have hlen : ∀ ty, (Builtin.len_ #[52] ty #[.map (some b1)]).run Tryd.prog (w3.drewN nq) = .ok (.int .i64 NL) (w3.drewN nq) := fun ty => by
            have := World.ownsMap.len (w := w3.drewN nq) HO3.out Tryd.underlying52 ty
            rw [D_size, HNL.out] at this
            exact this
          have HO4 : Hid (OwnM (w3.drewN nq) b1 s.names.length (D g3.blk s.names)) := HO3.out
          have y1 : (w3.drewN nq).cell? ⟨w.heap.size, 0, none⟩ = some (.pointer (some ⟨d, 0, none⟩)) := z1
          have y3 : (w3.drewN nq).cell? ⟨d, 3, none⟩ = some (.map (some b1)) := c3
          have hdl : d < (w3.drewN nq).heap.size := HR4.out.elim fun g hr => hr.elim fun b1 hr => hr.elim fun b2 hr => hr.2.2.lt
          clear z1 z2 c3 hlk HM3 HR3 HO3
          generalize w3.drewN nq = w4 at HM4 HR4 hlen HO4 y1 y3 hdl ⊢
          clear hrest
          have hge' : decide ((4096 : Int) ≤ (NL : Int)) = true := decide_eq_true (by have := hge2.out; omega)
          go_wp2_with (at_len; refine wpList_len_own _ rfl _ 52 rfl 9 68 Tryd.underlying52 _ b1 _ _ rfl HO4.out ?_; rw [D_size, HNL.out])
          go_ret
          have h9 : Hid (Moves B w w4) := HM.out.trans HM4.out
          exact PICK.out _ h9 (HR4.out.elim fun g hr => hr.elim fun b1 hr => hr.elim fun b2 hr => ⟨g, hr.2.2⟩) 12
        · rw [if_neg hge]
          have hlt : NL < 4096 := by omega
          clear hge
          go_enter Tryd.func27, Tryd.ntmps27
          go_wp2_with fail
          refine HR.out.mono ?_
          rintro e w3 ⟨rfl, ⟨g3, b1, b2, h1, h2, hr3⟩, hm3⟩
          have z1 := (HD.out.moved hm3 (by decide)).cell
          have z2 := (HK.out.moved hm3 (by decide)).cell
          have c3 := hr3.half.cells 3
          simp only [dC, h1] at c3
          have hlk : ∀ N, (Instr.lookup 52 (.map (some b1)) (.string k) false).run Tryd.prog (w3.drewN N) = .ok (.pointer none) (w3.drewN N) := fun N => by
            have := look (w := w3.drewN N) (hr3.own1 h1) k (by omega)
            rw [HF.out] at this
            exact this
          have HM3 := Lib.hid hm3
          have HR3 : Hid (∃ g b1 b2, g.m1 = some b1 ∧ g.m2 = some b2 ∧ Rep B w3 d s g) := ⟨g3, b1, b2, h1, h2, hr3⟩
          have HO3 : Hid (OwnM w3 b1 s.names.length (D g3.blk s.names)) := hr3.own1 h1
          clear hr3 hm3 h1 h2
          go_wp2_with (go_at_call 52; refine (HG.out _).mono ?_; rintro e w' ⟨rfl, rfl⟩)
          go_quiet (fail)
          have HM4 : Hid (Moves B ((w.alloc (.cells #[.pointer (some ⟨d, 0, none⟩)] 31)).alloc (.cells #[.string k] 9)) (w3.drewN nq)) := HM3.out.drewN _
          have HR4 : Hid (∃ g b1 b2, g.m1 = some b1 ∧ g.m2 = some b2 ∧ Rep B (w3.drewN nq) d s g) := HR3.out.elim fun g hr => ⟨g, hr.elim fun b1 hr => ⟨b1, hr.elim fun b2 hr => ⟨b2, hr.1, hr.2.1, hr.2.2.still ⟨rfl, rfl, rfl, Nat.le_refl _, fun _ _ _ => rfl⟩⟩⟩⟩
          have hlen : ∀ ty, (Builtin.len_ #[52] ty #[.map (some b1)]).run Tryd.prog (w3.drewN nq) = .ok (.int .i64 NL) (w3.drewN nq) := fun ty => by
            have := World.ownsMap.len (w := w3.drewN nq) HO3.out Tryd.underlying52 ty
            rw [D_size, HNL.out] at this
            exact this
          have HO4 : Hid (OwnM (w3.drewN nq) b1 s.names.length (D g3.blk s.names)) := HO3.out
          have y1 : (w3.drewN nq).cell? ⟨w.heap.size, 0, none⟩ = some (.pointer (some ⟨d, 0, none⟩)) := z1
          have y3 : (w3.drewN nq).cell? ⟨d, 3, none⟩ = some (.map (some b1)) := c3
          have hdl : d < (w3.drewN nq).heap.size := HR4.out.elim fun g hr => hr.elim fun b1 hr => hr.elim fun b2 hr => hr.2.2.lt
          clear z1 z2 c3 hlk HM3 HR3 HO3
          generalize w3.drewN nq = w4 at HM4 HR4 hlen HO4 y1 y3 hdl ⊢
          have hge' : decide ((4096 : Int) ≤ (NL : Int)) = false := decide_eq_false (by omega)
          have HCH := Lib.hid (hrest.out w4 HM4.out HR4.out hlt)
          clear hrest
          go_wp2_with (at_len; refine wpList_len_own _ rfl _ 52 rfl 9 68 Tryd.underlying52 _ b1 _ _ rfl HO4.out ?_; rw [D_size, HNL.out])
          refine HCH.out.mono ?_
          rintro e w5 ho
          have HO := Lib.hid ho
          have he := ho.1
          clear ho
          subst he
          go_wp2
          go_ret
          exact HO.out
end Go.Proofs.YtgknkldhjejjmaaDoor
