/- Texts joined by bundle.py: YDDkN, YDDkO, YDDkP. -/
import Derived.Test.YtjkofciohehgfaaGreatDoorZao
import Derived.BigGuardPart

/- The calls of a disk: New, Create. -/
namespace Go.Proofs.YtjkofciohehgfaaGreatDoor.L8
open Go.RowKit Go.Maps
open DM

theorem cf_enter {P : Program} {f : FuncId} {fn : Func} (hf : P.funcs[f]? = some fn) (hname : (fn.name == "runtime.NumGoroutine") = false) (hb : fn.body.isSome = true) (args : Array Value) (w : World) : (callFunc f args).run P w = .ok (.enter f args) w := by
  have h1 : fn.name ≠ "runtime.NumGoroutine" := by simpa using hname
  obtain ⟨c, hc⟩ := Option.isSome_iff_exists.1 hb
  simp [callFunc, hf, h1, hc]

/-- enough room for one more -/
def Few (s : St) : Prop := s.queue.length < 1099511627775 ∧ s.files.length < 1099511627775 ∧ s.cutBytes.length ≤ 4611686018427387904

theorem ChangeOut.from {B : Nat} {w W : World} {d : Nat} {r : Int × St} {e : Ending} {w' : World} (h : ChangeOut B W d r e w') (hm : Moves B w W) : ChangeOut B w d r e w' := ⟨h.1, hm.trans h.2.1, h.2.2⟩

theorem new_any (room : Int) (w : World) (hr : fits room) :
    Calls Tryz.prog 4 #[.int .i64 room] w fun e w' => e = .returned (.pointer (some ⟨w.heap.size, 0, none⟩)) ∧ ∀ B, B ≤ w.heap.size → Moves B w w' ∧ ∃ g, Rep B w' w.heap.size (new room) g := by
  unfold fits at hr
  have HE : Hid (∀ W, W = w.alloc (.cells #[.int .i64 (max room 0), .int .i64 0, .int .i64 0, .map none, .map none, .slice none 0 0, .bool false, .int .i64 0, .int .i64 0, .slice none 0 0, .int .i64 0] 52) → ∀ B, B ≤ w.heap.size → Moves B w W ∧ ∃ g, Rep B W w.heap.size (new room) g) := fun W hW B hB => by
    subst hW
    refine ⟨(Moves.refl B w).alloc hB _, ⟨none, none, .slice none 0 0, .slice none 0 0, fun _ => 0, fun _ => .slice none 0 0, 0⟩, ⟨.inl ⟨rfl, rfl, rfl, rfl, rfl⟩, World.ownsRow_nil _ _ _ _, fun n hn => ?_, fun n m hn => ?_, World.ownsRow_nil _ _ _ _, fun _ => rfl, Int.le_refl 0, (by decide : (0 : Int) ≤ 9223372036854775807)⟩, ?_, hB⟩
    · rcases hn with ⟨p, hp, _⟩ | ⟨e, he, _⟩
      · cases hp
      · cases he
    · rcases hn with ⟨p, hp, _⟩ | ⟨e, he, _⟩
      · cases hp
      · cases he
    · exact heap_alloc_new w _
  by_cases h0 : room ≤ 0
  · have hm : max room 0 = 0 := by omega
    have hm' : max 0 room = 0 := by omega
    rw [hm] at HE
    go_enter Tryz.func4, Tryz.ntmps4
    go_wp2
    go_ret
    exact ⟨rfl, HE.out _ rfl⟩
  · obtain ⟨m, hm⟩ : ∃ m, max room 0 = m := ⟨_, rfl⟩
    have hm' : max 0 room = m := by omega
    rw [hm] at HE
    go_enter Tryz.func4, Tryz.ntmps4
    go_wp2
    go_ret
    exact ⟨rfl, HE.out _ rfl⟩

theorem two_boxes {B : Nat} {w : World} {d : Nat} {s : St} {g : Gh} (h : Rep B w d s g) (hB : B ≤ w.heap.size) (v1 v2 : Value) (t1 t2 : TypeId) :
    Rep B ((w.alloc (.cells #[v1] t1)).alloc (.cells #[v2] t2)) d s g ∧ Moves B w ((w.alloc (.cells #[v1] t1)).alloc (.cells #[v2] t2)) ∧ Cap ((w.alloc (.cells #[v1] t1)).alloc (.cells #[v2] t2)) w.heap.size v1 t1 ∧ Cap ((w.alloc (.cells #[v1] t1)).alloc (.cells #[v2] t2)) (w.heap.size + 1) v2 t2 := by
  refine ⟨(h.still (World.grownBy_alloc w _ none)).still (World.grownBy_alloc _ _ none), ((Moves.refl B w).alloc hB _).alloc (by simp; omega) _, alloc_old _ _ _ _ (heap_alloc_new w _), alloc_at _ _ _ (by simp)⟩

set_option maxRecDepth 100000 in
set_option maxHeartbeats 2000000 in
theorem create_any {B : Nat} {w : World} {d : Nat} {s : St} {g : Gh} (h : Rep B w d s g) (ok : Ok s) (hB : B ≤ w.heap.size) (k : ByteArray) (hk : k.size ≤ 140737488355328) (few : Few s) :
    Calls Tryz.prog 23 #[.pointer (some ⟨d, 0, none⟩), .string k] w (ChangeOut B w d (create k.data.toList s)) := by
  obtain ⟨hr2, hm2, cd, ck⟩ := two_boxes h hB (.pointer (some ⟨d, 0, none⟩)) (.string k) 25 9
  have hml : maxLen = 9223372036854775807 := rfl
  unfold create
  cases hoff : s.off with
  | true =>
    rw [if_pos rfl]
    have HR := Lib.hid (ready_off hr2 hoff)
    have HE : Hid (ChangeOut B w d (13, s) (.returned (.int .i64 13)) ((w.alloc (.cells #[.pointer (some ⟨d, 0, none⟩)] 25)).alloc (.cells #[.string k] 9))) := ⟨rfl, hm2, g, hr2⟩
    clear h ok hr2 hm2 cd ck hoff few
    go_enter Tryz.func23, Tryz.ntmps23
    go_wp2_with (go_at_call 65; refine HR.out.mono ?_; rintro e w' ⟨rfl, rfl⟩)
    go_ret
    exact HE.out
  | false =>
    rw [if_neg (by simp)]
    have HR := Lib.hid (ready_on hr2 hoff (by have := hm2.size; omega))
    have HG := Lib.hid (fun W => good_any k W)
    have HM := Lib.hid hm2
    have HD := Lib.hid cd
    have HK := Lib.hid ck
    have x1 := cd.cell
    have x2 := ck.cell
    have HOFF := Lib.hid hoff
    have HOK := Lib.hid ok
    have HFEW := Lib.hid few
    have hbl : (w.heap.size + 1) < w.heap.size + 2 := by omega
    clear h ok hr2 hm2 hoff few cd ck x1 x2
    have pick : ∀ W : World, Hid (Moves B w W) → Hid (∃ g, Rep B W d s g) → ∀ n : Int, ChangeOut B w d (n, s) (.returned (.int .i64 n)) W := fun W h1 h2 n => ⟨rfl, h1.out, h2.out⟩
    have PICK := Lib.hid pick
    clear pick
    cases hgn : goodName k.data.toList with
    | false =>
      rw [if_pos (by simp)]
      rw [hgn] at HG
      clear hgn
      go_enter Tryz.func23, Tryz.ntmps23
      go_wp2_with fail
      refine HR.out.mono ?_
      rintro e w3 ⟨rfl, ⟨g3, b1, b2, h1, h2, hr3⟩, hm3⟩
      have z2 := (HK.out.moved hm3 (by decide)).cell
      have HM3 := Lib.hid (HM.out.trans hm3)
      have HR3 : Hid (∃ g, Rep B w3 d s g) := ⟨g3, hr3⟩
      clear hr3 hm3 h1 h2
      go_wp2_with (go_at_call 66; refine (HG.out _).mono ?_; rintro e w' ⟨rfl, rfl⟩)
      go_ret
      exact PICK.out _ HM3 HR3 2
    | true =>
      rw [if_neg (by simp)]
      rw [hgn] at HG
      have HGN := Lib.hid hgn
      clear hgn
      cases hf : find s.names k.data.toList with
      | some n =>
        rw [if_pos (by simp)]
        have HF := Lib.hid hf
        clear hf
        go_enter Tryz.func23, Tryz.ntmps23
        go_wp2_with fail
        refine HR.out.mono ?_
        rintro e w3 ⟨rfl, ⟨g3, b1, b2, h1, h2, hr3⟩, hm3⟩
        have z1 := (HD.out.moved hm3 (by decide)).cell
        have z2 := (HK.out.moved hm3 (by decide)).cell
        have c3 := hr3.half.cells 3
        simp only [dC, h1] at c3
        have hlk : ∀ N, (Instr.lookup 47 (.map (some b1)) (.string k) false).run Tryz.prog (w3.drewN N) = .ok (.pointer (some ⟨g3.blk n, 0, none⟩)) (w3.drewN N) := fun N => by
          have := look (w := w3.drewN N) (hr3.own1 h1) k (by omega)
          rw [HF.out] at this
          exact this
        have HM3 := Lib.hid (HM.out.trans hm3)
        have HR3 : Hid (∃ g, Rep B w3 d s g) := ⟨g3, hr3⟩
        clear hr3 hm3 h1 h2
        go_wp2_with (go_at_call 66; refine (HG.out _).mono ?_; rintro e w' ⟨rfl, rfl⟩)
        go_quiet (fail)
        go_wp2
        go_ret
        have h9 : Hid (Moves B w (w3.drewN nq)) := HM3.out.drewN _
        exact PICK.out _ h9 (HR3.out.elim fun g hr => ⟨g, hr.still ⟨rfl, rfl, rfl, Nat.le_refl _, fun _ _ _ => rfl⟩⟩) 11
      | none =>
        rw [if_neg (by simp)]
        have HF := Lib.hid hf
        clear hf
        have hrest : Hid (∀ W, Moves B ((w.alloc (.cells #[.pointer (some ⟨d, 0, none⟩)] 25)).alloc (.cells #[.string k] 9)) W → (∃ g b1 b2, g.m1 = some b1 ∧ g.m2 = some b2 ∧ Rep B W d s g) → s.names.length < 4096 → Calls Tryz.prog 67 #[.pointer (some ⟨d, 0, none⟩), .bool true, .func (.func 68) #[] #[.pointer (some ⟨w.heap.size, 0, none⟩), .pointer (some ⟨w.heap.size + 1, 0, none⟩)]] W (ChangeOut B w d (change true (doCreate k.data.toList) s))) := fun W hmW ⟨g, b1, b2, h1, h2, hr⟩ hl => by
          have hm := HM.out.trans hmW
          refine (change_any hr HOK.out (Nat.le_trans hB hm.size) HOFF.out true _ _ (doCreate k.data.toList) (ok_create (ok_counted HOK.out) HGN.out HF.out hl) ⟨rfl, rfl⟩ (by have := HFEW.out.1; simp [doCreate, point, counted]; omega) (by have := HFEW.out.2.1; simp [doCreate, point, counted]; omega) (by have := HFEW.out.1; omega) (by have := HFEW.out.2.1; omega) HFEW.out.2.2
            (cf_enter Tryz.func68 (by kernel_rfl) (by kernel_rfl) _) (fun W' kk hr' hm' hB' => ?_)).mono fun e w' ho => ho.from hm
          exact create_do hr' (ok_counted HOK.out) h1 h2 hB' k HGN.out HF.out hl (by have := HFEW.out.1; show s.queue.length < _; omega) (by have := HFEW.out.2.1; show s.files.length < _; omega) _ _ ((HD.out.moved hmW (by decide)).moved hm' (by decide)) ((HK.out.moved hmW (by decide)).moved hm' (by decide))
        obtain ⟨NL, hNL⟩ : ∃ NL, s.names.length = NL := ⟨_, rfl⟩
        have HNL := Lib.hid hNL
        rw [hNL] at hrest ⊢
        clear hNL
        by_cases hge : 4096 ≤ NL
        · rw [if_pos hge]
          have hge2 := Lib.hid hge
          clear hge
          go_enter Tryz.func23, Tryz.ntmps23
          go_wp2_with fail
          refine HR.out.mono ?_
          rintro e w3 ⟨rfl, ⟨g3, b1, b2, h1, h2, hr3⟩, hm3⟩
          have z1 := (HD.out.moved hm3 (by decide)).cell
          have z2 := (HK.out.moved hm3 (by decide)).cell
          have c3 := hr3.half.cells 3
          simp only [dC, h1] at c3
          have hlk : ∀ N, (Instr.lookup 47 (.map (some b1)) (.string k) false).run Tryz.prog (w3.drewN N) = .ok (.pointer none) (w3.drewN N) := fun N => by
            have := look (w := w3.drewN N) (hr3.own1 h1) k (by omega)
            rw [HF.out] at this
            exact this
          have HM3 := Lib.hid hm3
          have HR3 : Hid (∃ g b1 b2, g.m1 = some b1 ∧ g.m2 = some b2 ∧ Rep B w3 d s g) := ⟨g3, b1, b2, h1, h2, hr3⟩
          have HO3 : Hid (OwnM w3 b1 s.names.length (D g3.blk s.names)) := hr3.own1 h1
          clear hr3 hm3 h1 h2
          go_wp2_with (go_at_call 66; refine (HG.out _).mono ?_; rintro e w' ⟨rfl, rfl⟩)
          go_quiet (fail)
          have HM4 : Hid (Moves B ((w.alloc (.cells #[.pointer (some ⟨d, 0, none⟩)] 25)).alloc (.cells #[.string k] 9)) (w3.drewN nq)) := HM3.out.drewN _
          have HR4 : Hid (∃ g b1 b2, g.m1 = some b1 ∧ g.m2 = some b2 ∧ Rep B (w3.drewN nq) d s g) := HR3.out.elim fun g hr => ⟨g, hr.elim fun b1 hr => ⟨b1, hr.elim fun b2 hr => ⟨b2, hr.1, hr.2.1, hr.2.2.still ⟨rfl, rfl, rfl, Nat.le_refl _, fun _ _ _ => rfl⟩⟩⟩⟩
          have hlen : ∀ ty, (Builtin.len_ #[47] ty #[.map (some b1)]).run Tryz.prog (w3.drewN nq) = .ok (.int .i64 NL) (w3.drewN nq) := fun ty => by
            have := World.ownsMap.len (w := w3.drewN nq) HO3.out Tryz.underlying47 ty
            rw [D_size, HNL.out] at this
            exact this
          have HO4 : Hid (OwnM (w3.drewN nq) b1 s.names.length (D g3.blk s.names)) := HO3.out
          have y1 : (w3.drewN nq).cell? ⟨w.heap.size, 0, none⟩ = some (.pointer (some ⟨d, 0, none⟩)) := z1
          have y3 : (w3.drewN nq).cell? ⟨d, 3, none⟩ = some (.map (some b1)) := c3
          have hdl : d < (w3.drewN nq).heap.size := HR4.out.elim fun g hr => hr.elim fun b1 hr => hr.elim fun b2 hr => hr.2.2.lt
          clear z1 z2 c3 hlk HM3 HR3 HO3
          generalize w3.drewN nq = w4 at HM4 HR4 hlen HO4 y1 y3 hdl ⊢
          clear hrest
          have hge' : decide ((4096 : Int) ≤ (NL : Int)) = true := decide_eq_true (by have := hge2.out; omega)
          go_wp2_with (at_len; refine wpList_len_own _ rfl _ 47 rfl 9 113 Tryz.underlying47 _ b1 _ _ rfl HO4.out ?_; rw [D_size, HNL.out])
          go_ret
          have h9 : Hid (Moves B w w4) := HM.out.trans HM4.out
          exact PICK.out _ h9 (HR4.out.elim fun g hr => hr.elim fun b1 hr => hr.elim fun b2 hr => ⟨g, hr.2.2⟩) 12
        · rw [if_neg hge]
          have hlt : NL < 4096 := by omega
          clear hge
          go_enter Tryz.func23, Tryz.ntmps23
          go_wp2_with fail
          refine HR.out.mono ?_
          rintro e w3 ⟨rfl, ⟨g3, b1, b2, h1, h2, hr3⟩, hm3⟩
          have z1 := (HD.out.moved hm3 (by decide)).cell
          have z2 := (HK.out.moved hm3 (by decide)).cell
          have c3 := hr3.half.cells 3
          simp only [dC, h1] at c3
          have hlk : ∀ N, (Instr.lookup 47 (.map (some b1)) (.string k) false).run Tryz.prog (w3.drewN N) = .ok (.pointer none) (w3.drewN N) := fun N => by
            have := look (w := w3.drewN N) (hr3.own1 h1) k (by omega)
            rw [HF.out] at this
            exact this
          have HM3 := Lib.hid hm3
          have HR3 : Hid (∃ g b1 b2, g.m1 = some b1 ∧ g.m2 = some b2 ∧ Rep B w3 d s g) := ⟨g3, b1, b2, h1, h2, hr3⟩
          have HO3 : Hid (OwnM w3 b1 s.names.length (D g3.blk s.names)) := hr3.own1 h1
          clear hr3 hm3 h1 h2
          go_wp2_with (go_at_call 66; refine (HG.out _).mono ?_; rintro e w' ⟨rfl, rfl⟩)
          go_quiet (fail)
          have HM4 : Hid (Moves B ((w.alloc (.cells #[.pointer (some ⟨d, 0, none⟩)] 25)).alloc (.cells #[.string k] 9)) (w3.drewN nq)) := HM3.out.drewN _
          have HR4 : Hid (∃ g b1 b2, g.m1 = some b1 ∧ g.m2 = some b2 ∧ Rep B (w3.drewN nq) d s g) := HR3.out.elim fun g hr => ⟨g, hr.elim fun b1 hr => ⟨b1, hr.elim fun b2 hr => ⟨b2, hr.1, hr.2.1, hr.2.2.still ⟨rfl, rfl, rfl, Nat.le_refl _, fun _ _ _ => rfl⟩⟩⟩⟩
          have hlen : ∀ ty, (Builtin.len_ #[47] ty #[.map (some b1)]).run Tryz.prog (w3.drewN nq) = .ok (.int .i64 NL) (w3.drewN nq) := fun ty => by
            have := World.ownsMap.len (w := w3.drewN nq) HO3.out Tryz.underlying47 ty
            rw [D_size, HNL.out] at this
            exact this
          have HO4 : Hid (OwnM (w3.drewN nq) b1 s.names.length (D g3.blk s.names)) := HO3.out
          have y1 : (w3.drewN nq).cell? ⟨w.heap.size, 0, none⟩ = some (.pointer (some ⟨d, 0, none⟩)) := z1
          have y3 : (w3.drewN nq).cell? ⟨d, 3, none⟩ = some (.map (some b1)) := c3
          have hdl : d < (w3.drewN nq).heap.size := HR4.out.elim fun g hr => hr.elim fun b1 hr => hr.elim fun b2 hr => hr.2.2.lt
          clear z1 z2 c3 hlk HM3 HR3 HO3
          generalize w3.drewN nq = w4 at HM4 HR4 hlen HO4 y1 y3 hdl ⊢
          have hge' : decide ((4096 : Int) ≤ (NL : Int)) = false := decide_eq_false (by omega)
          have HCH := Lib.hid (hrest.out w4 HM4.out HR4.out hlt)
          clear hrest
          go_wp2_with (at_len; refine wpList_len_own _ rfl _ 47 rfl 9 113 Tryz.underlying47 _ b1 _ _ rfl HO4.out ?_; rw [D_size, HNL.out])
          refine HCH.out.mono ?_
          rintro e w5 ho
          have HO := Lib.hid ho
          have he := ho.1
          clear ho
          subst he
          go_wp2
          go_ret
          exact HO.out
end Go.Proofs.YtjkofciohehgfaaGreatDoor.L8


/- The calls of a disk: Sync, SyncDir, Remove. -/
namespace Go.Proofs.YtjkofciohehgfaaGreatDoor.L8
open Go.RowKit Go.Maps
open DM

theorem one_box {B : Nat} {w : World} {d : Nat} {s : St} {g : Gh} (h : Rep B w d s g) (hB : B ≤ w.heap.size) (v : Value) (t : TypeId) :
    Rep B (w.alloc (.cells #[v] t)) d s g ∧ Moves B w (w.alloc (.cells #[v] t)) ∧ Cap (w.alloc (.cells #[v] t)) w.heap.size v t :=
  ⟨h.still (World.grownBy_alloc w _ none), (Moves.refl B w).alloc hB _, heap_alloc_new w _⟩

theorem change_out {B : Nat} {w W : World} {d : Nat} {s : St} (hm : Moves B w W) (hr : ∃ g, Rep B W d s g) (n : Int) : ChangeOut B w d (n, s) (.returned (.int .i64 n)) W := ⟨rfl, hm, hr⟩

set_option maxRecDepth 100000 in
set_option maxHeartbeats 2000000 in
theorem sync_any {B : Nat} {w : World} {d : Nat} {s : St} {g : Gh} (h : Rep B w d s g) (ok : Ok s) (hB : B ≤ w.heap.size) (k : ByteArray) (hk : k.size ≤ 140737488355328) (few : Few s) :
    Calls Tryz.prog 36 #[.pointer (some ⟨d, 0, none⟩), .string k] w (ChangeOut B w d (sync k.data.toList s)) := by
  have hml : maxLen = 9223372036854775807 := rfl
  unfold sync
  cases hoff : s.off with
  | true =>
    rw [if_pos rfl]
    have HR := Lib.hid (find_off h hoff k)
    obtain ⟨b1, b2, b3⟩ := one_box h hB (.pointer none) 113
    have HE := Lib.hid (change_out b2 ⟨g, b1⟩ 13)
    clear h ok hoff few b1 b2 b3
    go_enter Tryz.func36, Tryz.ntmps36
    go_wp2_with (go_at_call 76; refine HR.out.mono ?_; rintro e w' ⟨rfl, rfl⟩)
    go_ret
    exact HE.out
  | false =>
    rw [if_neg (by simp)]
    have HR := Lib.hid (find_on h hoff hB k (by omega))
    have HOK := Lib.hid ok
    have HFEW := Lib.hid few
    have HOFF := Lib.hid hoff
    clear h ok hoff few
    cases hf : find s.names k.data.toList with
    | none =>
      rw [hf] at HR
      simp only
      clear hf
      go_enter Tryz.func36, Tryz.ntmps36
      go_wp2_with fail
      refine HR.out.mono ?_
      rintro e w3 ⟨hm3, g3, b1, b2, h1, h2, hr3, rfl⟩
      obtain ⟨q1, q2, q3⟩ := one_box hr3 (Nat.le_trans hB hm3.size) (.pointer none) 113
      have HE := Lib.hid (change_out (hm3.trans q2) ⟨g3, q1⟩ 10)
      clear hm3 h1 h2 hr3 q1 q2 q3
      simp only [pv, Option.isNone_none, if_true]
      go_wp2
      go_ret
      exact HE.out
    | some n =>
      rw [hf] at HR
      simp only
      have HF := Lib.hid hf
      clear hf
      go_enter Tryz.func36, Tryz.ntmps36
      go_wp2_with fail
      refine HR.out.mono ?_
      rintro e w3 ⟨hm3, g3, b1, b2, h1, h2, hr3, rfl⟩
      obtain ⟨q1, q2, q3⟩ := one_box hr3 (Nat.le_trans hB hm3.size) (.pointer (some ⟨g3.blk n, 0, none⟩)) 113
      have hm := hm3.trans q2
      have HCH : Hid (Calls Tryz.prog 67 #[.pointer (some ⟨d, 0, none⟩), .bool false, .func (.func 78) #[] #[.pointer (some ⟨w3.heap.size, 0, none⟩)]] (w3.alloc (.cells #[.pointer (some ⟨g3.blk n, 0, none⟩)] 113)) (ChangeOut B w d (change false (doSync n) s))) := by
        have hlt : n < s.files.length := HOK.out.gnames.file _ (find_some HF.out)
        refine (change_any q1 HOK.out (Nat.le_trans hB hm.size) HOFF.out false _ _ (doSync n) (ok_sync (ok_counted HOK.out) hlt) ⟨rfl, rfl⟩ (by have := HFEW.out.1; show s.queue.length < _; omega) (by have := HFEW.out.2.1; simp [doSync, counted]; omega) (by have := HFEW.out.1; omega) (by have := HFEW.out.2.1; omega) HFEW.out.2.2
          (cf_enter Tryz.func78 (by kernel_rfl) (by kernel_rfl) _) (fun W' kk hr' hm' hB' => ?_)).mono fun e w' ho => ho.from hm
        exact sync_do hr' (ok_counted HOK.out) h1 h2 hB' k HF.out _ (q3.moved hm' (by decide))
      clear hm3 h1 h2 hr3 q1 q2 q3 hm HR
      simp only [pv, Option.isNone_some]
      go_wp2_with fail
      refine HCH.out.mono ?_
      rintro e w5 ho
      have HO := Lib.hid ho
      have he := ho.1
      clear ho
      subst he
      go_wp2
      go_ret
      exact HO.out

set_option maxRecDepth 100000 in
set_option maxHeartbeats 2000000 in
theorem syncDir_any {B : Nat} {w : World} {d : Nat} {s : St} {g : Gh} (h : Rep B w d s g) (ok : Ok s) (hB : B ≤ w.heap.size) (few : Few s) :
    Calls Tryz.prog 24 #[.pointer (some ⟨d, 0, none⟩)] w (ChangeOut B w d (syncDir s)) := by
  obtain ⟨q1, q2, q3⟩ := one_box h hB (.pointer (some ⟨d, 0, none⟩)) 25
  unfold syncDir
  cases hoff : s.off with
  | true =>
    rw [if_pos rfl]
    have HR := Lib.hid (ready_off q1 hoff)
    have HE := Lib.hid (change_out q2 ⟨g, q1⟩ 13)
    clear h ok hoff few q1 q2 q3
    go_enter Tryz.func24, Tryz.ntmps24
    go_wp2_with (go_at_call 65; refine HR.out.mono ?_; rintro e w' ⟨rfl, rfl⟩)
    go_ret
    exact HE.out
  | false =>
    rw [if_neg (by simp)]
    have HR := Lib.hid (ready_on q1 hoff (Nat.le_trans hB q2.size))
    have HOK := Lib.hid ok
    have HFEW := Lib.hid few
    have HOFF := Lib.hid hoff
    have HD := Lib.hid q3
    have HM := Lib.hid q2
    clear h ok hoff few q1 q2 q3
    go_enter Tryz.func24, Tryz.ntmps24
    go_wp2_with fail
    refine HR.out.mono ?_
    rintro e w3 ⟨rfl, ⟨g3, b1, b2, h1, h2, hr3⟩, hm3⟩
    have z1 := (HD.out.moved hm3 (by decide)).cell
    have hm := HM.out.trans hm3
    have HCH : Hid (Calls Tryz.prog 67 #[.pointer (some ⟨d, 0, none⟩), .bool false, .func (.func 70) #[] #[.pointer (some ⟨w.heap.size, 0, none⟩)]] w3 (ChangeOut B w d (change false doSyncDir s))) := by
      refine (change_any hr3 HOK.out (Nat.le_trans hB hm.size) HOFF.out false _ _ doSyncDir (ok_syncDir (ok_counted HOK.out)) ⟨rfl, rfl⟩ (by simp [doSyncDir]) (by have := HFEW.out.2.1; show s.files.length < _; omega) (by have := HFEW.out.1; omega) (by have := HFEW.out.2.1; omega) HFEW.out.2.2
        (cf_enter Tryz.func70 (by kernel_rfl) (by kernel_rfl) _) (fun W' kk hr' hm' hB' => ?_)).mono fun e w' ho => ho.from hm
      exact syncDir_do hr' (ok_counted HOK.out) h1 h2 hB' (by have := HFEW.out.1; show s.queue.length < _; omega) _ ((HD.out.moved hm3 (by decide)).moved hm' (by decide))
    clear hm3 h1 h2 hr3 hm HR
    go_wp2_with fail
    refine HCH.out.mono ?_
    rintro e w5 ho
    have HO := Lib.hid ho
    have he := ho.1
    clear ho
    subst he
    go_wp2
    go_ret
    exact HO.out

end Go.Proofs.YtjkofciohehgfaaGreatDoor.L8


/- The calls of a disk: Rename, Append. -/
namespace Go.Proofs.YtjkofciohehgfaaGreatDoor.L8
open Go.RowKit Go.Maps
open DM

set_option maxRecDepth 100000 in
set_option maxHeartbeats 2000000 in
theorem append_any {B : Nat} {w : World} {d : Nat} {s : St} {g : Gh} (h : Rep B w d s g) (ok : Ok s) (hB : B ≤ w.heap.size) (j k : ByteArray) (hj : j.size ≤ 140737488355328) (few : Few s) :
    Calls Tryz.prog 34 #[.pointer (some ⟨d, 0, none⟩), .string j, .string k] w (ChangeOut B w d (append j.data.toList k.data.toList s)) := by
  obtain ⟨q1, q2, q3, q4⟩ := two_boxes h hB (.pointer (some ⟨d, 0, none⟩)) (.string k) 25 9
  have hml : maxLen = 9223372036854775807 := rfl
  have hksz := size_list k
  unfold append
  cases hoff : s.off with
  | true =>
    rw [if_pos rfl]
    have HR := Lib.hid (find_off q1 hoff j)
    obtain ⟨r1, r2, r3⟩ := one_box q1 (Nat.le_trans hB q2.size) (.pointer none) 113
    have HE := Lib.hid (change_out (q2.trans r2) ⟨g, r1⟩ 13)
    clear h ok hoff few q1 q2 q3 q4 r1 r2 r3
    go_enter Tryz.func34, Tryz.ntmps34
    go_wp2_with (go_at_call 76; refine HR.out.mono ?_; rintro e w' ⟨rfl, rfl⟩)
    go_ret
    exact HE.out
  | false =>
    rw [if_neg (by simp)]
    have HR := Lib.hid (find_on q1 hoff (Nat.le_trans hB q2.size) j (by omega))
    have HOK := Lib.hid ok
    have HFEW := Lib.hid few
    have HOFF := Lib.hid hoff
    have HD := Lib.hid q3
    have HK := Lib.hid q4
    have HM := Lib.hid q2
    have hroom := ok.room
    have hul := ok.used_le
    clear h ok hoff few q1 q2 q3 q4
    cases hf : find s.names j.data.toList with
    | none =>
      rw [hf] at HR
      simp only
      clear hf
      go_enter Tryz.func34, Tryz.ntmps34
      go_wp2_with fail
      refine HR.out.mono ?_
      rintro e w3 ⟨hm3, g3, b1, b2, h1, h2, hr3, rfl⟩
      obtain ⟨r1, r2, r3⟩ := one_box hr3 (Nat.le_trans hB (HM.out.trans hm3).size) (.pointer none) 113
      have HE := Lib.hid (change_out ((HM.out.trans hm3).trans r2) ⟨g3, r1⟩ 10)
      clear hm3 h1 h2 hr3 r1 r2 r3
      simp only [pv, Option.isNone_none, if_true]
      go_wp2
      go_ret
      exact HE.out
    | some n =>
      rw [hf] at HR
      simp only
      have HF := Lib.hid hf
      have hll := HOK.out.lens_le n
      have hlen : lens s.files n = (fileAt s n).data.length := rfl
      have HLEN := Lib.hid hlen
      clear hf hlen
      rw [hksz]
      clear hksz
      obtain ⟨L, hL⟩ : ∃ L, lens s.files n = L := ⟨_, rfl⟩
      have HL := Lib.hid hL
      obtain ⟨U, hU⟩ : ∃ U, used s.files s.names = U := ⟨_, rfl⟩
      have HU := Lib.hid hU
      rw [hL] at hll ⊢
      rw [hU] at hul ⊢
      clear hL hU
      have v1 : IntKind.i64.wrap (1048576 - (L : Int)) = 1048576 - (L : Int) := wrapN _ (by omega) (by omega)
      have v2 : IntKind.i64.wrap (s.room - (U : Int)) = s.room - (U : Int) := wrapN _ (by omega) (by omega)
      by_cases hc1 : (1048576 : Int) < (L : Int) + (k.size : Int)
      · rw [if_pos (.inl hc1)]
        have d1 : decide (1048576 - (L : Int) < (k.size : Int)) = true := decide_eq_true (by omega)
        clear hc1
        go_enter Tryz.func34, Tryz.ntmps34
        go_wp2_with fail
        refine HR.out.mono ?_
        rintro e w3 ⟨hm3, g3, b1, b2, h1, h2, hr3, rfl⟩
        have hm3' := HM.out.trans hm3
        obtain ⟨r1, r2, r3⟩ := one_box hr3 (Nat.le_trans hB hm3'.size) (.pointer (some ⟨g3.blk n, 0, none⟩)) 113
        have hfn := find_live r1.body HOK.out.names HF.out
        obtain ⟨RA, RC, hrow⟩ := row_slice hfn
        rw [← HLEN.out, HL.out] at hrow
        have zb : (w3.alloc (.cells #[.pointer (some ⟨g3.blk n, 0, none⟩)] 113)).cell? ⟨g3.blk n, 1, none⟩ = some (.slice RA L RC) := by rw [← hrow]; exact cell_of_row _ _ _ _ _ _ hfn.2.1
        have z0 : (w3.alloc (.cells #[.pointer (some ⟨g3.blk n, 0, none⟩)] 113)).cell? ⟨d, 0, none⟩ = some (.int .i64 s.room) := r1.cells.1
        have zu : (w3.alloc (.cells #[.pointer (some ⟨g3.blk n, 0, none⟩)] 113)).cell? ⟨d, 1, none⟩ = some (.int .i64 U) := by rw [← HU.out]; exact r1.cells.2.1
        have z1 : (w3.alloc (.cells #[.pointer (some ⟨g3.blk n, 0, none⟩)] 113)).cell? ⟨w.heap.size, 0, none⟩ = some (.pointer (some ⟨d, 0, none⟩)) := ((HD.out.moved hm3 (by decide)).moved r2 (by decide)).cell
        have z2 : (w3.alloc (.cells #[.pointer (some ⟨g3.blk n, 0, none⟩)] 113)).cell? ⟨w.heap.size + 1, 0, none⟩ = some (.string k) := ((HK.out.moved hm3 (by decide)).moved r2 (by decide)).cell
        have z3 : (w3.alloc (.cells #[.pointer (some ⟨g3.blk n, 0, none⟩)] 113)).cell? ⟨w3.heap.size, 0, none⟩ = some (.pointer (some ⟨g3.blk n, 0, none⟩)) := r3.cell
        have HM4 := Lib.hid (hm3'.trans r2)
        have HR4 := Lib.hid r1
        have HF4 := Lib.hid r3
        have HD4 := Lib.hid ((HD.out.moved hm3 (by decide)).moved r2 (by decide))
        have HK4 := Lib.hid ((HK.out.moved hm3 (by decide)).moved r2 (by decide))
        have HE1 := Lib.hid h1
        have HE2 := Lib.hid h2
        clear hm3 h1 h2 hr3 r1 r2 r3 hm3' hfn hrow HR
        simp only [pv, Option.isNone_some]
        go_wp2_with fail
        generalize w3.alloc (.cells #[.pointer (some ⟨g3.blk n, 0, none⟩)] 113) = w4 at HM4 HR4 HF4 HD4 HK4 zb z0 zu z1 z2 z3 ⊢
        go_quiet (fail)
        have HE := Lib.hid (change_out (HM4.out.drewN nq) ⟨g3, HR4.out.still ⟨rfl, rfl, rfl, Nat.le_refl _, fun _ _ _ => rfl⟩⟩ 12)
        go_wp2
        go_ret
        exact HE.out
      · by_cases hc2 : s.room < (U : Int) + (k.size : Int)
        · rw [if_pos (.inr hc2)]
          have d1 : decide (1048576 - (L : Int) < (k.size : Int)) = false := decide_eq_false (by omega)
          have d2 : decide (s.room - (U : Int) < (k.size : Int)) = true := decide_eq_true (by omega)
          clear hc1 hc2
          go_enter Tryz.func34, Tryz.ntmps34
          go_wp2_with fail
          refine HR.out.mono ?_
          rintro e w3 ⟨hm3, g3, b1, b2, h1, h2, hr3, rfl⟩
          have hm3' := HM.out.trans hm3
          obtain ⟨r1, r2, r3⟩ := one_box hr3 (Nat.le_trans hB hm3'.size) (.pointer (some ⟨g3.blk n, 0, none⟩)) 113
          have hfn := find_live r1.body HOK.out.names HF.out
          obtain ⟨RA, RC, hrow⟩ := row_slice hfn
          rw [← HLEN.out, HL.out] at hrow
          have zb : (w3.alloc (.cells #[.pointer (some ⟨g3.blk n, 0, none⟩)] 113)).cell? ⟨g3.blk n, 1, none⟩ = some (.slice RA L RC) := by rw [← hrow]; exact cell_of_row _ _ _ _ _ _ hfn.2.1
          have z0 : (w3.alloc (.cells #[.pointer (some ⟨g3.blk n, 0, none⟩)] 113)).cell? ⟨d, 0, none⟩ = some (.int .i64 s.room) := r1.cells.1
          have zu : (w3.alloc (.cells #[.pointer (some ⟨g3.blk n, 0, none⟩)] 113)).cell? ⟨d, 1, none⟩ = some (.int .i64 U) := by rw [← HU.out]; exact r1.cells.2.1
          have z1 : (w3.alloc (.cells #[.pointer (some ⟨g3.blk n, 0, none⟩)] 113)).cell? ⟨w.heap.size, 0, none⟩ = some (.pointer (some ⟨d, 0, none⟩)) := ((HD.out.moved hm3 (by decide)).moved r2 (by decide)).cell
          have z2 : (w3.alloc (.cells #[.pointer (some ⟨g3.blk n, 0, none⟩)] 113)).cell? ⟨w.heap.size + 1, 0, none⟩ = some (.string k) := ((HK.out.moved hm3 (by decide)).moved r2 (by decide)).cell
          have z3 : (w3.alloc (.cells #[.pointer (some ⟨g3.blk n, 0, none⟩)] 113)).cell? ⟨w3.heap.size, 0, none⟩ = some (.pointer (some ⟨g3.blk n, 0, none⟩)) := r3.cell
          have HM4 := Lib.hid (hm3'.trans r2)
          have HR4 := Lib.hid r1
          have HF4 := Lib.hid r3
          have HD4 := Lib.hid ((HD.out.moved hm3 (by decide)).moved r2 (by decide))
          have HK4 := Lib.hid ((HK.out.moved hm3 (by decide)).moved r2 (by decide))
          have HE1 := Lib.hid h1
          have HE2 := Lib.hid h2
          clear hm3 h1 h2 hr3 r1 r2 r3 hm3' hfn hrow HR
          simp only [pv, Option.isNone_some]
          go_wp2_with fail
          generalize w3.alloc (.cells #[.pointer (some ⟨g3.blk n, 0, none⟩)] 113) = w4 at HM4 HR4 HF4 HD4 HK4 zb z0 zu z1 z2 z3 ⊢
          go_quiet (fail)
          have HE := Lib.hid (change_out (HM4.out.drewN nq) ⟨g3, HR4.out.still ⟨rfl, rfl, rfl, Nat.le_refl _, fun _ _ _ => rfl⟩⟩ 12)
          go_wp2
          go_ret
          exact HE.out
        · rw [if_neg (fun h => h.elim hc1 hc2)]
          have d1 : decide (1048576 - (L : Int) < (k.size : Int)) = false := decide_eq_false (by omega)
          have d2 : decide (s.room - (U : Int) < (k.size : Int)) = false := decide_eq_false (by omega)
          have hfit : Hid (L + k.size ≤ 1048576) := by show L + k.size ≤ 1048576; omega
          clear hc1 hc2
          go_enter Tryz.func34, Tryz.ntmps34
          go_wp2_with fail
          refine HR.out.mono ?_
          rintro e w3 ⟨hm3, g3, b1, b2, h1, h2, hr3, rfl⟩
          have hm3' := HM.out.trans hm3
          obtain ⟨r1, r2, r3⟩ := one_box hr3 (Nat.le_trans hB hm3'.size) (.pointer (some ⟨g3.blk n, 0, none⟩)) 113
          have hfn := find_live r1.body HOK.out.names HF.out
          obtain ⟨RA, RC, hrow⟩ := row_slice hfn
          rw [← HLEN.out, HL.out] at hrow
          have zb : (w3.alloc (.cells #[.pointer (some ⟨g3.blk n, 0, none⟩)] 113)).cell? ⟨g3.blk n, 1, none⟩ = some (.slice RA L RC) := by rw [← hrow]; exact cell_of_row _ _ _ _ _ _ hfn.2.1
          have z0 : (w3.alloc (.cells #[.pointer (some ⟨g3.blk n, 0, none⟩)] 113)).cell? ⟨d, 0, none⟩ = some (.int .i64 s.room) := r1.cells.1
          have zu : (w3.alloc (.cells #[.pointer (some ⟨g3.blk n, 0, none⟩)] 113)).cell? ⟨d, 1, none⟩ = some (.int .i64 U) := by rw [← HU.out]; exact r1.cells.2.1
          have z1 : (w3.alloc (.cells #[.pointer (some ⟨g3.blk n, 0, none⟩)] 113)).cell? ⟨w.heap.size, 0, none⟩ = some (.pointer (some ⟨d, 0, none⟩)) := ((HD.out.moved hm3 (by decide)).moved r2 (by decide)).cell
          have z2 : (w3.alloc (.cells #[.pointer (some ⟨g3.blk n, 0, none⟩)] 113)).cell? ⟨w.heap.size + 1, 0, none⟩ = some (.string k) := ((HK.out.moved hm3 (by decide)).moved r2 (by decide)).cell
          have z3 : (w3.alloc (.cells #[.pointer (some ⟨g3.blk n, 0, none⟩)] 113)).cell? ⟨w3.heap.size, 0, none⟩ = some (.pointer (some ⟨g3.blk n, 0, none⟩)) := r3.cell
          have HM4 := Lib.hid (hm3'.trans r2)
          have HR4 := Lib.hid r1
          have HF4 := Lib.hid r3
          have HD4 := Lib.hid ((HD.out.moved hm3 (by decide)).moved r2 (by decide))
          have HK4 := Lib.hid ((HK.out.moved hm3 (by decide)).moved r2 (by decide))
          have HE1 := Lib.hid h1
          have HE2 := Lib.hid h2
          clear hm3 h1 h2 hr3 r1 r2 r3 hm3' hfn hrow HR
          simp only [pv, Option.isNone_some]
          go_wp2_with fail
          generalize w3.alloc (.cells #[.pointer (some ⟨g3.blk n, 0, none⟩)] 113) = w4 at HM4 HR4 HF4 HD4 HK4 zb z0 zu z1 z2 z3 ⊢
          go_quiet (fail)
          have HCH : Hid (Calls Tryz.prog 67 #[.pointer (some ⟨d, 0, none⟩), .bool true, .func (.func 77) #[] #[.pointer (some ⟨w3.heap.size, 0, none⟩), .pointer (some ⟨w.heap.size + 1, 0, none⟩), .pointer (some ⟨w.heap.size, 0, none⟩)]] (w4.drewN nq) (ChangeOut B w d (change true (doAppend n k.data.toList) s))) := by
            have hr5 : Rep B (w4.drewN nq) d s g3 := HR4.out.still ⟨rfl, rfl, rfl, Nat.le_refl _, fun _ _ _ => rfl⟩
            have hm5 : Moves B w (w4.drewN nq) := HM4.out.drewN nq
            have hlt : n < s.files.length := HOK.out.gnames.file _ (find_some HF.out)
            refine (change_any hr5 HOK.out (Nat.le_trans hB hm5.size) HOFF.out true _ _ (doAppend n k.data.toList) (ok_append (ok_counted HOK.out) hlt (by show lens s.files n + _ ≤ _; rw [HL.out, size_list]; exact hfit.out)) ⟨rfl, rfl⟩ (by have := HFEW.out.1; show s.queue.length < _; omega) (by have := HFEW.out.2.1; simp [doAppend, counted]; omega) (by have := HFEW.out.1; omega) (by have := HFEW.out.2.1; omega) HFEW.out.2.2
              (cf_enter Tryz.func77 (by kernel_rfl) (by kernel_rfl) _) (fun W' kk hr' hm' hB' => ?_)).mono fun e w' ho => ho.from hm5
            exact append_do hr' (ok_counted HOK.out) HE1.out HE2.out hB' j k HF.out (by show lens s.files n + _ ≤ _; rw [HL.out]; exact hfit.out) _ _ _ (Cap.moved (w := w4.drewN nq) HF4.out hm' (by decide)) (Cap.moved (w := w4.drewN nq) HK4.out hm' (by decide)) (Cap.moved (w := w4.drewN nq) HD4.out hm' (by decide))
          have y1 : (w4.drewN nq).cell? ⟨w.heap.size, 0, none⟩ = some (.pointer (some ⟨d, 0, none⟩)) := z1
          clear HM4 HR4 HF4 HD4 HK4 zb z0 zu z1 z2 z3
          go_wp2_with fail
          refine HCH.out.mono ?_
          rintro e w5 ho
          have HO := Lib.hid ho
          have he := ho.1
          clear ho
          subst he
          go_wp2
          go_ret
          exact HO.out
end Go.Proofs.YtjkofciohehgfaaGreatDoor.L8


