/- settle. -/
import Derived.Test.YtgknkldhjejjmaaDoorDkE
namespace Go.Proofs.YtgknkldhjejjmaaDoor
open Go.RowKit Go.Maps
open DM

theorem add_zero' (a : Addr) : a.add 0 = a := by
  unfold Addr.add
  split
  · rename_i h
    cases a
    simp_all
  · cases a
    simp_all

theorem pv_ptr (blk : Nat → Nat) (o : Option Nat) : ∃ p, pv blk o = .pointer p := by cases o <;> exact ⟨_, rfl⟩

theorem slice_head (W : World) (A : Option Addr) (n cap m : Nat) (h : m ≤ cap) : (Instr.slice 53 (.slice A n cap) none (some (.int .i64 (m : Int))) none).run Tryd.prog W = .ok (.slice A m cap) W := by
  have hs : ∀ w, (sizeOf (Tryd.prog.elem 53)).run Tryd.prog w = .ok 3 w := fun w => by kernel_rfl
  rw [run_slice_h W 53 A n cap (by kernel_rfl) .i64 (m : Int) (by omega) (by omega), hs]
  simp only [Result.andThen, sliced, Int.toNat_natCast, Nat.sub_zero, Nat.zero_mul, add_zero', Option.map_id']
  split <;> rfl

theorem qC_at (blk : Nat → Nat) : ∀ (q : List E) (j i : Nat), (h : j < q.length) → i < 3 → (qC blk q)[j * 3 + i]? = (entC blk q[j])[i]?
  | e :: r, 0, i, _, hi => by
    show (entC blk e ++ qC blk r)[0 * 3 + i]? = _
    rw [List.getElem?_append_left (by show 0 * 3 + i < 3; omega)]
    simp
  | e :: r, j + 1, i, h, hi => by
    show (entC blk e ++ qC blk r)[(j + 1) * 3 + i]? = _
    rw [List.getElem?_append_right (by show 3 ≤ _; omega)]
    have : (j + 1) * 3 + i - (entC blk e).length = j * 3 + i := by show (j + 1) * 3 + i - 3 = _; omega
    rw [this, qC_at blk r j i (by simpa using h) hi]
    rfl

/-- the names that last turn in their map, nothing else does -/
theorem Half.lasts {B : Nat} {w w' : World} {d : Nat} {s : St} {g : Gh} {C : Array Value} (h : Half B w d s g C) {b1 b2 : Nat} (e1 : g.m1 = some b1) (e2 : g.m2 = some b2) {l : Nm} (ho : OwnM w' b2 l.length (D g.blk l)) (hg : w.grownBy w' (some b2)) (hl : ∀ n, live l s.queue n → live s.lasts s.queue n) : Half B w' d { s with lasts := l } g C := by
  rcases h.body.maps with ⟨e, _⟩ | ⟨c1, c2, e3, e4, hne, l1, l2, o1, o2⟩
  · rw [e1] at e; cases e
  · rw [e1] at e3; cases e3
    rw [e2] at e4; cases e4
    obtain ⟨es, clock, hb2, _⟩ := o2
    have hob : ∀ {x : Nat} {c : Array Value} {t : TypeId} {fr : Nat × Nat}, w.heap[x]? = some (.cells c t fr) → some x ≠ some b2 := fun hx e => by
      rw [Option.some.inj e, hb2] at hx
      cases hx
    refine ⟨⟨.inr ⟨b1, b2, e1, e2, hne, l1, l2, o1.kept hg (fun e => hne (Option.some.inj e)), ho⟩, h.body.queue.kept hg (own_ne h.body.queue hb2 (by simp)), fun n hn => ?_, fun n m h1 h2 => h.body.apart n m (hl n h1) (hl m h2), h.body.cut.kept hg (own_ne h.body.cut hb2 (by simp)), h.body.bk⟩, (hg.block d h.lt (hob h.at_)).trans h.at_, h.le⟩
    have hf := h.body.files n (hl n hn)
    exact hf.kept hg (hob hf.2.1) (hf.2.2.ne hb2 (by simp))

/-- nothing stands in the queue any more -/
theorem Half.noqueue {B : Nat} {w : World} {d : Nat} {s : St} {g : Gh} {C : Array Value} (h : Half B w d s g C) : Half B (w.setCell ⟨d, 5, none⟩ (.slice none 0 0)) d { s with queue := [] } { g with q := .slice none 0 0 } (C.setIfInBounds 5 (.slice none 0 0)) := by
  have h1 := h.set 5 (.slice none 0 0)
  have hl : ∀ n, live s.lasts [] n → live s.lasts s.queue n := fun n hn => by
    rcases hn with hn | ⟨e, he, _⟩
    · exact .inl hn
    · cases he
  refine ⟨⟨?_, World.ownsRow_nil _ _ _ _, fun n hn => h1.body.files n (hl n hn), fun n m hn hm => h1.body.apart n m (hl n hn) (hl m hm), h1.body.cut, h1.body.bk⟩, h1.at_, h1.le⟩
  rcases h1.body.maps with ⟨e1, e2, e3, e4, _⟩ | h2
  · exact .inl ⟨e1, e2, e3, e4, rfl⟩
  · exact .inr h2

def SettleRel (B : Nat) (w : World) (d : Nat) (s : St) (g : Gh) (C : Array Value) (j : Nat) (wr : World) : Prop :=
  Half B wr d { s with lasts := pre s.lasts s.queue j } g C ∧ Moves B w wr

/-- what settle leaves -/
def SettleOut (B : Nat) (w : World) (d : Nat) (s : St) (g : Gh) (C : Array Value) (k : Nat) (e : Ending) (w' : World) : Prop :=
  e = .returned (.tuple #[]) ∧ Moves B w w' ∧ Half B w' d { s with lasts := pre s.lasts s.queue k, queue := [] } { g with q := .slice none 0 0 } (C.setIfInBounds 5 (.slice none 0 0))

theorem settle_end {B : Nat} {w : World} {d : Nat} {s : St} {g : Gh} {C : Array Value} {j : Nat} {wr : World} (h : SettleRel B w d s g C j wr) (hB : B ≤ w.heap.size) : SettleOut B w d s g C j (.returned (.tuple #[])) (wr.setCell ⟨d, 5, none⟩ (.slice none 0 0)) :=
  ⟨rfl, h.2.setCell (p := ⟨d, 5, none⟩) (by have := h.2.size; omega) h.1.le h.1.kin _, h.1.noqueue⟩

set_option maxRecDepth 100000 in
set_option maxHeartbeats 1000000 in
theorem settle_any {B : Nat} {w : World} {d : Nat} {s : St} {g : Gh} {C : Array Value} (h : Half B w d s g C) (ok : Ok s) (hB : B ≤ w.heap.size) (c4 : C[4]? = some (.map g.m2)) (c5 : C[5]? = some g.q) (k : Nat) (hk : k ≤ s.queue.length) (hq : s.queue.length < 1099511627776) :
    Calls Tryd.prog 58 #[.pointer (some ⟨d, 0, none⟩), .int .i64 k] w (SettleOut B w d s g C k) := by
  have k5 := (h.cells 5).trans c5
  have hml : maxLen = 9223372036854775807 := rfl
  obtain ⟨A, cap, hqv, hkc⟩ : ∃ A cap, g.q = .slice A s.queue.length cap ∧ k ≤ cap := by
    rcases h.body.queue.2 with ⟨e, h0⟩ | ⟨r, c, _, e, _, _, h1, _⟩
    · exact ⟨none, 0, by rw [e, h0], by omega⟩
    · exact ⟨_, c, e, by omega⟩
  have hsl := fun W => slice_head W A s.queue.length cap k hkc
  have fr5 := h.frozen 5
  have hstart : Hid (SettleRel B w d s g C 0 w) := ⟨h, Moves.refl _ _⟩
  have hmaps : Hid (0 < s.queue.length → ∃ b1 b2, g.m1 = some b1 ∧ g.m2 = some b2 ∧ B ≤ b2) := fun h0 => by
    rcases h.body.maps with ⟨_, _, _, _, e⟩ | ⟨b1, b2, e1, e2, _, _, l2, _⟩
    · rw [e] at h0; cases h0
    · exact ⟨b1, b2, e1, e2, l2⟩
  have HQV := Lib.hid hqv
  rw [hqv] at k5
  have HC4 := Lib.hid c4
  have HC5 := Lib.hid c5
  have HOK := Lib.hid ok
  obtain ⟨qn, hqn⟩ : ∃ qn, s.queue.length = qn := ⟨_, rfl⟩
  have HQN := Lib.hid hqn
  rw [hqn] at k5 hsl hk hq hmaps
  clear h ok c4 c5 hqv hqn
  go_enter Tryd.func58, Tryd.ntmps58
  go_wp2_with fail
  go_loopw [13] (fun i wr => ∃ j : Nat, j ≤ k ∧ i = .int .i64 j ∧ SettleRel B w d s g C j wr) (fun i _ => k - (intOf i).toNat)
  case atStart => exact ⟨0, by omega, rfl, hstart.out⟩
  case round =>
    obtain ⟨j, hj, rfl, hrel⟩ := hrel
    by_cases hlt : j < k
    · have hjq : j < s.queue.length := by rw [HQN.out]; omega
      obtain ⟨b1, b2, e1, e2, hBb⟩ := hmaps.out (by omega)
      have HREL := Lib.hid hrel
      have hown := hrel.1.body.queue
      have hown' : wr.ownsRow B 90 3 (.slice A qn cap) s.queue.length (qC g.blk s.queue) := by rw [← HQN.out, ← HQV.out]; exact hown
      obtain ⟨r, c, hv, hbr, hrl⟩ := hown'.form (by omega)
      injection hv with hA h1 h2
      clear h1 h2
      subst hA
      have x0 := (World.ownsRow.cellAt (by rw [← HQN.out] at hown'; exact hown') (j * 3 + 0) (by omega)).trans (qC_at g.blk s.queue j 0 hjq (by omega))
      have x1 := (World.ownsRow.cellAt (by rw [← HQN.out] at hown'; exact hown') (j * 3 + 1) (by omega)).trans (qC_at g.blk s.queue j 1 hjq (by omega))
      have x2 := (World.ownsRow.cellAt (by rw [← HQN.out] at hown'; exact hown') (j * 3 + 2) (by omega)).trans (qC_at g.blk s.queue j 2 hjq (by omega))
      have hent := HOK.out.ents _ (List.getElem_mem hjq)
      have hps := pre_succ s.lasts s.queue j hjq
      obtain ⟨en, hen⟩ : ∃ en, s.queue[j] = en := ⟨_, rfl⟩
      have HEN := Lib.hid hen
      rw [hen] at x0 x1 x2 hent hps
      obtain ⟨G, hG⟩ : ∃ G : ByteArray, (⟨en.gone.toArray⟩ : ByteArray) = G := ⟨_, rfl⟩
      obtain ⟨N, hN⟩ : ∃ N : ByteArray, (⟨en.name.toArray⟩ : ByteArray) = N := ⟨_, rfl⟩
      have hGd : G.data.toList = en.gone := by rw [← hG]
      have hNd : N.data.toList = en.name := by rw [← hN]
      obtain ⟨p, hfv⟩ := pv_ptr g.blk (if en.name = [] then none else some en.file)
      have y0 : wr.cell? ⟨r, j * 3, none⟩ = some (.string G) := by rw [← hG]; exact x0
      have y1 : wr.cell? ⟨r, j * 3 + 1, none⟩ = some (.string N) := by rw [← hN]; exact x1
      have y2 : wr.cell? ⟨r, j * 3 + 2, none⟩ = some (.pointer p) := by rw [← hfv]; exact x2
      have HFV := Lib.hid hfv
      have hGs : G.size ≤ 64 := by rw [← size_list, hGd]; exact hent.1
      have hNs : N.size ≤ 64 := by rw [← size_list, hNd]; exact hent.2.1
      have HGD := Lib.hid hGd
      have HND := Lib.hid hNd
      have HPS := Lib.hid hps
      have i0 : (0 : Int) ≤ (j : Int) := by omega
      have i1 : (j : Int) < (k : Int) := by omega
      clear hrel hown hown' x0 x1 x2 hent hps hen hG hN hfv hGd hNd k5 hsl
      go_wp2_with fail
      have HA := Lib.hid ((HREL.out.1.alloc (.cells #[.string G, .string N, .pointer p] 90)))
      have HM : Hid (Moves B w (wr.alloc (.cells #[.string G, .string N, .pointer p] 90))) := HREL.out.2.alloc (by have := HREL.out.2.size; omega) _
      have HX : Hid ((wr.alloc (.cells #[.string G, .string N, .pointer p] 90)).heap[wr.heap.size]? = some (.cells #[.string G, .string N, .pointer p] 90 (0, 0))) := heap_alloc_new wr _
      have hX : ∃ X, wr.heap.size = X := ⟨_, rfl⟩
      have HAP : Hid (∀ W, OwnM W b2 (pre s.lasts s.queue j).length (D g.blk (pre s.lasts s.queue j)) → Calls Tryd.prog 83 #[.agg #[.string G, .string N, .pointer p], .map (some b2)] W (AppOut W b2 g.blk (pre s.lasts s.queue (j + 1)))) := fun W ho => by
        have hfew := (HOK.out.good j (by omega)).few
        have := apply_any ho G N en.file (by omega) (by omega) (by omega)
        rw [HND.out, HFV.out, HGD.out] at this
        rw [HPS.out]
        exact this
      have HC4' : Hid (C[4]? = some (.map (some b2))) := by rw [← e2]; exact HC4.out
      clear y0 y1 y2
      generalize wr.alloc (.cells #[.string G, .string N, .pointer p] 90) = w3 at HA HM HX ⊢
      obtain ⟨X, hX⟩ := hX
      rw [hX] at HX ⊢
      refine wp_region_still_tail 5 (by kernel_rfl) (by kernel_rfl) ?_
      simp only [List.take_succ_cons, List.take_zero, List.drop_succ_cons, List.drop_zero]
      have HA4 : Hid (Half B { w3 with drawn := w3.drawn + 1 } d { s with lasts := pre s.lasts s.queue j } g C) := HA.out.drew
      have HX4 : Hid (({ w3 with drawn := w3.drawn + 1 } : World).heap[X]? = some (.cells #[.string G, .string N, .pointer p] 90 (0, 0))) := HX.out
      have HM4 : Hid (Moves B w { w3 with drawn := w3.drawn + 1 }) := HM.out.drew
      generalize ({ w3 with drawn := w3.drawn + 1 } : World) = w4 at HA4 HX4 HM4 ⊢
      clear HA HX HM hX
      have k4 : w4.cell? ⟨d, 4, none⟩ = some (.map (some b2)) := (HA4.out.cells 4).trans HC4'.out
      have x0 : w4.cell? ⟨X, 0, none⟩ = some (.string G) := cell_of_row _ _ _ _ _ _ HX4.out
      have x1 : w4.cell? ⟨X, 1, none⟩ = some (.string N) := cell_of_row _ _ _ _ _ _ HX4.out
      have x2 : w4.cell? ⟨X, 2, none⟩ = some (.pointer p) := cell_of_row _ _ _ _ _ _ HX4.out
      have HO4 : Hid (OwnM w4 b2 (pre s.lasts s.queue j).length (D g.blk (pre s.lasts s.queue j))) := by
        rcases HA4.out.body.maps with ⟨e, _⟩ | ⟨_, b, _, e, _, _, _, _, o2⟩
        · rw [e1] at e; cases e
        · rw [e2] at e; cases e; exact o2
      repeat still_step
      refine wpStill_nil ?_
      go_wp2_with fail
      refine (HAP.out w4 HO4.out).mono ?_
      rintro e w5 ⟨rfl, ho5, hg5⟩
      have HNEW : Hid (SettleRel B w d s g C (j + 1) w5) := by
        refine ⟨HA4.out.lasts e1 e2 ho5 hg5 (fun n hn => ?_), HM4.out.grown hg5 (by have := HM4.out.size; omega) (fun q e => by cases e; exact ⟨hBb, HO4.out.kin⟩)⟩
        rcases hn with ⟨q, hq, rfl⟩ | hn
        · rw [HPS.out] at hq
          rcases live_app hq with h3 | ⟨h3, h4⟩
          · exact .inl ⟨q, h3, rfl⟩
          · exact .inr ⟨en, by rw [← HEN.out]; exact List.getElem_mem hjq, h3, h4⟩
        · exact .inr hn
      clear k4 x0 x1 x2 HA4 HX4 HM4 HO4 ho5 hg5
      go_wp2
      go_roundw
      case rel => exact ⟨j + 1, by omega, by go_num, HNEW.out⟩
      case measure => simp [intOf]; omega
    · obtain rfl : j = k := by omega
      have HE := Lib.hid (settle_end hrel hB)
      have fr5' := hrel.1.frozen 5
      have hcell := (hrel.1.cells 5).trans HC5.out
      clear hrel k5 fr5
      go_wp2
      go_end0
      exact HE.out
end Go.Proofs.YtgknkldhjejjmaaDoor
