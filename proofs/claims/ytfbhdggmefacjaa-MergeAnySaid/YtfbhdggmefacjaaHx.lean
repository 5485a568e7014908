/- next: the entry that stands ahead of all others, taken out. -/
import Derived.Test.YtfbhdggmefacjaaHw
namespace Go.Proofs.Ytfbhdggmefacjaa
open Go.RowKit
open SK HP
attribute [local go_sem ↓] Go.wp_at_zero Go.wp_at_succ

theorem ta_src (b : Nat) (w : World) : (Instr.typeAssert (.iface 77 (.pointer (some ⟨b, 0, none⟩))) 20 77 false).run Try.prog w = .ok (.pointer (some ⟨b, 0, none⟩)) w := by kernel_rfl

theorem Kp.tail {B : Nat} {w a b : World} (h : Kp B w a) (hb : Below w.heap.size a b) : Kp B w b :=
  ⟨hb.os.trans h.os, hb.tape.trans h.tape, hb.output.trans h.output, Nat.le_trans h.size hb.size, fun k o hk hn => (hb.block k (lt_of_at hk)).trans (h.block k o hk hn)⟩

/-- five cells of an entry's variable -/
def put5 (w : World) (x : Nat) (e : SK.E) : World :=
  ((((w.setCell ⟨x, 0, none⟩ (.string e.key)).setCell ⟨x, 1, none⟩ (.int .i64 e.seq)).setCell ⟨x, 2, none⟩ (.bool e.gone)).setCell ⟨x, 3, none⟩ (.string e.value)).setCell ⟨x, 4, none⟩ (.int .i64 e.til)

theorem put5_ok {w : World} {B x : Nat} (e : SK.E) {cs : Array Value} (hx : w.heap[x]? = some (.cells cs 37 (0, 0))) (hB : B ≤ x) : Ks B w (put5 w x e) ∧ Below x w (put5 w x e) ∧ (put5 w x e).heap.size = w.heap.size := by
  have one : ∀ (W : World) (cs : Array Value) (j : Nat) (u : Value), W.heap[x]? = some (.cells cs 37 (0, 0)) → Ks B W (W.setCell ⟨x, j, none⟩ u) := fun W cs j u hW => Ks.grown x (grownBy_setCell W ⟨x, j, none⟩ u) hB fun o ho => by
    rw [hW] at ho
    injection ho with ho
    subst ho
    rintro ⟨_, _, _, e1, e2⟩
    injection e1 with _ e1
    rw [← e1] at e2
    revert e2
    decide
  have h0 := heap_set_fr hx 0 (.string e.key)
  have h1 := heap_set_fr h0 1 (.int .i64 e.seq)
  have h2 := heap_set_fr h1 2 (.bool e.gone)
  have h3 := heap_set_fr h2 3 (.string e.value)
  refine ⟨((((one _ _ 0 _ hx).trans (one _ _ 1 _ h0)).trans (one _ _ 2 _ h1)).trans (one _ _ 3 _ h2)).trans (one _ _ 4 _ h3), ?_, by simp [put5]⟩
  exact (((((Below.refl x w).setCell (p := ⟨x, 0, none⟩) (Nat.le_refl _) _).setCell (p := ⟨x, 1, none⟩) (Nat.le_refl _) _).setCell (p := ⟨x, 2, none⟩) (Nat.le_refl _) _).setCell (p := ⟨x, 3, none⟩) (Nat.le_refl _) _).setCell (p := ⟨x, 4, none⟩) (Nat.le_refl _) _

theorem Hp.away {W0 w : World} {p : Nat} {v : Value} {S : List Src} (h : Hp W0 w p v S) {b : Nat} {cs : Array Value} (hb : w.heap[b]? = some (.cells cs 79 (0, 0))) (hB : W0.heap.size ≤ b) (hn : ∀ s ∈ S, s.b ≠ b) (j : Nat) (u : Value) : Hp W0 (w.setCell ⟨b, j, none⟩ u) p v S ∧ Kp W0.heap.size w (w.setCell ⟨b, j, none⟩ u) := by
  have hk : Kp W0.heap.size w (w.setCell ⟨b, j, none⟩ u) := Kp.set (.refl w) b hB hb ⟨_, _, _, rfl, .inr (.inr rfl)⟩ j u
  have hoth : ∀ k, k ≠ b → (w.setCell ⟨b, j, none⟩ u).heap[k]? = w.heap[k]? := fun k hk => Below.heap_setCell _ _ _ _ hk
  refine ⟨⟨h.below.trans (hk.below h.below.size), (hoth p (ne_type h.box hb (by decide))).trans h.box, h.pB, ⟨h.own.1, ?_⟩, fun s hs => (hoth s.b (hn s hs)).trans (h.obj s hs), h.objB, h.nodup, h.ents, h.few⟩, hk⟩
  rcases h.own.2 with h0 | ⟨g, cap, cur, h1, h2, h3, h4⟩
  · exact .inl h0
  · exact .inr ⟨g, cap, cur, h1, h2, (hoth g (ne_type h3 hb (by decide))).trans h3, h4⟩

theorem EntsIn.tail {w : World} {q f : Nat} {y : SK.E} {t : List SK.E} (h : EntsIn w (some ⟨q, f, none⟩) (y :: t)) : EntsIn w (some ⟨q, f + 5, none⟩) t :=
  ⟨fun e he => h.wf e (by simp [he]), fun _ => by
    obtain ⟨b, off, hA, hlt, hc⟩ := h.at_ (by simp)
    injection hA with hA
    injection hA with h1 h2
    subst h1; subst h2
    refine ⟨q, f + 5, rfl, hlt, fun j hj => ?_⟩
    have := hc (j + 1) (by simpa using hj)
    simp only [List.getElem_cons_succ] at this
    rw [show f + (j + 1) * 5 = f + 5 + j * 5 by omega] at this
    exact this⟩

/-- what next leaves -/
structure Nexted (W0 w w' : World) (p : Nat) (L : List Src) (h : E) (t : List E) (s : Src) (S : List Src) (L' : List Src) : Prop where
  left : s.left = h :: t
  perm : (s :: S).Perm L
  least : ∀ u ∈ S, ltS u s = false
  hp : ∃ v', Hp W0 w' p v' L'
  heap : From ltS 0 L'.length (atL L')
  kp : Kp W0.heap.size w w'
  rest : (t = [] ∧ L'.Perm S) ∨ (t ≠ [] ∧ ∃ s2 : Src, s2.left = t ∧ s2.place = s.place ∧ L'.Perm (S ++ [s2]))

set_option maxRecDepth 100000 in
set_option maxHeartbeats 4000000 in
theorem next_any {W0 w : World} {p : Nat} {v : Value} {L : List Src} (h : Hp W0 w p v L) (hne : 0 < L.length) (hF : From ltS 0 L.length (atL L)) :
    Calls Try.prog 23 #[.pointer (some ⟨p, 0, none⟩)] w fun e w' => ∃ x t s S L', e = .returned (SK.E.val x) ∧ Nexted W0 w w' p L x t s S L' := by
  have hb0 : Below w.heap.size w (w.alloc (.cells #[.string ⟨#[]⟩, .int .i64 0, .bool false, .string ⟨#[]⟩, .int .i64 0] 37)) := (Below.refl _ w).alloc (Nat.le_refl _) _
  have hrow0 := heap_alloc_new w (.cells #[.string ⟨#[]⟩, .int .i64 0, .bool false, .string ⟨#[]⟩, .int .i64 0] 37)
  have HPP := Lib.hid (hPop_any (h.bel hb0) hne hF)
  have HENT : Hid (∀ s ∈ L, EntsIn W0 s.A s.left ∧ s.left.length ≤ s.c ∧ s.left ≠ [] ∧ s.place ≤ 1000000 ∧ W0.heap.size ≤ s.b) := Lib.hid fun s hs => ⟨(h.ents s hs).1, (h.ents s hs).2.1, (h.ents s hs).2.2.1, (h.ents s hs).2.2.2, h.objB s hs⟩
  have HND := Lib.hid h.nodup
  have HFEW := Lib.hid h.few
  have HB := Lib.hid h.below
  have HK0 : Hid (Kp W0.heap.size w (w.alloc (.cells #[.string ⟨#[]⟩, .int .i64 0, .bool false, .string ⟨#[]⟩, .int .i64 0] 37))) := Lib.hid (.of hb0)
  obtain ⟨x, hx⟩ : ∃ x, w.heap.size = x := ⟨_, rfl⟩
  unfold ifc at HPP
  clear h hF hne
  go_enter Try.func23, Try.ntmps23
  go_wp2_with fail
  generalize w.alloc (.cells #[.string ⟨#[]⟩, .int .i64 0, .bool false, .string ⟨#[]⟩, .int .i64 0] 37) = w0 at HPP HK0 hb0 hrow0 ⊢
  rw [hx] at hrow0
  refine HPP.out.mono ?_
  rintro e w1 ⟨s, S, rfl, hp1⟩
  have hsL : s ∈ L := hp1.perm.mem_iff.1 (by simp)
  obtain ⟨E0, hc0, ne0, hpl, hsB⟩ := HENT.out s hsL
  have hB1 : Below W0.heap.size W0 w1 := by
    obtain ⟨v', hv'⟩ := hp1.hp
    exact hv'.below
  have E1 := E0.below hB1
  have ho1 := hp1.obj
  have hx1 := hp1.kp.block x _ hrow0 (.inr (by
    rintro ⟨_, _, _, e1, e2⟩
    injection e1 with _ e1
    rw [← e1] at e2
    revert e2
    decide))
  have X0 : w1.cell? ⟨x, 0, none⟩ = some (.string ⟨#[]⟩) := cell_of_row _ _ _ _ _ _ hx1
  have X1 : w1.cell? ⟨x, 1, none⟩ = some (.int .i64 0) := cell_of_row _ _ _ _ _ _ hx1
  have X2 : w1.cell? ⟨x, 2, none⟩ = some (.bool false) := cell_of_row _ _ _ _ _ _ hx1
  have X3 : w1.cell? ⟨x, 3, none⟩ = some (.string ⟨#[]⟩) := cell_of_row _ _ _ _ _ _ hx1
  have X4 : w1.cell? ⟨x, 4, none⟩ = some (.int .i64 0) := cell_of_row _ _ _ _ _ _ hx1
  have Z0 : w1.frozen? ⟨x, 0, none⟩ = false := frozen_of_row _ _ _ _ _ hx1
  have Z1 : w1.frozen? ⟨x, 1, none⟩ = false := frozen_of_row _ _ _ _ _ hx1
  have Z2 : w1.frozen? ⟨x, 2, none⟩ = false := frozen_of_row _ _ _ _ _ hx1
  have Z3 : w1.frozen? ⟨x, 3, none⟩ = false := frozen_of_row _ _ _ _ _ hx1
  have Z4 : w1.frozen? ⟨x, 4, none⟩ = false := frozen_of_row _ _ _ _ _ hx1
  have hxl := lt_of_at hx1
  have hxb : x ≠ s.b := ne_type hx1 hp1.obj (by decide)
  have hbx : s.b ≠ x := Ne.symm hxb
  have HX1 := Lib.hid hx1
  have HP1 := Lib.hid hp1
  have HE0 := Lib.hid E0
  obtain ⟨b, A, c, pl, left⟩ := s
  simp only [objS, ptrS] at *
  obtain ⟨y, t, rfl⟩ := List.exists_cons_of_ne_nil ne0
  obtain ⟨q, f, hA, hq, hc⟩ := E1.at_ (by simp)
  have k1 := hc 0 (by simp)
  simp only [List.getElem_cons_zero, Nat.zero_mul, Nat.add_zero] at k1
  obtain ⟨x0, x1, x2, x3, x4⟩ := k1
  have u0 : w1.cell? ⟨b, 0, none⟩ = some (.slice A (t.length + 1) c) := cell_of_row _ _ _ _ _ _ ho1
  have u0f : w1.frozen? ⟨b, 0, none⟩ = false := frozen_of_row _ _ _ _ _ ho1
  have hbl := lt_of_at ho1
  clear E0 E1 hc ho1 hp1 ne0 hsL
  obtain ⟨yk, yq, yg, yv, yt⟩ := y
  simp only at x0 x1 x2 x3 x4
  obtain ⟨n, hn⟩ : ∃ n, t.length + 1 = n := ⟨_, rfl⟩
  simp only [List.length_cons] at hc0
  rw [hn] at u0 hc0
  have hnp : 0 < n := by omega
  have hni : (0 : Int) < (n : Int) := by omega
  have hn1 : (1 : Int) ≤ (n : Int) := by omega
  subst hA
  have hta := ta_src b w1
  have HXL : Hid (w.heap.size = x) := Lib.hid hx
  have HNB : Hid (∀ s' ∈ S, s'.b ≠ b) := Lib.hid fun s' hs' he => by
    have hnd := (HP1.out.perm.map (·.b)).nodup_iff.2 HND.out
    rw [List.map_cons, List.nodup_cons] at hnd
    exact hnd.1 (List.mem_map.2 ⟨s', hs', he⟩)
  have HSN : Hid (∀ v2, (∃ v', Hp W0 (w1.setCell ⟨b, 0, none⟩ v2) p v' S) ∧ Kp W0.heap.size w (w1.setCell ⟨b, 0, none⟩ v2) ∧ (w1.setCell ⟨b, 0, none⟩ v2).heap[x]? = some (.cells #[.string ⟨#[]⟩, .int .i64 0, .bool false, .string ⟨#[]⟩, .int .i64 0] 37 (0, 0))) := Lib.hid fun v2 => by
    obtain ⟨v', hv'⟩ := HP1.out.hp
    obtain ⟨h1, h2⟩ := hv'.away HP1.out.obj hsB HNB.out 0 v2
    exact ⟨⟨v', h1⟩, (HK0.out.trans HP1.out.kp).trans h2, (Below.heap_setCell _ _ _ _ hxb).trans HX1.out⟩
  have HHE : Hid (From ltS 0 S.length (atL S)) := Lib.hid HP1.out.heap
  have HFIN : Hid (∀ v2, t = [] → ∃ s S' L', Nexted W0 w ((put5 (w1.setCell ⟨b, 0, none⟩ v2) x ⟨yk, yq, yg, yv, yt⟩).alloc (.cells #[.string yk, .int .i64 yq, .bool yg, .string yv, .int .i64 yt] 37)) p L ⟨yk, yq, yg, yv, yt⟩ t s S' L') := Lib.hid fun v2 ht => by
    obtain ⟨⟨v', h1⟩, h2, h3⟩ := HSN.out v2
    have hBx : W0.heap.size ≤ x := by have := HB.out.size; have := HXL.out; omega
    obtain ⟨h4, h5, h6⟩ := put5_ok (B := W0.heap.size) ⟨yk, yq, yg, yv, yt⟩ h3 hBx
    refine ⟨⟨b, _, c, pl, ⟨yk, yq, yg, yv, yt⟩ :: t⟩, S, S, rfl, HP1.out.perm, HP1.out.least, ⟨v', (h1.stay h4).bel ((Below.refl _ _).alloc (Nat.le_refl _) _)⟩, HHE.out, ?_, .inl ⟨ht, List.Perm.refl _⟩⟩
    refine h2.tail ?_
    rw [HXL.out]
    exact h5.alloc (by rw [h6]; exact Nat.le_of_lt (lt_of_at h3)) _
  by_cases hn2 : n = 1
  · subst hn2
    have ht : t = [] := List.eq_nil_of_length_eq_zero (by omega)
    by_cases hc1 : c = 1
    · subst hc1
      obtain ⟨s, S', L', hN⟩ := HFIN.out (.slice (some ⟨q, f, none⟩) 0 0) ht
      have HN := Lib.hid hN
      unfold put5 at HN
      simp only at HN
      clear hN hn ht
      go_wp2
      exact bodyPost_ret (v := .agg #[.string yk, .int .i64 yq, .bool yg, .string yv, .int .i64 yt]) (by simp [results, Try.results23, go_sem, *]) rfl ⟨⟨yk, yq, yg, yv, yt⟩, t, s, S', L', rfl, HN.out⟩
    · obtain ⟨s, S', L', hN⟩ := HFIN.out (.slice (some ⟨q, f + 5, none⟩) 0 (c - 1)) ht
      have HN := Lib.hid hN
      unfold put5 at HN
      simp only at HN
      clear hN hn ht
      go_wp2
      exact bodyPost_ret (v := .agg #[.string yk, .int .i64 yq, .bool yg, .string yv, .int .i64 yt]) (by simp [results, Try.results23, go_sem, *]) rfl ⟨⟨yk, yq, yg, yv, yt⟩, t, s, S', L', rfl, HN.out⟩
  · have hc1 : ¬ c = 1 := by omega
    have hnn : (0 : Int) < ((n - 1 : Nat) : Int) := by omega
    obtain ⟨m, hm⟩ : ∃ m, n - 1 = m := ⟨_, rfl⟩
    rw [hm] at hnn
    have HPUSH : Hid (Calls Try.prog 37 #[ifc p, .iface 77 (.pointer (some ⟨b, 0, none⟩))] ((w1.setCell ⟨b, 0, none⟩ (.slice (some ⟨q, f + 5, none⟩) m (c - 1))).alloc (.cells #[.string yk, .int .i64 yq, .bool yg, .string yv, .int .i64 yt] 37)) fun e w' => e = .returned (.tuple #[]) ∧ w'.heap[x]? = some (.cells #[.string ⟨#[]⟩, .int .i64 0, .bool false, .string ⟨#[]⟩, .int .i64 0] 37 (0, 0)) ∧ w'.heap[w1.heap.size]? = some (.cells #[.string yk, .int .i64 yq, .bool yg, .string yv, .int .i64 yt] 37 (0, 0)) ∧
        ∃ s S' L', Nexted W0 w (put5 w' x ⟨yk, yq, yg, yv, yt⟩) p L ⟨yk, yq, yg, yv, yt⟩ t s S' L') := Lib.hid (by
      obtain ⟨⟨v', h1⟩, h2, h3⟩ := HSN.out (.slice (some ⟨q, f + 5, none⟩) m (c - 1))
      have hso : (w1.setCell ⟨b, 0, none⟩ (.slice (some ⟨q, f + 5, none⟩) m (c - 1))).heap[b]? = some (.cells #[.slice (some ⟨q, f + 5, none⟩) m (c - 1), .int .i64 pl] 79 (0, 0)) := by
        have := heap_set_fr HP1.out.obj 0 (.slice (some ⟨q, f + 5, none⟩) m (c - 1))
        simpa using this
      have hal := (Below.refl (w1.setCell ⟨b, 0, none⟩ (.slice (some ⟨q, f + 5, none⟩) m (c - 1))).heap.size (w1.setCell ⟨b, 0, none⟩ (.slice (some ⟨q, f + 5, none⟩) m (c - 1)))).alloc (Nat.le_refl _) (.cells #[.string yk, .int .i64 yq, .bool yg, .string yv, .int .i64 yt] 37)
      have htl : t.length = m := by omega
      have hlen : S.length + 1 = L.length := by have := HP1.out.perm.length_eq; simpa using this
      have hfw := HFEW.out
      have hpush := hPush_any (h1.bel hal) ⟨b, some ⟨q, f + 5, none⟩, c - 1, pl, t⟩ (by
        rw [hal.block b (lt_of_at hso), hso, objS, htl]) hsB (fun hm => by
          obtain ⟨s', hs', he⟩ := List.mem_map.1 hm
          exact HNB.out s' hs' he) ⟨HE0.out.tail, by show t.length ≤ c - 1; omega, fun e => by have e' : t = [] := e; rw [e'] at htl; simp at htl; omega, hpl⟩ (by omega) HHE.out
      refine hpush.mono ?_
      rintro e w4 ⟨rfl, v4, M, hp4, hpm4, hF4, hk4⟩
      have hBx : W0.heap.size ≤ x := by have := HB.out.size; have := HXL.out; omega
      have hx4 := hk4.block x _ ((hal.block x (lt_of_at h3)).trans h3) (.inr (by
        rintro ⟨_, _, _, e1, e2⟩
        injection e1 with _ e1
        rw [← e1] at e2
        revert e2
        decide))
      obtain ⟨h4, h5, h6⟩ := put5_ok (B := W0.heap.size) ⟨yk, yq, yg, yv, yt⟩ hx4 hBx
      have hy4 := hk4.block w1.heap.size _ (by
        have := heap_alloc_new (w1.setCell ⟨b, 0, none⟩ (.slice (some ⟨q, f + 5, none⟩) m (c - 1))) (.cells #[.string yk, .int .i64 yq, .bool yg, .string yv, .int .i64 yt] 37)
        rw [setCell_size] at this
        exact this) (.inr (by
        rintro ⟨_, _, _, e1, e2⟩
        injection e1 with _ e1
        rw [← e1] at e2
        revert e2
        decide))
      refine ⟨rfl, hx4, hy4, ⟨b, _, c, pl, ⟨yk, yq, yg, yv, yt⟩ :: t⟩, S, M, rfl, HP1.out.perm, HP1.out.least, ⟨v4, hp4.stay h4⟩, hF4, ?_, .inr ⟨fun e => by rw [e] at htl; simp at htl; omega, ⟨b, some ⟨q, f + 5, none⟩, c - 1, pl, t⟩, rfl, rfl, hpm4⟩⟩
      exact (((h2.trans (.of hal)).trans hk4)).tail (by rw [HXL.out]; exact h5))
    unfold ifc at HPUSH
    clear X0 X1 X2 X3 X4 Z0 Z1 Z2 Z3 Z4 hx1 hn hx
    go_wp2_with fail
    refine HPUSH.out.mono ?_
    rintro e w4 ⟨rfl, hx4, hy4, s, S', L', hN⟩
    have Y0 : w4.cell? ⟨w1.heap.size, 0, none⟩ = some (.string yk) := cell_of_row _ _ _ _ _ _ hy4
    have Y1 : w4.cell? ⟨w1.heap.size, 1, none⟩ = some (.int .i64 yq) := cell_of_row _ _ _ _ _ _ hy4
    have Y2 : w4.cell? ⟨w1.heap.size, 2, none⟩ = some (.bool yg) := cell_of_row _ _ _ _ _ _ hy4
    have Y3 : w4.cell? ⟨w1.heap.size, 3, none⟩ = some (.string yv) := cell_of_row _ _ _ _ _ _ hy4
    have Y4 : w4.cell? ⟨w1.heap.size, 4, none⟩ = some (.int .i64 yt) := cell_of_row _ _ _ _ _ _ hy4
    have HN := Lib.hid hN
    unfold put5 at HN
    simp only at HN
    have X0 : w4.cell? ⟨x, 0, none⟩ = some (.string ⟨#[]⟩) := cell_of_row _ _ _ _ _ _ hx4
    have X1 : w4.cell? ⟨x, 1, none⟩ = some (.int .i64 0) := cell_of_row _ _ _ _ _ _ hx4
    have X2 : w4.cell? ⟨x, 2, none⟩ = some (.bool false) := cell_of_row _ _ _ _ _ _ hx4
    have X3 : w4.cell? ⟨x, 3, none⟩ = some (.string ⟨#[]⟩) := cell_of_row _ _ _ _ _ _ hx4
    have X4 : w4.cell? ⟨x, 4, none⟩ = some (.int .i64 0) := cell_of_row _ _ _ _ _ _ hx4
    have Z0 : w4.frozen? ⟨x, 0, none⟩ = false := frozen_of_row _ _ _ _ _ hx4
    have Z1 : w4.frozen? ⟨x, 1, none⟩ = false := frozen_of_row _ _ _ _ _ hx4
    have Z2 : w4.frozen? ⟨x, 2, none⟩ = false := frozen_of_row _ _ _ _ _ hx4
    have Z3 : w4.frozen? ⟨x, 3, none⟩ = false := frozen_of_row _ _ _ _ _ hx4
    have Z4 : w4.frozen? ⟨x, 4, none⟩ = false := frozen_of_row _ _ _ _ _ hx4
    clear hN hx4 hy4
    go_wp2
    exact bodyPost_ret (v := .agg #[.string yk, .int .i64 yq, .bool yg, .string yv, .int .i64 yt]) (by simp [results, Try.results23, go_sem, *]) rfl ⟨⟨yk, yq, yg, yv, yt⟩, t, s, S', L', rfl, HN.out⟩
end Go.Proofs.Ytfbhdggmefacjaa
