/- What lies between two rounds of the inner loop: what has been collected, and the set of kept places. -/
import Derived.Test.YtfbhdggmefacjaaCe
import Derived.Test.YtfbhdggmefacjaaVb
namespace Go.Proofs.Ytfbhdggmefacjaa
open Go.RowKit Go.Shelf
open SK VB

theorem I64In.kept {w w' : World} {A : Option Addr} {xs : List Int} {S : List Nat} {N : Nat} (h : I64In w A xs) (hk : Kept S N w w') (hf : ∀ b ∈ fb A, b < N ∧ b ∉ S) : I64In w' A xs :=
  ⟨fun hn => by
    obtain ⟨b, off, hA, hlt, hc⟩ := h.at_ hn
    have hb := hk.block b (hf b (by rw [hA]; simp [fb])).1 (hf b (by rw [hA]; simp [fb])).2
    exact ⟨b, off, hA, Nat.lt_of_lt_of_le hlt hk.size, fun j hj => (World.cell?_of_block (a := ⟨b, _, none⟩) hb).trans (hc j hj)⟩⟩

/-- numbers that the call owns are there to be read -/
theorem own_i64 {w : World} {B n : Nat} {v : Value} {xs : List Int} (hn : xs.length = n) (h : w.ownsRow B 2 1 v n (xs.map (Value.int .i64))) : ∃ A c, v = .slice A n c ∧ I64In w A xs ∧ ∀ b ∈ fb A, B ≤ b ∧ b < w.heap.size := by
  rcases h.2 with ⟨rfl, h0⟩ | ⟨g, cap, cur, rfl, hg, hb, h1, h2, h3, h4⟩
  · exact ⟨none, 0, by rw [h0], ⟨fun hp => by omega⟩, by simp [fb]⟩
  · refine ⟨_, _, rfl, ⟨fun hp => ⟨g, 0, rfl, (Array.getElem?_eq_some_iff.1 hb).1, fun j hj => ?_⟩⟩, fun b hb' => ?_⟩
    · have := h.cellAt j (by omega)
      simp only [Nat.zero_add] at this ⊢
      rw [this]
      simp [hj]
    · simp [fb] at hb'
      subst hb'
      exact ⟨hg, (Array.getElem?_eq_some_iff.1 hb).1⟩

theorem OwnS.map_at {w : World} {b n : Nat} {S : Nat → Bool} (h : OwnS w b n S) : ∃ es c, w.heap[b]? = some (.map es c) := by
  obtain ⟨D, ⟨es, c, h1, _⟩, _⟩ := h
  exact ⟨es, c, h1⟩
theorem OwnS.not_row {w : World} {b n : Nat} {S : Nat → Bool} (h : OwnS w b n S) {B : Nat} {e : TypeId} {z : Nat} {v : Value} {m : Nat} {xs : List Value} (ho : w.ownsRow B e z v m xs) : some b ≠ v.ownBlock := by
  obtain ⟨es, c, hm⟩ := h.map_at
  rcases ho.2 with ⟨rfl, _⟩ | ⟨g, cap, cur, rfl, _, hb, _⟩
  · simp [Value.ownBlock]
  · intro he
    have : b = g := by simpa [Value.ownBlock] using he
    subst this
    rw [hm] at hb
    cases hb
theorem OwnS.not_box {w : World} {b n : Nat} {S : Nat → Bool} (h : OwnS w b n S) {y : Nat} {t : TypeId} {v : Value} (hv : Boxed w y t v) : some b ≠ some y := by
  obtain ⟨es, c, hm⟩ := h.map_at
  intro e
  injection e with e
  subst e
  have := hv
  unfold Boxed at this
  rw [hm] at this
  cases this

structure Midc (y : Nat) (w6 W : World) (ym q : Nat) (S : Nat → Bool) (wr : World) (v : Value) (L : List SK.E) : Prop where
  from_ : KeepsFrom w6.heap.size W wr
  kept : Kept [y] w6.heap.size W wr
  box : Boxed wr y 23 v
  row : wr.ownsRow w6.heap.size 37 5 v L.length (ecs L)
  set : OwnS wr ym q S

theorem Midc.grow {y : Nat} {w6 W : World} {ym q : Nat} {S : Nat → Bool} {wr w' : World} {v : Value} {L : List SK.E} (h : Midc y w6 W ym q S wr v L) (hw : w6.heap.size ≤ W.heap.size) (hb : Below wr.heap.size wr w') : Midc y w6 W ym q S w' v L :=
  ⟨h.from_.trans (KeepsFrom.of_grow hb), h.kept.trans (Kept.of_below (hb.mono (Nat.le_trans hw h.kept.size))), (hb.block y (lt_of_cells h.box)).trans h.box, own_below h.row hb, h.set.below hb⟩

set_option maxHeartbeats 1000000 in
theorem Midc.app {y : Nat} {w6 W : World} {ym q : Nat} {S : Nat → Bool} {wr W7 : World} {vA : Option Addr} {vn vc : Nat} {L : List SK.E} (h : Midc y w6 W ym q S wr (.slice vA vn vc) L) (hv : vn = L.length) (hw : w6.heap.size ≤ W.heap.size) (hyw : y ≤ w6.heap.size) (hlen : L.length ≤ 100000000000) (h7 : Below wr.heap.size wr W7) (e : SK.E) :
    ∃ A6 c6 w8, (Builtin.append_ #[23, 23] 23 #[.slice vA vn vc, .slice (some ⟨W7.heap.size, 0, none⟩) 1 1]).run Try.prog (W7.alloc (.cells #[.string e.key, .int .i64 e.seq, .bool e.gone, .string e.value, .int .i64 e.til] 37)) = .ok (.slice A6 (vn + 1) c6) w8 ∧
      w8.cell? ⟨y, 0, none⟩ = some (.slice vA vn vc) ∧ w8.frozen? ⟨y, 0, none⟩ = false ∧ wr.heap.size ≤ w8.heap.size ∧ Midc y w6 W ym q S (w8.setCell ⟨y, 0, none⟩ (.slice A6 (vn + 1) c6)) (.slice A6 (vn + 1) c6) (L ++ [e]) := by
  subst hv
  obtain ⟨i0, hi0, hz0, hz1, hz2⟩ := info_parts info_ent
  have how7 := own_below h.row h7
  have hNW : w6.heap.size ≤ wr.heap.size := Nat.le_trans hw h.kept.size
  have hs7 : w6.heap.size ≤ W7.heap.size := Nat.le_trans hNW h7.size
  have hv7 : Boxed W7 y 23 (.slice vA L.length vc) := (h7.block y (lt_of_cells h.box)).trans h.box
  obtain ⟨v', w8, happ, hown8, hg8, -, -⟩ := run_append_own_at (P := Try.prog) (W7.alloc (.cells #[.string e.key, .int .i64 e.seq, .bool e.gone, .string e.value, .int .i64 e.til] 37)) w6.heap.size 23 23 37 i0 _ 5 56 Try.underlying23 hi0 hz0 hz1 hz2 rfl (by decide) (.slice vA L.length vc) L.length _ (how7.alloc _)
    ⟨W7.heap.size, 0, none⟩ 1 1 (SK.E.cells e) rfl (ent_cells W7 e _) (ent_one _) (by unfold maxLen; omega) (by omega) (by simp; omega)
  obtain ⟨b1, b2, b3, b4, -⟩ := Boxed.appended (n₀ := y) (e := 37) hv7 (by decide) (own_less how7 hyw) (Nat.le_of_lt hv7.lt) (Nat.le_refl _) (own_less hown8 hyw) hg8
  have hown9 := hown8.kept (grownBy_setCell' w8 y v') (.inr (b1.not_row (by decide) hown8).symm)
  obtain ⟨A6, c6, rfl⟩ : ∃ A6 c6, v' = .slice A6 (L.length + 1) c6 := by
    rcases hown8.2 with ⟨e, h0⟩ | ⟨gg, cap, cur, e, _⟩
    · omega
    · exact ⟨_, _, e⟩
  have hset8 : OwnS w8 ym q S := ((h.set.below h7).below ((Below.refl _ W7).alloc (Nat.le_refl _) (.cells #[.string e.key, .int .i64 e.seq, .bool e.gone, .string e.value, .int .i64 e.til] 37))).kept hg8 (((h.set.below h7).below ((Below.refl _ W7).alloc (Nat.le_refl _) (.cells #[.string e.key, .int .i64 e.seq, .bool e.gone, .string e.value, .int .i64 e.til] 37))).not_row (how7.alloc _))
  have hset9 : OwnS (w8.setCell ⟨y, 0, none⟩ (.slice A6 (L.length + 1) c6)) ym q S := hset8.kept (grownBy_setCell' w8 y _) (hset8.not_box b1)
  have hkp : Kept [y] w6.heap.size W (w8.setCell ⟨y, 0, none⟩ (.slice A6 (L.length + 1) c6)) := ((h.kept.trans (Kept.of_below ((h7.mono hNW).alloc hs7 _))).grown hw hg8 (fun r e => (how7.lt r e).1)).set _ _ _ (.inl List.mem_cons_self)
  refine ⟨A6, c6, w8, happ, b1.cell, b1.frozen, ?_, (h.from_.trans (KeepsFrom.of_grow h7)).trans (b4.from _), hkp, b2, ?_, hset9⟩
  · have := hg8.size
    rw [World.size_alloc] at this
    have := h7.size
    omega
  · rw [ecs_snoc, List.length_append]; exact hown9
end Go.Proofs.Ytfbhdggmefacjaa
