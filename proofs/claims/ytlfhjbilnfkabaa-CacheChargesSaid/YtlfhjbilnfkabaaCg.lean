/- Get of a key that isn't kept; Pin, Unpin. -/
import Derived.Test.YtlfhjbilnfkabaaCf
namespace Go.Proofs.Ytlfhjbilnfkabaa
open Go.RowKit Go.Maps
open BM CM

def setPins (Z : Zs) (i : Nat) (v : Nat) : Zs := Z.modify i fun x => (x.1, { x.2 with pins := v })
theorem map_keep {α β : Type} (f : α → β) (g : α → α) (h : ∀ x, f (g x) = f x) (l : List α) (i : Nat) : (l.modify i g).map f = l.map f := by
  apply List.ext_getElem?
  intro k
  rw [List.getElem?_map, List.getElem?_map, List.getElem?_modify]
  cases l[k]? with
  | none => simp
  | some x =>
    by_cases hk : i = k
    · simp [hk, h]
    · simp [hk]
theorem pins_ads (Z : Zs) (i v : Nat) : ads (setPins Z i v) = ads Z := map_keep Prod.fst (fun x : Nat × Blk => (x.1, { x.2 with pins := v })) (fun _ => rfl) Z i
theorem pins_len (Z : Zs) (i v : Nat) : (setPins Z i v).length = Z.length := by simp [setPins]
theorem pins_at (Z : Zs) (i v j : Nat) (h : j < Z.length) : (setPins Z i v)[j]'(by rw [pins_len]; exact h) = if i = j then (Z[j].1, { Z[j].2 with pins := v }) else Z[j] := by
  unfold setPins; rw [List.getElem_modify]
theorem pins_mem {Z : Zs} {i v : Nat} {y : Nat × Blk} (h : y ∈ setPins Z i v) : ∃ x ∈ Z, y.1 = x.1 ∧ y.2.file = x.2.file ∧ y.2.block = x.2.block ∧ y.2.data = x.2.data := by
  obtain ⟨j, hj, rfl⟩ := List.getElem_of_mem h
  rw [pins_len] at hj
  rw [pins_at Z i v j hj]
  refine ⟨Z[j], List.getElem_mem hj, ?_⟩
  split <;> simp
theorem pins_tot (Z : Zs) (i v : Nat) : tot (setPins Z i v) = tot Z := by
  unfold tot setPins
  rw [map_keep (fun x : Nat × Blk => cost x.2.data) (fun x : Nat × Blk => (x.1, { x.2 with pins := v })) (fun _ => rfl)]

section
variable {w : World} {c z b N : Nat} {Z : Zs} {s : S}
theorem Cor.pins (h : Cor w c z b N Z) {i v : Nat} (hi : i < Z.length) (hv : v ≤ 1000000000) : Cor (w.setCell ⟨Z[i].1, 3, none⟩ (.int .i64 v)) c z b N (setPins Z i v) := by
  have hm : Z[i].1 ∈ ads Z := mem_ads.2 ⟨_, List.getElem_mem hi, rfl⟩
  have hne : ∀ g, g ≠ Z[i].1 → (w.setCell ⟨Z[i].1, 3, none⟩ (.int .i64 v)).heap[g]? = w.heap[g]? := fun g hg => Below.heap_setCell _ _ _ _ hg
  refine ⟨?_, fun y hy => ?_, by rw [pins_ads]; exact h.nodup, ?_, fun y hy => ?_, ?_⟩
  · obtain ⟨o, n, hh⟩ := h.head
    exact ⟨o, n, (hne c (fun e => h.notc (by rw [e]; exact hm))).trans hh⟩
  · obtain ⟨j, hj, rfl⟩ := List.getElem_of_mem hy
    rw [pins_len] at hj
    rw [pins_at Z i v j hj]
    obtain ⟨o, n, hh⟩ := h.blks _ (List.getElem_mem hj)
    by_cases hij : i = j
    · subst hij
      rw [if_pos rfl]
      refine ⟨o, n, ?_⟩
      rw [heap_set_fr hh 3 (.int .i64 v)]
      rfl
    · rw [if_neg hij]
      refine ⟨o, n, (hne _ fun e => hij ?_).trans hh⟩
      have h1 := ads_get hi
      have h2 := ads_get hj
      rw [← h1, ← h2] at e
      exact ((List.getElem_inj h.nodup).1 e).symm
  · rw [List.pairwise_iff_getElem]
    intro p q hp hq hpq
    rw [pins_len] at hp hq
    rw [pins_at Z i v p hp, pins_at Z i v q hq]
    have := List.pairwise_iff_getElem.1 h.keys p q hp hq hpq
    split <;> split <;> exact this
  · obtain ⟨j, hj, rfl⟩ := List.getElem_of_mem hy
    rw [pins_len] at hj
    rw [pins_at Z i v j hj]
    have := h.wf _ (List.getElem_mem hj)
    split
    · exact ⟨this.f, this.b, this.d, hv⟩
    · exact this
  · obtain ⟨D, hm1, h1, h2⟩ := h.map
    refine ⟨D, hm1.setCell (by intro e; exact h.zc.2 (by rw [e]; exact hm)) _, fun y hy => ?_, fun f k hf hk hn => ?_⟩
    · obtain ⟨x, hx, e1, e2, e3, -⟩ := pins_mem hy
      rw [e1, e2, e3]; exact h1 x hx
    · refine h2 f k hf hk fun x hx he => ?_
      obtain ⟨j, hj, rfl⟩ := List.getElem_of_mem hx
      have := hn ((setPins Z i v)[j]'(by rw [pins_len]; exact hj)) (List.getElem_mem _)
      rw [pins_at Z i v j hj] at this
      split at this <;> exact this he
theorem Ring.pins {ps : List Nat} (h : Ring w c ps) {p : Nat} {v0 u : Value} (hp : w.cell? ⟨p, 3, none⟩ = some v0) : Ring (w.setCell ⟨p, 3, none⟩ u) c ps := by
  have key : ∀ k, (nd c ps k).2 = 2 ∨ (nd c ps k).2 = 0 := by
    intro k
    cases k with
    | zero => exact .inl rfl
    | succ k =>
      by_cases hk : k < ps.length
      · rw [nd_in hk]; exact .inr rfl
      · rw [nd_out (by omega)]; exact .inl rfl
  intro i hi
  obtain ⟨r1, r2⟩ := h i hi
  refine ⟨?_, ?_⟩
  · rw [cell_nx, cell_set hp, if_neg (fun e => by have := key i; omega)]; exact r1
  · rw [cell_pv, cell_set hp, if_neg (fun e => by have := key (i + 1); omega)]; exact r2

set_option maxRecDepth 100000 in
theorem get_miss (h : Rep w c z b N Z s) {f k : Int} (hf : i64 f) (hk : i64 k) (he : at_ Z f k = none) :
    Calls Try.prog 24 #[.pointer (some ⟨c, 0, none⟩), keyV f k] w fun e w' => e = .returned (.tuple #[.string ⟨#[]⟩, .bool false]) ∧ Below w.heap.size w w' := by
  have hal : Below w.heap.size w (w.alloc (.cells #[.int .i64 f, .int .i64 k] 42)) := (Below.refl _ w).alloc (Nat.le_refl _) _
  have hfd := find_any (h.below hal).cor hf hk
  rw [he] at hfd
  unfold pV at hfd
  have HFD := Lib.hid hfd
  have HAL := Lib.hid hal
  have HSZ : Hid (w.heap.size ≤ (w.alloc (.cells #[.int .i64 f, .int .i64 k] 42)).heap.size) := Lib.hid (by simp)
  have hrow := heap_alloc_new w (.cells #[.int .i64 f, .int .i64 k] 42)
  have k0 : (w.alloc (.cells #[.int .i64 f, .int .i64 k] 42)).cell? ⟨w.heap.size, 0, none⟩ = some (.int .i64 f) := cell_of_row _ _ _ _ _ _ hrow
  have k1 : (w.alloc (.cells #[.int .i64 f, .int .i64 k] 42)).cell? ⟨w.heap.size, 1, none⟩ = some (.int .i64 k) := cell_of_row _ _ _ _ _ _ hrow
  clear hal hfd hrow h he
  unfold keyV at HFD ⊢
  go_enter Try.func24, Try.ntmps24
  go_wp2_with fail
  refine HFD.out.mono ?_
  rintro e w2 ⟨rfl, hb2⟩
  have HB2 := Lib.hid (HAL.out.trans (hb2.mono HSZ.out))
  clear hb2 HFD k0 k1
  go_wp2
  go_ret2
  exact ⟨rfl, HB2.out⟩
set_option maxRecDepth 100000 in
theorem pin_miss (h : Rep w c z b N Z s) {f k : Int} (hf : i64 f) (hk : i64 k) (he : at_ Z f k = none) :
    Calls Try.prog 20 #[.pointer (some ⟨c, 0, none⟩), keyV f k] w fun e w' => e = .returned (.bool false) ∧ Below w.heap.size w w' := by
  have hal : Below w.heap.size w (w.alloc (.cells #[.int .i64 f, .int .i64 k] 42)) := (Below.refl _ w).alloc (Nat.le_refl _) _
  have hfd := find_any (h.below hal).cor hf hk
  rw [he] at hfd
  unfold pV at hfd
  have HFD := Lib.hid hfd
  have HAL := Lib.hid hal
  have HSZ : Hid (w.heap.size ≤ (w.alloc (.cells #[.int .i64 f, .int .i64 k] 42)).heap.size) := Lib.hid (by simp)
  have hrow := heap_alloc_new w (.cells #[.int .i64 f, .int .i64 k] 42)
  have k0 : (w.alloc (.cells #[.int .i64 f, .int .i64 k] 42)).cell? ⟨w.heap.size, 0, none⟩ = some (.int .i64 f) := cell_of_row _ _ _ _ _ _ hrow
  have k1 : (w.alloc (.cells #[.int .i64 f, .int .i64 k] 42)).cell? ⟨w.heap.size, 1, none⟩ = some (.int .i64 k) := cell_of_row _ _ _ _ _ _ hrow
  clear hal hfd hrow h he
  unfold keyV at HFD ⊢
  go_enter Try.func20, Try.ntmps20
  go_wp2_with fail
  refine HFD.out.mono ?_
  rintro e w2 ⟨rfl, hb2⟩
  have HB2 := Lib.hid (HAL.out.trans (hb2.mono HSZ.out))
  clear hb2 HFD k0 k1
  go_wp2
  go_ret
  exact ⟨rfl, HB2.out⟩

set_option maxRecDepth 100000 in
set_option maxHeartbeats 1000000 in
theorem pin_hit (h : Rep w c z b N Z s) {f k : Int} (hf : i64 f) (hk : i64 k) {i : Nat} (hi : i < Z.length) (he : at_ Z f k = some Z[i].1) (hp : Z[i].2.pins < 1000000000) :
    Calls Try.prog 20 #[.pointer (some ⟨c, 0, none⟩), keyV f k] w fun e w' => e = .returned (.bool true) ∧ Rep w' c z b N (setPins Z i (Z[i].2.pins + 1)) s ∧ Only (own c z b Z) w w' := by
  have hal : Below w.heap.size w (w.alloc (.cells #[.int .i64 f, .int .i64 k] 42)) := (Below.refl _ w).alloc (Nat.le_refl _) _
  have H1 := Lib.hid (h.below hal)
  have HO1 : Hid (Only (own c z b Z) w (w.alloc (.cells #[.int .i64 f, .int .i64 k] 42))) := Lib.hid (Only.of_below hal)
  have hfd := find_any H1.out.cor hf hk
  rw [he] at hfd
  unfold pV at hfd
  have HFD := Lib.hid hfd
  have hrow := heap_alloc_new w (.cells #[.int .i64 f, .int .i64 k] 42)
  have k0 : (w.alloc (.cells #[.int .i64 f, .int .i64 k] 42)).cell? ⟨w.heap.size, 0, none⟩ = some (.int .i64 f) := cell_of_row _ _ _ _ _ _ hrow
  have k1 : (w.alloc (.cells #[.int .i64 f, .int .i64 k] 42)).cell? ⟨w.heap.size, 1, none⟩ = some (.int .i64 k) := cell_of_row _ _ _ _ _ _ hrow
  have hx : Z[i] ∈ Z := List.getElem_mem hi
  have HPI : Hid (∀ W, Cor W c z b N Z → ∀ v : Nat, v ≤ 1000000000 → Cor (W.setCell ⟨Z[i].1, 3, none⟩ (.int .i64 v)) c z b N (setPins Z i v)) := Lib.hid fun W hW v hv => hW.pins hi hv
  obtain ⟨x, hxx⟩ : ∃ x, Z[i] = x := ⟨_, rfl⟩
  rw [hxx] at hx HFD hp HPI ⊢
  obtain ⟨p, hpp⟩ : ∃ p, x.1 = p := ⟨_, rfl⟩
  obtain ⟨v, hvv⟩ : ∃ v, x.2.pins = v := ⟨_, rfl⟩
  rw [hpp] at HFD HPI
  rw [hvv] at hp ⊢
  have HX := Lib.hid hx
  have HPX := Lib.hid hpp
  have HVX := Lib.hid hvv
  obtain ⟨v1, hv1⟩ : ∃ v1 : Nat, v + 1 = v1 := ⟨_, rfl⟩
  rw [hv1]
  have hwv : IntKind.i64.wrap ((v : Int) + 1) = (v1 : Int) := by rw [IntWalk.i64_in _ ⟨by omega, by omega⟩]; omega
  have HVB : Hid (v1 ≤ 1000000000) := Lib.hid (by omega)
  clear hv1
  clear hal hfd hrow h he hxx hpp hvv hx hp
  unfold keyV at HFD ⊢
  go_enter Try.func20, Try.ntmps20
  go_wp2_with fail
  generalize w.alloc (.cells #[.int .i64 f, .int .i64 k] 42) = w1 at H1 HO1 HFD k0 k1 ⊢
  refine HFD.out.mono ?_
  rintro e w2 ⟨rfl, hb2⟩
  have H2 := Lib.hid (H1.out.below hb2)
  have HO2 : Hid (Only (own c z b Z) w w2) := Lib.hid (HO1.out.trans (Only.of_below hb2 : Only (own c z b Z) w1 w2) (fun _ _ h => h))
  clear hb2 HFD H1 HO1 k0 k1
  have c3 := H2.out.cor.p3 HX.out
  rw [HPX.out, HVX.out] at c3
  have hpm : p ∈ ads Z := mem_ads.2 ⟨x, HX.out, HPX.out⟩
  have f3 := H2.out.cor.rows0.frozen_in hpm 3
  have hnb := H2.out.cor.nb H2.out.bud
  have H3 : Hid (Rep (w2.setCell ⟨p, 3, none⟩ (.int .i64 (v1 : Int))) c z b N (setPins Z i v1) s) := Lib.hid
    ⟨HPI.out w2 H2.out.cor v1 HVB.out, by rw [pins_ads]; exact H2.out.ring.pins c3, (Below.heap_setCell _ _ _ _ (fun e => hnb.2.2 (by have e' : b = p := e; rw [e']; exact hpm))).trans H2.out.bud, H2.out.ok, by rw [pins_tot]; exact H2.out.sum⟩
  have HO3 : Hid (Only (own c z b Z) w (w2.setCell ⟨p, 3, none⟩ (.int .i64 (v1 : Int)))) := Lib.hid (HO2.out.trans (Only.of_grown (grownBy_setCell w2 ⟨p, 3, none⟩ _) (Or.inr (Or.inr (Or.inr hpm))) : Only (own c z b Z) w2 _) (fun _ _ h => h))
  clear hpm hnb HPI
  go_wp2
  go_ret
  exact ⟨rfl, H3.out, HO3.out⟩
end
end Go.Proofs.Ytlfhjbilnfkabaa
