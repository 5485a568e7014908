/- How a cache lies in memory. -/
import Derived.Test.YtlfhjbilnfkabaaCb
import Derived.Test.YtlfhjbilnfkabaaBc
namespace Go.Proofs.Ytlfhjbilnfkabaa
open Go.RowKit Go.Maps
open BM

namespace CM
structure Blk where
  file : Int
  block : Int
  data : ByteArray
  pins : Nat
structure Blk.wf (x : Blk) : Prop where
  f : i64 x.file
  b : i64 x.block
  d : x.data.size ≤ 140737488351232
  p : x.pins ≤ 1000000000
abbrev Zs := List (Nat × Blk)
def cost (d : ByteArray) : Nat := 64 + d.size
def tot (Z : Zs) : Nat := (Z.map fun x => cost x.2.data).sum
def hit (f b : Int) (x : Nat × Blk) : Bool := x.2.file == f && x.2.block == b
def at_ (Z : Zs) (f b : Int) : Option Nat := (Z.find? (hit f b)).map Prod.fst
def ads (Z : Zs) : List Nat := Z.map Prod.fst
theorem ads_len (Z : Zs) : (ads Z).length = Z.length := by simp [ads]
end CM
open CM

/-! ### only links are turned -/
structure LkO (w w' : World) (c : Nat) (ps : List Nat) : Prop where
  os : w'.os = w.os
  tape : w'.tape = w.tape
  output : w'.output = w.output
  size : w'.heap.size = w.heap.size
  other : ∀ g, g ≠ c → g ∉ ps → w'.heap[g]? = w.heap[g]?
  blk : ∀ p ∈ ps, ∀ a b d e o n t, w.heap[p]? = some (.cells #[a, b, d, e, o, n] t (0, 0)) → ∃ o' n', w'.heap[p]? = some (.cells #[a, b, d, e, o', n'] t (0, 0))
  head : ∀ a b d e f g o n t, w.heap[c]? = some (.cells #[a, b, d, e, f, g, o, n] t (0, 0)) → ∃ o' n', w'.heap[c]? = some (.cells #[a, b, d, e, f, g, o', n'] t (0, 0))

theorem LkO.refl (w : World) (c : Nat) (ps : List Nat) : LkO w w c ps := ⟨rfl, rfl, rfl, rfl, fun _ _ _ => rfl, fun _ _ _ _ _ _ o n _ h => ⟨o, n, h⟩, fun _ _ _ _ _ _ o n _ h => ⟨o, n, h⟩⟩
theorem LkO.trans {a b d : World} {c : Nat} {ps : List Nat} (h : LkO a b c ps) (k : LkO b d c ps) : LkO a d c ps :=
  ⟨k.os.trans h.os, k.tape.trans h.tape, k.output.trans h.output, k.size.trans h.size, fun g h1 h2 => (k.other g h1 h2).trans (h.other g h1 h2),
    fun p hp _ _ _ _ _ _ _ hr => by obtain ⟨o, n, h1⟩ := h.blk p hp _ _ _ _ _ _ _ hr; exact k.blk p hp _ _ _ _ _ _ _ h1,
    fun _ _ _ _ _ _ _ _ _ hr => by obtain ⟨o, n, h1⟩ := h.head _ _ _ _ _ _ _ _ _ hr; exact k.head _ _ _ _ _ _ _ _ _ h1⟩
theorem LkO.drewN {w w' : World} {c : Nat} {ps : List Nat} (h : LkO w w' c ps) (n : Nat) : LkO w (w'.drewN n) c ps := ⟨h.os, h.tape, h.output, h.size, h.other, h.blk, h.head⟩
theorem LkO.drewN_left {w w' : World} {c : Nat} {ps : List Nat} {n : Nat} (h : LkO (w.drewN n) w' c ps) : LkO w w' c ps := ⟨h.os, h.tape, h.output, h.size, h.other, h.blk, h.head⟩

theorem LkO.set_head (w : World) (c : Nat) (ps : List Nat) (hc : c ∉ ps) (j : Nat) (hj : j = 6 ∨ j = 7) (u : Value) : LkO w (w.setCell ⟨c, j, none⟩ u) c ps := by
  refine ⟨rfl, rfl, rfl, setCell_size _ _ _, fun g h1 _ => Below.heap_setCell _ _ _ _ h1, fun p hp a b d e o n t h => ⟨o, n, ?_⟩, fun a b d e f g o n t h => ?_⟩
  · rw [Below.heap_setCell _ _ _ _ (fun e => hc (by have e' : p = c := e; rw [← e']; exact hp))]; exact h
  · rw [heap_set_fr h j u]
    rcases hj with rfl | rfl
    · exact ⟨u, n, rfl⟩
    · exact ⟨o, u, rfl⟩
theorem LkO.set_blk (w : World) (c : Nat) (ps : List Nat) (hc : c ∉ ps) (p : Nat) (hp : p ∈ ps) (j : Nat) (hj : j = 4 ∨ j = 5) (u : Value) : LkO w (w.setCell ⟨p, j, none⟩ u) c ps := by
  have hcp : c ≠ p := fun e => hc (by rw [e]; exact hp)
  refine ⟨rfl, rfl, rfl, setCell_size _ _ _, fun g _ h2 => Below.heap_setCell _ _ _ _ (fun e => h2 (by rw [e]; exact hp)), fun q hq a b d e o n t h => ?_, fun a b d e f g o n t h => ⟨o, n, ?_⟩⟩
  · by_cases he : q = p
    · subst he
      rw [heap_set_fr h j u]
      rcases hj with rfl | rfl
      · exact ⟨u, n, rfl⟩
      · exact ⟨o, u, rfl⟩
    · exact ⟨o, n, by rw [Below.heap_setCell _ _ _ _ he]; exact h⟩
  · rw [Below.heap_setCell _ _ _ _ hcp]; exact h
theorem LkO.set_nd (w : World) (c : Nat) (ps : List Nat) (hc : c ∉ ps) (i : Nat) (j : Nat) (hj : j = 4 ∨ j = 5) (u : Value) : LkO w (w.setCell ⟨(nd c ps i).1, (nd c ps i).2 + j, none⟩ u) c ps := by
  by_cases hi : 0 < i ∧ i ≤ ps.length
  · obtain ⟨k, rfl⟩ : ∃ k, i = k + 1 := ⟨i - 1, by omega⟩
    rw [nd_in (by omega : k < ps.length)]
    exact LkO.set_blk w c ps hc _ (List.getElem_mem _) (0 + j) (by omega) u
  · have : nd c ps i = (c, 2) := by
      by_cases h0 : i = 0
      · subst h0; rfl
      · exact nd_out (by omega)
    rw [this]
    exact LkO.set_head w c ps hc (2 + j) (by omega) u

/-! ### the cache -/
/-- a cache's box, its blocks and its map -/
structure Cor (w : World) (c z b N : Nat) (Z : Zs) : Prop where
  head : ∃ o n, w.heap[c]? = some (.cells #[.pointer (some ⟨b, 0, none⟩), .map (some z), .int .i64 0, .int .i64 0, .string ⟨#[]⟩, .int .i64 0, o, n] 78 (0, 0))
  blks : ∀ x ∈ Z, ∃ o n, w.heap[x.1]? = some (.cells #[.int .i64 x.2.file, .int .i64 x.2.block, .string x.2.data, .int .i64 x.2.pins, o, n] 76 (0, 0))
  nodup : (ads Z).Nodup
  keys : Z.Pairwise (fun x y => ¬ (x.2.file = y.2.file ∧ x.2.block = y.2.block))
  wf : ∀ x ∈ Z, x.2.wf
  map : ∃ D, OwnM w z N D ∧ (∀ x ∈ Z, D.atKey (kl x.2.file x.2.block) .nil = .lit (.int .i64 x.1)) ∧ ∀ f k, i64 f → i64 k → (∀ x ∈ Z, ¬ (x.2.file = f ∧ x.2.block = k)) → D.atKey (kl f k) .nil = .nil

section
variable {w w' : World} {c z b N : Nat} {Z Z' : Zs}
theorem Cor.lt_c (h : Cor w c z b N Z) : c < w.heap.size := by obtain ⟨o, n, h⟩ := h.head; exact (Array.getElem?_eq_some_iff.1 h).1
theorem Cor.lt_z (h : Cor w c z b N Z) : z < w.heap.size := by obtain ⟨D, h, -⟩ := h.map; exact h.lt
theorem Cor.lt_p (h : Cor w c z b N Z) {x : Nat × Blk} (hx : x ∈ Z) : x.1 < w.heap.size := by obtain ⟨o, n, h⟩ := h.blks x hx; exact (Array.getElem?_eq_some_iff.1 h).1
theorem mem_ads {Z : Zs} {p : Nat} : p ∈ ads Z ↔ ∃ x ∈ Z, x.1 = p := by simp [ads]
theorem heap_map {w : World} {z n : Nat} {D : DataW Unit} (h : OwnM w z n D) : ∃ es k, w.heap[z]? = some (.map es k) := by
  obtain ⟨es, clock, hb, _⟩ := h
  exact ⟨es, clock, hb⟩
theorem Cor.notc (h : Cor w c z b N Z) : c ∉ ads Z := by
  intro hm
  obtain ⟨x, hx, he⟩ := mem_ads.1 hm
  obtain ⟨o, n, h1⟩ := h.head
  obtain ⟨o', n', h2⟩ := h.blks x hx
  rw [he, h1] at h2
  simp at h2
theorem Cor.apart (h : Cor w c z b N Z) : Apart c (ads Z) := ⟨h.nodup, h.notc⟩
theorem Cor.zc (h : Cor w c z b N Z) : z ≠ c ∧ z ∉ ads Z := by
  obtain ⟨D, hm, -⟩ := h.map
  obtain ⟨es, k, hz⟩ := heap_map hm
  refine ⟨?_, ?_⟩
  · rintro rfl
    obtain ⟨o, n, h1⟩ := h.head
    rw [hz] at h1; simp at h1
  · intro hin
    obtain ⟨x, hx, he⟩ := mem_ads.1 hin
    obtain ⟨o, n, h1⟩ := h.blks x hx
    rw [he, hz] at h1; simp at h1
/-- no budget lies where the cache lies -/
theorem Cor.nb (h : Cor w c z b N Z) {s : S} {k : Int} {q : Nat} (hb : BAt w q k s) : q ≠ c ∧ q ≠ z ∧ q ∉ ads Z := by
  unfold BAt at hb
  refine ⟨?_, ?_, ?_⟩
  · rintro rfl
    obtain ⟨o, n, h1⟩ := h.head
    rw [hb] at h1; simp [bC] at h1
  · rintro rfl
    obtain ⟨D, hm, -⟩ := h.map
    obtain ⟨es, k', hz⟩ := heap_map hm
    rw [hb] at hz; simp at hz
  · intro hin
    obtain ⟨x, hx, he⟩ := mem_ads.1 hin
    obtain ⟨o, n, h1⟩ := h.blks x hx
    rw [he, hb] at h1; simp [bC] at h1
theorem Cor.rows (h : Cor w c z b N Z) : ∀ p ∈ ads Z, ∃ cs t, w.heap[p]? = some (.cells cs t (0, 0)) := fun p hp => by
  obtain ⟨x, hx, rfl⟩ := mem_ads.1 hp
  obtain ⟨o, n, h1⟩ := h.blks x hx
  exact ⟨_, _, h1⟩
theorem Cor.kept (h : Cor w c z b N Z) {row : Option Nat} (hg : w.grownBy w' row) (h1 : some c ≠ row) (h2 : some z ≠ row) (h3 : ∀ p ∈ ads Z, some p ≠ row) : Cor w' c z b N Z := by
  refine ⟨?_, fun x hx => ?_, h.nodup, h.keys, h.wf, ?_⟩
  · obtain ⟨o, n, hh⟩ := h.head; exact ⟨o, n, (hg.block c h.lt_c h1).trans hh⟩
  · obtain ⟨o, n, hh⟩ := h.blks x hx; exact ⟨o, n, (hg.block x.1 (h.lt_p hx) (h3 _ (mem_ads.2 ⟨x, hx, rfl⟩))).trans hh⟩
  · obtain ⟨D, hm, hr⟩ := h.map
    exact ⟨D, hm.kept hg h2, hr⟩
theorem Cor.below (h : Cor w c z b N Z) (hb : Below w.heap.size w w') : Cor w' c z b N Z := h.kept (row := none) (grown_below hb) (by simp) (by simp) (by simp)
theorem Cor.links (h : Cor w c z b N Z) {ps : List Nat} (hl : LkO w w' c ps) (hs : ∀ p ∈ ps, ∃ x ∈ Z, x.1 = p) : Cor w' c z b N Z := by
  refine ⟨?_, fun x hx => ?_, h.nodup, h.keys, h.wf, ?_⟩
  · obtain ⟨o, n, hh⟩ := h.head; exact hl.head _ _ _ _ _ _ _ _ _ hh
  · obtain ⟨o, n, hh⟩ := h.blks x hx
    by_cases hp : x.1 ∈ ps
    · exact hl.blk _ hp _ _ _ _ _ _ _ hh
    · refine ⟨o, n, (hl.other x.1 (fun e => h.notc (mem_ads.2 ⟨x, hx, e⟩)) hp).trans hh⟩
  · obtain ⟨D, hm, hr⟩ := h.map
    obtain ⟨hz1, hz2⟩ := h.zc
    have hzp : z ∉ ps := fun hp => by obtain ⟨x, hx, he⟩ := hs z hp; exact hz2 (mem_ads.2 ⟨x, hx, he⟩)
    obtain ⟨es, clock, hb, r⟩ := hm
    exact ⟨D, ⟨es, clock, (hl.other z hz1 hzp).trans hb, r⟩, hr⟩
theorem Cor.perm (h : Cor w c z b N Z) (hp : Z.Perm Z') : Cor w c z b N Z' := by
  refine ⟨h.head, fun x hx => h.blks x (hp.mem_iff.2 hx), (hp.map Prod.fst).nodup_iff.1 h.nodup, ?_, fun x hx => h.wf x (hp.mem_iff.2 hx), ?_⟩
  · exact (hp.pairwise_iff (fun {x y} hxy e => hxy ⟨e.1.symm, e.2.symm⟩)).1 h.keys
  · obtain ⟨D, hm, h1, h2⟩ := h.map
    exact ⟨D, hm, fun x hx => h1 x (hp.mem_iff.2 hx), fun f k hf hk hn => h2 f k hf hk fun x hx => hn x (hp.mem_iff.1 hx)⟩
theorem Ring.kept {ps : List Nat} (h : Ring w c ps) {row : Option Nat} (hg : w.grownBy w' row) (h1 : some c ≠ row) (h3 : ∀ p ∈ ps, some p ≠ row) : Ring w' c ps := by
  have hc : ∀ (i : Nat) (j : Nat) v, w.cell? ⟨(nd c ps i).1, j, none⟩ = some v → w'.cell? ⟨(nd c ps i).1, j, none⟩ = some v := fun i j v hv => by
    obtain ⟨cs, t, fr, hb1, -⟩ := cell_some hv
    have hne : some (nd c ps i).1 ≠ row := by
      cases i with
      | zero => exact h1
      | succ k =>
        by_cases hk : k < ps.length
        · rw [nd_in hk]; exact h3 _ (List.getElem_mem hk)
        · rw [nd_out (by omega)]; exact h1
    have := hg.block _ (Array.getElem?_eq_some_iff.1 hb1).1 hne
    simp only [World.cell?, this] at hv ⊢
    exact hv
  intro i hi
  obtain ⟨r1, r2⟩ := h i hi
  exact ⟨hc i _ _ r1, hc (i + 1) _ _ r2⟩
theorem Ring.below {ps : List Nat} (h : Ring w c ps) (hb : Below w.heap.size w w') : Ring w' c ps := h.kept (row := none) (grown_below hb) (by simp) (by simp)
end

structure Rep (w : World) (c z b N : Nat) (Z : Zs) (s : S) : Prop where
  cor : Cor w c z b N Z
  ring : Ring w c (ads Z)
  bud : BAt w b 0 s
  ok : Ok s
  sum : s.k1 = tot Z
theorem Rep.below {w w' : World} {c z b N : Nat} {Z : Zs} {s : S} (h : Rep w c z b N Z s) (hb : Below w.heap.size w w') : Rep w' c z b N Z s :=
  ⟨h.cor.below hb, h.ring.below hb, h.bud.below hb, h.ok, h.sum⟩

theorem tot_perm {Z Z' : Zs} (h : Z.Perm Z') : tot Z = tot Z' := by unfold tot; exact (h.map _).sum_nat
theorem tot_cons (x : Nat × Blk) (Z : Zs) : tot (x :: Z) = cost x.2.data + tot Z := by simp [tot]
theorem tot_snoc (x : Nat × Blk) (Z : Zs) : tot (Z ++ [x]) = tot Z + cost x.2.data := by simp [tot]

/-- what is found at a key -/
theorem find_spec {Z : Zs} (f k : Int) : (∃ i, ∃ h : i < Z.length, Z[i].2.file = f ∧ Z[i].2.block = k ∧ at_ Z f k = some Z[i].1) ∨ ((∀ x ∈ Z, ¬ (x.2.file = f ∧ x.2.block = k)) ∧ at_ Z f k = none) := by
  unfold at_
  cases h : Z.find? (hit f k) with
  | none =>
    refine .inr ⟨fun x hx hk => ?_, rfl⟩
    have := List.find?_eq_none.1 h x hx
    simp [hit, hk.1, hk.2] at this
  | some x =>
    have h1 := List.find?_some h
    have h2 := List.mem_of_find?_eq_some h
    obtain ⟨i, hi, rfl⟩ := List.getElem_of_mem h2
    simp only [hit, Bool.and_eq_true, beq_iff_eq] at h1
    exact .inl ⟨i, hi, h1.1, h1.2, rfl⟩
theorem Cor.at_key {w : World} {c z b N : Nat} {Z : Zs} (h : Cor w c z b N Z) {f k : Int} (hf : i64 f) (hk : i64 k) : ∃ D, OwnM w z N D ∧ D.atKey (kl f k) .nil = pD (at_ Z f k) := by
  obtain ⟨D, hm, h1, h2⟩ := h.map
  refine ⟨D, hm, ?_⟩
  rcases find_spec f k with ⟨i, hi, e1, e2, e3⟩ | ⟨hn, e3⟩
  · rw [e3, ← e1, ← e2]; exact h1 _ (List.getElem_mem hi)
  · rw [e3]; exact h2 f k hf hk hn
end Go.Proofs.Ytlfhjbilnfkabaa
