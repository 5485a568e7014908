/- Both caches side by side. -/
import Derived.Test.YtlfhjbilnfkabaaOp
import Derived.Test.YtlfhjbilnfkabaaRe
namespace Go.Proofs.Ytlfhjbilnfkabaa
open Go.RowKit Go.Maps
open BM CM

section
variable {W w w' : World} {c z b N : Nat} {Z : Zs} {s : S} {B r rb : Nat} {LA : Option Addr} {lc : Nat} {L : Ls} {t : S}
theorem Rep.same (h : Rep w c z b N Z s) (hs : ∀ g, own c z b Z g → w'.heap[g]? = w.heap[g]?) : Rep w' c z b N Z s := by
  have hc : ∀ g, g = c → w'.heap[g]? = w.heap[g]? := fun g e => hs g (Or.inl e)
  have hz : w'.heap[z]? = w.heap[z]? := hs z (Or.inr (Or.inl rfl))
  have hb : w'.heap[b]? = w.heap[b]? := hs b (Or.inr (Or.inr (Or.inl rfl)))
  have hp : ∀ x ∈ Z, w'.heap[x.1]? = w.heap[x.1]? := fun x hx => hs x.1 (Or.inr (Or.inr (Or.inr (mem_ads.2 ⟨x, hx, rfl⟩))))
  have hnd : ∀ (i : Nat) (o : Nat), w'.cell? ⟨(nd c (ads Z) i).1, o, none⟩ = w.cell? ⟨(nd c (ads Z) i).1, o, none⟩ := fun i o => by
    refine World.cell?_of_block (a := ⟨(nd c (ads Z) i).1, o, none⟩) ?_
    cases i with
    | zero => exact hc _ rfl
    | succ k =>
      by_cases hk : k < (ads Z).length
      · rw [nd_in hk]; exact hs _ (Or.inr (Or.inr (Or.inr (List.getElem_mem hk))))
      · rw [nd_out (by omega)]; exact hc _ rfl
  refine ⟨⟨?_, fun x hx => ?_, h.cor.nodup, h.cor.keys, h.cor.wf, ?_⟩, fun i hi => ?_, hb.trans h.bud, h.ok, h.sum⟩
  · obtain ⟨o, n, hh⟩ := h.cor.head
    exact ⟨o, n, (hc c rfl).trans hh⟩
  · obtain ⟨o, n, hh⟩ := h.cor.blks x hx
    exact ⟨o, n, (hp x hx).trans hh⟩
  · obtain ⟨D, ⟨es, clock, hbb, rr⟩, hr⟩ := h.cor.map
    exact ⟨D, ⟨es, clock, hz.trans hbb, rr⟩, hr⟩
  · obtain ⟨r1, r2⟩ := h.ring i hi
    exact ⟨(hnd i _).trans r1, (hnd (i + 1) _).trans r2⟩
theorem RRep.same (h : RRep w B r rb LA lc L t) (hs : ∀ g, rown r rb LA g → w'.heap[g]? = w.heap[g]?) : RRep w' B r rb LA lc L t :=
  ⟨(hs r (Or.inl rfl)).trans h.head, own_same h.row (fun g hg => hs g (Or.inr (Or.inr hg))), (hs rb (Or.inr (Or.inl rfl))).trans h.bud⟩

structure Duo (W w : World) (c z b N : Nat) (Z : Zs) (s : S) (r rb : Nat) (LA : Option Addr) (lc : Nat) (L : Ls) (t : S) : Prop where
  live : Live W w c z b N Z s
  rep : RRep w W.heap.size r rb LA lc L t
  rlo : ∀ g, rown r rb LA g → W.heap.size ≤ g
  disj : ∀ g, rown r rb LA g → ¬ own c z b Z g
  good : Good L t
variable {LA' : Option Addr} {lc' : Nat} {L' : Ls} {t' s' : S} {N' : Nat} {Z' : Zs}
theorem Duo.prog (h : Duo W w c z b N Z s r rb LA lc L t) (k : Turn W w w' c z b N Z N' Z' s') : Duo W w' c z b N' Z' s' r rb LA lc L t :=
  ⟨k.live, h.rep.same (fun g hg => k.only.block g (h.rep.own_lt g hg) (h.disj g hg)), h.rlo, fun g hg ho => (k.own_ g ho).elim (h.disj g hg) (fun hl => by have := h.rep.own_lt g hg; omega), h.good⟩
theorem Duo.docs (h : Duo W w c z b N Z s r rb LA lc L t) (k : RTurn w w' W.heap.size r rb LA LA' lc' L' t') (g : Good L' t') : Duo W w' c z b N Z s r rb LA' lc' L' t' :=
  ⟨⟨k.only.below h.live.below h.live.below.size h.rlo, h.live.rep.same (fun q hq => k.only.block q (h.live.rep.own_lt q hq) (fun hr => h.disj q hr hq)), h.live.lo⟩, k.rep,
    fun q hq => (k.own_ q hq).elim (h.rlo q) (fun hl => Nat.le_trans h.live.below.size hl), fun q hq ho => (k.own_ q hq).elim (fun hr => h.disj q hr ho) (fun hl => by have := h.live.rep.own_lt q ho; omega), g⟩
theorem Duo.still (h : Duo W w c z b N Z s r rb LA lc L t) (hb : Below w.heap.size w w') : Duo W w' c z b N Z s r rb LA lc L t :=
  ⟨h.live.still hb, h.rep.below hb, h.rlo, h.disj, h.good⟩
theorem Duo.size (h : Duo W w c z b N Z s r rb LA lc L t) : W.heap.size ≤ w.heap.size := h.live.below.size

/-- a box beside both -/
structure Box2 (w : World) (y : Nat) (cs : Array Value) (ty : TypeId) (P Q : Nat → Prop) : Prop where
  row : w.heap[y]? = some (.cells cs ty (0, 0))
  np : ¬ P y
  nq : ¬ Q y
variable {y : Nat} {cs : Array Value} {ty : TypeId} {P Q : Nat → Prop}
theorem Box2.still (h : Box2 w y cs ty P Q) (hb : Below w.heap.size w w') : Box2 w' y cs ty P Q := ⟨(hb.block _ (Array.getElem?_eq_some_iff.1 h.row).1).trans h.row, h.np, h.nq⟩
theorem Box2.turn (h : Box2 w y cs ty (own c z b Z) Q) (t' : Turn W w w' c z b N Z N' Z' s') : Box2 w' y cs ty (own c z b Z') Q :=
  ⟨(t'.only.block _ (Array.getElem?_eq_some_iff.1 h.row).1 h.np).trans h.row, fun ho => (t'.own_ _ ho).elim h.np (fun hl => by have := (Array.getElem?_eq_some_iff.1 h.row).1; omega), h.nq⟩
theorem Box2.rturn (h : Box2 w y cs ty P (rown r rb LA)) (k : RTurn w w' B r rb LA LA' lc' L' t') : Box2 w' y cs ty P (rown r rb LA') :=
  ⟨(k.only.block _ (Array.getElem?_eq_some_iff.1 h.row).1 h.nq).trans h.row, h.np, fun ho => (k.own_ _ ho).elim h.nq (fun hl => by have := (Array.getElem?_eq_some_iff.1 h.row).1; omega)⟩
theorem Box2.cell (h : Box2 w y cs ty P Q) {j : Nat} {v : Value} (hv : cs[j]? = some v) : w.cell? ⟨y, j, none⟩ = some v := (cell_of_cells h.row).trans hv

/-- a change of what others hold -/
theorem change_k1 (n : Int) (s : S) : (BM.change 0 n s).2.k1 = s.k1 := by
  unfold BM.change
  split
  · rfl
  · split
    · rfl
    · simp [S.put, S.set]
theorem Live.change (h : Live W w c z b N Z s) (n : Int) (hn : n ≤ 9223372036854775807) :
    Calls Try.prog 32 #[.pointer (some ⟨b, 0, none⟩), .int .i64 0, .int .i64 n] w fun e w' => e = .returned (.int .i64 (BM.change 0 n s).1) ∧ Turn W w w' c z b N Z N Z (BM.change 0 n s).2 := by
  refine (change_any h.rep.bud h.rep.ok 0 n hn).mono ?_
  rintro e w' ⟨h1, h2, h3⟩
  have hnb := h.rep.cor.nb h.rep.bud
  refine ⟨h1, h.turn ⟨h.rep.cor.kept h3 (fun e => hnb.1 (by cases e; rfl)) (fun e => hnb.2.1 (by cases e; rfl)) (fun p hp e => hnb.2.2 (by cases e; exact hp)),
    h.rep.ring.kept h3 (fun e => hnb.1 (by cases e; rfl)) (fun p hp e => hnb.2.2 (by cases e; exact hp)), h2, ok_change h.rep.ok 0 n, by rw [change_k1]; exact h.rep.sum⟩ (Only.of_grown h3 (Or.inr (Or.inr (Or.inl rfl)))) (by omega) (by omega) (fun g hg => .inl hg)⟩
theorem rchange_turn (h : RRep w B r rb LA lc L t) (g : Good L t) (n : Int) (hn : n ≤ 9223372036854775807) :
    Calls Try.prog 33 #[.pointer (some ⟨rb, 0, none⟩), .int .i64 0, .int .i64 n] w fun e w' => e = .returned (.int .i64 (BM.change 0 n t).1) ∧ RTurn w w' B r rb LA LA lc L (BM.change 0 n t).2 ∧ Good L (BM.change 0 n t).2 := by
  refine (rchange_any h.bud g.ok 0 n hn).mono ?_
  rintro e w' ⟨h1, h2, h3⟩
  have hap := h.apart
  exact ⟨h1, ⟨⟨(h3.block r (Array.getElem?_eq_some_iff.1 h.head).1 (fun e => hap.1 (by cases e; rfl))).trans h.head, own_same h.row (fun q hg => h3.block q (h.own_lt q (Or.inr (Or.inr hg))) (fun e => hap.2.2 (by cases e; exact hg))), h2⟩,
    Only.of_grown h3 (Or.inr (Or.inl rfl)), fun _ hg => .inl hg⟩, ok_change g.ok 0 n, by rw [change_k1]; exact g.sum, g.wf, g.len⟩
end

namespace CM
/-- what an act does -/
def actB (a : AC) (L : Ls) (s : S) : Ls × S :=
  if a.d.tmod 7 = 1 ∨ a.d.tmod 7 = -1 then ((getB a.f a.k L).2.2, s)
  else if a.d.tmod 7 = 2 ∨ a.d.tmod 7 = -2 then ((pinB a.f a.k 1 L).2, s)
  else if a.d.tmod 7 = 3 ∨ a.d.tmod 7 = -3 then ((pinB a.f a.k (-1) L).2, s)
  else if a.d.tmod 7 = 4 ∨ a.d.tmod 7 = -4 then dropB a.f L s
  else if a.d.tmod 7 = 5 ∨ a.d.tmod 7 = -5 then (shrB a.n L s).2
  else if a.d.tmod 7 = 6 ∨ a.d.tmod 7 = -6 then (L, (BM.change 0 a.n s).2)
  else (putB a.f a.k a.dat L s).2
theorem mod7 (d : Int) : d.tmod 7 = 0 ∨ d.tmod 7 = 1 ∨ d.tmod 7 = -1 ∨ d.tmod 7 = 2 ∨ d.tmod 7 = -2 ∨ d.tmod 7 = 3 ∨ d.tmod 7 = -3 ∨ d.tmod 7 = 4 ∨ d.tmod 7 = -4 ∨ d.tmod 7 = 5 ∨ d.tmod 7 = -5 ∨ d.tmod 7 = 6 ∨ d.tmod 7 = -6 := by
  rcases Int.le_total 0 d with h | h
  · rw [Int.tmod_eq_emod_of_nonneg h]; omega
  · obtain ⟨e, rfl⟩ : ∃ e, d = -e := ⟨-d, by omega⟩
    rw [Int.neg_tmod, Int.tmod_eq_emod_of_nonneg (show 0 ≤ e by omega)]; omega
end CM
end Go.Proofs.Ytlfhjbilnfkabaa
