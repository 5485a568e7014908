/- A heap of sources in memory. -/
import Derived.Test.YtfbhdggmefacjaaHm
import Derived.Test.YtfbhdggmefacjaaSb
import Derived.BigRegion
import Derived.Deep.QuietTactic
namespace Go.Proofs.Ytfbhdggmefacjaa
open Go.RowKit
open SK HP

def ptrS (s : Src) : Value := .pointer (some ⟨s.b, 0, none⟩)
def objS (s : Src) : Obj := .cells #[.slice s.A s.left.length s.c, .int .i64 s.place] 79 (0, 0)
def srcTy (t : TypeId) : Prop := t = 76 ∨ t = 77 ∨ t = 79
instance (t : TypeId) : Decidable (srcTy t) := by unfold srcTy; infer_instance
def isSrc (o : Obj) : Prop := ∃ cs ty fr, o = .cells cs ty fr ∧ srcTy ty

/-- all that is no part of a heap stays -/
structure Kp (B : Nat) (w w' : World) : Prop where
  os : w'.os = w.os
  tape : w'.tape = w.tape
  output : w'.output = w.output
  size : w.heap.size ≤ w'.heap.size
  block : ∀ (k : Nat) (o : Obj), w.heap[k]? = some o → (k < B ∨ ¬ isSrc o) → w'.heap[k]? = some o

/-- all that is a part of a heap stays, and what is below B -/
structure Ks (B : Nat) (w w' : World) : Prop where
  os : w'.os = w.os
  tape : w'.tape = w.tape
  output : w'.output = w.output
  size : w.heap.size ≤ w'.heap.size
  block : ∀ (k : Nat) (o : Obj), w.heap[k]? = some o → (k < B ∨ isSrc o) → w'.heap[k]? = some o

section
variable {B : Nat} {w w' a b c : World}
theorem Kp.refl (w : World) : Kp B w w := ⟨rfl, rfl, rfl, Nat.le_refl _, fun _ _ h _ => h⟩
theorem Ks.refl (w : World) : Ks B w w := ⟨rfl, rfl, rfl, Nat.le_refl _, fun _ _ h _ => h⟩
theorem Kp.trans (h : Kp B a b) (k : Kp B b c) : Kp B a c := ⟨k.os.trans h.os, k.tape.trans h.tape, k.output.trans h.output, Nat.le_trans h.size k.size, fun x _ hx hn => k.block x _ (h.block x _ hx hn) hn⟩
theorem Ks.trans (h : Ks B a b) (k : Ks B b c) : Ks B a c := ⟨k.os.trans h.os, k.tape.trans h.tape, k.output.trans h.output, Nat.le_trans h.size k.size, fun x _ hx hn => k.block x _ (h.block x _ hx hn) hn⟩
theorem lt_of_at {w : World} {k : Nat} {o : Obj} (h : w.heap[k]? = some o) : k < w.heap.size := (Array.getElem?_eq_some_iff.1 h).1
theorem Kp.of (h : Below w.heap.size w w') : Kp B w w' := ⟨h.os, h.tape, h.output, h.size, fun k _ hk _ => (h.block k (lt_of_at hk)).trans hk⟩
theorem Ks.of (h : Below w.heap.size w w') : Ks B w w' := ⟨h.os, h.tape, h.output, h.size, fun k _ hk _ => (h.block k (lt_of_at hk)).trans hk⟩
theorem Kp.below (h : Kp B w w') (hB : B ≤ w.heap.size) : Below B w w' := ⟨h.os, h.tape, h.output, h.size, fun k hk => by
  have hk' : k < w.heap.size := by omega
  rw [Array.getElem?_eq_getElem hk']
  exact h.block k _ (Array.getElem?_eq_getElem hk') (.inl hk)⟩
theorem Ks.below (h : Ks B w w') (hB : B ≤ w.heap.size) : Below B w w' := ⟨h.os, h.tape, h.output, h.size, fun k hk => by
  have hk' : k < w.heap.size := by omega
  rw [Array.getElem?_eq_getElem hk']
  exact h.block k _ (Array.getElem?_eq_getElem hk') (.inl hk)⟩
theorem Kp.drew (h : Kp B a b) : Kp B a b.drew := ⟨h.os, h.tape, h.output, h.size, h.block⟩
theorem Ks.drew (h : Ks B a b) : Ks B a b.drew := ⟨h.os, h.tape, h.output, h.size, h.block⟩
theorem Kp.grown (g : Nat) (h : w.grownBy w' (some g)) (hB : B ≤ g) {o : Obj} (hg : w.heap[g]? = some o) (ho : isSrc o) : Kp B w w' :=
  ⟨h.os, h.tape, h.output, h.size, fun k x hk hn => (h.block k (lt_of_at hk) (fun e => by
    injection e with e
    subst e
    rw [hk] at hg
    injection hg with hg
    subst hg
    rcases hn with hn | hn
    · omega
    · exact hn ho)).trans hk⟩
theorem Ks.grown (g : Nat) (h : w.grownBy w' (some g)) (hB : B ≤ g) (hg : ∀ o, w.heap[g]? = some o → ¬ isSrc o) : Ks B w w' :=
  ⟨h.os, h.tape, h.output, h.size, fun k x hk hn => (h.block k (lt_of_at hk) (fun e => by
    injection e with e
    subst e
    rcases hn with hn | hn
    · omega
    · exact hg _ hk hn)).trans hk⟩
theorem Ks.grown0 (h : w.grownBy w' none) : Ks B w w' := ⟨h.os, h.tape, h.output, h.size, fun k x hk _ => (h.block k (lt_of_at hk) (by simp)).trans hk⟩
theorem Kp.grown0 (h : w.grownBy w' none) : Kp B w w' := ⟨h.os, h.tape, h.output, h.size, fun k x hk _ => (h.block k (lt_of_at hk) (by simp)).trans hk⟩
theorem Kp.set (h : Kp B w w') (g : Nat) (hB : B ≤ g) {o : Obj} (hg : w'.heap[g]? = some o) (ho : isSrc o) (j : Nat) (u : Value) : Kp B w (w'.setCell ⟨g, j, none⟩ u) :=
  h.trans (Kp.grown g (grownBy_setCell w' ⟨g, j, none⟩ u) hB hg ho)
end

/-- a heap: its box, its row of pointers, its sources; what these hold lies below -/
structure Hp (W0 w : World) (p : Nat) (v : Value) (L : List Src) : Prop where
  below : Below W0.heap.size W0 w
  box : w.heap[p]? = some (.cells #[v] 76 (0, 0))
  pB : W0.heap.size ≤ p
  own : w.ownsRow W0.heap.size 77 1 v L.length (L.map ptrS)
  obj : ∀ s ∈ L, w.heap[s.b]? = some (objS s)
  objB : ∀ s ∈ L, W0.heap.size ≤ s.b
  nodup : (L.map (·.b)).Nodup
  ents : ∀ s ∈ L, EntsIn W0 s.A s.left ∧ s.left.length ≤ s.c ∧ s.left ≠ [] ∧ s.place ≤ 1000000
  few : L.length ≤ 1000000

section
variable {W0 w w' : World} {p : Nat} {v : Value} {L : List Src}

theorem own_ks {B0 B : Nat} {e : TypeId} {n : Nat} {xs : List Value} (he : srcTy e) (h : w.ownsRow B0 e 1 v n xs) (hk : Ks B w w') : w'.ownsRow B0 e 1 v n xs := by
  refine ⟨h.1, ?_⟩
  rcases h.2 with h0 | ⟨g, cap, cur, h1, h2, h3, h4⟩
  · exact .inl h0
  · exact .inr ⟨g, cap, cur, h1, h2, hk.block g _ h3 (.inr ⟨_, _, _, rfl, he⟩), h4⟩
theorem own_kp {B0 B : Nat} {e : TypeId} {m n : Nat} {xs : List Value} (he : ¬ srcTy e) (h : w.ownsRow B0 e m v n xs) (hk : Kp B w w') : w'.ownsRow B0 e m v n xs := by
  refine ⟨h.1, ?_⟩
  rcases h.2 with h0 | ⟨g, cap, cur, h1, h2, h3, h4⟩
  · exact .inl h0
  · refine .inr ⟨g, cap, cur, h1, h2, hk.block g _ h3 (.inr ?_), h4⟩
    rintro ⟨_, _, _, e1, e2⟩
    injection e1 with _ e1
    rw [← e1] at e2
    exact he e2

theorem Hp.stay (h : Hp W0 w p v L) (hk : Ks W0.heap.size w w') : Hp W0 w' p v L :=
  ⟨h.below.trans (hk.below h.below.size), hk.block _ _ h.box (.inr ⟨_, _, _, rfl, .inl rfl⟩), h.pB, own_ks (.inr (.inl rfl)) h.own hk, fun s hs => hk.block _ _ (h.obj s hs) (.inr ⟨_, _, _, rfl, .inr (.inr rfl)⟩), h.objB, h.nodup, h.ents, h.few⟩
theorem Hp.bel (h : Hp W0 w p v L) (hb : Below w.heap.size w w') : Hp W0 w' p v L := h.stay (.of hb)

theorem Hp.slice (h : Hp W0 w p v L) (hl : 0 < L.length) : ∃ g cap, v = .slice (some ⟨g, 0, none⟩) L.length cap ∧ L.length ≤ cap ∧ cap ≤ maxLen ∧ W0.heap.size ≤ g ∧ (∃ cur, w.heap[g]? = some (.cells cur 77 (0, 0)) ∧ cur.size = cap ∧ cur.toList.take L.length = L.map ptrS) := by
  rcases h.own.2 with ⟨_, h0⟩ | ⟨g, cap, cur, h1, h2, h3, h4, h5, h6, h7⟩
  · omega
  · exact ⟨g, cap, h1, h4, h5, h2, cur, h3, by simpa using h6, by simpa using h7⟩

theorem Hp.at_ (h : Hp W0 w p v L) {g cap n : Nat} (hv : v = .slice (some ⟨g, 0, none⟩) n cap) {i : Nat} (hi : i < L.length) : w.cell? ⟨g, i, none⟩ = some (ptrS L[i]) := by
  have := h.own.cells (g := g) (by rw [hv]; rfl) i (ptrS L[i]) (by rw [List.getElem?_map, List.getElem?_eq_getElem hi]; rfl)
  rwa [addr_add0] at this
end

theorem two_new (w : World) (c1 c2 : Array Value) (t : TypeId) : ((w.alloc (.cells c1 t)).alloc (.cells c2 t)).drew.heap[w.heap.size]? = some (.cells c1 t (0, 0)) ∧ ((w.alloc (.cells c1 t)).alloc (.cells c2 t)).drew.heap[w.heap.size + 1]? = some (.cells c2 t (0, 0)) ∧
    Below w.heap.size w ((w.alloc (.cells c1 t)).alloc (.cells c2 t)).drew ∧ ((w.alloc (.cells c1 t)).alloc (.cells c2 t)).drew.heap.size = w.heap.size + 2 := by
  refine ⟨(Below.heap_alloc _ _ _ (by simp)).trans (heap_alloc_new w _), ?_, (((Below.refl _ w).alloc (Nat.le_refl _) _).alloc (by simp) _).drew, by simp⟩
  have := heap_alloc_new (w.alloc (.cells c1 t)) (.cells c2 t)
  show ((w.alloc (.cells c1 t)).alloc (.cells c2 t)).heap[w.heap.size + 1]? = _
  simpa using this

end Go.Proofs.Ytfbhdggmefacjaa
