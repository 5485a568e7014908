/- Both lists side by side. -/
import Derived.Test.YtgnlhnfjanoahaaRp
import Derived.Test.YtgnlhnfjanoahaaWk
namespace Go.Proofs.Ytgnlhnfjanoahaa
open Go.RowKit
open SK

structure Duo (B : Nat) (W w : World) (a hb : Nat) (l : List ND) (r : Nat) (CA : Option Addr) (cc : Nat) (LA : Option Addr) (lc : Nat) (cs : List Int) (s t : St) : Prop where
  below : Below B W w
  le : B ≤ w.heap.size
  rep : Rep B w a hb cs l s
  rrep : RRep B w r cs CA cc LA lc t
  disj : ∀ x ∈ foot r CA LA, x ∉ a :: hb :: blks l
  lt : ∀ x ∈ foot r CA LA, x < w.heap.size
  oks : Ok s
  okt : Ok t

section
variable {B : Nat} {W w : World} {a hb : Nat} {l : List ND} {r : Nat} {CA : Option Addr} {cc : Nat} {LA : Option Addr} {lc : Nat} {cs : List Int} {s t : St}
theorem Duo.still (h : Duo B W w a hb l r CA cc LA lc cs s t) {w' : World} (hb' : Below w.heap.size w w') : Duo B W w' a hb l r CA cc LA lc cs s t :=
  ⟨h.below.trans (hb'.mono h.le), Nat.le_trans h.le hb'.size, h.rep.below hb', h.rrep.below hb', h.disj, fun x hx => Nat.lt_of_lt_of_le (h.lt x hx) hb'.size, h.oks, h.okt⟩
theorem Duo.drew (h : Duo B W w a hb l r CA cc LA lc cs s t) : Duo B W w.drew a hb l r CA cc LA lc cs s t := h.still (Below.refl _ _).drew
theorem Duo.alloc (h : Duo B W w a hb l r CA cc LA lc cs s t) (o : Obj) : Duo B W (w.alloc o) a hb l r CA cc LA lc cs s t := h.still ((Below.refl _ _).alloc (Nat.le_refl _) o)

theorem Duo.put (h : Duo B W w a hb l r CA cc LA lc cs s t) (e : E) (he : e.wf) (hlen : s.l.length ≤ 1000000) (N0 : Nat) (hN : ∀ x ∈ a :: hb :: blks l, x < N0) :
    Calls Try.prog 10 #[.pointer (some ⟨a, 0, none⟩), e.val] w fun v w' => v = .returned (.int .i64 (s.step cs e).1) ∧
      ∃ l', Duo B W w' a hb l' r CA cc LA lc cs (s.step cs e).2 t ∧ ∀ b, N0 ≤ b → b < w.heap.size → w'.heap[b]? = w.heap[b]? := by
  refine (put_any h.rep h.oks h.le e he hlen).mono ?_
  rintro v w' ⟨rfl, l', h1, h2, h3, -⟩
  refine ⟨rfl, l', ⟨h.below.trans (h2.below h.le (fun x hx => (h.rep.lo x hx).1)), Nat.le_trans h.le h2.size, h1, h.rrep.same (fun x hx => h2.block x (h.lt x hx) (h.disj x hx)) h2.size, fun x hx hm => ?_, fun x hx => Nat.lt_of_lt_of_le (h.lt x hx) h2.size, (ok_step h.oks cs he).1, h.okt⟩,
    fun b hb1 hb2 => h2.block b hb2 (fun hm => by have := hN b hm; omega)⟩
  have hd := h.disj x hx
  simp only [List.mem_cons, not_or] at hm hd
  rcases hm with e1 | e1 | e1
  · exact hd.1 e1
  · exact hd.2.1 e1
  · rcases h3 x e1 with e2 | e2
    · exact hd.2.2 e2
    · have := h.lt x hx; omega

theorem Duo.rput (h : Duo B W w a hb l r CA cc LA lc cs s t) (e : E) (he : e.wf) (hlen : t.l.length ≤ 1000000) (hcl : cs.length ≤ 140737488351232) (N0 : Nat) (hN : r < N0) :
    Calls Try.prog 15 #[.pointer (some ⟨r, 0, none⟩), e.val] w fun v w' => v = .returned (.int .i64 (t.step cs e).1) ∧
      ∃ LA' lc', Duo B W w' a hb l r CA cc LA' lc' cs s (t.step cs e).2 ∧ ∀ b, N0 ≤ b → b < w.heap.size → w'.heap[b]? = w.heap[b]? := by
  refine (rput_any h.rrep h.okt h.le e he hlen hcl).mono ?_
  rintro v w' ⟨rfl, LA', lc', h1, h2, h3⟩
  have hrl : r ∉ a :: hb :: blks l := h.disj r (by simp [foot])
  have hfoot : ∀ x ∈ foot r CA LA', x ∈ foot r CA LA ∨ (w.heap.size ≤ x ∧ x < w'.heap.size) := fun x hx => by
    simp only [foot, List.mem_cons, List.mem_append] at hx ⊢
    rcases hx with e1 | e1 | e1
    · exact .inl (.inl e1)
    · exact .inl (.inr (.inl e1))
    · rcases h3 with rfl | h3
      · exact .inl (.inr (.inr e1))
      · exact .inr (h3 x e1)
  refine ⟨rfl, LA', lc', ⟨h.below.trans (h2.below h.le (fun x hx => by simp at hx; rw [hx]; exact h.rrep.lo)), Nat.le_trans h.le h2.size, h.rep.same (fun x hx => h2.block x (h.rep.lo x hx).2 (fun hm => by simp at hm; rw [hm] at hx; exact hrl hx)) h2.size, h1, fun x hx hm => ?_, fun x hx => ?_, h.oks, (ok_step h.okt cs he).1⟩,
    fun b hb1 hb2 => h2.block b hb2 (fun hm => by simp at hm; omega)⟩
  · rcases hfoot x hx with e1 | e1
    · exact h.disj x e1 hm
    · have := (h.rep.lo x hm).2; omega
  · rcases hfoot x hx with e1 | e1
    · exact Nat.lt_of_lt_of_le (h.lt x e1) h2.size
    · exact e1.2
end
end Go.Proofs.Ytgnlhnfjanoahaa
