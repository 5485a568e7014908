/- Two lists of unlike coins side by side. -/
import Derived.Test.YtgnlhnfjanoahaaLi
namespace Go.Proofs.Ytgnlhnfjanoahaa
open Go.RowKit
open SK

theorem step_same {s t : St} (h : s.l = t.l) (cs cs' : List Int) (e : E) : (s.step cs e).1 = (t.step cs' e).1 ∧ (s.step cs e).2.l = (t.step cs' e).2.l := by
  unfold St.step
  rw [h]
  split
  · exact ⟨rfl, h⟩
  · split
    · exact ⟨rfl, h⟩
    · exact ⟨rfl, rfl⟩
theorem fold_same (cs cs' : List Int) (l : List E) : ∀ (s t : St), s.l = t.l → (l.foldl (fun s e => (s.step cs e).2) s).l = (l.foldl (fun s e => (s.step cs' e).2) t).l := by
  induction l with
  | nil => exact fun s t h => h
  | cons e l ih => exact fun s t h => ih _ _ (step_same h cs cs' e).2
theorem after_same (cs cs' : List Int) (l : List E) : (after cs l).l = (after cs' l).l := fold_same cs cs' l _ _ rfl
theorem from_empty (l : List E) : from_ l ⟨#[]⟩ = l := by
  unfold from_
  rw [List.filter_eq_self]
  intro x _
  cases x.key.data.toList <;> rfl
theorem sorted_at {l : List E} (h : Sorted l) {j : Nat} (hj : j + 1 < l.length) : less l[j] l[j + 1] = true := by
  have := List.pairwise_iff_getElem.1 h j (j + 1) (by omega) hj (by omega)
  exact this

structure Both (B : Nat) (W w : World) (a hb : Nat) (cs : List Int) (l : List ND) (a' hb' : Nat) (cs' : List Int) (l' : List ND) (s t : St) : Prop where
  below : Below B W w
  le : B ≤ w.heap.size
  rep : Rep B w a hb cs l s
  rep' : Rep B w a' hb' cs' l' t
  disj : ∀ x ∈ a' :: hb' :: blks l', x ∉ a :: hb :: blks l
  oks : Ok s
  okt : Ok t

section
variable {B : Nat} {W w : World} {a hb : Nat} {cs : List Int} {l : List ND} {a' hb' : Nat} {cs' : List Int} {l' : List ND} {s t : St}
theorem Both.symm (h : Both B W w a hb cs l a' hb' cs' l' s t) : Both B W w a' hb' cs' l' a hb cs l t s :=
  ⟨h.below, h.le, h.rep', h.rep, fun x hx hm => h.disj x hm hx, h.okt, h.oks⟩
theorem Both.still (h : Both B W w a hb cs l a' hb' cs' l' s t) {w' : World} (hb1 : Below w.heap.size w w') : Both B W w' a hb cs l a' hb' cs' l' s t :=
  ⟨h.below.trans (hb1.mono h.le), Nat.le_trans h.le hb1.size, h.rep.below hb1, h.rep'.below hb1, h.disj, h.oks, h.okt⟩
theorem Both.drew (h : Both B W w a hb cs l a' hb' cs' l' s t) : Both B W w.drew a hb cs l a' hb' cs' l' s t := h.still (Below.refl _ _).drew
theorem Both.put (h : Both B W w a hb cs l a' hb' cs' l' s t) (e : E) (he : e.wf) (hlen : s.l.length ≤ 1000000) (N0 : Nat) (hN : ∀ x ∈ a :: hb :: blks l, x < N0) :
    Calls Try.prog 10 #[.pointer (some ⟨a, 0, none⟩), e.val] w fun v w' => v = .returned (.int .i64 (s.step cs e).1) ∧
      ∃ m, Both B W w' a hb cs m a' hb' cs' l' (s.step cs e).2 t ∧ ∀ b, N0 ≤ b → b < w.heap.size → w'.heap[b]? = w.heap[b]? := by
  refine (put_any h.rep h.oks h.le e he hlen).mono ?_
  rintro v w' ⟨rfl, m, h1, h2, h3, -⟩
  refine ⟨rfl, m, ⟨h.below.trans (h2.below h.le (fun x hx => (h.rep.lo x hx).1)), Nat.le_trans h.le h2.size, h1, h.rep'.same (fun x hx => h2.block x (h.rep'.lo x hx).2 (h.disj x hx)) h2.size, fun x hx hm => ?_, (ok_step h.oks cs he).1, h.okt⟩,
    fun b hb1 hb2 => h2.block b hb2 (fun hm => by have := hN b hm; omega)⟩
  have hd := h.disj x hx
  simp only [List.mem_cons, not_or] at hm hd
  rcases hm with e1 | e1 | e1
  · exact hd.1 e1
  · exact hd.2.1 e1
  · rcases h3 x e1 with e2 | e2
    · exact hd.2.2 e2
    · have := (h.rep'.lo x hx).2; omega
theorem Both.put' (h : Both B W w a hb cs l a' hb' cs' l' s t) (e : E) (he : e.wf) (hlen : t.l.length ≤ 1000000) (N0 : Nat) (hN : ∀ x ∈ a' :: hb' :: blks l', x < N0) :
    Calls Try.prog 10 #[.pointer (some ⟨a', 0, none⟩), e.val] w fun v w' => v = .returned (.int .i64 (t.step cs' e).1) ∧
      ∃ m, Both B W w' a hb cs l a' hb' cs' m s (t.step cs' e).2 ∧ ∀ b, N0 ≤ b → b < w.heap.size → w'.heap[b]? = w.heap[b]? :=
  (h.symm.put e he hlen N0 hN).mono fun _ _ ⟨h1, m, h2, h3⟩ => ⟨h1, m, h2.symm, h3⟩
end
end Go.Proofs.Ytgnlhnfjanoahaa
