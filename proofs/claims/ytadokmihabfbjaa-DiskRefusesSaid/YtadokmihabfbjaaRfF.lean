/- The reference's fields stored one by one; its rows opened. -/
import Derived.Test.YtadokmihabfbjaaRfE
namespace Go.Proofs.Ytadokmihabfbjaa
open Go.RowKit Go.Maps
open DM

theorem own_at {w : World} {B : Nat} {e : TypeId} {s : Nat} {v : Value} {n : Nat} {xs : List Value} (h : w.ownsRow B e s v n xs) : ∃ A c, v = .slice A n c ∧
    (0 < n → ∃ b, A = some ⟨b, 0, none⟩ ∧ B ≤ b ∧ b < w.heap.size ∧ (∀ j, j < n * s → w.cell? ⟨b, j, none⟩ = xs[j]?) ∧ (∀ j, w.frozen? ⟨b, j, none⟩ = false) ∧ ∃ c, w.heap[b]? = some (.cells c e (0, 0))) := by
  rcases h.2 with ⟨e, h0⟩ | ⟨b, c, cur, e, hb, hg, h1, h2, h3, h4⟩
  · exact ⟨none, 0, by rw [e, h0], fun hp => by omega⟩
  · refine ⟨_, c, e, fun _ => ⟨b, rfl, hb, (Array.getElem?_eq_some_iff.1 hg).1, fun j hj => ?_, fun j => frozen_of_row _ _ _ _ _ hg, _, hg⟩⟩
    rw [cell_of_row _ _ _ _ _ _ hg, ← h4, List.getElem?_take_of_lt hj, Array.getElem?_toList]

section
variable {B : Nat} {w w' : World} {r : Nat} {files : List F} {names lasts : RN} {queue : List RN} {cut : List Int} {g : RV} {C : Array Value}
theorem RHalf.own_set (h : RHalf B w r files names lasts queue cut g C) (j : Nat) (u : Value) {B' : Nat} {e : TypeId} {s : Nat} {v : Value} {n : Nat} {xs : List Value} (ho : w.ownsRow B' e s v n xs) (he : e ≠ 53) : (w.setCell ⟨r, j, none⟩ u).ownsRow B' e s v n xs :=
  own_keep ho (fun b c fr h1 => (Below.heap_setCell _ _ _ _ (fun e' => by
      have e' : b = r := e'
      subst e'
      rw [h.at_] at h1
      injection h1 with h1
      injection h1 with _ h1
      exact he h1.symm)).trans h1)
end

section
variable {B : Nat} {w w' : World} {r : Nat} {t : RS} {g : RV}
theorem RRep.below (h : RRep B w r t g) (hb : Below w.heap.size w w') : RRep B w' r t g := RHalf.below h hb
theorem RRep.drewN (h : RRep B w r t g) (n : Nat) : RRep B (w.drewN n) r t g := RHalf.drewN h n
theorem RRep.drew (h : RRep B w r t g) : RRep B w.drew r t g := RHalf.drew h
theorem RRep.setLasts (h : RRep B w r t g) {v : Value} {L : RN} (hv : Prs B w v L) : RRep B (w.setCell ⟨r, 3, none⟩ v) r { t with lasts := L } { g with lv := v } :=
  have hs := RHalf.set h 3 v
  ⟨⟨hs.body.frow, hs.body.nrow, RHalf.own_set h 3 v hv (by decide), hs.body.qrow, hs.body.ents, hs.body.crow⟩, hs.at_, hs.le⟩
theorem RRep.setNames (h : RRep B w r t g) {v : Value} {L : RN} (hv : Prs B w v L) : RRep B (w.setCell ⟨r, 2, none⟩ v) r { t with names := L } { g with nv := v } :=
  have hs := RHalf.set h 2 v
  ⟨⟨hs.body.frow, RHalf.own_set h 2 v hv (by decide), hs.body.lrow, hs.body.qrow, hs.body.ents, hs.body.crow⟩, hs.at_, hs.le⟩
theorem RRep.noQueue (h : RRep B w r t g) : RRep B (w.setCell ⟨r, 4, none⟩ (.slice none 0 0)) r { t with queue := [] } { g with qv := .slice none 0 0, qs := [] } :=
  have hs := RHalf.set h 4 (.slice none 0 0)
  ⟨⟨hs.body.frow, hs.body.nrow, hs.body.lrow, World.ownsRow_nil _ _ _ _, fun i hi => by simp at hi, hs.body.crow⟩, hs.at_, hs.le⟩
theorem RRep.setFiles (h : RRep B w r t g) {v : Value} {L : List F} (hv : w.ownsRow B 60 2 v L.length (fC L)) : RRep B (w.setCell ⟨r, 1, none⟩ v) r { t with files := L } { g with fv := v } :=
  have hs := RHalf.set h 1 v
  ⟨⟨RHalf.own_set h 1 v hv (by decide), hs.body.nrow, hs.body.lrow, hs.body.qrow, hs.body.ents, hs.body.crow⟩, hs.at_, hs.le⟩
theorem RRep.setOff (h : RRep B w r t g) (b : Bool) : RRep B (w.setCell ⟨r, 5, none⟩ (.bool b)) r { t with off := b } g :=
  have hs := RHalf.set h 5 (.bool b)
  ⟨hs.body, hs.at_, hs.le⟩
theorem RRep.setCut (h : RRep B w r t g) (n : Nat) (u : Int) (hu : u = n) : RRep B (w.setCell ⟨r, 6, none⟩ (.int .i64 u)) r { t with cutLeft := n } g := by
  subst hu
  have hs := RHalf.set h 6 (.int .i64 n)
  exact ⟨hs.body, hs.at_, hs.le⟩
theorem RRep.setBrk (h : RRep B w r t g) (n : Nat) (u : Int) (hu : u = n) : RRep B (w.setCell ⟨r, 9, none⟩ (.int .i64 u)) r { t with brk := n } g := by
  subst hu
  have hs := RHalf.set h 9 (.int .i64 n)
  exact ⟨hs.body, hs.at_, hs.le⟩
theorem RRep.setCutNames (h : RRep B w r t g) (n : Int) : RRep B (w.setCell ⟨r, 7, none⟩ (.int .i64 n)) r { t with cutNames := n } g := by
  have hs := RHalf.set h 7 (.int .i64 n)
  exact ⟨hs.body, hs.at_, hs.le⟩
theorem RRep.setCutBytes (h : RRep B w r t g) {v : Value} {l : List Int} (hv : w.ownsRow B 3 1 v l.length (l.map (Value.int .i64))) : RRep B (w.setCell ⟨r, 8, none⟩ v) r { t with cutBytes := l } { g with cv := v } :=
  have hs := RHalf.set h 8 v
  ⟨⟨hs.body.frow, hs.body.nrow, hs.body.lrow, hs.body.qrow, hs.body.ents, RHalf.own_set h 8 v hv (by decide)⟩, hs.at_, hs.le⟩
end

/-- what the numbers are bounded by -/
structure RFew (t : RS) : Prop where
  pre : ∀ j, j ≤ t.queue.length → (rpre t.lasts t.queue j).length ≤ 4096
  ents : ∀ x ∈ t.queue, x.length ≤ 2
  queue : t.queue.length < 1000000000
  files : t.files.length < 1000000000
  file : ∀ f ∈ t.files, f.sync ≤ f.data.length ∧ f.data.length ≤ 1048576
  names : t.names.length ≤ 4096
  nfile : ∀ p ∈ t.names, 0 ≤ p.2 ∧ p.2 < t.files.length

theorem rpre_step {l : RN} {q : List RN} {j : Nat} (h : j < q.length) : rpre l q (j + 1) = rall (rpre l q j) q[j] := by
  unfold rpre
  rw [List.take_succ_eq_append_getElem h, List.foldl_append]
  rfl
end Go.Proofs.Ytadokmihabfbjaa
