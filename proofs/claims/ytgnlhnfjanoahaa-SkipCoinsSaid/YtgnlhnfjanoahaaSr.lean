/- The representation of a list: nodes with towers. No walk. -/
import Derived.Test.YtgnlhnfjanoahaaSb
namespace Go.Proofs.Ytgnlhnfjanoahaa
open Go.RowKit
open SK

/-- a node: its block, its tower's, how many floors are linked, how many it has, its entry -/
structure ND where
  b : Nat
  t : Nat
  h : Nat
  c : Nat
  e : E

def pv (o : Option Nat) : Value := .pointer (o.map fun b => ⟨b, 0, none⟩)
def nx (f : Nat) : List ND → Option Nat
  | [] => none
  | d :: r => if f < d.h then some d.b else nx f r
def lst (f : Nat) : List ND → Option ND
  | [] => none
  | d :: r => match lst f r with | some x => some x | none => if f < d.h then some d else none

theorem all_cons {p : ND → Prop} {d : ND} {r : List ND} (h : p d) (h2 : ∀ x ∈ r, p x) : ∀ x ∈ d :: r, p x := fun x hx => by
  rcases List.mem_cons.1 hx with rfl | hx
  · exact h
  · exact h2 x hx

theorem nx_cases (f : Nat) : ∀ l : List ND, (nx f l = none ∧ ∀ d ∈ l, ¬ f < d.h) ∨ ∃ p d r, l = p ++ d :: r ∧ nx f l = some d.b ∧ f < d.h ∧ ∀ x ∈ p, ¬ f < x.h
  | [] => .inl ⟨rfl, by simp⟩
  | d :: r => by
    by_cases h : f < d.h
    · exact .inr ⟨[], d, r, rfl, by simp [nx, h], h, by simp⟩
    · rcases nx_cases f r with ⟨h1, h2⟩ | ⟨p, x, q, h1, h2, h3, h4⟩
      · exact .inl ⟨by simp [nx, h, h1], all_cons h h2⟩
      · exact .inr ⟨d :: p, x, q, by simp [h1], by simp [nx, h, h2], h3, all_cons h h4⟩

theorem nx_app_none {f : Nat} : ∀ {p r : List ND}, (∀ x ∈ p, ¬ f < x.h) → nx f (p ++ r) = nx f r
  | [], _, _ => rfl
  | d :: p, r, h => by
    have h1 := h d (by simp)
    simp only [List.cons_append, nx, h1, if_false]
    exact nx_app_none (fun x hx => h x (by simp [hx]))

theorem lst_none {f : Nat} : ∀ {p : List ND}, (∀ x ∈ p, ¬ f < x.h) → lst f p = none
  | [], _ => rfl
  | d :: p, h => by
    have h1 := h d (by simp)
    rw [lst, lst_none (fun x hx => h x (by simp [hx]))]
    simp [h1]

theorem lst_app {f : Nat} : ∀ {p r : List ND}, (∀ x ∈ r, ¬ f < x.h) → lst f (p ++ r) = lst f p
  | [], r, h => by simpa [lst] using lst_none h
  | d :: p, r, h => by
    rw [List.cons_append, lst, lst, lst_app h]

theorem lst_snoc {f : Nat} {d : ND} (h : f < d.h) : ∀ {p : List ND}, lst f (p ++ [d]) = some d
  | [] => by simp [lst, h]
  | x :: p => by rw [List.cons_append, lst, lst_snoc h]

theorem lst_cases (f : Nat) : ∀ l : List ND, (lst f l = none ∧ ∀ d ∈ l, ¬ f < d.h) ∨ ∃ p d r, l = p ++ d :: r ∧ lst f l = some d ∧ f < d.h ∧ ∀ x ∈ r, ¬ f < x.h
  | [] => .inl ⟨rfl, by simp⟩
  | d :: r => by
    rcases lst_cases f r with ⟨h1, h2⟩ | ⟨p, x, q, h1, h2, h3, h4⟩
    · by_cases h : f < d.h
      · exact .inr ⟨[], d, r, rfl, by simp [lst, h1, h], h, h2⟩
      · exact .inl ⟨by simp [lst, h1, h], all_cons h h2⟩
    · exact .inr ⟨d :: p, x, q, by simp [h1], by simp [lst, h2], h3, h4⟩

def ncells (d : ND) : Array Value := #[.string d.e.key, .int .i64 d.e.seq, .bool d.e.gone, .string d.e.value, .int .i64 d.e.til, .slice (some ⟨d.t, 0, none⟩) d.c d.c]

/-- a node in memory; g: what is next on a floor -/
structure NodeAt (w : World) (d : ND) (g : Nat → Option Nat) : Prop where
  node : w.heap[d.b]? = some (.cells (ncells d) 62 (0, 0))
  le : d.h ≤ d.c
  tower : ∃ cs, w.heap[d.t]? = some (.cells cs 57 (0, 0)) ∧ cs.size = d.c ∧ ∀ f, f < d.h → cs[f]? = some (pv (g f))

def Chain (w : World) : List ND → Prop
  | [] => True
  | d :: r => NodeAt w d (fun f => nx f r) ∧ Chain w r

def blks (l : List ND) : List Nat := l.flatMap fun d => [d.b, d.t]

theorem NodeAt.stays {w w' : World} {d : ND} {g g' : Nat → Option Nat} (h : NodeAt w d g) (hb : w'.heap[d.b]? = w.heap[d.b]?) (ht : w'.heap[d.t]? = w.heap[d.t]?) (hg : ∀ f, f < d.h → g' f = g f) : NodeAt w' d g' := by
  obtain ⟨cs, h1, h2, h3⟩ := h.tower
  exact ⟨hb.trans h.node, h.le, cs, ht.trans h1, h2, fun f hf => by rw [hg f hf]; exact h3 f hf⟩

theorem Chain.stays {w w' : World} : ∀ {l : List ND}, Chain w l → (∀ x ∈ blks l, w'.heap[x]? = w.heap[x]?) → Chain w' l
  | [], _, _ => trivial
  | d :: r, h, hs => ⟨h.1.stays (hs _ (by simp [blks])) (hs _ (by simp [blks])) (fun _ _ => rfl), h.2.stays fun x hx => hs x (by simp [blks] at *; exact .inr (.inr hx))⟩

theorem Chain.at_ {w : World} : ∀ {p : List ND} {d : ND} {r : List ND}, Chain w (p ++ d :: r) → NodeAt w d (fun f => nx f r)
  | [], _, _, h => h.1
  | _ :: _, _, _, h => h.2.at_

theorem blks_app (p r : List ND) : blks (p ++ r) = blks p ++ blks r := by simp [blks]
theorem blks_cons (d : ND) (r : List ND) : blks (d :: r) = d.b :: d.t :: blks r := by simp [blks]

/-- a new node that is linked on no floor yet -/
theorem Chain.fresh {w : World} {p r : List ND} {n : ND} (h : Chain w (p ++ r)) (hn : n.h = 0) (hN : NodeAt w n (fun _ => none)) : Chain w (p ++ n :: r) := by
  have key : ∀ (q : List ND) (f : Nat), nx f (q ++ n :: r) = nx f (q ++ r) := by
    intro q f
    induction q with
    | nil => simp [nx, hn]
    | cons x q ih => simp only [List.cons_append, nx, ih]
  induction p with
  | nil => exact ⟨hN.stays rfl rfl (fun f hf => by omega), h⟩
  | cons x p ih =>
    refine ⟨h.1.stays rfl rfl fun f _ => key p f, ih h.2⟩

/-- the block of a node's tower, and its size; of none that of the first ones -/
def towerB (a : Nat) (q : Option ND) : Nat := match q with | some d => d.t | none => a
def towerO (q : Option ND) : Nat := match q with | some _ => 0 | none => 1
def towerN (q : Option ND) : Nat := match q with | some d => d.c | none => 8
def towerV (a : Nat) (q : Option ND) : Value := .slice (some ⟨towerB a q, towerO q, none⟩) (towerN q) (towerN q)

theorem ncells_inj {d : ND} {k : Nat} : ncells { d with h := k } = ncells d := rfl

/-- one floor more of a new node is linked -/
theorem Chain.link {w : World} {k : Nat} {n : ND} (hk : n.h = k) (hkc : k < n.c) : ∀ {p r : List ND}, Chain w (p ++ n :: r) → (blks (p ++ n :: r)).Nodup →
    ∀ (u : Nat), u = (match lst k p with | some d => d.t | none => u) → u ≠ n.t → (lst k p = none → u ∉ blks (p ++ n :: r)) → ∀ (j : Nat), (lst k p ≠ none → j = k) →
    Chain ((w.setCell ⟨n.t, k, none⟩ (pv (nx k r))).setCell ⟨u, j, none⟩ (pv (some n.b))) (p ++ { n with h := k + 1 } :: r) := by
  intro p
  have hnx : ∀ (q r : List ND) (f : Nat), f ≠ k → nx f (q ++ { n with h := k + 1 } :: r) = nx f (q ++ n :: r) := by
    intro q r f hf
    induction q with
    | nil =>
      simp only [List.nil_append, nx, hk]
      by_cases h : f < k
      · rw [if_pos h, if_pos (by omega)]
      · rw [if_neg h, if_neg (by omega)]
    | cons x q ih => simp only [List.cons_append, nx, ih]
  have hnk : ∀ (q r : List ND), (∀ x ∈ q, ¬ k < x.h) → nx k (q ++ { n with h := k + 1 } :: r) = some n.b := by
    intro q r hq
    rw [nx_app_none hq, nx, if_pos (Nat.lt_succ_self _)]
  have hnk2 : ∀ (q r : List ND), (∃ x ∈ q, k < x.h) → nx k (q ++ { n with h := k + 1 } :: r) = nx k (q ++ n :: r) := by
    intro q r hq
    induction q with
    | nil => obtain ⟨x, hx, -⟩ := hq; simp at hx
    | cons y q ih =>
      simp only [List.cons_append, nx]
      by_cases hy : k < y.h
      · rw [if_pos hy, if_pos hy]
      · rw [if_neg hy, if_neg hy]
        refine ih ?_
        obtain ⟨x, hx, hh⟩ := hq
        rcases List.mem_cons.1 hx with rfl | hx
        · exact absurd hh hy
        · exact ⟨x, hx, hh⟩
  induction p with
  | nil =>
    intro r h hnd u _ hun hu j _
    have hu' := hu rfl
    simp only [List.nil_append, blks_cons, List.nodup_cons, List.mem_cons, not_or] at hnd hu'
    obtain ⟨⟨hbt, hbr⟩, htr, -⟩ := hnd
    obtain ⟨cs, h1, h2, h3⟩ := h.1.tower
    have hne : ∀ x, x ≠ u → x ≠ n.t → ((w.setCell ⟨n.t, k, none⟩ (pv (nx k r))).setCell ⟨u, j, none⟩ (pv (some n.b))).heap[x]? = w.heap[x]? := fun x e1 e2 =>
      (Below.heap_setCell _ _ _ _ e1).trans (Below.heap_setCell _ _ _ _ e2)
    refine ⟨⟨(hne _ (Ne.symm hu'.1) hbt).trans h.1.node, hkc, cs.setIfInBounds k (pv (nx k r)), ?_, by simpa using h2, fun f hf => ?_⟩, h.2.stays fun x hx => hne x (fun e => hu'.2.2 (e ▸ hx)) (fun e => htr (e ▸ hx))⟩
    · exact (Below.heap_setCell _ _ _ _ (Ne.symm hun)).trans (heap_set_fr h1 k _)
    · rw [Array.getElem?_setIfInBounds]
      by_cases e : k = f
      · subst e
        rw [if_pos rfl, if_pos (by omega)]
      · rw [if_neg e]
        exact h3 f (by simp only at hf; omega)
  | cons x p ih =>
    intro r h hnd u hu hun hu0 j hj
    have hnd' := hnd
    simp only [List.cons_append, blks_cons, List.nodup_cons, List.mem_cons, not_or] at hnd'
    obtain ⟨⟨hxbt, hxb⟩, hxt, hndr⟩ := hnd'
    have hnt : n.t ∈ blks (p ++ n :: r) := by rw [blks_app, blks_cons]; simp
    rcases lst_cases k p with ⟨hl0, hall⟩ | ⟨p1, d, q, hp, hl0, hd, hq⟩
    · by_cases hx : k < x.h
      · -- x is the one
        have hlx : lst k (x :: p) = some x := by rw [lst, hl0]; simp [hx]
        rw [hlx] at hu
        simp only at hu
        subst hu
        obtain rfl : j = k := hj (by rw [hlx]; simp)
        have hrest := ih h.2 hndr x.t (by rw [hl0]) hun (fun _ => hxt) j (fun hc => absurd hl0 hc)
        obtain ⟨cs, h1, h2, h3⟩ := h.1.tower
        refine ⟨⟨?_, h.1.le, cs.setIfInBounds j (pv (some n.b)), ?_, by simpa using h2, fun f hf => ?_⟩, hrest⟩
        · exact ((Below.heap_setCell _ _ _ _ hxbt).trans (Below.heap_setCell _ _ _ _ (fun e => hxb (by have e' : x.b = n.t := e; rw [e']; exact hnt)))).trans h.1.node
        · refine heap_set_fr ?_ j _
          exact (Below.heap_setCell _ _ _ _ hun).trans h1
        · rw [Array.getElem?_setIfInBounds]
          by_cases e : j = f
          · subst e
            rw [if_pos rfl, if_pos (by have := h.1.le; omega)]
            show _ = some (pv (nx j (p ++ { n with h := j + 1 } :: r)))
            rw [hnk p r hall]
          · rw [if_neg e]
            show _ = some (pv (nx f (p ++ { n with h := j + 1 } :: r)))
            rw [hnx p r f (Ne.symm e)]
            exact h3 f hf
      · have hlx : lst k (x :: p) = none := by rw [lst, hl0]; simp [hx]
        have hu' := hu0 hlx
        rw [List.cons_append, blks_cons, List.mem_cons, List.mem_cons, not_or, not_or] at hu'
        have hrest := ih h.2 hndr u (by rw [hl0]) hun (fun _ => hu'.2.2) j (fun hc => absurd hl0 hc)
        refine ⟨h.1.stays ?_ ?_ fun f hf => ?_, hrest⟩
        · exact (Below.heap_setCell _ _ _ _ (Ne.symm hu'.1)).trans (Below.heap_setCell _ _ _ _ (fun e => hxb (by have e' : x.b = n.t := e; rw [e']; exact hnt)))
        · exact (Below.heap_setCell _ _ _ _ (Ne.symm hu'.2.1)).trans (Below.heap_setCell _ _ _ _ (fun e => hxt (by have e' : x.t = n.t := e; rw [e']; exact hnt)))
        · exact hnx p r f (by omega)
    · have hlx : lst k (x :: p) = some d := by rw [lst, hl0]
      rw [hlx] at hu
      simp only at hu
      have hdm : d.t ∈ blks (p ++ n :: r) := by rw [hp]; simp [blks]
      have hrest := ih h.2 hndr u (by rw [hl0]; exact hu) hun (fun hc => by rw [hl0] at hc; cases hc) j (fun _ => hj (by rw [hlx]; simp))
      refine ⟨h.1.stays ?_ ?_ fun f hf => ?_, hrest⟩
      · exact (Below.heap_setCell _ _ _ _ (fun e => hxb (by rw [e, hu]; exact hdm))).trans (Below.heap_setCell _ _ _ _ (fun e => hxb (by have e' : x.b = n.t := e; rw [e']; exact hnt)))
      · exact (Below.heap_setCell _ _ _ _ (fun e => hxt (by rw [e, hu]; exact hdm))).trans (Below.heap_setCell _ _ _ _ (fun e => hxt (by have e' : x.t = n.t := e; rw [e']; exact hnt)))
      · by_cases e : f = k
        · subst e
          exact hnk2 p r ⟨d, by rw [hp]; simp, hd⟩
        · exact hnx p r f e

/-- the same, of the first ones -/
theorem nx_link {k : Nat} {n : ND} (hk : n.h = k) (p r : List ND) (f : Nat) : nx f (p ++ { n with h := k + 1 } :: r) = if f = k ∧ lst k p = none then some n.b else nx f (p ++ n :: r) := by
  induction p with
  | nil =>
    simp only [List.nil_append, nx, lst, hk, and_true]
    by_cases h : f = k
    · subst h; simp
    · rw [if_neg h]
      by_cases h2 : f < k
      · rw [if_pos h2, if_pos (by omega)]
      · rw [if_neg h2, if_neg (by omega)]
  | cons x p ih =>
    simp only [List.cons_append, nx, lst]
    by_cases hx : f < x.h
    · rw [if_pos hx, if_pos hx]
      cases hl : lst k p with
      | some d => simp
      | none =>
        rw [if_neg]
        rintro ⟨rfl, h2⟩
        simp [hx] at h2
    · rw [if_neg hx, if_neg hx, ih]
      cases hl : lst k p with
      | some d => simp
      | none =>
        by_cases hf : f = k
        · subst hf; simp [hx]
        · simp [hf]
end Go.Proofs.Ytgnlhnfjanoahaa
