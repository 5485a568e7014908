/- Plain mathematics: what is there, told entry by entry. -/
import Derived.Test.YtfbhdggmefacjaaVb
namespace Go.Proofs.Ytfbhdggmefacjaa
open SK
namespace VB

def pk (k : ByteArray) (q : Int) (x : SK.E) : Bool := decide (x.key = k) && decide (x.seq ≤ q)
/-- is the entry that stands behind these there? -/
def tells (q now : Int) (a : List SK.E) (e : SK.E) : Bool := !(a.any (pk e.key q)) && decide (e.seq ≤ q) && alive e now
def rv (q now : Int) : List SK.E → List SK.E → List SK.E
  | _, [] => []
  | a, e :: b => (if tells q now a e = true then [e] else []) ++ rv q now (a ++ [e]) b
theorem rv_append (q now : Int) (a b c : List SK.E) : rv q now a (b ++ c) = rv q now a b ++ rv q now (a ++ b) c := by
  induction b generalizing a with
  | nil => simp [rv]
  | cons e b ih => simp [rv, ih]
theorem rv_snoc (q now : Int) (a b : List SK.E) (e : SK.E) : rv q now a (b ++ [e]) = rv q now a b ++ if tells q now (a ++ b) e = true then [e] else [] := by
  rw [rv_append]
  simp [rv]
theorem rv_len (q now : Int) (a b : List SK.E) : (rv q now a b).length ≤ b.length := by
  induction b generalizing a with
  | nil => simp [rv]
  | cons e b ih =>
    have := ih (a ++ [e])
    rw [rv, List.length_append]
    split <;> simp <;> omega
theorem rv_sub (q now : Int) (a b : List SK.E) : ∀ x ∈ rv q now a b, x ∈ b := by
  induction b generalizing a with
  | nil => simp [rv]
  | cons e b ih =>
    intro x hx
    rw [rv, List.mem_append] at hx
    rcases hx with hx | hx
    · split at hx
      · simp at hx; simp [hx]
      · simp at hx
    · exact List.mem_cons_of_mem _ (ih _ x hx)
theorem rv_none {q now : Int} {k : ByteArray} {a r : List SK.E} (h : a.any (pk k q) = true) (hr : ∀ x ∈ r, x.key = k) : rv q now a r = [] := by
  induction r generalizing a with
  | nil => rfl
  | cons e r ih =>
    have hk := hr e (by simp)
    rw [rv, ih (a := a ++ [e]) (by simp [h]) (fun x hx => hr x (by simp [hx]))]
    simp [tells, hk, h]
theorem rv_run {q now : Int} {k : ByteArray} {a r : List SK.E} (h : a.any (pk k q) = false) (hr : ∀ x ∈ r, x.key = k) : rv q now a r = one q now r := by
  induction r generalizing a with
  | nil => rfl
  | cons e r ih =>
    have hk := hr e (by simp)
    have hr' : ∀ x ∈ r, x.key = k := fun x hx => hr x (by simp [hx])
    rw [rv]
    by_cases hq : e.seq ≤ q
    · rw [rv_none (k := k) (by simp [pk, hk, hq]) hr']
      simp [one, tells, hk, h, hq]
    · rw [ih (a := a ++ [e]) (by simp [h, pk, hq]) hr']
      simp [one, tells, hq]
theorem drop_key {e : SK.E} {t : List SK.E} (h : Sorted (e :: t)) : ∀ x ∈ t.dropWhile (fun x => decide (x.key = e.key)), x.key ≠ e.key := by
  induction t with
  | nil => simp
  | cons y t ih =>
    obtain ⟨h1, h2⟩ := List.pairwise_cons.1 h
    obtain ⟨h3, h4⟩ := List.pairwise_cons.1 h2
    by_cases hy : y.key = e.key
    · rw [List.dropWhile_cons_of_pos (by simpa using hy)]
      exact ih (List.pairwise_cons.2 ⟨fun z hz => h1 z (by simp [hz]), h4⟩)
    · rw [List.dropWhile_cons_of_neg (by simpa using hy)]
      intro x hx
      rcases List.mem_cons.1 hx with rfl | hx
      · exact hy
      · intro hxe
        have ha := h3 x hx
        have hb := h1 y (by simp)
        have hc : less y e = true := by
          unfold less at ha ⊢
          rw [if_neg (by rw [hxe]; exact hy)] at ha
          rw [if_neg hy, ← hxe]
          exact ha
        rw [less_asymm hb] at hc
        cases hc
theorem vis_rv (q now : Int) : ∀ (m : Nat) (l a : List SK.E), l.length ≤ m → Sorted l → (∀ x ∈ a, ∀ y ∈ l, x.key ≠ y.key) → rv q now a l = vis q now l
  | _, [], _, _, _, _ => rfl
  | 0, e :: t, _, hm, _, _ => by simp at hm
  | m + 1, e :: t, a, hm, hs, ha => by
    have ht : t.takeWhile (fun x => decide (x.key = e.key)) ++ t.dropWhile (fun x => decide (x.key = e.key)) = t := List.takeWhile_append_dropWhile ..
    have htk : ∀ x ∈ e :: t.takeWhile (fun x => decide (x.key = e.key)), x.key = e.key := fun x hx => by
      rcases List.mem_cons.1 hx with rfl | hx
      · rfl
      · simpa using List.all_eq_true.1 List.all_takeWhile x hx
    have hdk := drop_key hs
    have hrun := rv_run (q := q) (now := now) (k := e.key) (a := a) (by
      rw [List.any_eq_false]
      intro x hx
      have := ha x hx e (by simp)
      simp [pk, this]) htk
    have hv : vis q now (e :: t) = one q now (e :: t.takeWhile (fun x => decide (x.key = e.key))) ++ vis q now (t.dropWhile (fun x => decide (x.key = e.key))) := by
      unfold vis
      rw [runs_cons]
      rfl
    obtain ⟨tw, htw⟩ : ∃ tw, t.takeWhile (fun x => decide (x.key = e.key)) = tw := ⟨_, rfl⟩
    obtain ⟨dw, hdw⟩ : ∃ dw, t.dropWhile (fun x => decide (x.key = e.key)) = dw := ⟨_, rfl⟩
    rw [htw] at ht htk hrun hv
    rw [hdw] at ht hdk hv
    rw [hv]
    subst ht
    rw [show e :: (tw ++ dw) = (e :: tw) ++ dw from rfl, rv_append, hrun]
    congr 1
    refine vis_rv q now m dw _ (by simp at hm; omega) ?_ ?_
    · rw [show e :: (tw ++ dw) = (e :: tw) ++ dw from rfl] at hs
      exact (List.pairwise_append.1 hs).2.1
    · intro x hx y hy hxy
      rcases List.mem_append.1 hx with hx | hx
      · exact ha x hx y (by simp [hy]) hxy
      · rw [htk x hx] at hxy
        exact hdk y hy hxy.symm
theorem idx_iff {u : SK.E → Bool} {l : List SK.E} {i : Nat} (h : i < l.length) : idx u l = (i : Int) ↔ (l.take i).any u = false ∧ u l[i] = true := by
  refine ⟨fun e => ?_, fun ⟨h0, h1⟩ => idx_at h h0 h1⟩
  unfold idx at e
  cases hf : l.findIdx? u with
  | none => rw [hf] at e; simp at e
  | some j =>
    rw [hf] at e
    simp only at e
    obtain rfl : j = i := by omega
    rw [List.findIdx?_eq_some_iff_getElem] at hf
    obtain ⟨h1, h2, h3⟩ := hf
    refine ⟨?_, h2⟩
    rw [List.any_eq_false]
    intro x hx
    rw [List.mem_take_iff_getElem] at hx
    obtain ⟨k, hk, rfl⟩ := hx
    exact h3 k (by omega)
theorem idx_tells {q now : Int} {l : List SK.E} {i : Nat} (h : i < l.length) : (decide (idx (pk l[i].key q) l = (i : Int)) && alive l[i] now) = tells q now (l.take i) l[i] := by
  have hi := idx_iff (u := pk l[i].key q) h
  unfold tells
  rw [Bool.eq_iff_iff]
  simp only [Bool.and_eq_true, decide_eq_true_eq, hi, Bool.not_eq_true']
  simp [pk]
end VB
end Go.Proofs.Ytfbhdggmefacjaa
