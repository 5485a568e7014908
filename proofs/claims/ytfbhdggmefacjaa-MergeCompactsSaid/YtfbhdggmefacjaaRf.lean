/- Plain mathematics: what is left, told entry by entry. -/
import Derived.Test.YtfbhdggmefacjaaRb
import Derived.Test.YtfbhdggmefacjaaCd
import Derived.Test.YtfbhdggmefacjaaMp
namespace Go.Proofs.Ytfbhdggmefacjaa
open SK HP
namespace VB

def hasKey (k : ByteArray) (x : SK.E) : Bool := decide (x.key = k)
/-- is the entry that stands behind these needed? -/
def keepsE (xs : List Int) (a : List SK.E) (e : SK.E) : Bool := !(a.any (hasKey e.key)) || xs.any (fun s => !(a.any (pk e.key s)) && decide (e.seq ≤ s))
def rk (xs : List Int) : List SK.E → List SK.E → List SK.E
  | _, [] => []
  | a, e :: b => (if keepsE xs a e = true then [e] else []) ++ rk xs (a ++ [e]) b
/-- those with one of their key that is alive at their place or behind it -/
def rl (now : Int) : List SK.E → List SK.E
  | [] => []
  | e :: b => (if (e :: b).any (fun x => decide (x.key = e.key) && alive x now) = true then [e] else []) ++ rl now b

theorem rk_append (xs : List Int) (a b c : List SK.E) : rk xs a (b ++ c) = rk xs a b ++ rk xs (a ++ b) c := by
  induction b generalizing a with
  | nil => simp [rk]
  | cons e b ih => simp [rk, ih]
theorem rk_snoc (xs : List Int) (a b : List SK.E) (e : SK.E) : rk xs a (b ++ [e]) = rk xs a b ++ if keepsE xs (a ++ b) e = true then [e] else [] := by
  rw [rk_append]
  simp [rk]
theorem rk_sub (xs : List Int) (a b : List SK.E) : (rk xs a b).Sublist b := by
  induction b generalizing a with
  | nil => simp [rk]
  | cons e b ih =>
    rw [rk]
    split
    · exact (ih _).cons_cons e
    · exact (ih _).cons e
theorem rk_len (xs : List Int) (a b : List SK.E) : (rk xs a b).length ≤ b.length := (rk_sub xs a b).length_le
theorem rl_sub (now : Int) (b : List SK.E) : (rl now b).Sublist b := by
  induction b with
  | nil => simp [rl]
  | cons e b ih =>
    rw [rl]
    split
    · exact ih.cons_cons e
    · exact ih.cons e
theorem any_sub {p : SK.E → Bool} {a b : List SK.E} (h : ∀ x ∈ a, x ∈ b) (hb : b.any p = false) : a.any p = false := by
  rw [List.any_eq_false] at hb ⊢
  exact fun x hx => hb x (h x hx)
theorem keepsE_less {xs : List Int} {a a' : List SK.E} {e : SK.E} (h : ∀ x ∈ a', x ∈ a) (hk : keepsE xs a e = true) : keepsE xs a' e = true := by
  unfold keepsE at hk ⊢
  simp only [Bool.or_eq_true, Bool.not_eq_true', List.any_eq_true, Bool.and_eq_true] at hk ⊢
  rcases hk with h1 | ⟨s, h1, h2, h3⟩
  · exact .inl (any_sub h h1)
  · exact .inr ⟨s, h1, any_sub h h2, h3⟩
/-- what is needed stays needed -/
theorem rk_again {xs : List Int} {a a' b : List SK.E} (h : ∀ x ∈ a', x ∈ a) : rk xs a' (rk xs a b) = rk xs a b := by
  induction b generalizing a a' with
  | nil => rfl
  | cons e b ih =>
    cases hk : keepsE xs a e with
    | true =>
      rw [rk, hk, if_pos rfl, List.singleton_append, rk, keepsE_less h hk, if_pos rfl, List.singleton_append, ih (fun x hx => by
        rcases List.mem_append.1 hx with hx | hx
        · exact List.mem_append_left _ (h x hx)
        · exact List.mem_append_right _ hx)]
    | false =>
      rw [rk, hk, if_neg (by decide), List.nil_append, ih (fun x hx => List.mem_append_left _ (h x hx))]

/-- who reads up to a snap, or all, sees of what is needed what it sees of all -/
theorem rv_rk {xs : List Int} {q t : Int} {a a' b : List SK.E} (hq : q ∈ xs ∨ ((∀ x ∈ a, x.seq ≤ q) ∧ ∀ x ∈ b, x.seq ≤ q)) (h : ∀ k, a'.any (pk k q) = a.any (pk k q)) : rv q t a' (rk xs a b) = rv q t a b := by
  induction b generalizing a a' with
  | nil => rfl
  | cons e b ih =>
    have hq' : q ∈ xs ∨ ((∀ x ∈ a ++ [e], x.seq ≤ q) ∧ ∀ x ∈ b, x.seq ≤ q) := by
      rcases hq with hq | ⟨h1, h2⟩
      · exact .inl hq
      · refine .inr ⟨fun x hx => ?_, fun x hx => h2 x (by simp [hx])⟩
        rcases List.mem_append.1 hx with hx | hx
        · exact h1 x hx
        · rw [List.mem_singleton.1 hx]; exact h2 e (by simp)
    cases hk : keepsE xs a e with
    | true =>
      rw [rk, hk, if_pos rfl, List.singleton_append, rv, rv, ih hq' (fun k => by rw [List.any_append, List.any_append, h k])]
      congr 1
      unfold tells
      rw [h]
    | false =>
      have hsee : a.any (pk e.key q) = true ∨ ¬ e.seq ≤ q := by
        unfold keepsE at hk
        simp only [Bool.or_eq_false_iff, Bool.not_eq_false', List.any_eq_false, Bool.and_eq_true, Bool.not_eq_true', decide_eq_true_eq, not_and] at hk
        rcases hq with hq | ⟨h1, h2⟩
        · cases hc : a.any (pk e.key q) with
          | true => exact .inl rfl
          | false => exact .inr (hk.2 q hq (List.any_eq_false.1 hc))
        · left
          obtain ⟨x, hx, hx2⟩ := List.any_eq_true.1 hk.1
          rw [List.any_eq_true]
          refine ⟨x, hx, ?_⟩
          have := h1 x hx
          simp only [hasKey, decide_eq_true_eq] at hx2
          simp [pk, hx2, this]
      have ht : tells q t a e = false := by
        unfold tells
        rcases hsee with h1 | h1
        · rw [h1]; rfl
        · simp [h1]
      rw [rk, hk, if_neg (by decide), List.nil_append, rv, ht, if_neg (by decide), List.nil_append]
      refine ih hq' (fun k => ?_)
      rw [h k, List.any_append]
      rcases hsee with h1 | h1
      · by_cases hke : e.key = k
        · subst hke; rw [h1]; simp
        · simp [pk, hke]
      · simp [pk, h1]

theorem alive_less {x : SK.E} {now later : Int} (h : now ≤ later) (ha : alive x now = false) : alive x later = false := by
  unfold alive at ha ⊢
  cases hg : x.gone with
  | true => rfl
  | false =>
    simp only [hg, Bool.not_false, Bool.true_and, Bool.or_eq_false_iff, decide_eq_false_iff_not] at ha ⊢
    exact ⟨ha.1, by omega⟩

/-- what is dropped at the bottom was not alive, and will not be -/
theorem rv_rl {q now t : Int} (ht : now ≤ t) {a a' b : List SK.E} (h : ∀ k, b.any (fun x => decide (x.key = k) && alive x now) = true → a'.any (pk k q) = a.any (pk k q)) : rv q t a' (rl now b) = rv q t a b := by
  induction b generalizing a a' with
  | nil => rfl
  | cons e b ih =>
    cases hk : (e :: b).any (fun x => decide (x.key = e.key) && alive x now) with
    | true =>
      rw [rl, hk, if_pos rfl, List.singleton_append, rv, rv, ih (a := a ++ [e]) (fun k hb => by
        rw [List.any_append, List.any_append, h k (by rw [List.any_cons, hb, Bool.or_true])])]
      congr 1
      unfold tells
      rw [h e.key hk]
    | false =>
      have ha : alive e now = false := by
        rw [List.any_cons, Bool.or_eq_false_iff] at hk
        simpa using hk.1
      have ht' : tells q t a e = false := by
        unfold tells
        rw [alive_less ht ha, Bool.and_false]
      rw [rl, hk, if_neg (by decide), List.nil_append, rv, ht', if_neg (by decide), List.nil_append]
      refine ih (fun k hb => ?_)
      rw [h k (by rw [List.any_cons, hb, Bool.or_true]), List.any_append]
      have hke : ¬ e.key = k := fun e' => by
        subst e'
        rw [List.any_cons, hb, Bool.or_true] at hk
        cases hk
      simp [pk, hke]
end VB
end Go.Proofs.Ytfbhdggmefacjaa
