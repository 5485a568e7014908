/- Plain mathematics: what is left of a key's entries. -/
import Derived.Test.YtfbhdggmefacjaaCc
namespace Go.Proofs.Ytfbhdggmefacjaa
open SK
namespace VB

/-- the places that are kept -/
def keepS (xs : List Int) (now : Int) (bot : Bool) (r : List SK.E) : Nat → Bool := if bot = true then lives (ndd r xs) r now else ndd r xs
/-- those at these places -/
def pkd (S : Nat → Bool) : Nat → List SK.E → List SK.E
  | _, [] => []
  | k, e :: t => (if S k = true then [e] else []) ++ pkd S (k + 1) t
theorem pkd_append (S : Nat → Bool) (k : Nat) (a b : List SK.E) : pkd S k (a ++ b) = pkd S k a ++ pkd S (k + a.length) b := by
  induction a generalizing k with
  | nil => simp [pkd]
  | cons e a ih => simp [pkd, ih, Nat.add_assoc, Nat.add_comm 1]
theorem pkd_snoc (S : Nat → Bool) (k : Nat) (a : List SK.E) (e : SK.E) : pkd S k (a ++ [e]) = pkd S k a ++ (if S (k + a.length) = true then [e] else []) := by
  rw [pkd_append]
  simp [pkd]
theorem pkd_len (S : Nat → Bool) (k : Nat) (a : List SK.E) : (pkd S k a).length ≤ a.length := by
  induction a generalizing k with
  | nil => simp [pkd]
  | cons e a ih =>
    have := ih (k + 1)
    rw [pkd, List.length_append]
    split <;> simp <;> omega
theorem pkd_sub (S : Nat → Bool) (k : Nat) (a : List SK.E) : (pkd S k a).Sublist a := by
  induction a generalizing k with
  | nil => simp [pkd]
  | cons e a ih =>
    rw [pkd]
    split
    · exact (ih (k + 1)).cons_cons e
    · exact (ih (k + 1)).cons e
theorem pkd_congr {S T : Nat → Bool} {k : Nat} {a : List SK.E} (h : ∀ j, j < a.length → S (k + j) = T (k + j)) : pkd S k a = pkd T k a := by
  induction a generalizing k with
  | nil => rfl
  | cons e a ih =>
    rw [pkd, pkd, ih (fun j hj => by have := h (j + 1) (by simpa using hj); rwa [show k + (j + 1) = k + 1 + j by omega] at this)]
    have := h 0 (by simp)
    rw [Nat.add_zero] at this
    rw [this]

/-- what is left of one key's entries -/
def cone (xs : List Int) (now : Int) (bot : Bool) (r : List SK.E) : List SK.E := pkd (keepS xs now bot r) 0 r
def cout (xs : List Int) (now : Int) (bot : Bool) (pre : List G) : List SK.E := pre.flatMap (fun g => cone xs now bot g.l)
def cpt (xs : List Int) (now : Int) (bot : Bool) (l : List SK.E) : List SK.E := (runs l).flatMap (cone xs now bot)
theorem cout_gs (xs : List Int) (now : Int) (bot : Bool) (l : List SK.E) : cout xs now bot (gs l) = cpt xs now bot l := by
  unfold cout cpt
  conv => rhs; rw [← placed_map 0 (runs l)]
  rw [List.flatMap_map]
  rfl
theorem cout_snoc (xs : List Int) (now : Int) (bot : Bool) (pre : List G) (g : G) : cout xs now bot (pre ++ [g]) = cout xs now bot pre ++ cone xs now bot g.l := by simp [cout]
theorem cout_len (xs : List Int) (now : Int) (bot : Bool) (m : Nat) (pre : List G) (h : ∀ g ∈ pre, g.l.length ≤ m) : (cout xs now bot pre).length ≤ pre.length * m := by
  induction pre with
  | nil => simp [cout]
  | cons g pre ih =>
    have h1 : (cone xs now bot g.l).length ≤ g.l.length := pkd_len _ _ _
    have h2 := h g (by simp)
    have h3 := ih (fun x hx => h x (by simp [hx]))
    simp only [cout, List.flatMap_cons, List.length_append, List.length_cons, Nat.add_mul, Nat.one_mul] at *
    omega
/-- it doesn't matter how the snaps stand -/
theorem ndd_perm {xs ys : List Int} (h : xs.Perm ys) (r : List SK.E) : ndd r xs = ndd r ys := by
  funext i
  have : come r xs i = come r ys i := by
    unfold come
    rw [Bool.eq_iff_iff, List.any_eq_true, List.any_eq_true]
    exact ⟨fun ⟨s, h1, h2⟩ => ⟨s, h.mem_iff.1 h1, h2⟩, fun ⟨s, h1, h2⟩ => ⟨s, h.mem_iff.2 h1, h2⟩⟩
  unfold ndd
  rw [this]
theorem keepS_perm {xs ys : List Int} (h : xs.Perm ys) (now : Int) (bot : Bool) (r : List SK.E) : keepS xs now bot r = keepS ys now bot r := by
  unfold keepS
  rw [ndd_perm h]
theorem cpt_perm {xs ys : List Int} (h : xs.Perm ys) (now : Int) (bot : Bool) (l : List SK.E) : cpt xs now bot l = cpt ys now bot l := by
  unfold cpt
  congr 1
  funext r
  unfold cone
  rw [keepS_perm h]
end VB
end Go.Proofs.Ytfbhdggmefacjaa
