/- What changed collects, level by level. -/
import Derived.Test.YtfodbblcflolgaaVi
import Derived.Test.YtfodbblcflolgaaVg
namespace Go.Proofs.Ytfodbblcflolgaa
open Go.RowKit
open VS

namespace VS
def keepB (drop : List Int) (m : M) : Bool := decide (m.file ∉ drop)
/-- what is kept of a level -/
def kf (L : List M) (drop : List Int) (i : Nat) : List M := (lev i L).filter (keepB drop)
/-- what has been kept once level k is gone through up to table j -/
def pk (L : List M) (drop : List Int) (k j : Nat) : Nat → List M := fun i => if i < k then kf L drop i else if i = k then ((lev k L).take j).filter (keepB drop) else []
/-- what has come, up to table j -/
def qk (L : List M) (drop : List Int) (add : List M) (j : Nat) : Nat → List M := fun i => kf L drop i ++ lev i (add.take j)

theorem pk_zero (L : List M) (drop : List Int) : pk L drop 0 0 = fun _ => [] := by
  funext i
  simp only [pk, List.take_zero, List.filter_nil]
  by_cases h : i = 0 <;> simp [h]
theorem pk_keep {L : List M} {drop : List Int} {k j : Nat} (h : j < (lev k L).length) (hk : keepB drop (lev k L)[j] = true) : upd (pk L drop k j) k (pk L drop k j k ++ [(lev k L)[j]]) = pk L drop k (j + 1) := by
  funext i
  by_cases hi : i = k
  · subst hi
    rw [upd_same]
    unfold pk
    simp only [Nat.lt_irrefl, if_false, if_true]
    rw [List.take_succ_eq_append_getElem h, List.filter_append]
    simp [hk]
  · rw [upd_other _ _ hi]
    unfold pk
    simp [hi]
theorem pk_drop {L : List M} {drop : List Int} {k j : Nat} (h : j < (lev k L).length) (hk : keepB drop (lev k L)[j] = false) : pk L drop k j = pk L drop k (j + 1) := by
  funext i
  unfold pk
  by_cases hi : i = k
  · subst hi
    simp only [Nat.lt_irrefl, if_false, if_true]
    rw [List.take_succ_eq_append_getElem h, List.filter_append]
    simp [hk]
  · simp [hi]
theorem pk_next {L : List M} {drop : List Int} {k j : Nat} (h : (lev k L).length ≤ j) : pk L drop k j = pk L drop (k + 1) 0 := by
  funext i
  unfold pk
  by_cases h1 : i < k
  · simp [h1, show i < k + 1 by omega]
  · by_cases h2 : i = k
    · subst h2
      simp only [Nat.lt_irrefl, if_false, if_true, Nat.lt_succ_self]
      rw [List.take_of_length_le h]; rfl
    · have h3 : ¬ i < k + 1 := by omega
      simp [h1, h2, h3]
theorem pk_mem {L : List M} {drop : List Int} {k j i : Nat} {m : M} (h : m ∈ pk L drop k j i) : m ∈ L ∧ m.lvl = i := by
  unfold pk at h
  split at h
  · have := lev_mem (List.mem_filter.1 h).1
    exact ⟨this.2, this.1⟩
  · split at h
    · rename_i h1
      have := lev_mem (List.mem_of_mem_take (List.mem_filter.1 h).1)
      exact ⟨this.2, by rw [this.1, h1]⟩
    · simp at h
theorem pk_four {L : List M} {drop : List Int} (add : List M) {i : Nat} (hi : i < 4) : pk L drop 4 0 i = qk L drop add 0 i := by
  unfold pk qk
  simp [hi, lev]
theorem lev_snoc (i : Int) (l : List M) (m : M) : lev i (l ++ [m]) = lev i l ++ (if m.lvl = i then [m] else []) := by
  rw [lev_append]
  congr 1
  unfold lev
  by_cases h : m.lvl = i <;> simp [h]
theorem qk_next {L : List M} {drop : List Int} {add : List M} {j k : Nat} (h : j < add.length) (hk : add[j].lvl = k) : upd (qk L drop add j) k (qk L drop add j k ++ [add[j]]) = qk L drop add (j + 1) := by
  funext i
  by_cases hi : i = k
  · subst hi
    rw [upd_same]
    unfold qk
    rw [List.take_succ_eq_append_getElem h, lev_snoc, if_pos hk, List.append_assoc]
  · rw [upd_other _ _ hi]
    unfold qk
    rw [List.take_succ_eq_append_getElem h, lev_snoc, if_neg (by rw [hk]; omega), List.append_nil]
theorem qk_lvl {L : List M} {drop : List Int} {add : List M} {j i : Nat} : ∀ m ∈ qk L drop add j i, m.lvl = i := by
  intro m hm
  unfold qk kf at hm
  rcases List.mem_append.1 hm with h | h
  · exact (lev_mem (List.mem_filter.1 h).1).1
  · exact (lev_mem h).1
theorem kf_len (L : List M) (drop : List Int) (i : Nat) : (kf L drop i).length ≤ L.length := Nat.le_trans (List.length_filter_le _ _) (List.length_filter_le _ _)
theorem pk_len (L : List M) (drop : List Int) (k j i : Nat) : (pk L drop k j i).length ≤ L.length := by
  unfold pk
  split
  · exact kf_len _ _ _
  · split
    · refine Nat.le_trans (List.length_filter_le _ _) ?_
      rw [List.length_take]
      exact Nat.le_trans (Nat.min_le_right _ _) (lev_len _ _)
    · simp
theorem qk_len (L : List M) (drop : List Int) (add : List M) (j i : Nat) : (qk L drop add j i).length ≤ L.length + add.length := by
  unfold qk
  rw [List.length_append]
  have h1 := kf_len L drop i
  have h2 := lev_len (i : Int) (add.take j)
  rw [List.length_take] at h2
  omega

/-- all that is kept and comes, level by level -/
theorem qk_all (L : List M) (drop : List Int) (add : List M) (i : Nat) : qk L drop add add.length i = lev i (L.filter (keepB drop) ++ add) := by
  unfold qk kf
  rw [List.take_length, lev_append]
  congr 1
  unfold lev
  rw [List.filter_filter, List.filter_filter]
  congr 1
  funext m
  exact Bool.and_comm _ _

theorem lev_of {S : Nat → List M} (h : ∀ i, i < 4 → ∀ m ∈ S i, m.lvl = (i : Int)) {k : Nat} (hk : k < 4) : lev k (S 0 ++ S 1 ++ S 2 ++ S 3) = S k := by
  have hs : ∀ i, i < 4 → lev k (S i) = if i = k then S i else [] := fun i hi => by
    by_cases hik : i = k
    · rw [if_pos hik]
      exact List.filter_eq_self.2 fun m hm => by rw [h i hi m hm, hik]; simp
    · rw [if_neg hik]
      exact List.filter_eq_nil_iff.2 fun m hm => by rw [h i hi m hm]; simp; omega
  rw [lev_append, lev_append, lev_append, hs 0 (by omega), hs 1 (by omega), hs 2 (by omega), hs 3 (by omega)]
  rcases (by omega : k = 0 ∨ k = 1 ∨ k = 2 ∨ k = 3) with rfl | rfl | rfl | rfl <;> simp

def four {α : Type} (a b c d : α) : Nat → α := fun i => match i with | 0 => a | 1 => b | 2 => c | _ => d
end VS

theorem Nxt.congr {y : Nat} {w : World} {v : Nat → Value} {p p' : Nat → List M} {lg nx sq : Int} (h : Nxt y w v p lg nx sq) (hp : ∀ i, i < 4 → p i = p' i) : Nxt y w v p' lg nx sq :=
  ⟨h.row, fun k hk => by rw [← hp k hk]; exact h.own k hk, h.apart, fun k hk => by rw [← hp k hk]; exact h.wf k hk⟩

theorem Nxt.sorted {y : Nat} {w w' : World} {v : Nat → Value} {p : Nat → List M} {lg nx sq : Int} (h : Nxt y w v p lg nx sq) {k : Nat} (hk : k < 4) {ts : List M} (hp : ts.Perm (p k)) (ho : w'.ownsRow (y + 1) 64 4 (v k) (p k).length (cs4 ts)) (hg : w.grownBy w' (v k).ownBlock) :
    Nxt y w' v (upd p k ts) lg nx sq := by
  refine ⟨(hg.block y h.lt (fun e => ?_)).trans h.row, fun i hi => ?_, h.apart, fun i hi m hm => ?_⟩
  · have := ((h.own k hk).lt y e.symm).1
    omega
  · by_cases hik : i = k
    · subst hik
      rw [upd_same, hp.length_eq]
      exact ho
    · rw [upd_other _ _ hik]
      refine (h.own i hi).kept hg ?_
      cases hv : (v i).ownBlock with
      | none => exact .inl rfl
      | some g => exact .inr (fun e => h.apart i k hi hk hik g hv e.symm)
  · by_cases hik : i = k
    · subst hik
      rw [upd_same] at hm
      exact h.wf i hi m (hp.subset hm)
    · rw [upd_other _ _ hik] at hm
      exact h.wf i hi m hm

theorem arr_indexV (v : Nat → Value) {k : Nat} (hk : k < 4) (W : World) :
    (Instr.index 24 (.agg #[v 0, v 1, v 2, v 3]) (.int .i64 k)).run Try.prog W = .ok (v k) W := by
  rcases (by omega : k = 0 ∨ k = 1 ∨ k = 2 ∨ k = 3) with rfl | rfl | rfl | rfl <;> kernel_rfl

/-- the rows of a version in the making, as a version -/
theorem Nxt.ver {y : Nat} {w : World} {v : Nat → Value} {S : Nat → List M} {lg nx sq : Int} (h : Nxt y w v S lg nx sq) (hl : ∀ i, i < 4 → ∀ m ∈ S i, m.lvl = (i : Int)) :
    ∃ A N C, (∀ i, i < 4 → v i = .slice (A i) (N i) (C i)) ∧ VerIn w A N C (S 0 ++ S 1 ++ S 2 ++ S 3) ∧ (∀ i, i < 4 → ∀ a, A i = some a → y + 1 ≤ a.block) := by
  have key : ∀ i, i < 4 → ∃ A c, v i = .slice A (S i).length c ∧ In4 w A (S i) ∧ ((S i).length ≤ c ∧ ∀ a, A = some a → y + 1 ≤ a.block) := fun i hi => by
    obtain ⟨A, c, h1, h2, h4, h3⟩ := own4 (h.wf i hi) rfl (h.own i hi)
    exact ⟨A, c, h1, h2, h3, fun a ha => by subst ha; exact (h4 a.block (by simp [fb])).1⟩
  obtain ⟨A0, c0, v0, e0, q0⟩ := key 0 (by omega)
  obtain ⟨A1, c1, v1, e1, q1⟩ := key 1 (by omega)
  obtain ⟨A2, c2, v2, e2, q2⟩ := key 2 (by omega)
  obtain ⟨A3, c3, v3, e3, q3⟩ := key 3 (by omega)
  refine ⟨four A0 A1 A2 A3, fun i => (S i).length, four c0 c1 c2 c3, fun i hi => ?_, ⟨fun k hk => by rw [lev_of hl hk], fun k hk => ?_, fun k hk => ?_⟩, fun i hi => ?_⟩
  · rcases (by omega : i = 0 ∨ i = 1 ∨ i = 2 ∨ i = 3) with rfl | rfl | rfl | rfl
    · exact v0
    · exact v1
    · exact v2
    · exact v3
  · rcases (by omega : k = 0 ∨ k = 1 ∨ k = 2 ∨ k = 3) with rfl | rfl | rfl | rfl
    · exact q0.1
    · exact q1.1
    · exact q2.1
    · exact q3.1
  · rw [lev_of hl hk]
    rcases (by omega : k = 0 ∨ k = 1 ∨ k = 2 ∨ k = 3) with rfl | rfl | rfl | rfl
    · exact e0
    · exact e1
    · exact e2
    · exact e3
  · rcases (by omega : i = 0 ∨ i = 1 ∨ i = 2 ∨ i = 3) with rfl | rfl | rfl | rfl
    · exact q0.2
    · exact q1.2
    · exact q2.2
    · exact q3.2
theorem In4.grown {w w' : World} {A : Option Addr} {l : List M} (h : In4 w A l) {r : Nat} (hg : w.grownBy w' (some r)) (hA : ∀ a, A = some a → a.block ≠ r) : In4 w' A l :=
  ⟨h.wf, fun hn => by
    obtain ⟨b, off, rfl, hlt, hc⟩ := h.at_ hn
    have hbr : b ≠ r := hA _ rfl
    have hblk : w'.heap[b]? = w.heap[b]? := hg.block b hlt (fun e => hbr (by injection e))
    have hcell : ∀ k, w'.cell? ⟨b, k, none⟩ = w.cell? ⟨b, k, none⟩ := fun k => by simp [World.cell?, hblk]
    refine ⟨b, off, rfl, Nat.lt_of_lt_of_le hlt hg.size, fun j hj => ?_⟩
    obtain ⟨c0, c1, c2, c3⟩ := hc j hj
    exact ⟨(hcell _).trans c0, (hcell _).trans c1, (hcell _).trans c2, (hcell _).trans c3⟩⟩
theorem VerIn.grown {w w' : World} {A : Nat → Option Addr} {N C : Nat → Nat} {L : List M} (h : VerIn w A N C L) {r : Nat} (hg : w.grownBy w' (some r)) (hA : ∀ k, k < 4 → ∀ a, A k = some a → a.block ≠ r) : VerIn w' A N C L :=
  ⟨h.len, h.cap, fun k hk => (h.at_ k hk).grown hg (hA k hk)⟩

theorem Nxt.ver2 {y : Nat} {w : World} {v : Nat → Value} {S : Nat → List M} {lg nx sq : Int} (h : Nxt y w v S lg nx sq) (hl : ∀ i, i < 4 → ∀ m ∈ S i, m.lvl = (i : Int)) {A : Nat → Option Addr} {N C : Nat → Nat} (hv : ∀ i, i < 4 → v i = .slice (A i) (N i) (C i)) : VerIn w A N C (S 0 ++ S 1 ++ S 2 ++ S 3) := by
  have key : ∀ i, i < 4 → N i = (S i).length ∧ In4 w (A i) (S i) ∧ N i ≤ C i := fun i hi => by
    obtain ⟨A1, c, h1, h2, -, h3⟩ := own4 (h.wf i hi) rfl (h.own i hi)
    rw [hv i hi] at h1
    simp only [Value.slice.injEq] at h1
    obtain ⟨e1, e2, e3⟩ := h1
    rw [e1, e2, e3]
    exact ⟨rfl, h2, h3⟩
  exact ⟨fun k hk => by rw [lev_of hl hk]; exact (key k hk).1, fun k hk => (key k hk).2.2, fun k hk => by rw [lev_of hl hk]; exact (key k hk).2.1⟩

theorem Nxt.set {y : Nat} {w : World} {v : Nat → Value} {S : Nat → List M} {lg nx sq : Int} (h : Nxt y w v S lg nx sq) {x : Nat} (hx : x < y) (i : Nat) (u : Value) : Nxt y (w.setCell ⟨x, i, none⟩ u) v S lg nx sq := by
  have hset := grownBy_setCell w ⟨x, i, none⟩ u
  exact ⟨(Below.heap_setCell _ _ _ _ (by simp; omega)).trans h.row, fun k hk => (h.own k hk).kept hset (by
    cases hv : (v k).ownBlock with
    | none => exact .inl rfl
    | some g => exact .inr (fun e => by
      have := ((h.own k hk).lt g hv).1
      have e2 : g = x := by simpa using e
      omega)), h.apart, h.wf⟩
end Go.Proofs.Ytfodbblcflolgaa
