/- Texts joined by bundle.py: Vj, Vk, Vl, Vn. -/
import Derived.Test.YtffdiiolgflbkaaZao
import Derived.Test.YtffdiiolgflbkaaZaq

/- What changed collects, level by level. -/
namespace Go.Proofs.Ytffdiiolgflbkaa
open Go.RowKit
open VS

namespace VS
def keepB (drop : List Int) (m : M) : Bool := decide (m.file ∉ drop)
/-- what is kept of a level -/
def kf (L : List M) (drop : List Int) (i : Nat) : List M := (lev i L).filter (keepB drop)
/-- what has been kept once level k is gone through up to table j -/
def pk (L : List M) (drop : List Int) (k j : Nat) : Nat → List M := fun i => if i < k then kf L drop i else if i = k then ((lev k L).take j).filter (keepB drop) else []
/-- what has come, up to table j -/
def qk (L : List M) (drop : List Int) (add : List M) (j : Nat) : Nat → List M := fun i => kf L drop i ++ lev i (add.take j)

theorem pk_zero (L : List M) (drop : List Int) : pk L drop 0 0 = fun _ => [] := by
  funext i
  simp only [pk, List.take_zero, List.filter_nil]
  by_cases h : i = 0 <;> simp [h]
theorem pk_keep {L : List M} {drop : List Int} {k j : Nat} (h : j < (lev k L).length) (hk : keepB drop (lev k L)[j] = true) : upd (pk L drop k j) k (pk L drop k j k ++ [(lev k L)[j]]) = pk L drop k (j + 1) := by
  funext i
  by_cases hi : i = k
  · subst hi
    rw [upd_same]
    unfold pk
    simp only [Nat.lt_irrefl, if_false, if_true]
    rw [List.take_succ_eq_append_getElem h, List.filter_append]
    simp [hk]
  · rw [upd_other _ _ hi]
    unfold pk
    simp [hi]
theorem pk_drop {L : List M} {drop : List Int} {k j : Nat} (h : j < (lev k L).length) (hk : keepB drop (lev k L)[j] = false) : pk L drop k j = pk L drop k (j + 1) := by
  funext i
  unfold pk
  by_cases hi : i = k
  · subst hi
    simp only [Nat.lt_irrefl, if_false, if_true]
    rw [List.take_succ_eq_append_getElem h, List.filter_append]
    simp [hk]
  · simp [hi]
theorem pk_next {L : List M} {drop : List Int} {k j : Nat} (h : (lev k L).length ≤ j) : pk L drop k j = pk L drop (k + 1) 0 := by
  funext i
  unfold pk
  by_cases h1 : i < k
  · simp [h1, show i < k + 1 by omega]
  · by_cases h2 : i = k
    · subst h2
      simp only [Nat.lt_irrefl, if_false, if_true, Nat.lt_succ_self]
      rw [List.take_of_length_le h]; rfl
    · have h3 : ¬ i < k + 1 := by omega
      simp [h1, h2, h3]
theorem pk_mem {L : List M} {drop : List Int} {k j i : Nat} {m : M} (h : m ∈ pk L drop k j i) : m ∈ L ∧ m.lvl = i := by
  unfold pk at h
  split at h
  · have := lev_mem (List.mem_filter.1 h).1
    exact ⟨this.2, this.1⟩
  · split at h
    · rename_i h1
      have := lev_mem (List.mem_of_mem_take (List.mem_filter.1 h).1)
      exact ⟨this.2, by rw [this.1, h1]⟩
    · simp at h
theorem pk_four {L : List M} {drop : List Int} (add : List M) {i : Nat} (hi : i < 4) : pk L drop 4 0 i = qk L drop add 0 i := by
  unfold pk qk
  simp [hi, lev]
theorem lev_snoc (i : Int) (l : List M) (m : M) : lev i (l ++ [m]) = lev i l ++ (if m.lvl = i then [m] else []) := by
  rw [lev_append]
  congr 1
  unfold lev
  by_cases h : m.lvl = i <;> simp [h]
theorem qk_next {L : List M} {drop : List Int} {add : List M} {j k : Nat} (h : j < add.length) (hk : add[j].lvl = k) : upd (qk L drop add j) k (qk L drop add j k ++ [add[j]]) = qk L drop add (j + 1) := by
  funext i
  by_cases hi : i = k
  · subst hi
    rw [upd_same]
    unfold qk
    rw [List.take_succ_eq_append_getElem h, lev_snoc, if_pos hk, List.append_assoc]
  · rw [upd_other _ _ hi]
    unfold qk
    rw [List.take_succ_eq_append_getElem h, lev_snoc, if_neg (by rw [hk]; omega), List.append_nil]
theorem qk_lvl {L : List M} {drop : List Int} {add : List M} {j i : Nat} : ∀ m ∈ qk L drop add j i, m.lvl = i := by
  intro m hm
  unfold qk kf at hm
  rcases List.mem_append.1 hm with h | h
  · exact (lev_mem (List.mem_filter.1 h).1).1
  · exact (lev_mem h).1
theorem kf_len (L : List M) (drop : List Int) (i : Nat) : (kf L drop i).length ≤ L.length := Nat.le_trans (List.length_filter_le _ _) (List.length_filter_le _ _)
theorem pk_len (L : List M) (drop : List Int) (k j i : Nat) : (pk L drop k j i).length ≤ L.length := by
  unfold pk
  split
  · exact kf_len _ _ _
  · split
    · refine Nat.le_trans (List.length_filter_le _ _) ?_
      rw [List.length_take]
      exact Nat.le_trans (Nat.min_le_right _ _) (lev_len _ _)
    · simp
theorem qk_len (L : List M) (drop : List Int) (add : List M) (j i : Nat) : (qk L drop add j i).length ≤ L.length + add.length := by
  unfold qk
  rw [List.length_append]
  have h1 := kf_len L drop i
  have h2 := lev_len (i : Int) (add.take j)
  rw [List.length_take] at h2
  omega

/-- all that is kept and comes, level by level -/
theorem qk_all (L : List M) (drop : List Int) (add : List M) (i : Nat) : qk L drop add add.length i = lev i (L.filter (keepB drop) ++ add) := by
  unfold qk kf
  rw [List.take_length, lev_append]
  congr 1
  unfold lev
  rw [List.filter_filter, List.filter_filter]
  congr 1
  funext m
  exact Bool.and_comm _ _

theorem lev_of {S : Nat → List M} (h : ∀ i, i < 4 → ∀ m ∈ S i, m.lvl = (i : Int)) {k : Nat} (hk : k < 4) : lev k (S 0 ++ S 1 ++ S 2 ++ S 3) = S k := by
  have hs : ∀ i, i < 4 → lev k (S i) = if i = k then S i else [] := fun i hi => by
    by_cases hik : i = k
    · rw [if_pos hik]
      exact List.filter_eq_self.2 fun m hm => by rw [h i hi m hm, hik]; simp
    · rw [if_neg hik]
      exact List.filter_eq_nil_iff.2 fun m hm => by rw [h i hi m hm]; simp; omega
  rw [lev_append, lev_append, lev_append, hs 0 (by omega), hs 1 (by omega), hs 2 (by omega), hs 3 (by omega)]
  rcases (by omega : k = 0 ∨ k = 1 ∨ k = 2 ∨ k = 3) with rfl | rfl | rfl | rfl <;> simp

def four {α : Type} (a b c d : α) : Nat → α := fun i => match i with | 0 => a | 1 => b | 2 => c | _ => d
end VS

theorem Nxt.congr {y : Nat} {w : World} {v : Nat → Value} {p p' : Nat → List M} {lg nx sq : Int} (h : Nxt y w v p lg nx sq) (hp : ∀ i, i < 4 → p i = p' i) : Nxt y w v p' lg nx sq :=
  ⟨h.row, fun k hk => by rw [← hp k hk]; exact h.own k hk, h.apart, fun k hk => by rw [← hp k hk]; exact h.wf k hk⟩

theorem Nxt.sorted {y : Nat} {w w' : World} {v : Nat → Value} {p : Nat → List M} {lg nx sq : Int} (h : Nxt y w v p lg nx sq) {k : Nat} (hk : k < 4) {ts : List M} (hp : ts.Perm (p k)) (ho : w'.ownsRow (y + 1) 64 4 (v k) (p k).length (cs4 ts)) (hg : w.grownBy w' (v k).ownBlock) :
    Nxt y w' v (upd p k ts) lg nx sq := by
  refine ⟨(hg.block y h.lt (fun e => ?_)).trans h.row, fun i hi => ?_, h.apart, fun i hi m hm => ?_⟩
  · have := ((h.own k hk).lt y e.symm).1
    omega
  · by_cases hik : i = k
    · subst hik
      rw [upd_same, hp.length_eq]
      exact ho
    · rw [upd_other _ _ hik]
      refine (h.own i hi).kept hg ?_
      cases hv : (v i).ownBlock with
      | none => exact .inl rfl
      | some g => exact .inr (fun e => h.apart i k hi hk hik g hv e.symm)
  · by_cases hik : i = k
    · subst hik
      rw [upd_same] at hm
      exact h.wf i hi m (hp.subset hm)
    · rw [upd_other _ _ hik] at hm
      exact h.wf i hi m hm

theorem arr_indexV (v : Nat → Value) {k : Nat} (hk : k < 4) (W : World) :
    (Instr.index 24 (.agg #[v 0, v 1, v 2, v 3]) (.int .i64 k)).run Try.prog W = .ok (v k) W := by
  rcases (by omega : k = 0 ∨ k = 1 ∨ k = 2 ∨ k = 3) with rfl | rfl | rfl | rfl <;> kernel_rfl

/-- the rows of a version in the making, as a version -/
theorem Nxt.ver {y : Nat} {w : World} {v : Nat → Value} {S : Nat → List M} {lg nx sq : Int} (h : Nxt y w v S lg nx sq) (hl : ∀ i, i < 4 → ∀ m ∈ S i, m.lvl = (i : Int)) :
    ∃ A N C, (∀ i, i < 4 → v i = .slice (A i) (N i) (C i)) ∧ VerIn w A N C (S 0 ++ S 1 ++ S 2 ++ S 3) ∧ (∀ i, i < 4 → ∀ a, A i = some a → y + 1 ≤ a.block) := by
  have key : ∀ i, i < 4 → ∃ A c, v i = .slice A (S i).length c ∧ In4 w A (S i) ∧ ((S i).length ≤ c ∧ ∀ a, A = some a → y + 1 ≤ a.block) := fun i hi => by
    obtain ⟨A, c, h1, h2, h4, h3⟩ := own4 (h.wf i hi) rfl (h.own i hi)
    exact ⟨A, c, h1, h2, h3, fun a ha => by subst ha; exact (h4 a.block (by simp [fb])).1⟩
  obtain ⟨A0, c0, v0, e0, q0⟩ := key 0 (by omega)
  obtain ⟨A1, c1, v1, e1, q1⟩ := key 1 (by omega)
  obtain ⟨A2, c2, v2, e2, q2⟩ := key 2 (by omega)
  obtain ⟨A3, c3, v3, e3, q3⟩ := key 3 (by omega)
  refine ⟨four A0 A1 A2 A3, fun i => (S i).length, four c0 c1 c2 c3, fun i hi => ?_, ⟨fun k hk => by rw [lev_of hl hk], fun k hk => ?_, fun k hk => ?_⟩, fun i hi => ?_⟩
  · rcases (by omega : i = 0 ∨ i = 1 ∨ i = 2 ∨ i = 3) with rfl | rfl | rfl | rfl
    · exact v0
    · exact v1
    · exact v2
    · exact v3
  · rcases (by omega : k = 0 ∨ k = 1 ∨ k = 2 ∨ k = 3) with rfl | rfl | rfl | rfl
    · exact q0.1
    · exact q1.1
    · exact q2.1
    · exact q3.1
  · rw [lev_of hl hk]
    rcases (by omega : k = 0 ∨ k = 1 ∨ k = 2 ∨ k = 3) with rfl | rfl | rfl | rfl
    · exact e0
    · exact e1
    · exact e2
    · exact e3
  · rcases (by omega : i = 0 ∨ i = 1 ∨ i = 2 ∨ i = 3) with rfl | rfl | rfl | rfl
    · exact q0.2
    · exact q1.2
    · exact q2.2
    · exact q3.2
theorem In4.grown {w w' : World} {A : Option Addr} {l : List M} (h : In4 w A l) {r : Nat} (hg : w.grownBy w' (some r)) (hA : ∀ a, A = some a → a.block ≠ r) : In4 w' A l :=
  ⟨h.wf, fun hn => by
    obtain ⟨b, off, rfl, hlt, hc⟩ := h.at_ hn
    have hbr : b ≠ r := hA _ rfl
    have hblk : w'.heap[b]? = w.heap[b]? := hg.block b hlt (fun e => hbr (by injection e))
    have hcell : ∀ k, w'.cell? ⟨b, k, none⟩ = w.cell? ⟨b, k, none⟩ := fun k => by simp [World.cell?, hblk]
    refine ⟨b, off, rfl, Nat.lt_of_lt_of_le hlt hg.size, fun j hj => ?_⟩
    obtain ⟨c0, c1, c2, c3⟩ := hc j hj
    exact ⟨(hcell _).trans c0, (hcell _).trans c1, (hcell _).trans c2, (hcell _).trans c3⟩⟩
theorem VerIn.grown {w w' : World} {A : Nat → Option Addr} {N C : Nat → Nat} {L : List M} (h : VerIn w A N C L) {r : Nat} (hg : w.grownBy w' (some r)) (hA : ∀ k, k < 4 → ∀ a, A k = some a → a.block ≠ r) : VerIn w' A N C L :=
  ⟨h.len, h.cap, fun k hk => (h.at_ k hk).grown hg (hA k hk)⟩

theorem Nxt.ver2 {y : Nat} {w : World} {v : Nat → Value} {S : Nat → List M} {lg nx sq : Int} (h : Nxt y w v S lg nx sq) (hl : ∀ i, i < 4 → ∀ m ∈ S i, m.lvl = (i : Int)) {A : Nat → Option Addr} {N C : Nat → Nat} (hv : ∀ i, i < 4 → v i = .slice (A i) (N i) (C i)) : VerIn w A N C (S 0 ++ S 1 ++ S 2 ++ S 3) := by
  have key : ∀ i, i < 4 → N i = (S i).length ∧ In4 w (A i) (S i) ∧ N i ≤ C i := fun i hi => by
    obtain ⟨A1, c, h1, h2, -, h3⟩ := own4 (h.wf i hi) rfl (h.own i hi)
    rw [hv i hi] at h1
    simp only [Value.slice.injEq] at h1
    obtain ⟨e1, e2, e3⟩ := h1
    rw [e1, e2, e3]
    exact ⟨rfl, h2, h3⟩
  exact ⟨fun k hk => by rw [lev_of hl hk]; exact (key k hk).1, fun k hk => (key k hk).2.2, fun k hk => by rw [lev_of hl hk]; exact (key k hk).2.1⟩

theorem Nxt.set {y : Nat} {w : World} {v : Nat → Value} {S : Nat → List M} {lg nx sq : Int} (h : Nxt y w v S lg nx sq) {x : Nat} (hx : x < y) (i : Nat) (u : Value) : Nxt y (w.setCell ⟨x, i, none⟩ u) v S lg nx sq := by
  have hset := grownBy_setCell w ⟨x, i, none⟩ u
  exact ⟨(Below.heap_setCell _ _ _ _ (by simp; omega)).trans h.row, fun k hk => (h.own k hk).kept hset (by
    cases hv : (v k).ownBlock with
    | none => exact .inl rfl
    | some g => exact .inr (fun e => by
      have := ((h.own k hk).lt g hv).1
      have e2 : g = x := by simpa using e
      omega)), h.apart, h.wf⟩
end Go.Proofs.Ytffdiiolgflbkaa

/- changed: what stays and what comes, in order. -/
namespace Go.Proofs.Ytffdiiolgflbkaa
open Go.RowKit
open VS
attribute [local go_sem ↓] Go.wp_at_zero Go.wp_at_succ

set_option maxRecDepth 100000 in
set_option maxHeartbeats 8000000 in
theorem changed_any (A : Nat → Option Addr) (N C : Nat → Nat) (L : List M) (lg nx sq : Int) (A2 : Option Addr) (n2 c2 : Nat) (add : List M) (T1 : Value) (el en es : Int) (b nf : Nat) (st : Int → Int) (drop : List Int) (w : World)
    (h : VerIn w A N C L) (hL : L.length ≤ 2000000) (hin : In5 w A2 add) (hn2 : add.length = n2) (hb2 : n2 ≤ 2000000) (hlv : ∀ m ∈ add, 0 ≤ m.lvl ∧ m.lvl < 4) (hf : Fm w b nf st) (hst : ∀ m ∈ L, (st m.file = 1 ↔ keepB drop m = true)) :
    Calls Try.prog 30 #[.agg #[.slice (A 0) (N 0) (C 0), .slice (A 1) (N 1) (C 1), .slice (A 2) (N 2) (C 2), .slice (A 3) (N 3) (C 3), .int .i64 lg, .int .i64 nx, .int .i64 sq], .agg #[.slice A2 n2 c2, T1, .int .i64 el, .int .i64 en, .int .i64 es], .map (some b)] w fun r w' =>
      ∃ (A' : Nat → Option Addr) (N' C' : Nat → Nat) (S : Nat → List M), r = .returned (.agg #[.slice (A' 0) (N' 0) (C' 0), .slice (A' 1) (N' 1) (C' 1), .slice (A' 2) (N' 2) (C' 2), .slice (A' 3) (N' 3) (C' 3), .int .i64 el, .int .i64 en, .int .i64 es]) ∧
        (∀ i, i < 4 → (S i).Perm (qk L drop add add.length i) ∧ weak (S i)) ∧ VerIn w' A' N' C' (S 0 ++ S 1 ++ S 2 ++ S 3) ∧ (∀ k, k < 4 → ∀ a, A' k = some a → w.heap.size ≤ a.block) ∧ Below w.heap.size w w' := by
  have HIX := Lib.hid (fun (k : Nat) (hk : k < 4) W => arr_index A N C hk W)
  have HV := Lib.hid h
  have HLL := Lib.hid hL
  have HIN := Lib.hid hin
  have HN2 := Lib.hid hn2
  have HLV := Lib.hid hlv
  have HF := Lib.hid hf
  have HST := Lib.hid hst
  have HMEM : Hid (∀ k : Nat, ∀ m ∈ lev k L, m ∈ L) := Lib.hid fun k m hm => (lev_mem hm).2
  obtain ⟨S0, hS0⟩ : ∃ S0, Value.slice (A 0) (N 0) (C 0) = S0 := ⟨_, rfl⟩
  obtain ⟨S1, hS1⟩ : ∃ S1, Value.slice (A 1) (N 1) (C 1) = S1 := ⟨_, rfl⟩
  obtain ⟨S2, hS2⟩ : ∃ S2, Value.slice (A 2) (N 2) (C 2) = S2 := ⟨_, rfl⟩
  obtain ⟨S3, hS3⟩ : ∃ S3, Value.slice (A 3) (N 3) (C 3) = S3 := ⟨_, rfl⟩
  rw [hS0, hS1, hS2, hS3] at HIX
  rw [hS0, hS1, hS2, hS3]
  have HQL : Hid (∀ i, (qk L drop add add.length i).length ≤ 4000000) := Lib.hid fun i => Nat.le_trans (qk_len _ _ _ _ _) (by have := HLL.out; have := HN2.out; omega)
  have HQV : Hid (∀ i, ∀ m ∈ qk L drop add add.length i, m.lvl = (i : Int)) := Lib.hid fun i => qk_lvl
  have HQQ0 : Hid (qk L drop add add.length = qk L drop add add.length) := Lib.hid rfl
  obtain ⟨Q, hQ⟩ : ∃ Q, qk L drop add add.length = Q := ⟨_, rfl⟩
  have HQQ : Hid (qk L drop add add.length = Q) := Lib.hid hQ
  rw [hQ] at HQL HQV
  simp only [hQ]
  clear hS0 hS1 hS2 hS3 h hin hn2 hlv hf hst hQ HQQ0
  go_enter Try.func30, Try.ntmps30
  go_wp2
  have hb0 : Below w.heap.size w ((((w.alloc (.cells #[S0, S1, S2, S3, .int .i64 lg, .int .i64 nx, .int .i64 sq] 26)).alloc (.cells #[.slice A2 n2 c2, T1, .int .i64 el, .int .i64 en, .int .i64 es] 36)).alloc (.cells #[.slice none 0 0, .slice none 0 0, .slice none 0 0, .slice none 0 0, .int .i64 0, .int .i64 0, .int .i64 0] 26)).alloc (.cells #[.slice none 0 0, .slice none 0 0, .slice none 0 0, .slice none 0 0, .int .i64 el, .int .i64 en, .int .i64 es] 26)) := ((((Below.refl _ w).alloc (Nat.le_refl _) _).alloc (by simp) _).alloc (by simp; omega) _).alloc (by simp; omega) _
  have hs0 : ((((w.alloc (.cells #[S0, S1, S2, S3, .int .i64 lg, .int .i64 nx, .int .i64 sq] 26)).alloc (.cells #[.slice A2 n2 c2, T1, .int .i64 el, .int .i64 en, .int .i64 es] 36)).alloc (.cells #[.slice none 0 0, .slice none 0 0, .slice none 0 0, .slice none 0 0, .int .i64 0, .int .i64 0, .int .i64 0] 26)).alloc (.cells #[.slice none 0 0, .slice none 0 0, .slice none 0 0, .slice none 0 0, .int .i64 el, .int .i64 en, .int .i64 es] 26)).heap.size = w.heap.size + 4 := by simp
  have hr1 : ((((w.alloc (.cells #[S0, S1, S2, S3, .int .i64 lg, .int .i64 nx, .int .i64 sq] 26)).alloc (.cells #[.slice A2 n2 c2, T1, .int .i64 el, .int .i64 en, .int .i64 es] 36)).alloc (.cells #[.slice none 0 0, .slice none 0 0, .slice none 0 0, .slice none 0 0, .int .i64 0, .int .i64 0, .int .i64 0] 26)).alloc (.cells #[.slice none 0 0, .slice none 0 0, .slice none 0 0, .slice none 0 0, .int .i64 el, .int .i64 en, .int .i64 es] 26)).heap[w.heap.size + 1]? = some (.cells #[.slice A2 n2 c2, T1, .int .i64 el, .int .i64 en, .int .i64 es] 36 (0, 0)) := by
    rw [Below.heap_alloc _ _ _ (by simp <;> omega), Below.heap_alloc _ _ _ (by simp <;> omega)]
    have := heap_alloc_new (w.alloc (.cells #[S0, S1, S2, S3, .int .i64 lg, .int .i64 nx, .int .i64 sq] 26)) (.cells #[.slice A2 n2 c2, T1, .int .i64 el, .int .i64 en, .int .i64 es] 36)
    simpa using this
  have hr2 : ((((w.alloc (.cells #[S0, S1, S2, S3, .int .i64 lg, .int .i64 nx, .int .i64 sq] 26)).alloc (.cells #[.slice A2 n2 c2, T1, .int .i64 el, .int .i64 en, .int .i64 es] 36)).alloc (.cells #[.slice none 0 0, .slice none 0 0, .slice none 0 0, .slice none 0 0, .int .i64 0, .int .i64 0, .int .i64 0] 26)).alloc (.cells #[.slice none 0 0, .slice none 0 0, .slice none 0 0, .slice none 0 0, .int .i64 el, .int .i64 en, .int .i64 es] 26)).heap[w.heap.size + 2]? = some (.cells #[.slice none 0 0, .slice none 0 0, .slice none 0 0, .slice none 0 0, .int .i64 0, .int .i64 0, .int .i64 0] 26 (0, 0)) := by
    rw [Below.heap_alloc _ _ _ (by simp)]
    have := heap_alloc_new ((w.alloc (.cells #[S0, S1, S2, S3, .int .i64 lg, .int .i64 nx, .int .i64 sq] 26)).alloc (.cells #[.slice A2 n2 c2, T1, .int .i64 el, .int .i64 en, .int .i64 es] 36)) (.cells #[.slice none 0 0, .slice none 0 0, .slice none 0 0, .slice none 0 0, .int .i64 0, .int .i64 0, .int .i64 0] 26)
    simpa using this
  have hr3 : ((((w.alloc (.cells #[S0, S1, S2, S3, .int .i64 lg, .int .i64 nx, .int .i64 sq] 26)).alloc (.cells #[.slice A2 n2 c2, T1, .int .i64 el, .int .i64 en, .int .i64 es] 36)).alloc (.cells #[.slice none 0 0, .slice none 0 0, .slice none 0 0, .slice none 0 0, .int .i64 0, .int .i64 0, .int .i64 0] 26)).alloc (.cells #[.slice none 0 0, .slice none 0 0, .slice none 0 0, .slice none 0 0, .int .i64 el, .int .i64 en, .int .i64 es] 26)).heap[w.heap.size + 3]? = some (.cells #[.slice none 0 0, .slice none 0 0, .slice none 0 0, .slice none 0 0, .int .i64 el, .int .i64 en, .int .i64 es] 26 (0, 0)) := by
    have := heap_alloc_new (((w.alloc (.cells #[S0, S1, S2, S3, .int .i64 lg, .int .i64 nx, .int .i64 sq] 26)).alloc (.cells #[.slice A2 n2 c2, T1, .int .i64 el, .int .i64 en, .int .i64 es] 36)).alloc (.cells #[.slice none 0 0, .slice none 0 0, .slice none 0 0, .slice none 0 0, .int .i64 0, .int .i64 0, .int .i64 0] 26)) (.cells #[.slice none 0 0, .slice none 0 0, .slice none 0 0, .slice none 0 0, .int .i64 el, .int .i64 en, .int .i64 es] 26)
    simpa using this
  generalize ((((w.alloc (.cells #[S0, S1, S2, S3, .int .i64 lg, .int .i64 nx, .int .i64 sq] 26)).alloc (.cells #[.slice A2 n2 c2, T1, .int .i64 el, .int .i64 en, .int .i64 es] 36)).alloc (.cells #[.slice none 0 0, .slice none 0 0, .slice none 0 0, .slice none 0 0, .int .i64 0, .int .i64 0, .int .i64 0] 26)).alloc (.cells #[.slice none 0 0, .slice none 0 0, .slice none 0 0, .slice none 0 0, .int .i64 el, .int .i64 en, .int .i64 es] 26)) = w0 at hb0 hs0 hr1 hr2 hr3 ⊢
  obtain ⟨x0, hx0⟩ : ∃ x0, w.heap.size = x0 := ⟨_, rfl⟩
  have HX0 := Lib.hid hx0
  obtain ⟨y, hy⟩ : ∃ y, x0 + 3 = y := ⟨_, rfl⟩
  have HY := Lib.hid hy
  obtain ⟨x1, hx1⟩ : ∃ x1, x0 + 1 = x1 := ⟨_, rfl⟩
  obtain ⟨x2, hx2⟩ : ∃ x2, x0 + 2 = x2 := ⟨_, rfl⟩
  have HX12 : Hid (x0 + 1 = x1 ∧ x0 + 2 = x2) := Lib.hid ⟨hx1, hx2⟩
  rw [hx0] at hr1 hr2 hr3 hb0 hs0
  rw [hx1] at hr1
  rw [hx2] at hr2
  rw [hy] at hr3
  rw [hx0]
  rw [show x0 + 1 + 1 + 1 = y by omega, show x0 + 1 + 1 = x2 by omega, hx1]
  have hn0 : Nxt y w0 (fun _ => .slice none 0 0) (pk L drop 0 0) el en es := by
    rw [pk_zero]
    exact ⟨hr3, fun k hk => by simpa [cs4] using World.ownsRow_nil _ _ _ _, fun i j _ _ _ g hg => by simp [Value.ownBlock] at hg, fun k hk m hm => by simp at hm⟩
  have HN0 := Lib.hid hn0
  have HB0 := Lib.hid hb0
  have HR1 := Lib.hid hr1
  have HR2 := Lib.hid hr2
  have HFW : Hid (∀ wr, Below y w0 wr → Fm wr b nf st ∧ Below w.heap.size w wr) := Lib.hid fun wr h => by
    have hb : Below w.heap.size w wr := by
      rw [HX0.out]
      exact HB0.out.trans (h.mono (by have := HY.out; omega))
    exact ⟨HF.out.below hb, hb⟩
  clear hn0 hb0 hr1 hr2 hr3 hs0 hx0 hy hx1 hx2
  go_loopw [25] (fun i wr => ∃ (k : Nat) (v : Nat → Value), k ≤ 4 ∧ i = .int .i64 k ∧ Nxt y wr v (pk L drop k 0) el en es ∧ Below y w0 wr) (fun i _ => 4 - (intOf i).toNat)
  case atStart => exact ⟨0, _, by omega, rfl, HN0.out, Below.refl _ _⟩
  case round =>
    obtain ⟨k, v, hk, rfl, hnx, hbw⟩ := hrel
    have HNX := Lib.hid hnx
    have HBW := Lib.hid hbw
    clear hnx hbw
    by_cases hk4 : k < 4
    · have hix := HIX.out k hk4
      have hlen := HV.out.len k hk4
      have HI4 := Lib.hid (HV.out.at_ k hk4)
      have hll : (lev k L).length ≤ 2000000 := Nat.le_trans (lev_len _ _) HLL.out
      have HPN : Hid (∀ j, (lev k L).length ≤ j → pk L drop k j = pk L drop (k + 1) 0) := Lib.hid fun j h => pk_next h
      have HSTK : Hid (∀ m ∈ lev k L, (st m.file = 1 ↔ keepB drop m = true)) := Lib.hid fun m hm => HST.out m (HMEM.out k m hm)
      obtain ⟨l, hl⟩ : ∃ l, lev k L = l := ⟨_, rfl⟩
      have HPK : Hid (∀ j (h : j < l.length), keepB drop l[j] = true → upd (pk L drop k j) k (pk L drop k j k ++ [l[j]]) = pk L drop k (j + 1)) := by
        subst hl; exact Lib.hid fun j h => pk_keep h
      have HPD : Hid (∀ j (h : j < l.length), keepB drop l[j] = false → pk L drop k j = pk L drop k (j + 1)) := by
        subst hl; exact Lib.hid fun j h => pk_drop h
      rw [hl] at hlen HI4 hll HPN HSTK
      obtain ⟨ak, hak⟩ : ∃ x, A k = x := ⟨_, rfl⟩
      obtain ⟨nk, hnk⟩ : ∃ x, N k = x := ⟨_, rfl⟩
      obtain ⟨ck, hck⟩ : ∃ x, C k = x := ⟨_, rfl⟩
      rw [hak, hnk, hck] at hix
      rw [hak] at HI4
      rw [hnk] at hlen
      have HLEN := Lib.hid hlen
      have hnb : nk ≤ 2000000 := by omega
      have hdk : decide ((k : Int) < 4) = true := by simp; omega
      clear hlen hl hak hnk hck hll
      go_wp2_with fail
      clear hdk
      go_loopw [31] (fun i wr => ∃ (j : Nat) (v : Nat → Value), j ≤ nk ∧ i = .int .i64 j ∧ Nxt y wr v (pk L drop k j) el en es ∧ Below y w0 wr) (fun i _ => nk - (intOf i).toNat)
      case atStart => exact ⟨0, _, by omega, rfl, HNX.out, HBW.out⟩
      case round =>
        obtain ⟨j, v2, hj, rfl, hnx, hbw⟩ := hrel
        by_cases hlt : j < nk
        · have hjl : j < l.length := by rw [← HLEN.out]; exact hlt
          obtain ⟨hfw, hbww⟩ := HFW.out wr hbw
          obtain ⟨c, off, hA, hbl, hc⟩ := (HI4.out.below hbww).at_ (by omega)
          obtain ⟨c0, c1, c2', c3⟩ := hc j hjl
          have HWF := Lib.hid (HI4.out.wf l[j] (List.getElem_mem hjl))
          have HS1 := Lib.hid (HSTK.out l[j] (List.getElem_mem hjl))
          have HPK1 := Lib.hid (HPK.out j hjl)
          have HPD1 := Lib.hid (HPD.out j hjl)
          obtain ⟨e, he⟩ : ∃ e, l[j] = e := ⟨_, rfl⟩
          rw [he] at c0 c1 c2' c3 HWF HS1 HPK1 HPD1
          have hal := (Below.refl wr.heap.size wr).alloc (Nat.le_refl _) (.cells #[.int .i64 e.file, .int .i64 e.size, .string e.lo, .string e.hi] 64)
          have HNA := Lib.hid (hnx.below hal)
          have HBA : Hid (Below y w0 (wr.alloc (.cells #[.int .i64 e.file, .int .i64 e.size, .string e.lo, .string e.hi] 64))) := Lib.hid (hbw.trans (hal.mono (Nat.le_of_lt hnx.lt)))
          have hlk := (hfw.below hal).look HWF.out.file
          have HTK : Hid (∀ W, Nxt y W v2 (pk L drop k j) el en es → Calls Try.prog 54 #[.pointer (some ⟨y, 0, none⟩), .int .i64 k, .agg #[.int .i64 e.file, .int .i64 e.size, .string e.lo, .string e.hi]] W fun r w' => r = .returned (.tuple #[]) ∧ Below y W w' ∧ ∃ x, Nxt y w' (upd v2 k x) (upd (pk L drop k j) k (pk L drop k j k ++ [e])) el en es) := Lib.hid fun W h => take_any h hk4 (Nat.le_trans (pk_len _ _ _ _ _) (by have := HLL.out; omega)) e HWF.out
          have hylt := hnx.lt
          obtain ⟨lv, q, g, s, t⟩ := e
          simp only at c0 c1 c2' c3 hlk HNA HBA HTK HS1
          obtain ⟨f, hf⟩ : ∃ f, st q = f := ⟨_, rfl⟩
          rw [hf] at hlk HS1
          subst hA
          clear hc he hf hal hnx hbw hfw hbww
          by_cases hf1 : f = 1
          · have hkb := HS1.out.1 hf1
            have HPK2 := Lib.hid (HPK1.out hkb)
            have e1 : (f == 1) = true := by simpa using hf1
            clear hkb hf1
            go_wp2_with fail
            refine (HTK.out _ HNA.out).mono ?_
            rintro r w3 ⟨rfl, hb3, x, hn3⟩
            have HN3 : Hid (Nxt y w3 (upd v2 k x) (pk L drop k (j + 1)) el en es) := Lib.hid (by rw [← HPK2.out]; exact hn3)
            have HB3 : Hid (Below y w0 w3) := Lib.hid (HBA.out.trans hb3)
            clear hb3 hn3
            go_wp2
            go_roundw
            case rel => exact ⟨j + 1, _, by omega, by go_num, HN3.out, HB3.out⟩
            case measure => simp [intOf]; omega
          · have hkb : keepB drop (⟨lv, q, g, s, t⟩ : M) = false := by
              cases h : keepB drop (⟨lv, q, g, s, t⟩ : M) with
              | false => rfl
              | true => exact absurd (HS1.out.2 h) hf1
            have HPD2 := Lib.hid (HPD1.out hkb)
            have e1 : (f == 1) = false := by simpa using hf1
            have HN3 : Hid (Nxt y (wr.alloc (.cells #[.int .i64 q, .int .i64 g, .string s, .string t] 64)) v2 (pk L drop k (j + 1)) el en es) := Lib.hid (by rw [← HPD2.out]; exact HNA.out)
            clear hkb hf1
            go_wp2
            go_roundw
            case rel => exact ⟨j + 1, _, by omega, by go_num, HN3.out, HBA.out⟩
            case measure => simp [intOf]; omega
        · obtain rfl : j = nk := by omega
          have hpn := HPN.out j (by rw [← HLEN.out]; exact Nat.le_refl _)
          rw [hpn] at hnx
          have HN3 := Lib.hid hnx
          have HB3 := Lib.hid hbw
          clear hnx hbw hpn
          go_wp2
          go_roundw
          case rel => exact ⟨k + 1, _, by omega, by go_num, HN3.out, HB3.out⟩
          case measure => simp [intOf]; omega
    · obtain rfl : k = 4 := by omega
      have HN1 : Hid (Nxt y wr v (qk L drop add 0) el en es) := Lib.hid (HNX.out.congr fun i hi => pk_four add hi)
      have e0 : wr.cell? ⟨x1, 0, none⟩ = some (.slice A2 n2 c2) := by
        have hlt : x1 < y := by have := HY.out; have := HX12.out.1; omega
        have := (HBW.out.block x1 hlt).trans HR1.out
        exact cell_of_row _ _ _ _ _ _ this
      have HBQ := HBW
      clear HNX hk4 hk HBW
      rw [show ((4 : Nat) : Int) = 4 from rfl]
      go_wp2_with fail
      go_loopw [48] (fun i wr => ∃ (j : Nat) (v : Nat → Value), j ≤ n2 ∧ i = .int .i64 j ∧ Nxt y wr v (qk L drop add j) el en es ∧ Below y w0 wr) (fun i _ => n2 - (intOf i).toNat)
      case atStart => exact ⟨0, _, by omega, rfl, HN1.out, HBQ.out⟩
      case round =>
        obtain ⟨j, v2, hj, rfl, hnx, hbw⟩ := hrel
        by_cases hlt : j < n2
        · have hjl : j < add.length := by rw [HN2.out]; exact hlt
          obtain ⟨hfw, hbww⟩ := HFW.out _ hbw
          obtain ⟨c, off, hA, hbl, hc⟩ := (HIN.out.below hbww).at_ (by omega)
          obtain ⟨c0, c1, c2', c3, c4⟩ := hc j hjl
          have HWF := Lib.hid (HIN.out.wf add[j] (List.getElem_mem hjl))
          have hlj := HLV.out add[j] (List.getElem_mem hjl)
          obtain ⟨k, hk⟩ := Int.eq_ofNat_of_zero_le hlj.1
          have hk4 : k < 4 := by omega
          have HQ := Lib.hid (qk_next (L := L) (drop := drop) hjl hk)
          obtain ⟨e, he⟩ : ∃ e, add[j] = e := ⟨_, rfl⟩
          rw [he] at c0 c1 c2' c3 c4 HWF HQ hk
          rw [hk] at c0
          have hal := (Below.refl wr.heap.size wr).alloc (Nat.le_refl _) (.cells #[.int .i64 k, .int .i64 e.file, .int .i64 e.size, .string e.lo, .string e.hi] 81)
          have HNA := Lib.hid (hnx.below hal)
          have HBA : Hid (Below y w0 (wr.alloc (.cells #[.int .i64 k, .int .i64 e.file, .int .i64 e.size, .string e.lo, .string e.hi] 81))) := Lib.hid (hbw.trans (hal.mono (Nat.le_of_lt hnx.lt)))
          have HTK : Hid (∀ W, Nxt y W v2 (qk L drop add j) el en es → Calls Try.prog 54 #[.pointer (some ⟨y, 0, none⟩), .int .i64 k, .agg #[.int .i64 e.file, .int .i64 e.size, .string e.lo, .string e.hi]] W fun r w' => r = .returned (.tuple #[]) ∧ Below y W w' ∧ ∃ x, Nxt y w' (upd v2 k x) (upd (qk L drop add j) k (qk L drop add j k ++ [e])) el en es) := Lib.hid fun W h => take_any h hk4 (Nat.le_trans (qk_len _ _ _ _ _) (by have := HLL.out; have := HN2.out; omega)) e HWF.out
          have hylt := hnx.lt
          obtain ⟨lv, q, g, s, t⟩ := e
          simp only at c0 c1 c2' c3 c4 HNA HBA HTK hk
          subst hA
          clear hc he hal hnx hbw hfw hbww hlj hk
          go_wp2_with fail
          refine (HTK.out _ HNA.out).mono ?_
          rintro r w3 ⟨rfl, hb3, x, hn3⟩
          have HN3 : Hid (Nxt y w3 (upd v2 k x) (qk L drop add (j + 1)) el en es) := Lib.hid (by rw [← HQ.out]; exact hn3)
          have HB3 : Hid (Below y w0 w3) := Lib.hid (HBA.out.trans hb3)
          clear hb3 hn3
          go_wp2
          go_roundw
          case rel => exact ⟨j + 1, _, by omega, by go_num, HN3.out, HB3.out⟩
          case measure => simp [intOf]; omega
        · obtain rfl : j = n2 := by omega
          have HQA : Hid (qk L drop add j = qk L drop add add.length) := Lib.hid (by rw [HN2.out])
          rw [HQA.out, HQQ.out] at hnx
          have HN3 := Lib.hid hnx
          have HB3 := Lib.hid hbw
          have y0 := hnx.cell (k := 0) (by omega)
          have y1 := hnx.cell (k := 1) (by omega)
          have y2 := hnx.cell (k := 2) (by omega)
          have y3 := hnx.cell (k := 3) (by omega)
          have HIV := Lib.hid (fun (k : Nat) (hk : k < 4) W => arr_indexV v2 hk W)
          clear hnx hbw HQA
          go_wp2_with fail
          go_loopw [60] (fun i wr => ∃ (k : Nat) (p : Nat → List M), k ≤ 4 ∧ i = .int .i64 k ∧ Nxt y wr v2 p el en es ∧ Hid (∀ i, i < 4 → (p i).Perm (Q i)) ∧ Hid (∀ i, i < k → weak (p i)) ∧ Below y w0 wr) (fun i _ => 4 - (intOf i).toNat)
          case atStart => exact ⟨0, _, by omega, rfl, HN3.out, Lib.hid (fun i _ => List.Perm.refl _), Lib.hid (fun i h => by omega), HB3.out⟩
          case round =>
            obtain ⟨k, p, hk, rfl, hnx, HPM, HWK, hbw⟩ := hrel
            by_cases hk4 : k < 4
            · have hiv := HIV.out k hk4
              have HOF := Lib.hid (fun W => orderOf_any k hk4 W)
              have hlp : (p k).length ≤ 4000000 := by have := (HPM.out k hk4).length_eq; have := HQL.out k; omega
              have HSF := Lib.hid (fun (W : World) h => sortlev_any k (y + 1) (v2 k) (p k).length (p k) W rfl (fun m hm => HQV.out k m ((HPM.out k hk4).subset hm)) h (by omega))
              have HNX2 := Lib.hid hnx
              have HB2 := Lib.hid hbw
              have hdk : decide ((k : Int) < 4) = true := by simp; omega
              have HK4 := Lib.hid hk4
              clear hnx hbw hlp
              go_wp2_with fail
              refine (HOF.out _).mono ?_
              rintro r w5 ⟨rfl, rfl⟩
              go_wp2_with fail
              refine (HSF.out _ (HNX2.out.own k HK4.out)).mono ?_
              rintro r w3 ⟨rfl, ⟨ts, hp, hw, ho⟩, hg⟩
              have HN4 : Hid (Nxt y w3 v2 (upd p k ts) el en es) := Lib.hid (HNX2.out.sorted HK4.out hp ho hg)
              have HB4 : Hid (Below y w0 w3) := Lib.hid (HB2.out.grown hg (by have := HB2.out.size; have := HNX2.out.lt; have := HN0.out.lt; omega) (fun r e => by have := ((HNX2.out.own k HK4.out).lt r e).1; omega))
              have HPM2 : Hid (∀ i, i < 4 → (upd p k ts i).Perm (Q i)) := Lib.hid fun i hi => by
                by_cases hik : i = k
                · subst hik; rw [upd_same]; exact hp.trans (HPM.out i hi)
                · rw [upd_other _ _ hik]; exact HPM.out i hi
              have HWK2 : Hid (∀ i, i < k + 1 → weak (upd p k ts i)) := Lib.hid fun i hi => by
                by_cases hik : i = k
                · subst hik; rw [upd_same]; exact hw
                · rw [upd_other _ _ hik]; exact HWK.out i (by omega)
              clear hp hw ho hg hdk
              go_wp2
              go_roundw
              case rel => exact ⟨k + 1, _, by omega, by go_num, HN4.out, HPM2, HWK2, HB4.out⟩
              case measure => simp [intOf]; omega
            · obtain rfl : k = 4 := by omega
              have HSL : Hid (∀ i, i < 4 → ∀ m ∈ p i, m.lvl = (i : Int)) := Lib.hid fun i hi m hm => HQV.out i m ((HPM.out i hi).subset hm)
              obtain ⟨A', N', C', hv, -, hnew⟩ := hnx.ver HSL.out
              have HNEW : Hid (∀ k, k < 4 → ∀ a, A' k = some a → w.heap.size ≤ a.block) := Lib.hid fun k hk a ha => by have := hnew k hk a ha; have := HX0.out; have := HY.out; omega
              have hrow := hnx.row
              rw [hv 0 (by omega), hv 1 (by omega), hv 2 (by omega), hv 3 (by omega)] at hrow
              have HVV : Hid (∀ W, Nxt y W v2 p el en es → VerIn W A' N' C' (p 0 ++ p 1 ++ p 2 ++ p 3)) := Lib.hid fun W h => h.ver2 HSL.out hv
              have hx2y : x2 < y := by have := HY.out; have := HX12.out.2; omega
              have hr2 := (hbw.block x2 hx2y).trans HR2.out
              have a0 : wr.cell? ⟨y, 0, none⟩ = some (.slice (A' 0) (N' 0) (C' 0)) := cell_of_row _ _ _ _ _ _ hrow
              have a1 : wr.cell? ⟨y, 1, none⟩ = some (.slice (A' 1) (N' 1) (C' 1)) := cell_of_row _ _ _ _ _ _ hrow
              have a2 : wr.cell? ⟨y, 2, none⟩ = some (.slice (A' 2) (N' 2) (C' 2)) := cell_of_row _ _ _ _ _ _ hrow
              have a3 : wr.cell? ⟨y, 3, none⟩ = some (.slice (A' 3) (N' 3) (C' 3)) := cell_of_row _ _ _ _ _ _ hrow
              have a4 : wr.cell? ⟨y, 4, none⟩ = some (.int .i64 el) := cell_of_row _ _ _ _ _ _ hrow
              have a5 : wr.cell? ⟨y, 5, none⟩ = some (.int .i64 en) := cell_of_row _ _ _ _ _ _ hrow
              have a6 : wr.cell? ⟨y, 6, none⟩ = some (.int .i64 es) := cell_of_row _ _ _ _ _ _ hrow
              have b0 : wr.cell? ⟨x2, 0, none⟩ = some (.slice none 0 0) := cell_of_row _ _ _ _ _ _ hr2
              have b1 : wr.cell? ⟨x2, 1, none⟩ = some (.slice none 0 0) := cell_of_row _ _ _ _ _ _ hr2
              have b2 : wr.cell? ⟨x2, 2, none⟩ = some (.slice none 0 0) := cell_of_row _ _ _ _ _ _ hr2
              have b3 : wr.cell? ⟨x2, 3, none⟩ = some (.slice none 0 0) := cell_of_row _ _ _ _ _ _ hr2
              have b4 : wr.cell? ⟨x2, 4, none⟩ = some (.int .i64 0) := cell_of_row _ _ _ _ _ _ hr2
              have b5 : wr.cell? ⟨x2, 5, none⟩ = some (.int .i64 0) := cell_of_row _ _ _ _ _ _ hr2
              have b6 : wr.cell? ⟨x2, 6, none⟩ = some (.int .i64 0) := cell_of_row _ _ _ _ _ _ hr2
              have f0 : wr.frozen? ⟨x2, 0, none⟩ = false := frozen_of_row _ _ _ _ _ hr2
              have f1 : wr.frozen? ⟨x2, 1, none⟩ = false := frozen_of_row _ _ _ _ _ hr2
              have f2 : wr.frozen? ⟨x2, 2, none⟩ = false := frozen_of_row _ _ _ _ _ hr2
              have f3 : wr.frozen? ⟨x2, 3, none⟩ = false := frozen_of_row _ _ _ _ _ hr2
              have f4 : wr.frozen? ⟨x2, 4, none⟩ = false := frozen_of_row _ _ _ _ _ hr2
              have f5 : wr.frozen? ⟨x2, 5, none⟩ = false := frozen_of_row _ _ _ _ _ hr2
              have f6 : wr.frozen? ⟨x2, 6, none⟩ = false := frozen_of_row _ _ _ _ _ hr2
              have HNS : Hid (∀ u0 u1 u2 u3 u4 u5 u6, Nxt y (((((((wr.setCell ⟨x2, 0, none⟩ u0).setCell ⟨x2, 1, none⟩ u1).setCell ⟨x2, 2, none⟩ u2).setCell ⟨x2, 3, none⟩ u3).setCell ⟨x2, 4, none⟩ u4).setCell ⟨x2, 5, none⟩ u5).setCell ⟨x2, 6, none⟩ u6) v2 p el en es) := Lib.hid fun u0 u1 u2 u3 u4 u5 u6 => ((((((hnx.set hx2y 0 u0).set hx2y 1 u1).set hx2y 2 u2).set hx2y 3 u3).set hx2y 4 u4).set hx2y 5 u5).set hx2y 6 u6
              have HBS : Hid (∀ u0 u1 u2 u3 u4 u5 u6, Below w.heap.size w (((((((wr.setCell ⟨x2, 0, none⟩ u0).setCell ⟨x2, 1, none⟩ u1).setCell ⟨x2, 2, none⟩ u2).setCell ⟨x2, 3, none⟩ u3).setCell ⟨x2, 4, none⟩ u4).setCell ⟨x2, 5, none⟩ u5).setCell ⟨x2, 6, none⟩ u6)) := Lib.hid fun u0 u1 u2 u3 u4 u5 u6 => by
                have hle : w.heap.size ≤ x2 := by have := HX0.out; have := HX12.out.2; omega
                exact ((((((((HFW.out wr hbw).2).setCell (p := ⟨x2, 0, none⟩) hle u0).setCell (p := ⟨x2, 1, none⟩) hle u1).setCell (p := ⟨x2, 2, none⟩) hle u2).setCell (p := ⟨x2, 3, none⟩) hle u3).setCell (p := ⟨x2, 4, none⟩) hle u4).setCell (p := ⟨x2, 5, none⟩) hle u5).setCell (p := ⟨x2, 6, none⟩) hle u6
              have HPW : Hid (∀ i, i < 4 → (p i).Perm (Q i) ∧ weak (p i)) := Lib.hid fun i hi => ⟨HPM.out i hi, HWK.out i hi⟩
              clear hnx hbw hv hrow hr2 hk hk4 hnew y0 y1 y2 y3 e0
              go_wp2
              exact bodyPost_ret (v := .agg #[.slice (A' 0) (N' 0) (C' 0), .slice (A' 1) (N' 1) (C' 1), .slice (A' 2) (N' 2) (C' 2), .slice (A' 3) (N' 3) (C' 3), .int .i64 el, .int .i64 en, .int .i64 es]) (by simp [results, Try.results30, go_sem, *]) rfl ⟨A', N', C', p, rfl, HPW.out, HVV.out _ (HNS.out _ _ _ _ _ _ _), HNEW.out, HBS.out _ _ _ _ _ _ _⟩
end Go.Proofs.Ytffdiiolgflbkaa

/- apart: has no table a key in common with another one of its level? -/
namespace Go.Proofs.Ytffdiiolgflbkaa
open Go.RowKit
open VS
attribute [local go_sem ↓] Go.wp_at_zero Go.wp_at_succ

namespace VS
/-- are levels i + 1 to 3 apart? -/
def ra (L : List M) : Nat → Bool
  | 0 => steps (lev 1 L) && (steps (lev 2 L) && steps (lev 3 L))
  | 1 => steps (lev 2 L) && steps (lev 3 L)
  | 2 => steps (lev 3 L)
  | _ => true
theorem ra_step (L : List M) {i : Nat} (h : i < 3) : ra L i = (steps (lev ((i + 1 : Nat) : Int) L) && ra L (i + 1)) := by
  rcases (by omega : i = 0 ∨ i = 1 ∨ i = 2) with rfl | rfl | rfl
  · rfl
  · rfl
  · show steps (lev 3 L) = (steps (lev 3 L) && true)
    rw [Bool.and_true]
theorem steps_drop {l : List M} {m : Nat} (h : m + 1 < l.length) : steps (l.drop m) = (lt l[m].hi l[m + 1].lo && steps (l.drop (m + 1))) := by
  rw [List.drop_eq_getElem_cons (show m < l.length by omega), List.drop_eq_getElem_cons h]
  rfl
theorem steps_end {l : List M} {m : Nat} (h : l.length ≤ m + 1) : steps (l.drop m) = true := by
  have hl : (l.drop m).length ≤ 1 := by rw [List.length_drop]; omega
  match h2 : l.drop m, hl with
  | [], _ => rfl
  | [a], _ => rfl
  | a :: b :: r, hl => simp at hl
end VS

theorem arr_tail (W : World) (x : Nat) (v : Nat → Value) (a b c : Value) (h : W.heap[x]? = some (.cells #[v 0, v 1, v 2, v 3, a, b, c] 26 (0, 0))) {i : Nat} (hi : i < 3) : W.cell? ⟨x, 1 + i, none⟩ = some (v (i + 1)) := by
  rcases (by omega : i = 0 ∨ i = 1 ∨ i = 2) with rfl | rfl | rfl <;> simp [World.cell?, h]

set_option maxRecDepth 100000 in
set_option maxHeartbeats 4000000 in
theorem apart_any (A : Nat → Option Addr) (N C : Nat → Nat) (L : List M) (lg nx sq : Int) (w : World) (h : VerIn w A N C L) (hL : L.length ≤ 10000000) :
    Calls Try.prog 31 #[.agg #[.slice (A 0) (N 0) (C 0), .slice (A 1) (N 1) (C 1), .slice (A 2) (N 2) (C 2), .slice (A 3) (N 3) (C 3), .int .i64 lg, .int .i64 nx, .int .i64 sq]] w fun r w' => r = .returned (.bool (ra L 0)) ∧ Below w.heap.size w w' := by
  have HV := Lib.hid h
  have HLL := Lib.hid hL
  have HRA := Lib.hid (fun (i : Nat) (hi : i < 3) => ra_step L hi)
  have HR0 : Hid (ra L 3 = true) := Lib.hid rfl
  obtain ⟨R, hR⟩ : ∃ R, ra L 0 = R := ⟨_, rfl⟩
  rw [hR]
  have HR := Lib.hid hR
  have hal := (Below.refl w.heap.size w).alloc (Nat.le_refl _) (.cells #[.slice (A 0) (N 0) (C 0), .slice (A 1) (N 1) (C 1), .slice (A 2) (N 2) (C 2), .slice (A 3) (N 3) (C 3), .int .i64 lg, .int .i64 nx, .int .i64 sq] 26)
  have hrow := heap_alloc_new w (.cells #[.slice (A 0) (N 0) (C 0), .slice (A 1) (N 1) (C 1), .slice (A 2) (N 2) (C 2), .slice (A 3) (N 3) (C 3), .int .i64 lg, .int .i64 nx, .int .i64 sq] 26)
  have HCE : Hid (∀ W, Below (w.heap.size + 1) (w.alloc (.cells #[.slice (A 0) (N 0) (C 0), .slice (A 1) (N 1) (C 1), .slice (A 2) (N 2) (C 2), .slice (A 3) (N 3) (C 3), .int .i64 lg, .int .i64 nx, .int .i64 sq] 26)) W → ∀ i, i < 3 → W.cell? ⟨w.heap.size, 1 + i, none⟩ = some (.slice (A (i + 1)) (N (i + 1)) (C (i + 1)))) := Lib.hid fun W hW i hi =>
    arr_tail W w.heap.size (fun k => Value.slice (A k) (N k) (C k)) _ _ _ ((hW.block _ (by omega)).trans hrow) hi
  clear h hL hR hrow
  go_enter Try.func31, Try.ntmps31
  go_wp2
  generalize w.alloc (.cells #[.slice (A 0) (N 0) (C 0), .slice (A 1) (N 1) (C 1), .slice (A 2) (N 2) (C 2), .slice (A 3) (N 3) (C 3), .int .i64 lg, .int .i64 nx, .int .i64 sq] 26) = w0 at hal HCE ⊢
  have HAL := Lib.hid hal
  obtain ⟨x, hx⟩ : ∃ x, w.heap.size = x := ⟨_, rfl⟩
  have HX := Lib.hid hx
  rw [hx] at HCE ⊢
  have HALX : Hid (Below x w w0) := Lib.hid (by rw [← hx]; exact hal)
  clear hal hx
  go_loopw [9] (fun i wr => ∃ k : Nat, k ≤ 3 ∧ i = .int .i64 k ∧ Below (x + 1) w0 wr ∧ Hid (ra L k = R)) (fun i _ => 3 - (intOf i).toNat)
  case atStart => exact ⟨0, by omega, rfl, Below.refl _ _, HR⟩
  case round =>
    obtain ⟨k, hk, rfl, hbw, HRK⟩ := hrel
    have hbx : Below w.heap.size w wr := by rw [HX.out]; exact HALX.out.trans (hbw.mono (by omega))
    have HBX := Lib.hid hbx
    have HBW := Lib.hid hbw
    by_cases hk3 : k < 3
    · have hce := HCE.out wr hbw k hk3
      have hra := HRA.out k hk3
      rw [HRK.out] at hra
      have hlen := HV.out.len (k + 1) (by omega)
      have HI4 := Lib.hid (HV.out.at_ (k + 1) (by omega))
      have hll : (lev ((k + 1 : Nat) : Int) L).length ≤ 10000000 := Nat.le_trans (lev_len _ _) HLL.out
      obtain ⟨l, hl⟩ : ∃ l, lev ((k + 1 : Nat) : Int) L = l := ⟨_, rfl⟩
      rw [hl] at hra hlen HI4 hll
      obtain ⟨ak, hak⟩ : ∃ z, A (k + 1) = z := ⟨_, rfl⟩
      obtain ⟨nk, hnk⟩ : ∃ z, N (k + 1) = z := ⟨_, rfl⟩
      obtain ⟨ck, hck⟩ : ∃ z, C (k + 1) = z := ⟨_, rfl⟩
      rw [hak, hnk, hck] at hce
      rw [hak] at HI4
      rw [hnk] at hlen
      have hnb : nk ≤ 10000000 := by omega
      have HLEN := Lib.hid hlen
      have HRS := Lib.hid hra
      have hdk : decide ((k : Int) < 3) = true := by simp; omega
      have g0 : (0 : Int) ≤ (k : Int) := by omega
      have g1 : (k : Int) < 3 := by omega
      clear hlen hra hl hak hnk hck hll hbw hbx
      go_wp2_with fail
      go_loopw [5] (fun i wr => ∃ m : Nat, (m = 0 ∨ m + 1 ≤ nk) ∧ i = .int .i64 ((m + 1 : Nat) : Int) ∧ Below (x + 1) w0 wr ∧ Hid (R = (steps (l.drop m) && ra L (k + 1)))) (fun i _ => nk + 1 - (intOf i).toNat)
      case atStart => exact ⟨0, by omega, rfl, HBW.out, Lib.hid HRS.out⟩
      case round =>
        obtain ⟨m, hm, rfl, hbw, HRM⟩ := hrel
        obtain ⟨j, hj⟩ : ∃ j, m + 1 = j := ⟨_, rfl⟩
        rw [hj]
        have HJ := Lib.hid hj
        have hbx : Below w.heap.size w wr := by rw [HX.out]; exact HALX.out.trans (hbw.mono (by omega))
        have HBW2 := Lib.hid hbw
        by_cases hlt : j < nk
        · have hjl : j < l.length := by rw [← HLEN.out]; exact hlt
          have hml : m < l.length := by omega
          obtain ⟨cb, off, hA, hbl, hc⟩ := (HI4.out.below hbx).at_ (by omega)
          obtain ⟨-, -, c2, -⟩ := hc j hjl
          obtain ⟨-, -, -, c3⟩ := hc m hml
          have hsd := steps_drop (l := l) (m := m) (by omega)
          have hrm := HRM.out
          rw [hsd] at hrm
          simp only [hj] at hrm
          obtain ⟨e1, he1⟩ : ∃ e, l[j].lo = e := ⟨_, rfl⟩
          obtain ⟨e2, he2⟩ : ∃ e, l[m].hi = e := ⟨_, rfl⟩
          rw [he1] at c2 hrm
          rw [he2] at c3 hrm
          have hlq := text_leq e1 e2
          have hw1 : IntKind.i64.wrap ((j : Int) - 1) = (m : Int) := by rw [IntKind.wrap_i64]; omega
          have i0 : (0 : Int) ≤ (m : Int) := by omega
          have i1 : (m : Int) < (nk : Int) := by omega
          have i2 : (0 : Int) ≤ (j : Int) := by omega
          have i3 : (j : Int) < (nk : Int) := by omega
          subst hA
          have hjb : j ≤ 10000000 := by omega
          clear hc hsd he1 he2 hbw hbx hml hj hm hjl hce
          cases hlt2 : lt e2 e1 with
          | true =>
            rw [hlt2] at hlq hrm
            have hlq2 : (Op.bytesLess e1.toList e2.toList || e1.toList == e2.toList) = false := hlq
            have HRM2 : Hid (R = (steps (l.drop j) && ra L (k + 1))) := Lib.hid (by rw [hrm, Bool.true_and])
            clear hlq hrm hlt2
            go_wp2_with fail
            go_quiet (fail)
            have HB9 : Hid (Below (x + 1) w0 (wr.drewN nq)) := Lib.hid (below_drewN HBW2.out nq)
            go_wp2
            go_roundw
            case rel => exact ⟨j, by omega, by go_num, HB9.out, HRM2⟩
            case measure => simp [intOf]; omega
          | false =>
            rw [hlt2] at hlq hrm
            have hlq2 : (Op.bytesLess e1.toList e2.toList || e1.toList == e2.toList) = true := hlq
            have HRM2 : Hid (false = R) := Lib.hid (by rw [hrm, Bool.false_and, Bool.false_and])
            clear hlq hrm hlt2
            go_wp2_with fail
            go_quiet (fail)
            have HB9 : Hid (Below w.heap.size w (wr.drewN nq)) := Lib.hid (by rw [HX.out]; exact HALX.out.trans ((below_drewN HBW2.out nq).mono (by omega)))
            go_wp2
            go_ret
            exact ⟨by rw [← HRM2.out]; rfl, HB9.out⟩
        · have HRM2 : Hid (ra L (k + 1) = R) := Lib.hid (by rw [HRM.out, steps_end (by have := HLEN.out; omega), Bool.true_and])
          clear hbw hbx hm hj hce
          go_wp2
          go_roundw
          case rel => exact ⟨k + 1, by omega, by go_num, HBW2.out, HRM2⟩
          case measure => simp [intOf]; omega
    · obtain rfl : k = 3 := by omega
      have HRE : Hid (true = R) := Lib.hid (by rw [← HRK.out]; exact HR0.out.symm)
      clear hbw hbx
      go_wp2
      go_ret
      exact ⟨by rw [← HRE.out]; rfl, HBX.out⟩
end Go.Proofs.Ytffdiiolgflbkaa

/- Apply's mathematics: what the program comes to is the document's. -/
namespace Go.Proofs.Ytffdiiolgflbkaa
open Go.RowKit
open VS

namespace VS
theorem made_perm {v : V} (hv : Ok v) {e : Ed} (hn : v.next ≤ e.next) (h3 : addOk e.next (files v.L) [] e.add = true) {S : Nat → List M} (hS : ∀ i, i < 4 → (S i).Perm (qk v.L e.drop e.add e.add.length i) ∧ weak (S i)) :
    (S 0 ++ S 1 ++ S 2 ++ S 3).Perm (kept v e ++ e.add) ∧ weak (S 0 ++ S 1 ++ S 2 ++ S 3) ∧ (ra (S 0 ++ S 1 ++ S 2 ++ S 3) 0 = true ↔ apart (S 0 ++ S 1 ++ S 2 ++ S 3)) := by
  have hq : ∀ i : Nat, qk v.L e.drop e.add e.add.length i = lev i (kept v e ++ e.add) := fun i => qk_all _ _ _ _
  have hlv : ∀ i, i < 4 → ∀ m ∈ S i, m.lvl = (i : Int) := fun i hi m hm => qk_lvl m ((hS i hi).1.subset hm)
  have hf : ∀ m ∈ kept v e ++ e.add, fine e.next m = true := made_fine hv hn h3
  have hp : (S 0 ++ S 1 ++ S 2 ++ S 3).Perm (kept v e ++ e.add) := by
    refine List.Perm.trans ?_ (levs_perm fun m hm => ⟨(fine_num (hf m hm)).1, (fine_num (hf m hm)).2.1⟩)
    have h0 := (hS 0 (by omega)).1
    have h1 := (hS 1 (by omega)).1
    have h2 := (hS 2 (by omega)).1
    have h3 := (hS 3 (by omega)).1
    rw [hq] at h0 h1 h2 h3
    exact ((h0.append h1).append h2).append h3
  refine ⟨hp, levs_weak (hlv 0 (by omega)) (hlv 1 (by omega)) (hlv 2 (by omega)) (hlv 3 (by omega)) (hS 0 (by omega)).2 (hS 1 (by omega)).2 (hS 2 (by omega)).2 (hS 3 (by omega)).2, ?_⟩
  have hlo : ∀ i, i < 4 → ∀ m ∈ S i, m.lvl = (i : Int) ∧ lt m.hi m.lo = false := fun i hi m hm => ⟨hlv i hi m hm, fine_lo (hf m (hp.subset (by
    rcases (by omega : i = 0 ∨ i = 1 ∨ i = 2 ∨ i = 3) with rfl | rfl | rfl | rfl <;> simp [hm])))⟩
  have e1 : lev 1 (S 0 ++ S 1 ++ S 2 ++ S 3) = S 1 := lev_of hlv (k := 1) (by omega)
  have e2 : lev 2 (S 0 ++ S 1 ++ S 2 ++ S 3) = S 2 := lev_of hlv (k := 2) (by omega)
  have e3 : lev 3 (S 0 ++ S 1 ++ S 2 ++ S 3) = S 3 := lev_of hlv (k := 3) (by omega)
  rw [levs_apart (hlv 0 (by omega)) (hlv 1 (by omega)) (hlv 2 (by omega)) (hlv 3 (by omega))]
  simp only [ra, e1, e2, e3, Bool.and_eq_true]
  rw [steps_apart (i := 1) (by omega) (hlo 1 (by omega)) (hS 1 (by omega)).2, steps_apart (i := 2) (by omega) (hlo 2 (by omega)) (hS 2 (by omega)).2, steps_apart (i := 3) (by omega) (hlo 3 (by omega)) (hS 3 (by omega)).2]

/-- the end of Apply -/
theorem made_end {v : V} (hv : Ok v) {e : Ed} (h1 : headOk v e = true) (h2 : dropOk (files v.L) [] e.drop = true) (h3 : addOk e.next (files v.L) [] e.add = true) {S : Nat → List M} (hS : ∀ i, i < 4 → (S i).Perm (qk v.L e.drop e.add e.add.length i) ∧ weak (S i)) :
    (ra (S 0 ++ S 1 ++ S 2 ++ S 3) 0 = true → apply v e = (⟨S 0 ++ S 1 ++ S 2 ++ S 3, e.log, e.next, e.seq⟩, 0)) ∧ (ra (S 0 ++ S 1 ++ S 2 ++ S 3) 0 = false → apply v e = (V.none, 17)) := by
  have hn := (headOk_num h1).2.1
  obtain ⟨hp, hw, hr⟩ := made_perm hv hn h3 hS
  obtain ⟨ha, hb⟩ := prog_doc hv hn h3 hp hw
  refine ⟨fun h => ?_, fun h => ?_⟩
  · have hap := hr.1 h
    have hg : good v e = true := by
      simp only [good, h1, h2, h3, Bool.true_and, decide_eq_true_eq]
      exact ha.1 hap
    unfold apply
    rw [if_pos hg, hb hap]
  · have hg : good v e = false := by
      simp only [good, h1, h2, h3, Bool.true_and, decide_eq_false_iff_not]
      intro hx
      have := hr.2 (ha.2 hx)
      rw [h] at this; cases this
    unfold apply
    rw [if_neg (by rw [hg]; simp)]

theorem apply_bad1 {v : V} {e : Ed} (h : headOk v e = false) : apply v e = (V.none, 17) := by
  unfold apply; rw [if_neg (by simp [good, h])]
theorem apply_bad2 {v : V} {e : Ed} (h : dropOk (files v.L) [] e.drop = false) : apply v e = (V.none, 17) := by
  unfold apply; rw [if_neg (by simp [good, h])]
theorem apply_bad3 {v : V} {e : Ed} (h : addOk e.next (files v.L) [] e.add = false) : apply v e = (V.none, 17) := by
  unfold apply; rw [if_neg (by simp [good, h])]

theorem made_len {v : V} (hv : Ok v) {e : Ed} (hn : v.next ≤ e.next) (h3 : addOk e.next (files v.L) [] e.add = true) {S : Nat → List M} (hS : ∀ i, i < 4 → (S i).Perm (qk v.L e.drop e.add e.add.length i) ∧ weak (S i)) : (S 0 ++ S 1 ++ S 2 ++ S 3).length ≤ v.L.length + e.add.length := by
  rw [(made_perm hv hn h3 hS).1.length_eq, List.length_append]
  have : (kept v e).length ≤ v.L.length := List.length_filter_le _ _
  omega
theorem apply_len (v : V) (e : Ed) : (apply v e).1.L.length ≤ v.L.length + e.add.length := by
  unfold apply
  split
  · rw [(behind_perm v e).length_eq, List.length_append]
    have : (kept v e).length ≤ v.L.length := List.length_filter_le _ _
    omega
  · simp [V.none]
end VS
end Go.Proofs.Ytffdiiolgflbkaa

