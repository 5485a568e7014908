/- What Put does to a list in memory. No walk. -/
import Derived.Test.YtgnlhnfjanoahaaNw
namespace Go.Proofs.Ytgnlhnfjanoahaa
open Go.RowKit
open SK

theorem Rep.split {B : Nat} {w : World} {a hb : Nat} {cs : List Int} {l : List ND} {s : St} (h : Rep B w a hb cs l s) (ok : Sorted s.l) (e : E) :
    ∃ pre post, l = pre ++ post ∧ (∀ d ∈ pre, less d.e e = true) ∧ (∀ d ∈ post, less d.e e = false) ∧ pre.map (·.e) = front e s.l ∧ post.map (·.e) = rest e s.l := by
  have h1 : l.map (·.e) = front e s.l ++ rest e s.l := by rw [front_rest]; exact h.ents
  obtain ⟨l1, l2, hl, h2, h3⟩ := List.map_eq_append_iff.1 h1
  refine ⟨l1, l2, hl, fun d hd => front_less (e := e) (l := s.l) d.e (by rw [← h2]; exact List.mem_map_of_mem hd), fun d hd => rest_not ok d.e (by rw [← h3]; exact List.mem_map_of_mem hd), h2, h3⟩

theorem Mid.cells {B : Nat} {w : World} {a hb : Nat} {cs : List Int} {l : List ND} {c : Nat} {z : Int} (h : Mid B w a hb cs l c z) (j : Nat) : w.cell? ⟨a, j, none⟩ = (hcells hb cs.length (fun f => nx f l) c z)[j]? := cell_of_row _ _ _ _ _ _ h.head
theorem Mid.frozen {B : Nat} {w : World} {a hb : Nat} {cs : List Int} {l : List ND} {c : Nat} {z : Int} (h : Mid B w a hb cs l c z) (j : Nat) : w.frozen? ⟨a, j, none⟩ = false := frozen_of_row _ _ _ _ _ h.head

theorem Mid.setHead {B : Nat} {w : World} {a hb : Nat} {cs : List Int} {l : List ND} {c : Nat} {z : Int} (h : Mid B w a hb cs l c z) {c' : Nat} {z' : Int} {j : Nat} {v : Value}
    (hv : (hcells hb cs.length (fun f => nx f l) c z).setIfInBounds j v = hcells hb cs.length (fun f => nx f l) c' z') : Mid B (w.setCell ⟨a, j, none⟩ v) a hb cs l c' z' := by
  have hnd := h.nodup
  simp only [List.nodup_cons, List.mem_cons, not_or] at hnd
  obtain ⟨hc, h1, h2, h3⟩ := h.coins
  have hne : ∀ x, x ≠ a → (w.setCell ⟨a, j, none⟩ v).heap[x]? = w.heap[x]? := fun x e => Below.heap_setCell _ _ _ _ e
  refine ⟨by rw [heap_set_fr h.head, hv], ⟨hc, (hne hb (Ne.symm hnd.1.1)).trans h1, h2, h3⟩, h.chain.stays fun x hx => hne x (fun e => hnd.1.2 (e ▸ hx)), h.nodup, fun x hx => by rw [setCell_size]; exact h.lo x hx⟩
theorem Mid.setSize {B : Nat} {w : World} {a hb : Nat} {cs : List Int} {l : List ND} {c : Nat} {z : Int} (h : Mid B w a hb cs l c z) (z' : Int) : Mid B (w.setCell ⟨a, 10, none⟩ (.int .i64 z')) a hb cs l c z' := h.setHead rfl
theorem Mid.setCount {B : Nat} {w : World} {a hb : Nat} {cs : List Int} {l : List ND} {c : Nat} {z : Int} (h : Mid B w a hb cs l c z) (c' : Nat) : Mid B (w.setCell ⟨a, 9, none⟩ (.int .i64 c')) a hb cs l c' z := h.setHead rfl

/-- the world with a new node: its tower at block t, itself behind it -/
def nodeW (w : World) (e : E) (H : Nat) : World := (w.alloc (.cells (madeCells #[.pointer none] H) 57)).alloc (.cells #[.string e.key, .int .i64 e.seq, .bool e.gone, .string e.value, .int .i64 e.til, .slice (some ⟨w.heap.size, 0, none⟩) H H] 62)

theorem nodeW_below (w : World) (e : E) (H : Nat) : Below w.heap.size w (nodeW w e H) := ((Below.refl _ w).alloc (Nat.le_refl _) _).alloc (by simp) _
theorem nodeW_size (w : World) (e : E) (H : Nat) : (nodeW w e H).heap.size = w.heap.size + 2 := by simp [nodeW]

theorem Mid.fresh {B : Nat} {w : World} {a hb : Nat} {cs : List Int} {pre post : List ND} {c : Nat} {z : Int} (h : Mid B w a hb cs (pre ++ post) c z) (hB : B ≤ w.heap.size) (e : E) (H : Nat) :
    Mid B (nodeW w e H) a hb cs (pre ++ ⟨w.heap.size + 1, w.heap.size, 0, H, e⟩ :: post) c z := by
  have hm := h.below (nodeW_below w e H)
  have hN : NodeAt (nodeW w e H) ⟨w.heap.size + 1, w.heap.size, 0, H, e⟩ (fun _ => none) := by
    refine ⟨?_, Nat.zero_le _, madeCells #[.pointer none] H, ?_, by simp [size_madeCells], fun f hf => absurd hf (Nat.not_lt_zero _)⟩
    · have := heap_alloc_new (w.alloc (.cells (madeCells #[.pointer none] H) 57)) (.cells #[.string e.key, .int .i64 e.seq, .bool e.gone, .string e.value, .int .i64 e.til, .slice (some ⟨w.heap.size, 0, none⟩) H H] 62)
      simpa [nodeW, ncells] using this
    · show (nodeW w e H).heap[w.heap.size]? = _
      unfold nodeW
      rw [Below.heap_alloc _ _ _ (by simp)]
      exact heap_alloc_new w _
  have hnx : ∀ f (p q : List ND), nx f (p ++ ⟨w.heap.size + 1, w.heap.size, 0, H, e⟩ :: q) = nx f (p ++ q) := by
    intro f p q
    induction p with
    | nil => simp [nx]
    | cons x p ih => simp only [List.cons_append, nx, ih]
  refine ⟨?_, hm.coins, hm.chain.fresh rfl hN, ?_, fun x hx => ?_⟩
  · have := hm.head
    simp only [hnx]
    exact this
  · have hlt : ∀ x ∈ a :: hb :: blks (pre ++ post), x < w.heap.size := fun x hx => (h.lo x hx).2
    have hnd := h.nodup
    have hp : (a :: hb :: blks (pre ++ ⟨w.heap.size + 1, w.heap.size, 0, H, e⟩ :: post)).Perm ((w.heap.size + 1) :: w.heap.size :: a :: hb :: blks (pre ++ post)) := by
      rw [blks_app, blks_cons, blks_app]
      simp only
      refine (List.perm_append_comm_assoc (a :: hb :: blks pre) [w.heap.size + 1, w.heap.size] (blks post)).trans ?_
      exact List.Perm.refl _
    refine hp.nodup_iff.2 (List.nodup_cons.2 ⟨?_, List.nodup_cons.2 ⟨fun hx => by have := hlt _ hx; omega, hnd⟩⟩)
    intro hx
    rcases List.mem_cons.1 hx with h | hx
    · omega
    · have := hlt _ hx; omega
  · rw [nodeW_size]
    have hx' : x = w.heap.size + 1 ∨ x = w.heap.size ∨ x ∈ a :: hb :: blks (pre ++ post) := by
      rw [blks_app, blks_cons] at hx
      rw [blks_app]
      simp only [List.mem_cons, List.mem_append] at hx ⊢
      rcases hx with h | h | h | h | h | h
      · exact .inr (.inr (.inl h))
      · exact .inr (.inr (.inr (.inl h)))
      · exact .inr (.inr (.inr (.inr (.inl h))))
      · exact .inl h
      · exact .inr (.inl h)
      · exact .inr (.inr (.inr (.inr (.inr h))))
    rcases hx' with rfl | rfl | hx
    · omega
    · omega
    · have := h.lo x hx; omega

theorem make_tower (w : World) (n : Nat) (h : n ≤ 8) : (Instr.makeSlice 60 (.int .i64 (n : Int)) (.int .i64 (n : Int))).run Try.prog w = .ok (.slice (some ⟨w.heap.size, 0, none⟩) n n) (w.alloc (.cells (madeCells #[.pointer none] n) 57)) := by
  have hinf : (Try.prog.info? 57).map (fun i => (i.zero, i.size, i.bytes)) = some (some (.pointer none), 1, 8) := by kernel_rfl
  obtain ⟨i0, hi, hz0, hz1, hz2⟩ := info_parts hinf
  have h := run_make (P := Try.prog) w 60 57 i0 (.pointer none) Try.underlying60 hi hz0 .i64 .i64 (n : Int) (n : Int) (by omega) (Int.le_refl _) (by rw [hz2]; omega) (by omega)
  rw [Int.toNat_natCast] at h
  simpa [hz1, Value.cells] using h

/-- the entries behind a put -/
theorem put_rep {B : Nat} {w : World} {a hb : Nat} {cs : List Int} {pre post : List ND} {n : ND} {s : St} {z : Int} (h : Mid B w a hb cs (pre ++ n :: post) (s.l.length + 1) z) (hfull : ∀ d ∈ pre ++ post, d.h = d.c ∧ 1 ≤ d.h ∧ d.h ≤ 8)
    (hn : n.h = n.c ∧ 1 ≤ n.h ∧ n.h ≤ 8) (h1 : pre.map (·.e) = front n.e s.l) (h2 : post.map (·.e) = rest n.e s.l) : Rep B w a hb cs (pre ++ n :: post) ⟨front n.e s.l ++ n.e :: rest n.e s.l, z⟩ := by
  have hlen : (front n.e s.l ++ n.e :: rest n.e s.l).length = s.l.length + 1 := by
    have := congrArg List.length (front_rest n.e s.l)
    simp at *; omega
  refine ⟨by simp only [hlen]; exact h.head, h.coins, h.chain, by simp [h1, h2], fun d hd => ?_, h.nodup, h.lo⟩
  rcases List.mem_append.1 hd with hd | hd
  · exact hfull d (List.mem_append_left _ hd)
  · rcases List.mem_cons.1 hd with rfl | hd
    · exact hn
    · exact hfull d (List.mem_append_right _ hd)
end Go.Proofs.Ytgnlhnfjanoahaa
