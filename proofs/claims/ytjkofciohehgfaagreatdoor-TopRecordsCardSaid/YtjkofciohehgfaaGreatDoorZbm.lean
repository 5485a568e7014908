/- Texts joined by bundle.py: YMHp, YMHl. -/
import Derived.Test.YtjkofciohehgfaaGreatDoorZbk
import Derived.Test.YtjkofciohehgfaaGreatDoorZbl
import Derived.BigRegion
import Derived.Deep.QuietTactic

/- A heap of sources in memory. -/
namespace Go.Proofs.YtjkofciohehgfaaGreatDoor.L13
open Go.RowKit
open SK HP

def ptrS (s : Src) : Value := .pointer (some ⟨s.b, 0, none⟩)
def objS (s : Src) : Obj := .cells #[.slice s.A s.left.length s.c, .int .i64 s.place] 155 (0, 0)
def srcTy (t : TypeId) : Prop := t = 152 ∨ t = 153 ∨ t = 155
instance (t : TypeId) : Decidable (srcTy t) := by unfold srcTy; infer_instance
def isSrc (o : Obj) : Prop := ∃ cs ty fr, o = .cells cs ty fr ∧ srcTy ty

/-- all that is no part of a heap stays -/
structure Kp (B : Nat) (w w' : World) : Prop where
  os : w'.os = w.os
  tape : w'.tape = w.tape
  output : w'.output = w.output
  size : w.heap.size ≤ w'.heap.size
  block : ∀ (k : Nat) (o : Obj), w.heap[k]? = some o → (k < B ∨ ¬ isSrc o) → w'.heap[k]? = some o

/-- all that is a part of a heap stays, and what is below B -/
structure Ks (B : Nat) (w w' : World) : Prop where
  os : w'.os = w.os
  tape : w'.tape = w.tape
  output : w'.output = w.output
  size : w.heap.size ≤ w'.heap.size
  block : ∀ (k : Nat) (o : Obj), w.heap[k]? = some o → (k < B ∨ isSrc o) → w'.heap[k]? = some o

section
variable {B : Nat} {w w' a b c : World}
theorem Kp.refl (w : World) : Kp B w w := ⟨rfl, rfl, rfl, Nat.le_refl _, fun _ _ h _ => h⟩
theorem Ks.refl (w : World) : Ks B w w := ⟨rfl, rfl, rfl, Nat.le_refl _, fun _ _ h _ => h⟩
theorem Kp.trans (h : Kp B a b) (k : Kp B b c) : Kp B a c := ⟨k.os.trans h.os, k.tape.trans h.tape, k.output.trans h.output, Nat.le_trans h.size k.size, fun x _ hx hn => k.block x _ (h.block x _ hx hn) hn⟩
theorem Ks.trans (h : Ks B a b) (k : Ks B b c) : Ks B a c := ⟨k.os.trans h.os, k.tape.trans h.tape, k.output.trans h.output, Nat.le_trans h.size k.size, fun x _ hx hn => k.block x _ (h.block x _ hx hn) hn⟩
theorem lt_of_at {w : World} {k : Nat} {o : Obj} (h : w.heap[k]? = some o) : k < w.heap.size := (Array.getElem?_eq_some_iff.1 h).1
theorem Kp.of (h : Below w.heap.size w w') : Kp B w w' := ⟨h.os, h.tape, h.output, h.size, fun k _ hk _ => (h.block k (lt_of_at hk)).trans hk⟩
theorem Ks.of (h : Below w.heap.size w w') : Ks B w w' := ⟨h.os, h.tape, h.output, h.size, fun k _ hk _ => (h.block k (lt_of_at hk)).trans hk⟩
theorem Kp.below (h : Kp B w w') (hB : B ≤ w.heap.size) : Below B w w' := ⟨h.os, h.tape, h.output, h.size, fun k hk => by
  have hk' : k < w.heap.size := by omega
  rw [Array.getElem?_eq_getElem hk']
  exact h.block k _ (Array.getElem?_eq_getElem hk') (.inl hk)⟩
theorem Ks.below (h : Ks B w w') (hB : B ≤ w.heap.size) : Below B w w' := ⟨h.os, h.tape, h.output, h.size, fun k hk => by
  have hk' : k < w.heap.size := by omega
  rw [Array.getElem?_eq_getElem hk']
  exact h.block k _ (Array.getElem?_eq_getElem hk') (.inl hk)⟩
theorem Kp.drew (h : Kp B a b) : Kp B a b.drew := ⟨h.os, h.tape, h.output, h.size, h.block⟩
theorem Ks.drew (h : Ks B a b) : Ks B a b.drew := ⟨h.os, h.tape, h.output, h.size, h.block⟩
theorem Kp.grown (g : Nat) (h : w.grownBy w' (some g)) (hB : B ≤ g) {o : Obj} (hg : w.heap[g]? = some o) (ho : isSrc o) : Kp B w w' :=
  ⟨h.os, h.tape, h.output, h.size, fun k x hk hn => (h.block k (lt_of_at hk) (fun e => by
    injection e with e
    subst e
    rw [hk] at hg
    injection hg with hg
    subst hg
    rcases hn with hn | hn
    · omega
    · exact hn ho)).trans hk⟩
theorem Ks.grown (g : Nat) (h : w.grownBy w' (some g)) (hB : B ≤ g) (hg : ∀ o, w.heap[g]? = some o → ¬ isSrc o) : Ks B w w' :=
  ⟨h.os, h.tape, h.output, h.size, fun k x hk hn => (h.block k (lt_of_at hk) (fun e => by
    injection e with e
    subst e
    rcases hn with hn | hn
    · omega
    · exact hg _ hk hn)).trans hk⟩
theorem Ks.grown0 (h : w.grownBy w' none) : Ks B w w' := ⟨h.os, h.tape, h.output, h.size, fun k x hk _ => (h.block k (lt_of_at hk) (by simp)).trans hk⟩
theorem Kp.grown0 (h : w.grownBy w' none) : Kp B w w' := ⟨h.os, h.tape, h.output, h.size, fun k x hk _ => (h.block k (lt_of_at hk) (by simp)).trans hk⟩
theorem Kp.set (h : Kp B w w') (g : Nat) (hB : B ≤ g) {o : Obj} (hg : w'.heap[g]? = some o) (ho : isSrc o) (j : Nat) (u : Value) : Kp B w (w'.setCell ⟨g, j, none⟩ u) :=
  h.trans (Kp.grown g (grownBy_setCell w' ⟨g, j, none⟩ u) hB hg ho)
end

/-- a heap: its box, its row of pointers, its sources; what these hold lies below -/
structure Hp (W0 w : World) (p : Nat) (v : Value) (L : List Src) : Prop where
  below : Below W0.heap.size W0 w
  box : w.heap[p]? = some (.cells #[v] 152 (0, 0))
  pB : W0.heap.size ≤ p
  own : w.ownsRow W0.heap.size 153 1 v L.length (L.map ptrS)
  obj : ∀ s ∈ L, w.heap[s.b]? = some (objS s)
  objB : ∀ s ∈ L, W0.heap.size ≤ s.b
  nodup : (L.map (·.b)).Nodup
  ents : ∀ s ∈ L, EntsIn W0 s.A s.left ∧ s.left.length ≤ s.c ∧ s.left ≠ [] ∧ s.place ≤ 1000000
  few : L.length ≤ 1000000

section
variable {W0 w w' : World} {p : Nat} {v : Value} {L : List Src}

theorem own_ks {B0 B : Nat} {e : TypeId} {n : Nat} {xs : List Value} (he : srcTy e) (h : w.ownsRow B0 e 1 v n xs) (hk : Ks B w w') : w'.ownsRow B0 e 1 v n xs := by
  refine ⟨h.1, ?_⟩
  rcases h.2 with h0 | ⟨g, cap, cur, h1, h2, h3, h4⟩
  · exact .inl h0
  · exact .inr ⟨g, cap, cur, h1, h2, hk.block g _ h3 (.inr ⟨_, _, _, rfl, he⟩), h4⟩
theorem own_kp {B0 B : Nat} {e : TypeId} {m n : Nat} {xs : List Value} (he : ¬ srcTy e) (h : w.ownsRow B0 e m v n xs) (hk : Kp B w w') : w'.ownsRow B0 e m v n xs := by
  refine ⟨h.1, ?_⟩
  rcases h.2 with h0 | ⟨g, cap, cur, h1, h2, h3, h4⟩
  · exact .inl h0
  · refine .inr ⟨g, cap, cur, h1, h2, hk.block g _ h3 (.inr ?_), h4⟩
    rintro ⟨_, _, _, e1, e2⟩
    injection e1 with _ e1
    rw [← e1] at e2
    exact he e2

theorem Hp.stay (h : Hp W0 w p v L) (hk : Ks W0.heap.size w w') : Hp W0 w' p v L :=
  ⟨h.below.trans (hk.below h.below.size), hk.block _ _ h.box (.inr ⟨_, _, _, rfl, .inl rfl⟩), h.pB, own_ks (.inr (.inl rfl)) h.own hk, fun s hs => hk.block _ _ (h.obj s hs) (.inr ⟨_, _, _, rfl, .inr (.inr rfl)⟩), h.objB, h.nodup, h.ents, h.few⟩
theorem Hp.bel (h : Hp W0 w p v L) (hb : Below w.heap.size w w') : Hp W0 w' p v L := h.stay (.of hb)

theorem Hp.slice (h : Hp W0 w p v L) (hl : 0 < L.length) : ∃ g cap, v = .slice (some ⟨g, 0, none⟩) L.length cap ∧ L.length ≤ cap ∧ cap ≤ maxLen ∧ W0.heap.size ≤ g ∧ (∃ cur, w.heap[g]? = some (.cells cur 153 (0, 0)) ∧ cur.size = cap ∧ cur.toList.take L.length = L.map ptrS) := by
  rcases h.own.2 with ⟨_, h0⟩ | ⟨g, cap, cur, h1, h2, h3, h4, h5, h6, h7⟩
  · omega
  · exact ⟨g, cap, h1, h4, h5, h2, cur, h3, by simpa using h6, by simpa using h7⟩

theorem Hp.at_ (h : Hp W0 w p v L) {g cap n : Nat} (hv : v = .slice (some ⟨g, 0, none⟩) n cap) {i : Nat} (hi : i < L.length) : w.cell? ⟨g, i, none⟩ = some (ptrS L[i]) := by
  have := h.own.cells (g := g) (by rw [hv]; rfl) i (ptrS L[i]) (by rw [List.getElem?_map, List.getElem?_eq_getElem hi]; rfl)
  rwa [addr_add0] at this
end

theorem two_new (w : World) (c1 c2 : Array Value) (t : TypeId) : ((w.alloc (.cells c1 t)).alloc (.cells c2 t)).drew.heap[w.heap.size]? = some (.cells c1 t (0, 0)) ∧ ((w.alloc (.cells c1 t)).alloc (.cells c2 t)).drew.heap[w.heap.size + 1]? = some (.cells c2 t (0, 0)) ∧
    Below w.heap.size w ((w.alloc (.cells c1 t)).alloc (.cells c2 t)).drew ∧ ((w.alloc (.cells c1 t)).alloc (.cells c2 t)).drew.heap.size = w.heap.size + 2 := by
  refine ⟨(Below.heap_alloc _ _ _ (by simp)).trans (heap_alloc_new w _), ?_, (((Below.refl _ w).alloc (Nat.le_refl _) _).alloc (by simp) _).drew, by simp⟩
  have := heap_alloc_new (w.alloc (.cells c1 t)) (.cells c2 t)
  show ((w.alloc (.cells c1 t)).alloc (.cells c2 t)).heap[w.heap.size + 1]? = _
  simpa using this

end Go.Proofs.YtjkofciohehgfaaGreatDoor.L13


/- Less of sources. -/
namespace Go.Proofs.YtjkofciohehgfaaGreatDoor.L13
open Go.RowKit
open SK HP

theorem ltS_cons (s t : Src) {a b : E} {l m : List E} (hs : s.left = a :: l) (ht : t.left = b :: m) : ltS s t = (less a b || (!less b a && decide (s.place < t.place))) := by
  simp [ltS, Src.hd, hs, ht]

set_option maxRecDepth 100000 in
set_option maxHeartbeats 4000000 in
theorem hless_any {W0 w : World} {p : Nat} {v : Value} {L : List Src} (h : Hp W0 w p v L) (i j : Nat) (hi : i < L.length) (hj : j < L.length) :
    Calls Tryz.prog 168 #[v, .int .i64 i, .int .i64 j] w fun e w' => e = .returned (.bool (ltS L[i] L[j])) ∧ Below w.heap.size w w' := by
  obtain ⟨g, cap, hv, hcap, -, -, -⟩ := h.slice (by omega)
  have z1 := h.at_ hv hi
  have z2 := h.at_ hv hj
  have o1 := h.obj _ (List.getElem_mem hi)
  have o2 := h.obj _ (List.getElem_mem hj)
  obtain ⟨e1, -, ne1, pl1⟩ := h.ents _ (List.getElem_mem hi)
  obtain ⟨e2, -, ne2, pl2⟩ := h.ents _ (List.getElem_mem hj)
  have E1 := e1.below h.below
  have E2 := e2.below h.below
  obtain ⟨s, hs⟩ : ∃ s, L[i] = s := ⟨_, rfl⟩
  obtain ⟨t, ht⟩ : ∃ t, L[j] = t := ⟨_, rfl⟩
  rw [hs] at z1 o1 E1 ne1 pl1 ⊢
  rw [ht] at z2 o2 E2 ne2 pl2 ⊢
  obtain ⟨n, hn⟩ : ∃ n, L.length = n := ⟨_, rfl⟩
  rw [hn] at hv hi hj hcap
  have hn6 : n ≤ 1000000 := by rw [← hn]; exact h.few
  clear hs ht hn h e1 e2
  obtain ⟨b1, A1, c1, p1, l1⟩ := s
  obtain ⟨b2, A2, c2, p2, l2⟩ := t
  simp only [ptrS, objS] at z1 z2 o1 o2 E1 E2 ne1 ne2 pl1 pl2
  obtain ⟨x, l1, rfl⟩ := List.exists_cons_of_ne_nil ne1
  obtain ⟨y, l2, rfl⟩ := List.exists_cons_of_ne_nil ne2
  rw [ltS_cons ⟨b1, A1, c1, p1, x :: l1⟩ ⟨b2, A2, c2, p2, y :: l2⟩ rfl rfl]
  obtain ⟨q1, f1, hA1, hq1, hc1⟩ := E1.at_ (by simp)
  obtain ⟨q2, f2, hA2, hq2, hc2⟩ := E2.at_ (by simp)
  have k1 := hc1 0 (by simp)
  have k2 := hc2 0 (by simp)
  simp only [List.getElem_cons_zero, Nat.zero_mul, Nat.add_zero] at k1 k2
  obtain ⟨x0, x1, x2, x3, x4⟩ := k1
  obtain ⟨y0, y1, y2, y3, y4⟩ := k2
  have u0 : w.cell? ⟨b1, 0, none⟩ = some (.slice A1 (l1.length + 1) c1) := cell_of_row _ _ _ _ _ _ o1
  have u1 : w.cell? ⟨b1, 1, none⟩ = some (.int .i64 p1) := cell_of_row _ _ _ _ _ _ o1
  have v0 : w.cell? ⟨b2, 0, none⟩ = some (.slice A2 (l2.length + 1) c2) := cell_of_row _ _ _ _ _ _ o2
  have v1 : w.cell? ⟨b2, 1, none⟩ = some (.int .i64 p2) := cell_of_row _ _ _ _ _ _ o2
  have HL : Hid (∀ W, Calls Tryz.prog 56 #[x.val, y.val] W fun e w' => e = .returned (.bool (less x y)) ∧ Below W.heap.size W w') := fun W => less_any x y W
  have HL2 : Hid (∀ W, Calls Tryz.prog 56 #[y.val, x.val] W fun e w' => e = .returned (.bool (less y x)) ∧ Below W.heap.size W w') := fun W => less_any y x W
  have hlb1 : b1 < w.heap.size := lt_of_at o1
  have hlb2 : b2 < w.heap.size := lt_of_at o2
  have hlg : g < w.heap.size := block_lt_of_cell z1
  clear hc1 hc2 o1 o2 E1 E2 ne1 ne2
  obtain ⟨k1, a1, d1, t1, r1⟩ := x
  obtain ⟨k2, a2, d2, t2, r2⟩ := y
  obtain ⟨L1, hL1⟩ : ∃ L1, less ⟨k1, a1, d1, t1, r1⟩ ⟨k2, a2, d2, t2, r2⟩ = L1 := ⟨_, rfl⟩
  obtain ⟨L2, hL2⟩ : ∃ L2, less ⟨k2, a2, d2, t2, r2⟩ ⟨k1, a1, d1, t1, r1⟩ = L2 := ⟨_, rfl⟩
  rw [hL1] at HL ⊢
  rw [hL2] at HL2 ⊢
  simp only [E.val] at HL HL2 x0 x1 x2 x3 x4 y0 y1 y2 y3 y4
  obtain ⟨m1, hm1⟩ : ∃ m, l1.length + 1 = m := ⟨_, rfl⟩
  obtain ⟨m2, hm2⟩ : ∃ m, l2.length + 1 = m := ⟨_, rfl⟩
  rw [hm1] at u0
  rw [hm2] at v0
  have hm1p : 0 < m1 := by omega
  have hm2p : 0 < m2 := by omega
  have hm1i : (0 : Int) < (m1 : Int) := by omega
  have hm2i : (0 : Int) < (m2 : Int) := by omega
  clear hL1 hL2 hm1 hm2
  subst hv; subst hA1; subst hA2
  have i0 : (0 : Int) ≤ (i : Int) := by omega
  have i1 : (i : Int) < (n : Int) := by omega
  have j0 : (0 : Int) ≤ (j : Int) := by omega
  have j1 : (j : Int) < (n : Int) := by omega
  have hB : Below w.heap.size w w := Below.refl _ _
  have nn0 := World.new_ne w ⟨g, i, none⟩ z1
  have nn1 := World.new_ne w ⟨g, j, none⟩ z2
  have nn2 := World.new_ne w ⟨b1, 0, none⟩ u0
  have nn3 := World.new_ne w ⟨b2, 0, none⟩ v0
  have nn4 := World.new_ne w ⟨q1, f1, none⟩ x0
  have nn5 := World.new_ne w ⟨q1, f1 + 1, none⟩ x1
  have nn6 := World.new_ne w ⟨q1, f1 + 2, none⟩ x2
  have nn7 := World.new_ne w ⟨q1, f1 + 3, none⟩ x3
  have nn8 := World.new_ne w ⟨q1, f1 + 4, none⟩ x4
  have nn9 := World.new_ne w ⟨q2, f2, none⟩ y0
  have nn10 := World.new_ne w ⟨q2, f2 + 1, none⟩ y1
  have nn11 := World.new_ne w ⟨q2, f2 + 2, none⟩ y2
  have nn12 := World.new_ne w ⟨q2, f2 + 3, none⟩ y3
  have nn13 := World.new_ne w ⟨q2, f2 + 4, none⟩ y4
  go_enter Tryz.func168, Tryz.ntmps168
  go_wp2_with fail
  go_region_held3 (fun w' => w'.cell? ⟨g, i, none⟩ = some (.pointer (some ⟨b1, 0, none⟩)) ∧ w'.cell? ⟨g, j, none⟩ = some (.pointer (some ⟨b2, 0, none⟩)) ∧ w'.cell? ⟨b1, 0, none⟩ = some (.slice (some ⟨q1, f1, none⟩) m1 c1) ∧ w'.cell? ⟨b2, 0, none⟩ = some (.slice (some ⟨q2, f2, none⟩) m2 c2) ∧ w'.cell? ⟨q1, f1, none⟩ = some (.string k1) ∧ w'.cell? ⟨q1, f1 + 1, none⟩ = some (.int .i64 a1) ∧ w'.cell? ⟨q1, f1 + 2, none⟩ = some (.bool d1) ∧ w'.cell? ⟨q1, f1 + 3, none⟩ = some (.string t1) ∧ w'.cell? ⟨q1, f1 + 4, none⟩ = some (.int .i64 r1) ∧ w'.cell? ⟨q2, f2, none⟩ = some (.string k2) ∧ w'.cell? ⟨q2, f2 + 1, none⟩ = some (.int .i64 a2) ∧ w'.cell? ⟨q2, f2 + 2, none⟩ = some (.bool d2) ∧ w'.cell? ⟨q2, f2 + 3, none⟩ = some (.string t2) ∧ w'.cell? ⟨q2, f2 + 4, none⟩ = some (.int .i64 r2))
    (first | go_keep | fail)
    (first | fail)
  all_goals clear nn0 nn1 nn2 nn3 nn4 nn5 nn6 nn7 nn8 nn9 nn10 nn11 nn12 nn13
  · obtain ⟨hr1, hr2, hbel, hsz⟩ := two_new w #[.string k1, .int .i64 a1, .bool d1, .string t1, .int .i64 r1] #[.string k2, .int .i64 a2, .bool d2, .string t2, .int .i64 r2] 45
    go_wp2_with fail
    generalize hq : World.drew _ = W1 at hr1 hr2 hbel hsz ⊢
    have HR1 := Lib.hid hr1
    have HR2 := Lib.hid hr2
    have HBW := Lib.hid hbel
    obtain ⟨B, hBe⟩ : ∃ B, w.heap.size = B := ⟨_, rfl⟩
    have HBE := Lib.hid hBe
    rw [hBe] at hr1 hr2 hbel hsz HR1 HR2 hlb1 hlb2 hlg hq1 hq2 ⊢
    clear x0 x1 x2 x3 x4 y0 y1 y2 y3 y4 hr1 hr2
    refine (HL.out _).mono ?_
    rintro e w1 ⟨rfl, hb1⟩
    have HB1 : Hid (Below B w w1) := Lib.hid (hbel.trans (hb1.mono (by omega)))
    have G1 : w1.heap[B]? = some (.cells #[.string k1, .int .i64 a1, .bool d1, .string t1, .int .i64 r1] 45 (0, 0)) := (hb1.block (B) (by omega)).trans HR1.out
    have g0 : w1.cell? ⟨B, 0, none⟩ = some (.string k1) := cell_of_row _ _ _ _ _ _ G1
    have g1 : w1.cell? ⟨B, 1, none⟩ = some (.int .i64 a1) := cell_of_row _ _ _ _ _ _ G1
    have g2 : w1.cell? ⟨B, 2, none⟩ = some (.bool d1) := cell_of_row _ _ _ _ _ _ G1
    have g3 : w1.cell? ⟨B, 3, none⟩ = some (.string t1) := cell_of_row _ _ _ _ _ _ G1
    have g4 : w1.cell? ⟨B, 4, none⟩ = some (.int .i64 r1) := cell_of_row _ _ _ _ _ _ G1
    have G2 : w1.heap[B + 1]? = some (.cells #[.string k2, .int .i64 a2, .bool d2, .string t2, .int .i64 r2] 45 (0, 0)) := (hb1.block (B + 1) (by omega)).trans HR2.out
    have h0 : w1.cell? ⟨B + 1, 0, none⟩ = some (.string k2) := cell_of_row _ _ _ _ _ _ G2
    have h1 : w1.cell? ⟨B + 1, 1, none⟩ = some (.int .i64 a2) := cell_of_row _ _ _ _ _ _ G2
    have h2 : w1.cell? ⟨B + 1, 2, none⟩ = some (.bool d2) := cell_of_row _ _ _ _ _ _ G2
    have h3 : w1.cell? ⟨B + 1, 3, none⟩ = some (.string t2) := cell_of_row _ _ _ _ _ _ G2
    have h4 : w1.cell? ⟨B + 1, 4, none⟩ = some (.int .i64 r2) := cell_of_row _ _ _ _ _ _ G2
    have hs1 : B + 2 ≤ w1.heap.size := by have := hb1.size; omega
    clear hb1 hbel hsz G1 G2
    cases L1
    · go_wp2_with fail
      refine (HL2.out _).mono ?_
      rintro e w2 ⟨rfl, hb2⟩
      have HB2 : Hid (Below B w w2) := Lib.hid (HB1.out.trans (hb2.mono (by omega)))
      have HBE2 : Hid (Below w.heap.size w w2) := Lib.hid (by rw [HBE.out]; exact HB2.out)
      have s1 : w2.cell? ⟨g, i, none⟩ = some (.pointer (some ⟨b1, 0, none⟩)) := (HB2.out.cell (p := ⟨g, i, none⟩) hlg).trans z1
      have s2 : w2.cell? ⟨g, j, none⟩ = some (.pointer (some ⟨b2, 0, none⟩)) := (HB2.out.cell (p := ⟨g, j, none⟩) hlg).trans z2
      have s3 : w2.cell? ⟨b1, 1, none⟩ = some (.int .i64 p1) := (HB2.out.cell (p := ⟨b1, 1, none⟩) hlb1).trans u1
      have s4 : w2.cell? ⟨b2, 1, none⟩ = some (.int .i64 p2) := (HB2.out.cell (p := ⟨b2, 1, none⟩) hlb2).trans v1
      clear g0 g1 g2 g3 g4 h0 h1 h2 h3 h4 z1 z2 u0 u1 v0 v1 hb2
      cases L2
      · go_wp2_with fail
        go_quiet (fail)
        go_wp2
        go_ret
        exact ⟨by simp, below_drewN HBE2.out _⟩
      · go_wp2
        go_ret
        exact ⟨rfl, HBE2.out⟩
    · go_wp2
      go_ret
      exact ⟨rfl, by rw [HBE.out]; exact HB1.out⟩
  · obtain ⟨hr1, hr2, hbel, hsz⟩ := two_new w #[.string k2, .int .i64 a2, .bool d2, .string t2, .int .i64 r2] #[.string k1, .int .i64 a1, .bool d1, .string t1, .int .i64 r1] 45
    go_wp2_with fail
    generalize hq : World.drew _ = W1 at hr1 hr2 hbel hsz ⊢
    have HR1 := Lib.hid hr2
    have HR2 := Lib.hid hr1
    have HBW := Lib.hid hbel
    obtain ⟨B, hBe⟩ : ∃ B, w.heap.size = B := ⟨_, rfl⟩
    have HBE := Lib.hid hBe
    rw [hBe] at hr1 hr2 hbel hsz HR1 HR2 hlb1 hlb2 hlg hq1 hq2 ⊢
    clear x0 x1 x2 x3 x4 y0 y1 y2 y3 y4 hr1 hr2
    refine (HL.out _).mono ?_
    rintro e w1 ⟨rfl, hb1⟩
    have HB1 : Hid (Below B w w1) := Lib.hid (hbel.trans (hb1.mono (by omega)))
    have G1 : w1.heap[B + 1]? = some (.cells #[.string k1, .int .i64 a1, .bool d1, .string t1, .int .i64 r1] 45 (0, 0)) := (hb1.block (B + 1) (by omega)).trans HR1.out
    have g0 : w1.cell? ⟨B + 1, 0, none⟩ = some (.string k1) := cell_of_row _ _ _ _ _ _ G1
    have g1 : w1.cell? ⟨B + 1, 1, none⟩ = some (.int .i64 a1) := cell_of_row _ _ _ _ _ _ G1
    have g2 : w1.cell? ⟨B + 1, 2, none⟩ = some (.bool d1) := cell_of_row _ _ _ _ _ _ G1
    have g3 : w1.cell? ⟨B + 1, 3, none⟩ = some (.string t1) := cell_of_row _ _ _ _ _ _ G1
    have g4 : w1.cell? ⟨B + 1, 4, none⟩ = some (.int .i64 r1) := cell_of_row _ _ _ _ _ _ G1
    have G2 : w1.heap[B]? = some (.cells #[.string k2, .int .i64 a2, .bool d2, .string t2, .int .i64 r2] 45 (0, 0)) := (hb1.block (B) (by omega)).trans HR2.out
    have h0 : w1.cell? ⟨B, 0, none⟩ = some (.string k2) := cell_of_row _ _ _ _ _ _ G2
    have h1 : w1.cell? ⟨B, 1, none⟩ = some (.int .i64 a2) := cell_of_row _ _ _ _ _ _ G2
    have h2 : w1.cell? ⟨B, 2, none⟩ = some (.bool d2) := cell_of_row _ _ _ _ _ _ G2
    have h3 : w1.cell? ⟨B, 3, none⟩ = some (.string t2) := cell_of_row _ _ _ _ _ _ G2
    have h4 : w1.cell? ⟨B, 4, none⟩ = some (.int .i64 r2) := cell_of_row _ _ _ _ _ _ G2
    have hs1 : B + 2 ≤ w1.heap.size := by have := hb1.size; omega
    clear hb1 hbel hsz G1 G2
    cases L1
    · go_wp2_with fail
      refine (HL2.out _).mono ?_
      rintro e w2 ⟨rfl, hb2⟩
      have HB2 : Hid (Below B w w2) := Lib.hid (HB1.out.trans (hb2.mono (by omega)))
      have HBE2 : Hid (Below w.heap.size w w2) := Lib.hid (by rw [HBE.out]; exact HB2.out)
      have s1 : w2.cell? ⟨g, i, none⟩ = some (.pointer (some ⟨b1, 0, none⟩)) := (HB2.out.cell (p := ⟨g, i, none⟩) hlg).trans z1
      have s2 : w2.cell? ⟨g, j, none⟩ = some (.pointer (some ⟨b2, 0, none⟩)) := (HB2.out.cell (p := ⟨g, j, none⟩) hlg).trans z2
      have s3 : w2.cell? ⟨b1, 1, none⟩ = some (.int .i64 p1) := (HB2.out.cell (p := ⟨b1, 1, none⟩) hlb1).trans u1
      have s4 : w2.cell? ⟨b2, 1, none⟩ = some (.int .i64 p2) := (HB2.out.cell (p := ⟨b2, 1, none⟩) hlb2).trans v1
      clear g0 g1 g2 g3 g4 h0 h1 h2 h3 h4 z1 z2 u0 u1 v0 v1 hb2
      cases L2
      · go_wp2_with fail
        go_quiet (fail)
        go_wp2
        go_ret
        exact ⟨by simp, below_drewN HBE2.out _⟩
      · go_wp2
        go_ret
        exact ⟨rfl, HBE2.out⟩
    · go_wp2
      go_ret
      exact ⟨rfl, by rw [HBE.out]; exact HB1.out⟩
end Go.Proofs.YtjkofciohehgfaaGreatDoor.L13


