/- Texts joined by bundle.py: Kn. -/
import Derived.Test.YtffdiiolgflbkaaZbk

/- PickFits: the walk. Made by gen_kn.py. -/
namespace Go.Proofs.Ytffdiiolgflbkaa
open Go.RowKit Go.Maps
open VS
attribute [local go_sem ↓] Go.wp_at_zero Go.wp_at_succ

/-- 'append(v, l...)' of a list that is one's own, and what it leaves as it was -/
theorem step_app_own {ops : Array Oper} {o : Oper} {a : Act} {K : Act → World → Prop} {Q : Exit → Act → World → Prop} {E : Prop} {w : World} (hgd : o.guard = none) (s x : Operand) (ho : o.op = .call { callee := .builtin .append, args := #[s, x], argTypes := #[31, 31] }) (hty : o.type = 31)
    (B : Nat) (D : Option Addr) (m1 d : Nat) (l1 : List Int) (D2 : Option Addr) (m2 e : Nat) (l2 : List Int) (m3 : Nat) (h3 : m1 + m2 = m3) (hs : a.eval s = .slice D m1 d) (hx : a.eval x = .slice D2 m2 e) (hown : w.ownsRow B 2 1 (.slice D m1 d) m1 (nums l1)) (h1 : ∀ x ∈ l1, i64 x) (hm1 : l1.length = m1) (hp : 0 < m1) (h2 : IntsIn w w.heap.size D2 l2) (hm2 : l2.length = m2) (hb : m1 + m2 ≤ 4000000) (hB : B ≤ w.heap.size)
    (hk : ∀ D' d' w', IntsIn w' w'.heap.size D' (l1 ++ l2) → m3 ≤ d' → Below B w w' → (∀ k o, w.heap[k]? = some o → (∀ g, D = some g → g.block ≠ k) → w'.heap[k]? = some o ∧ ∀ g, D' = some g → g.block ≠ k) → K (a.put o.dst (.slice D' m3 d')) w') :
    if Region.wanted o (yielded ops a.tmps) = true then Oper.wp Try.prog o a w K Q else E := by
  subst h3
  obtain ⟨i0, hi, hz0, hz1, hz2⟩ := info_parts info_i64
  have hall : ∀ x ∈ l1 ++ l2, i64 x := fun x hx => by
    rcases List.mem_append.1 hx with hx | hx
    · exact h1 x hx
    · exact h2.1 x hx
  have hlen : (l1 ++ l2).length = m1 + m2 := by rw [List.length_append]; omega
  by_cases hm0 : m2 = 0
  · obtain ⟨D', d', w', r1, r2, r3, r4, r5⟩ := app_two w B D m1 d l1 hown h1 hm1 hp D2 m2 e l2 h2 hm2 hb hB
    have hl : l2 = [] := List.length_eq_zero_iff.1 (by omega)
    subst hm0 hl
    obtain ⟨D1, d1, heq, hin, -, hd⟩ := own_nums h1 hm1 hown
    obtain ⟨rfl, rfl⟩ : D = D1 ∧ d = d1 := by
      simp only [Value.slice.injEq, true_and] at heq
      exact heq
    obtain ⟨b, o, rfl, -, -⟩ := hin.2 (by omega)
    have hrun : (Builtin.append_ #[31, 31] 31 #[.slice (some ⟨b, o, none⟩) m1 d, .slice D2 0 e]).run Try.prog w = .ok (.slice (some ⟨b, o, none⟩) (m1 + 0) d) w := by
      cases D2 with
      | none => simp [Builtin.append_, run_underlying Try.underlying31, sizeOf, typeInfo, hi, Builtin.lenOf, Builtin.firstCells, storeCells, hd]
      | some a =>
        have hf := run_firstCells_some (P := Try.prog) w i0.size 0 a 0 e [] (by simp) (by simp)
        simp [Builtin.append_, run_underlying Try.underlying31, sizeOf, typeInfo, hi, Builtin.lenOf, hf, storeCells, hd]
    exact step_app 31 hgd s x ho hty _ _ hs hx _ _ hrun (hk _ _ _ (by simpa using hin) (by omega) (Below.refl _ _) fun k o hk hne => ⟨hk, hne⟩)
  · obtain ⟨b, o, rfl, -, hc⟩ := h2.2 (by omega)
    obtain ⟨v', w', hr, ho', hg, -, hf⟩ := run_append_own_at (P := Try.prog) w B 31 31 2 i0 _ 1 8 Try.underlying31 hi hz0 hz1 hz2 rfl (by decide) (.slice D m1 d) m1 (nums l1) hown ⟨b, o, none⟩ m2 e (nums l2) (by simp [nums, hm2]) (fun j u hj => by
      have hjl : j < l2.length := by
        have := (List.getElem?_eq_some_iff.1 hj).1
        simpa [nums] using this
      rw [add_off, hc j hjl]
      simpa [nums, hjl] using hj) (nums_one l2) (by unfold maxLen; omega) (by omega) hB
    rw [show nums l1 ++ nums l2 = nums (l1 ++ l2) by simp [nums]] at ho'
    obtain ⟨D', d', rfl, he, -, hd⟩ := own_nums hall hlen ho'
    refine step_app 31 hgd s x ho hty _ _ hs hx _ _ hr (hk _ _ _ he hd ((Below.refl B w).grown hg hB fun r e => (hown.lt r e).1) fun k o hk hne => ?_)
    have hklt : k < w.heap.size := (Array.getElem?_eq_some_iff.1 hk).1
    have hnb : (Value.slice D m1 d).ownBlock ≠ some k := fun e => by
      cases D with
      | none => simp [Value.ownBlock] at e
      | some g => exact hne g rfl (by simpa [Value.ownBlock] using e)
    refine ⟨(hg.block k hklt hnb.symm).trans hk, fun g e => ?_⟩
    subst e
    rcases hf with hf | hf
    · rw [← hf] at hnb
      simpa [Value.ownBlock] using hnb
    · have : g.block = w.heap.size := by simpa [Value.ownBlock] using hf
      omega
section
variable {W : World} {k : Nat} {o r : Obj}
theorem alloc_keep (h : W.heap[k]? = some o) : (W.alloc r).heap[k]? = some o := (Below.heap_alloc _ _ _ (by have := (Array.getElem?_eq_some_iff.1 h).1; omega)).trans h
theorem drew_keep (h : W.heap[k]? = some o) : W.drew.heap[k]? = some o := h
theorem set_keep {p : Addr} {u : Value} (h : W.heap[k]? = some o) (hp : p.block ≠ k) : (W.setCell p u).heap[k]? = some o := (Below.heap_setCell _ _ _ _ (Ne.symm hp)).trans h
theorem zero_cells (h : W.heap[k]? = some (.cells #[.slice none 0 0, .slice none 0 0, .int .i64 0, .int .i64 0, .int .i64 0] 36)) : W.cell? ⟨k, 0, none⟩ = some (.slice none 0 0) ∧ W.cell? ⟨k, 1, none⟩ = some (.slice none 0 0) ∧ W.cell? ⟨k, 2, none⟩ = some (.int .i64 0) ∧ W.cell? ⟨k, 3, none⟩ = some (.int .i64 0) ∧ W.cell? ⟨k, 4, none⟩ = some (.int .i64 0) ∧ W.frozen? ⟨k, 0, none⟩ = false ∧ W.frozen? ⟨k, 1, none⟩ = false ∧ W.frozen? ⟨k, 2, none⟩ = false ∧ W.frozen? ⟨k, 3, none⟩ = false ∧ W.frozen? ⟨k, 4, none⟩ = false :=
  ⟨cell_of_row _ _ _ _ _ _ h, cell_of_row _ _ _ _ _ _ h, cell_of_row _ _ _ _ _ _ h, cell_of_row _ _ _ _ _ _ h, cell_of_row _ _ _ _ _ _ h, frozen_of_row _ _ _ _ _ h, frozen_of_row _ _ _ _ _ h, frozen_of_row _ _ _ _ _ h, frozen_of_row _ _ _ _ _ h, frozen_of_row _ _ _ _ _ h⟩
theorem alloc_here (h : k = W.heap.size) : (W.alloc r).heap[k]? = some r := by rw [h]; exact heap_alloc_new W r
theorem below_keep {W' : World} (h : Below W.heap.size W W') : ∀ (k : Nat) (o : Obj), W.heap[k]? = some o → W'.heap[k]? = some o := fun k _ hk => (h.block k (Array.getElem?_eq_some_iff.1 hk).1).trans hk
theorem own_some {B s m d : Nat} {e : TypeId} {D : Option Addr} {xs : List Value} (h : W.ownsRow B e s (.slice D m d) m xs) : ∀ g, D = some g → B ≤ g.block ∧ g.block < W.heap.size := fun g e => own_fb h g.block (by rw [e]; simp [fb])
theorem ints_lt {A : Option Addr} {l : List Int} (h : IntsIn W W.heap.size A l) : 0 < l.length → ∀ g, A = some g → g.block < W.heap.size := fun hl g e => by
  obtain ⟨b, off, hA, hb, -⟩ := h.2 hl
  rw [hA] at e
  cases e
  exact hb
theorem ints_alloc {A : Option Addr} {l : List Int} (h : IntsIn W W.heap.size A l) : IntsIn (W.alloc r) (W.alloc r).heap.size A l := h.mono ((Below.refl _ W).alloc (Nat.le_refl _) _)
end

section
variable {wx W : World} {al bs : Nat} {D : Option Addr} {m e : Nat} {l : List Int} {c2 c3 c4 : Value} {c5 : Obj}
/-- an Edit laid whole in a new block -/
theorem end_new (hbs : W.heap[bs]? = some c5) (hin : IntsIn W W.heap.size D l) (hb : Below wx.heap.size wx W) (he : m ≤ e) (hal : al = W.heap.size) :
    ∃ pa b2 D3 d3, Value.pointer (some ⟨al, 0, none⟩) = .pointer (some ⟨pa, 0, none⟩) ∧ (W.alloc (.cells #[.slice (some ⟨bs, 0, none⟩) 1 1, .slice D m e, c2, c3, c4] 36)).heap[pa]? = some (.cells #[.slice (some ⟨b2, 0, none⟩) 1 1, .slice D3 m d3, c2, c3, c4] 36 (0, 0)) ∧ (W.alloc (.cells #[.slice (some ⟨bs, 0, none⟩) 1 1, .slice D m e, c2, c3, c4] 36)).heap[b2]? = some c5 ∧
      IntsIn (W.alloc (.cells #[.slice (some ⟨bs, 0, none⟩) 1 1, .slice D m e, c2, c3, c4] 36)) (W.alloc (.cells #[.slice (some ⟨bs, 0, none⟩) 1 1, .slice D m e, c2, c3, c4] 36)).heap.size D3 l ∧ m ≤ d3 ∧ Below wx.heap.size wx (W.alloc (.cells #[.slice (some ⟨bs, 0, none⟩) 1 1, .slice D m e, c2, c3, c4] 36)) :=
  ⟨al, bs, D, e, rfl, alloc_here hal, alloc_keep hbs, ints_alloc hin, he, hb.alloc hb.size _⟩
/-- an Edit filled field by field -/
theorem end_set (hz : W.heap[al]? = some (.cells #[.slice none 0 0, .slice none 0 0, .int .i64 0, .int .i64 0, .int .i64 0] 36)) (hbs : W.heap[bs]? = some c5) (hin : IntsIn W W.heap.size D l) (hb : Below wx.heap.size wx W) (he : m ≤ e) (hne : al ≠ bs) (hD : ∀ g, D = some g → g.block ≠ al) (hal : wx.heap.size ≤ al) :
    ∃ pa b2 D3 d3, Value.pointer (some ⟨al, 0, none⟩) = .pointer (some ⟨pa, 0, none⟩) ∧ (((((W.setCell ⟨al, 0, none⟩ (.slice (some ⟨bs, 0, none⟩) 1 1)).setCell ⟨al, 1, none⟩ (.slice D m e)).setCell ⟨al, 2, none⟩ c2).setCell ⟨al, 3, none⟩ c3).setCell ⟨al, 4, none⟩ c4).heap[pa]? = some (.cells #[.slice (some ⟨b2, 0, none⟩) 1 1, .slice D3 m d3, c2, c3, c4] 36 (0, 0)) ∧ (((((W.setCell ⟨al, 0, none⟩ (.slice (some ⟨bs, 0, none⟩) 1 1)).setCell ⟨al, 1, none⟩ (.slice D m e)).setCell ⟨al, 2, none⟩ c2).setCell ⟨al, 3, none⟩ c3).setCell ⟨al, 4, none⟩ c4).heap[b2]? = some c5 ∧ IntsIn (((((W.setCell ⟨al, 0, none⟩ (.slice (some ⟨bs, 0, none⟩) 1 1)).setCell ⟨al, 1, none⟩ (.slice D m e)).setCell ⟨al, 2, none⟩ c2).setCell ⟨al, 3, none⟩ c3).setCell ⟨al, 4, none⟩ c4) (((((W.setCell ⟨al, 0, none⟩ (.slice (some ⟨bs, 0, none⟩) 1 1)).setCell ⟨al, 1, none⟩ (.slice D m e)).setCell ⟨al, 2, none⟩ c2).setCell ⟨al, 3, none⟩ c3).setCell ⟨al, 4, none⟩ c4).heap.size D3 l ∧ m ≤ d3 ∧ Below wx.heap.size wx (((((W.setCell ⟨al, 0, none⟩ (.slice (some ⟨bs, 0, none⟩) 1 1)).setCell ⟨al, 1, none⟩ (.slice D m e)).setCell ⟨al, 2, none⟩ c2).setCell ⟨al, 3, none⟩ c3).setCell ⟨al, 4, none⟩ c4) :=
  ⟨al, bs, D, e, rfl, five_row _ _ _ _ _ _ _ _ _ _ _ _ _ hz, set_keep (set_keep (set_keep (set_keep (set_keep hbs hne) hne) hne) hne) hne, jints_set (jints_set (jints_set (jints_set (jints_set hin hD _ _) hD _ _) hD _ _) hD _ _) hD _ _, he, five_below hb al hal _ _ _ _ _⟩
end

namespace lawFits
set_option maxRecDepth 100000 in
set_option maxHeartbeats 16000000 in
theorem walk (A0 : Option Addr) (n0 c0 : Nat) (l0 : List EX) (zr base ratio : Int) (s : Nat → ByteArray) (hr : i64 ratio) (w : World) (hl : l0.length = n0) (hin : EdsIn w A0 l0) (hc : n0 ≤ c0) (hs : (l0.map fun x => x.e.wt).sum ≤ 1048576) :
    Calls Try.prog 8 #[.slice A0 n0 c0, .agg #[.int .i64 zr, .int .i64 base, .int .i64 ratio], .agg #[.string (s 0), .string (s 1), .string (s 2), .string (s 3)]] w fun r w' => r = .returned (.bool true) ∧ Below w.heap.size w w' := by
  have HAF := Lib.hid (fun W (hW : Below w.heap.size w W) => after15_any A0 n0 c0 l0 W hl (hin.below hW) hc hs)
  have HWK := Lib.hid wakes15_any
  have hmm := @run_makeMap Try.prog
  have HRA := Lib.hid hr
  clear hl hin hc hs hr
  go_enter Try.func8, Try.ntmps8
  go_wp2_with fail
  have hal : Below w.heap.size w ((w.alloc (.cells #[.int .i64 zr, .int .i64 base, .int .i64 ratio] 72)).alloc (.cells #[.string (s 0), .string (s 1), .string (s 2), .string (s 3)] 73)) := ((Below.refl _ w).alloc (Nat.le_refl _) _).alloc (by simp) _
  have hrl : ((w.alloc (.cells #[.int .i64 zr, .int .i64 base, .int .i64 ratio] 72)).alloc (.cells #[.string (s 0), .string (s 1), .string (s 2), .string (s 3)] 73)).heap[w.heap.size]? = some (.cells #[.int .i64 zr, .int .i64 base, .int .i64 ratio] 72 (0, 0)) := (Below.heap_alloc _ _ _ (by simp)).trans (heap_alloc_new w _)
  have hrs : ((w.alloc (.cells #[.int .i64 zr, .int .i64 base, .int .i64 ratio] 72)).alloc (.cells #[.string (s 0), .string (s 1), .string (s 2), .string (s 3)] 73)).heap[w.heap.size + 1]? = some (.cells #[.string (s 0), .string (s 1), .string (s 2), .string (s 3)] 73 (0, 0)) := by
    have := heap_alloc_new (w.alloc (.cells #[.int .i64 zr, .int .i64 base, .int .i64 ratio] 72)) (.cells #[.string (s 0), .string (s 1), .string (s 2), .string (s 3)] 73)
    simpa using this
  have hsz : ((w.alloc (.cells #[.int .i64 zr, .int .i64 base, .int .i64 ratio] 72)).alloc (.cells #[.string (s 0), .string (s 1), .string (s 2), .string (s 3)] 73)).heap.size = w.heap.size + 2 := by simp
  generalize ((w.alloc (.cells #[.int .i64 zr, .int .i64 base, .int .i64 ratio] 72)).alloc (.cells #[.string (s 0), .string (s 1), .string (s 2), .string (s 3)] 73)) = w1 at hal hrl hrs hsz ⊢
  have HB1 := Lib.hid hal
  obtain ⟨x, hx⟩ : ∃ x, w.heap.size = x := ⟨_, rfl⟩
  have HX := Lib.hid hx
  have HS1 : Hid (w1.heap.size = x + 2) := Lib.hid (by omega)
  refine (HAF.out w1 hal).mono ?_
  rw [hx] at hrl hrs ⊢
  have HRL := Lib.hid hrl
  have HRS := Lib.hid hrs
  clear hal hrl hrs hsz hx
  rintro r w2 ⟨⟨A, N, C, A5, n5, c5, v, rfl, hv, -, hn, hn6, hok, hnu⟩, hb2⟩
  have HV := Lib.hid hv
  have HN := Lib.hid (And.intro hn hn6)
  have HOK := Lib.hid hok
  have HNU := Lib.hid hnu
  have HB2 := Lib.hid hb2
  clear hv hn hn6 hok hnu hb2
  go_upto_region 2 with fail
  have hb3 : Below w2.heap.size w2 ((w2.alloc (.cells #[.slice (A 0) (N 0) (C 0), .slice (A 1) (N 1) (C 1), .slice (A 2) (N 2) (C 2), .slice (A 3) (N 3) (C 3), .int .i64 v.log, .int .i64 v.next, .int .i64 v.seq] 26)).alloc (.cells #[.slice A5 n5 c5, .int .i64 v.log, .int .i64 v.next, .int .i64 v.seq] 29)) := ((Below.refl _ w2).alloc (Nat.le_refl _) _).alloc (by simp) _
  have hrv : ((w2.alloc (.cells #[.slice (A 0) (N 0) (C 0), .slice (A 1) (N 1) (C 1), .slice (A 2) (N 2) (C 2), .slice (A 3) (N 3) (C 3), .int .i64 v.log, .int .i64 v.next, .int .i64 v.seq] 26)).alloc (.cells #[.slice A5 n5 c5, .int .i64 v.log, .int .i64 v.next, .int .i64 v.seq] 29)).heap[w2.heap.size]? = some (.cells #[.slice (A 0) (N 0) (C 0), .slice (A 1) (N 1) (C 1), .slice (A 2) (N 2) (C 2), .slice (A 3) (N 3) (C 3), .int .i64 v.log, .int .i64 v.next, .int .i64 v.seq] 26 (0, 0)) := (Below.heap_alloc _ _ _ (by simp)).trans (heap_alloc_new w2 _)
  have hsz : ((w2.alloc (.cells #[.slice (A 0) (N 0) (C 0), .slice (A 1) (N 1) (C 1), .slice (A 2) (N 2) (C 2), .slice (A 3) (N 3) (C 3), .int .i64 v.log, .int .i64 v.next, .int .i64 v.seq] 26)).alloc (.cells #[.slice A5 n5 c5, .int .i64 v.log, .int .i64 v.next, .int .i64 v.seq] 29)).heap.size = w2.heap.size + 2 := by simp
  generalize ((w2.alloc (.cells #[.slice (A 0) (N 0) (C 0), .slice (A 1) (N 1) (C 1), .slice (A 2) (N 2) (C 2), .slice (A 3) (N 3) (C 3), .int .i64 v.log, .int .i64 v.next, .int .i64 v.seq] 26)).alloc (.cells #[.slice A5 n5 c5, .int .i64 v.log, .int .i64 v.next, .int .i64 v.seq] 29)) = w3 at hb3 hrv hsz ⊢
  obtain ⟨y, hy⟩ : ∃ y, w2.heap.size = y := ⟨_, rfl⟩
  have HY : Hid (x + 2 ≤ y ∧ w3.heap.size = y + 2) := Lib.hid ⟨by have := HB2.out.size; have := HS1.out; omega, by omega⟩
  have HB3 : Hid (Below w1.heap.size w1 w3) := Lib.hid (HB2.out.trans (hb3.mono HB2.out.size))
  have HV3 := Lib.hid (HV.out.below hb3)
  rw [hy] at hrv ⊢
  have HRV := Lib.hid hrv
  have hrl := (HB3.out.block x (by have := HS1.out; omega)).trans HRL.out
  have hrs := (HB3.out.block (x + 1) (by have := HS1.out; omega)).trans HRS.out
  have ya0 : w3.cell? ⟨x, 0, none⟩ = some (.int .i64 zr) := cell_of_row _ _ _ _ _ _ hrl
  have ya1 : w3.cell? ⟨x, 1, none⟩ = some (.int .i64 base) := cell_of_row _ _ _ _ _ _ hrl
  have ya2 : w3.cell? ⟨x, 2, none⟩ = some (.int .i64 ratio) := cell_of_row _ _ _ _ _ _ hrl
  have yb0 : w3.cell? ⟨x + 1, 0, none⟩ = some (.string (s 0)) := cell_of_row _ _ _ _ _ _ hrs
  have yb1 : w3.cell? ⟨x + 1, 1, none⟩ = some (.string (s 1)) := cell_of_row _ _ _ _ _ _ hrs
  have yb2 : w3.cell? ⟨x + 1, 2, none⟩ = some (.string (s 2)) := cell_of_row _ _ _ _ _ _ hrs
  have yb3 : w3.cell? ⟨x + 1, 3, none⟩ = some (.string (s 3)) := cell_of_row _ _ _ _ _ _ hrs
  have yc0 : w3.cell? ⟨y, 0, none⟩ = some (.slice (A 0) (N 0) (C 0)) := cell_of_row _ _ _ _ _ _ HRV.out
  have yc1 : w3.cell? ⟨y, 1, none⟩ = some (.slice (A 1) (N 1) (C 1)) := cell_of_row _ _ _ _ _ _ HRV.out
  have yc2 : w3.cell? ⟨y, 2, none⟩ = some (.slice (A 2) (N 2) (C 2)) := cell_of_row _ _ _ _ _ _ HRV.out
  have yc3 : w3.cell? ⟨y, 3, none⟩ = some (.slice (A 3) (N 3) (C 3)) := cell_of_row _ _ _ _ _ _ HRV.out
  have yc4 : w3.cell? ⟨y, 4, none⟩ = some (.int .i64 v.log) := cell_of_row _ _ _ _ _ _ HRV.out
  have yc5 : w3.cell? ⟨y, 5, none⟩ = some (.int .i64 v.next) := cell_of_row _ _ _ _ _ _ HRV.out
  have yc6 : w3.cell? ⟨y, 6, none⟩ = some (.int .i64 v.seq) := cell_of_row _ _ _ _ _ _ HRV.out
  clear hb3 hrv hsz hy hrl hrs HB2 HV
  go_wp2_with fail
  refine (pick_any A N C v zr base ratio s w3 HV3.out (by have := HN.out; omega) HOK.out HRA.out).mono ?_
  rintro r w4 ⟨ho, hb4⟩
  have HB4 : Hid (Below w3.heap.size w3 w4) := Lib.hid hb4
  have HB4' : Hid (Below w.heap.size w w4) := Lib.hid (by
    have h1 := HB1.out
    have h2 := HB3.out
    rw [HX.out] at h1 ⊢
    exact (h1.trans (h2.mono (by have := HS1.out; omega))).trans (hb4.mono (by have := HY.out; omega)))
  clear hb4 ya0 ya1 ya2 yb0 yb1 yb2 yb3 yc0 yc1 yc2 yc3 yc4 yc5 yc6
  rcases ho with ⟨rfl, -⟩ | ⟨k, jv, rfl, hj, -⟩
  · go_upto_region 3 with fail
    have hb5 := HB4'.out.alloc HB4'.out.size (.cells #[.int .i64 0, .slice none 0 0, .slice none 0 0, .bool false] 76)
    generalize w4.alloc (.cells #[.int .i64 0, .slice none 0 0, .slice none 0 0, .bool false] 76) = w5 at hb5 ⊢
    have HB5 := Lib.hid hb5
    clear hb5
    go_wp2_with fail
    refine (HWK.out w5).mono ?_
    rintro r w6 ⟨rfl, hb6⟩
    have HB6 := Lib.hid (HB5.out.trans (hb6.mono HB5.out.size))
    clear hb6
    go_wp2_with fail
    refine (HWK.out w6).mono ?_
    rintro r w7 ⟨rfl, hb7⟩
    have HB7 := Lib.hid (HB6.out.trans (hb7.mono HB6.out.size))
    clear hb7
    go_wp2_with fail
    go_ret
    exact ⟨rfl, HB7.out⟩
  · obtain ⟨fr, tw, bt, A1, c1, A2, c2, h0, h1, h2, h3, h4, hjo, -, -, h8, h9⟩ := hj
    have hjv := Ending.returned.inj h0
    subst hjv
    have HSML := Lib.hid (Job.small HOK.out hjo)
    have hk3 := hjo.lvl
    have hfr := List.length_pos_iff.2 hjo.fr_ne
    obtain ⟨m1, hm1⟩ : ∃ m, fr.length = m := ⟨_, rfl⟩
    obtain ⟨m2, hm2⟩ : ∃ m, tw.length = m := ⟨_, rfl⟩
    rw [hm1] at h3 hfr HSML ⊢
    rw [hm2] at h4 HSML ⊢
    have HJ := Lib.hid hjo
    have HM := Lib.hid (And.intro hm1 hm2)
    have HI1 := Lib.hid h1
    have HI2 := Lib.hid h2
    have HC := Lib.hid (And.intro h3 h4)
    have HK := Lib.hid hk3
    have HM1 := Lib.hid hfr
    clear h0 h1 h2 h3 h4 h8 h9 hjo hm1 hm2
    go_upto_region 3 with fail
    have hb5 : Below w4.heap.size w4 (w4.alloc (.cells #[.int .i64 k, .slice A1 m1 c1, .slice A2 m2 c2, .bool bt] 76)) := (Below.refl _ w4).alloc (Nat.le_refl _) _
    have hrj := heap_alloc_new w4 (.cells #[.int .i64 k, .slice A1 m1 c1, .slice A2 m2 c2, .bool bt] 76)
    have hsz : (w4.alloc (.cells #[.int .i64 k, .slice A1 m1 c1, .slice A2 m2 c2, .bool bt] 76)).heap.size = w4.heap.size + 1 := by simp
    generalize w4.alloc (.cells #[.int .i64 k, .slice A1 m1 c1, .slice A2 m2 c2, .bool bt] 76) = w5 at hb5 hrj hsz ⊢
    obtain ⟨z, hz⟩ : ∃ z, w4.heap.size = z := ⟨_, rfl⟩
    have HB5 : Hid (Below w3.heap.size w3 w5) := Lib.hid (HB4.out.trans (hb5.mono HB4.out.size))
    have HB5' : Hid (Below w.heap.size w w5) := Lib.hid (HB4'.out.trans (hb5.mono HB4'.out.size))
    have HZ : Hid (y + 2 ≤ z ∧ w5.heap.size = z + 1) := Lib.hid ⟨by have := HB4.out.size; have := HY.out; omega, by omega⟩
    rw [hz] at hrj ⊢
    have HRJ := Lib.hid hrj
    have HI15 := Lib.hid (HI1.out.mono hb5)
    have HI25 := Lib.hid (HI2.out.mono hb5)
    clear hb5 hrj hsz hz HI1 HI2
    go_wp2_with fail
    refine (HWK.out w5).mono ?_
    rintro r w6 ⟨rfl, hb6⟩
    have HI16 := Lib.hid (HI15.out.mono hb6)
    have HI26 := Lib.hid (HI25.out.mono hb6)
    have HB6 : Hid (Below w5.heap.size w5 w6) := Lib.hid hb6
    have hrj := (hb6.block z (by have := HZ.out; omega)).trans HRJ.out
    have hrv := (((HB5.out.trans (hb6.mono HB5.out.size)).block y (by have := HY.out; omega))).trans HRV.out
    clear hb6 HI15 HI25
    have yd0 : w6.cell? ⟨z, 0, none⟩ = some (.int .i64 k) := cell_of_row _ _ _ _ _ _ hrj
    have yd1 : w6.cell? ⟨z, 1, none⟩ = some (.slice A1 m1 c1) := cell_of_row _ _ _ _ _ _ hrj
    have yd2 : w6.cell? ⟨z, 2, none⟩ = some (.slice A2 m2 c2) := cell_of_row _ _ _ _ _ _ hrj
    have yd3 : w6.cell? ⟨z, 3, none⟩ = some (.bool bt) := cell_of_row _ _ _ _ _ _ hrj
    have ye0 : w6.cell? ⟨y, 0, none⟩ = some (.slice (A 0) (N 0) (C 0)) := cell_of_row _ _ _ _ _ _ hrv
    have ye1 : w6.cell? ⟨y, 1, none⟩ = some (.slice (A 1) (N 1) (C 1)) := cell_of_row _ _ _ _ _ _ hrv
    have ye2 : w6.cell? ⟨y, 2, none⟩ = some (.slice (A 2) (N 2) (C 2)) := cell_of_row _ _ _ _ _ _ hrv
    have ye3 : w6.cell? ⟨y, 3, none⟩ = some (.slice (A 3) (N 3) (C 3)) := cell_of_row _ _ _ _ _ _ hrv
    have ye4 : w6.cell? ⟨y, 4, none⟩ = some (.int .i64 v.log) := cell_of_row _ _ _ _ _ _ hrv
    have ye5 : w6.cell? ⟨y, 5, none⟩ = some (.int .i64 v.next) := cell_of_row _ _ _ _ _ _ hrv
    have ye6 : w6.cell? ⟨y, 6, none⟩ = some (.int .i64 v.seq) := cell_of_row _ _ _ _ _ _ hrv
    have d1 : (((m1 : Nat) : Int) == 0) = false := by simp; omega
    have d1' : (m1 == 0) = false := by simp; omega
    have d1'' : decide (m1 = 0) = false := decide_eq_false (by omega)
    have d2 : decide ((k : Int) < 0) = false := decide_eq_false (by omega)
    have hkw : IntKind.i64.wrap ((k : Int) + 1) = (k : Int) + 1 := IntWalk.i64_in _ ⟨by omega, by omega⟩
    have d3 : decide ((4 : Int) ≤ (k : Int) + 1) = false := decide_eq_false (by omega)
    have d3' : decide (4 ≤ k + 1) = false := decide_eq_false (by omega)
    obtain ⟨bn, hbn⟩ : ∃ b, decide ((1152921504606846976 : Int) < v.next) = b := ⟨_, rfl⟩
    cases bn with
    | true =>
      go_wp2_with fail
      go_ret
      exact ⟨rfl, HB5'.out.trans (HB6.out.mono HB5'.out.size)⟩
    | false =>
      have hnx := of_decide_eq_false hbn
      have HNX : Hid (v.next ≤ 1152921504606846976) := Lib.hid (by omega)
      clear hnx
      go_upto_region 9 with fail
      have hb7 : Below w6.heap.size w6 (w6.alloc (.map #[] 0)) := (Below.refl _ w6).alloc (Nat.le_refl _) _
      have him := Im.made w6
      rw [cnt_nil] at him
      have hsz : (w6.alloc (.map #[] 0)).heap.size = w6.heap.size + 1 := by simp
      generalize w6.alloc (.map #[] 0) = w7 at hb7 him hsz ⊢
      obtain ⟨p, hp⟩ : ∃ p, w6.heap.size = p := ⟨_, rfl⟩
      have HB7 : Hid (Below w5.heap.size w5 w7) := Lib.hid (HB6.out.trans (hb7.mono HB6.out.size))
      have HP : Hid (z + 1 ≤ p ∧ w7.heap.size = p + 1) := Lib.hid ⟨by have := HB6.out.size; have := HZ.out; omega, by omega⟩
      rw [hp] at him ⊢
      have HIM := Lib.hid him
      have HIa : Hid (IntsIn w7.drew w7.drew.heap.size A1 (files fr)) := Lib.hid (HI16.out.mono (hb7.drew))
      have HBa : Hid (∀ W, Below w7.drew.heap.size w7.drew W → Below w7.heap.size w7 W) := Lib.hid fun W h => ((Below.refl _ w7).drew).trans h
      have HIb : Hid (∀ W, Below w7.heap.size w7 W → IntsIn W W.heap.size A2 (files tw)) := Lib.hid fun W h => HI26.out.mono (hb7.trans (h.mono hb7.size))
      have hrj7 := (hb7.block z (by have := HP.out; omega)).trans hrj
      have hrv7 := (hb7.block y (by have := HP.out; have := HZ.out; omega)).trans hrv
      have HRJ7 := Lib.hid hrj7
      have HRV7 := Lib.hid hrv7
      have f1 : w7.cell? ⟨z, 1, none⟩ = some (.slice A1 m1 c1) := cell_of_row _ _ _ _ _ _ hrj7
      have f2 : w7.cell? ⟨z, 2, none⟩ = some (.slice A2 m2 c2) := cell_of_row _ _ _ _ _ _ hrj7
      have b1 : w7.drew.cell? ⟨z, 1, none⟩ = some (.slice A1 m1 c1) := f1
      have b2 : w7.drew.cell? ⟨z, 2, none⟩ = some (.slice A2 m2 c2) := f2
      have HZ7 : Hid (z < w7.heap.size) := Lib.hid (by have := HP.out; omega)
      obtain ⟨m3, hm3⟩ : ∃ m, m1 + m2 = m := ⟨_, rfl⟩
      have HM3 := Lib.hid hm3
      have HSM : Hid (m1 ≤ 1048576 ∧ m2 ≤ 1048576 ∧ m3 ≤ 1048576) := Lib.hid (by have := HSML.out; have := HN.out; omega)
      have HL1 : Hid ((files fr).length = m1) := Lib.hid (by have := HM.out.1; simpa [files] using this)
      have HL2 : Hid ((files tw).length = m2) := Lib.hid (by have := HM.out.2; simpa [files] using this)
      have HI1W := Lib.hid HIa.out.1
      have HIW : Hid (∀ W, Below p w6 W → IntsIn W W.heap.size A1 (files fr) ∧ IntsIn W W.heap.size A2 (files tw)) := Lib.hid fun W h => ⟨HI16.out.mono (by rw [hp]; exact h), HI26.out.mono (by rw [hp]; exact h)⟩
      have HB67 : Hid (Below p w6 w7) := Lib.hid (by rw [← hp]; exact hb7)
      clear hb7 him hsz hp hrj hrv hrj7 hrv7 yd0 yd1 yd2 yd3 ye0 ye1 ye2 ye3 ye4 ye5 ye6 d1 d1' d1'' d2 d3 d3' hkw hbn hfr hm3 HI16 HI26 hmm
      go_cut [72, 73, 74] from 67 to 74 (fun pv nv iv wx => ∃ D2 d2, pv = .slice D2 m3 d2 ∧ nv = .int .i64 (m3 : Nat) ∧ iv = .int .i64 0 ∧ IntsIn wx wx.heap.size D2 (files fr ++ files tw) ∧ (∀ g, D2 = some g → w7.heap.size ≤ g.block) ∧ Below w7.heap.size w7 wx)
      case first =>
        rename_i J1 K1 hJ1 hK1
        go_region_held3 (fun w' => w'.cell? ⟨z, 1, none⟩ = some (.slice A1 m1 c1) ∧ w'.cell? ⟨z, 2, none⟩ = some (.slice A2 m2 c2))
          (first | with_reducible exact ⟨h1, h2⟩ | with_reducible exact ⟨g1, g2⟩ | with_reducible exact ⟨b1, b2⟩ | with_reducible exact ⟨f1, f2⟩ | go_keep | fail)
          (first
            | (refine step_app_ints (by rfl) _ _ (by rfl) (by rfl) A1 m1 c1 (files fr) (by rfl) (by rfl) (by with_reducible exact HIa.out) HL1.out (by have := HSM.out; omega) ?_
               intro D1 e1 wa hin1 hd1 hb1 ho1
               have HO1 := Lib.hid ho1
               have HB1a : Hid (Below w7.heap.size w7 wa) := Lib.hid (HBa.out _ hb1)
               have HSa : Hid (w7.drew.heap.size ≤ wa.heap.size) := Lib.hid hb1.size
               have g1 : wa.cell? ⟨z, 1, none⟩ = some (.slice A1 m1 c1) := (HB1a.out.cell (p := ⟨z, 1, none⟩) HZ7.out).trans f1
               have g2 : wa.cell? ⟨z, 2, none⟩ = some (.slice A2 m2 c2) := (HB1a.out.cell (p := ⟨z, 2, none⟩) HZ7.out).trans f2
               clear hin1 hd1 hb1 ho1)
            | (refine step_app_three (by rfl) _ _ (by rfl) (by rfl) w7.drew.heap.size D1 m1 e1 (files fr) A2 m2 c2 (files tw) m3 HM3.out (by rfl) (by rfl) (by with_reducible exact HO1.out) HI1W.out HL1.out HM1.out (HIb.out _ HB1a.out) HL2.out (by have := HSM.out; omega) HSa.out ?_
               intro D2 e2 wb hin2 hd2 hb2 ho2
               have HO2 := Lib.hid ho2
               have HIN2 := Lib.hid hin2
               have HB2a : Hid (Below w7.heap.size w7 wb) := Lib.hid (HB1a.out.trans hb2)
               have h1 : wb.cell? ⟨z, 1, none⟩ = some (.slice A1 m1 c1) := (HB2a.out.cell (p := ⟨z, 1, none⟩) HZ7.out).trans f1
               have h2 : wb.cell? ⟨z, 2, none⟩ = some (.slice A2 m2 c2) := (HB2a.out.cell (p := ⟨z, 2, none⟩) HZ7.out).trans f2
               clear hin2 hd2 hb2 ho2)
            | fail)
        all_goals refine hK1 _ _ (Met.intro (hJ1 _ _ ?_))
        all_goals (repeat apply Exists.intro)
        all_goals refine ⟨?_, rfl⟩
        all_goals (
          have hfb : ∀ g, D2 = some g → w7.heap.size ≤ g.block := fun g e => (own_fb HO2.out g.block (by rw [e]; simp [fb])).1
          with_reducible exact ⟨D2, e2, rfl, rfl, rfl, HIN2.out, hfb, HB2a.out⟩)
      case rest =>
      obtain ⟨D2, d2, rfl, rfl, rfl, hin2, hfb2, hb8⟩ := hcut
      rename World => w8
      have hlf : (files fr ++ files tw).length = m3 := by rw [List.length_append, HL1.out, HL2.out]; exact HM3.out
      have HDONE : Hid (∀ lo hi b, Seen (v.L.filter (inb (files fr ++ files tw))) lo hi b → b = true ∧ (apply v ⟨[⟨(k : Int) + 1, v.next, 0, lo, hi⟩], files fr ++ files tw, v.log, v.next + 1, v.seq⟩).2 = 0) := Lib.hid fun lo hi b h => Job.done HOK.out HJ.out HNU.out (by have := HNX.out; omega) h
      obtain ⟨FL, hFL⟩ : ∃ l, files fr ++ files tw = l := ⟨_, rfl⟩
      rw [hFL] at hin2 hlf HDONE
      have HFL := Lib.hid hFL
      have HLF := Lib.hid hlf
      have HIN8 := Lib.hid hin2
      have HNE : Hid (∀ g, D2 = some g → g.block ≠ p) := Lib.hid fun g e => by have := hfb2 g e; have := HP.out; omega
      have HIM8 := Lib.hid (HIM.out.below hb8)
      have HB8 : Hid (Below w7.heap.size w7 w8) := Lib.hid hb8
      have HRVW : Hid (∀ W, Below p w8 W → W.heap[y]? = some (.cells #[.slice (A 0) (N 0) (C 0), .slice (A 1) (N 1) (C 1), .slice (A 2) (N 2) (C 2), .slice (A 3) (N 3) (C 3), .int .i64 v.log, .int .i64 v.next, .int .i64 v.seq] 26 (0, 0))) := Lib.hid fun W h => (h.block y (by have := HP.out; have := HZ.out; omega)).trans ((hb8.block y (by have := HP.out; have := HZ.out; omega)).trans HRV7.out)
      have HRJW : Hid (∀ W, Below p w8 W → W.heap[z]? = some (.cells #[.int .i64 k, .slice A1 m1 c1, .slice A2 m2 c2, .bool bt] 76 (0, 0))) := Lib.hid fun W h => (h.block z (by have := HP.out; have := HZ.out; omega)).trans ((hb8.block z (by have := HP.out; have := HZ.out; omega)).trans HRJ7.out)
      have HB38 : Hid (Below w3.heap.size w3 w8) := Lib.hid ((HB5.out.trans (HB7.out.mono HB5.out.size)).trans (hb8.mono (by have := HP.out; have := HZ.out; have := HY.out; omega)))
      have HPS : Hid (p < w8.heap.size) := Lib.hid (by have := hb8.size; have := HP.out; omega)
      clear hin2 hlf hFL hfb2 hb8 f1 f2 b1 b2
      go_wp2_with fail
      go_loopw [74] (fun i wr => ∃ j n : Nat, j ≤ m3 ∧ i = .int .i64 j ∧ n ≤ j ∧ Im wr p n (cnt (FL.take j)) ∧ IntsIn wr wr.heap.size D2 FL ∧ Below p w8 wr) (fun i _ => m3 - (intOf i).toNat)
      case atStart => exact ⟨0, 0, by omega, rfl, by omega, by simpa using HIM8.out, HIN8.out, Below.refl _ _⟩
      case round =>
        obtain ⟨j, n, hj, rfl, hnj, him, hin, hbw⟩ := hrel
        have HB := Lib.hid hbw
        by_cases hlt : j < m3
        · have hjl : j < FL.length := by rw [HLF.out]; exact hlt
          obtain ⟨cb, off, hD, hbl, hcc⟩ := hin.2 (by omega)
          have u0 := hcc j hjl
          have HTK : Hid (FL.take (j + 1) = FL.take j ++ [FL[j]]) := Lib.hid (List.take_succ_eq_append_getElem hjl)
          have hfi := hin.1 FL[j] (List.getElem_mem hjl)
          obtain ⟨f, hf⟩ : ∃ f, FL[j] = f := ⟨_, rfl⟩
          rw [hf] at u0 HTK hfi
          have hjs : j < 1048576 := by have := HSM.out; omega
          have hlk := him.look hfi
          have hcl := cnt_le (FL.take j) f
          have htl : (FL.take j).length ≤ j := List.length_take_le _ _
          obtain ⟨w4', hput, him4, hg4⟩ := him.put (by unfold maxLen; omega) hfi (f := cnt (FL.take j) f + 1) (by constructor <;> omega)
          rw [cnt_snoc, ← HTK.out] at him4
          have hwr : IntKind.i64.wrap (cnt (FL.take j) f + 1) = cnt (FL.take j) f + 1 := IntWalk.i64_in _ ⟨by omega, by omega⟩
          obtain ⟨cn, hcn⟩ : ∃ c, cnt (FL.take j) f = c := ⟨_, rfl⟩
          rw [hcn] at hlk hput hwr
          have HIM4 := Lib.hid him4
          have HIN4 := Lib.hid (ints_grown hin hg4 HNE.out)
          have HB4w : Hid (Below p w8 w4') := Lib.hid (hbw.grown hg4 (by have := hbw.size; have := HPS.out; omega) (fun r e => by cases e; exact Nat.le_refl _))
          have g0 : (0 : Int) ≤ (j : Int) := by omega
          have g1 : (j : Int) < (m3 : Int) := by omega
          subst hD
          clear him hin hcc hf hjl hcl htl him4 hg4 hcn hbw hfi
          go_wp2_with fail
          go_roundw
          case rel => exact ⟨j + 1, n + 1, by omega, by go_num, by omega, HIM4.out, HIN4.out, HB4w.out⟩
          case measure => simp [intOf]; omega
        · obtain rfl : m3 = j := by omega
          have HIMF : Hid (Im wr p n (cnt FL)) := Lib.hid (by rwa [List.take_of_length_le (by rw [HLF.out]; exact Nat.le_refl _)] at him)
          have HB3r : Hid (Below w3.heap.size w3 wr) := Lib.hid (HB38.out.trans (hbw.mono (by have := HP.out; have := HZ.out; have := HY.out; omega)))
          have HVR := Lib.hid (HV3.out.below HB3r.out)
          have hrv := HRVW.out wr hbw
          have HIX := Lib.hid (fun (k : Nat) (hk : k < 4) W => arr_index A N C hk W)
          have HFI : Hid (∀ m ∈ v.L, i64 m.file) := Lib.hid fun m hm => by
            have hf := fine_num (HOK.out.fine m hm)
            obtain ⟨i, hi⟩ : ∃ i : Nat, m.lvl = i := ⟨m.lvl.toNat, by omega⟩
            exact ((HVR.out.at_ i (by omega)).wf m (List.mem_filter.2 ⟨hm, by rw [hi]; simp⟩)).file
          have yf0 : wr.cell? ⟨y, 0, none⟩ = some (.slice (A 0) (N 0) (C 0)) := cell_of_row _ _ _ _ _ _ hrv
          have yf1 : wr.cell? ⟨y, 1, none⟩ = some (.slice (A 1) (N 1) (C 1)) := cell_of_row _ _ _ _ _ _ hrv
          have yf2 : wr.cell? ⟨y, 2, none⟩ = some (.slice (A 2) (N 2) (C 2)) := cell_of_row _ _ _ _ _ _ hrv
          have yf3 : wr.cell? ⟨y, 3, none⟩ = some (.slice (A 3) (N 3) (C 3)) := cell_of_row _ _ _ _ _ _ hrv
          have yf4 : wr.cell? ⟨y, 4, none⟩ = some (.int .i64 v.log) := cell_of_row _ _ _ _ _ _ hrv
          have yf5 : wr.cell? ⟨y, 5, none⟩ = some (.int .i64 v.next) := cell_of_row _ _ _ _ _ _ hrv
          have yf6 : wr.cell? ⟨y, 6, none⟩ = some (.int .i64 v.seq) := cell_of_row _ _ _ _ _ _ hrv
          clear him hin hbw hrv hnj
          go_wp2_with fail
          go_loopw [12, 13, 14, 85] (fun lo hi sm i wx => ∃ (k2 : Nat) (lo' hi' : ByteArray) (b : Bool), k2 ≤ 4 ∧ i = .int .i64 k2 ∧ lo = .string lo' ∧ hi = .string hi' ∧ sm = .bool b ∧ Hid (Seen ((front v.L k2).filter (inb FL)) lo' hi' b) ∧ Below wr.heap.size wr wx) (fun _ _ _ i _ => 4 - (intOf i).toNat)
          case atStart => exact ⟨0, _, _, false, by omega, rfl, rfl, rfl, rfl, Lib.hid (Seen.nil _ _), Below.refl _ _⟩
          case round =>
            obtain ⟨k2, lo, hi, b, hk2, rfl, rfl, rfl, rfl, HSN, hbx⟩ := hrel
            rename World => wx
            clear yf0 yf1 yf2 yf3 yf4 yf5 yf6
            by_cases h4 : k2 < 4
            · have hd4 : decide ((k2 : Int) < 4) = true := decide_eq_true (by omega)
              have hd4' : decide (k2 < 4) = true := decide_eq_true h4
              have hix := HIX.out k2 h4
              have hlen := HVR.out.len k2 h4
              have HK4 := Lib.hid h4
              have HFK : Hid (front v.L (k2 + 1) = front v.L k2 ++ lev k2 v.L) := Lib.hid rfl
              obtain ⟨F, hF⟩ : ∃ F, front v.L k2 = F := ⟨_, rfl⟩
              rw [hF] at HFK HSN
              obtain ⟨nk, hnk⟩ : ∃ x, N k2 = x := ⟨_, rfl⟩
              obtain ⟨ck, hck⟩ : ∃ x, C k2 = x := ⟨_, rfl⟩
              obtain ⟨ak, hak⟩ : ∃ x, A k2 = x := ⟨_, rfl⟩
              rw [hak, hnk, hck] at hix
              rw [hnk] at hlen
              have HAK := Lib.hid hak
              have HLEN := Lib.hid hlen
              have hnb : nk ≤ 1048576 := by have := lev_len (k2 : Int) v.L; have := HN.out; omega
              have HBX := Lib.hid hbx
              clear hF hnk hck hak hlen hbx
              go_wp2_with fail
              go_loopw [12, 13, 14, 90] (fun lo hi sm i wy => ∃ (j : Nat) (lo' hi' : ByteArray) (b : Bool), j ≤ nk ∧ i = .int .i64 j ∧ lo = .string lo' ∧ hi = .string hi' ∧ sm = .bool b ∧ Hid (Seen ((F ++ (lev k2 v.L).take j).filter (inb FL)) lo' hi' b) ∧ Below wr.heap.size wr wy) (fun _ _ _ i _ => nk - (intOf i).toNat)
              case atStart => exact ⟨0, lo, hi, b, by omega, rfl, rfl, rfl, rfl, Lib.hid (by simpa using HSN.out), HBX.out⟩
              case round =>
                clear HSN HBX
                obtain ⟨j, lo, hi, b, hj, rfl, rfl, rfl, rfl, HSN, hby⟩ := hrel
                rename World => wy
                have HBY := Lib.hid hby
                by_cases hlt : j < nk
                · have hjl : j < (lev k2 v.L).length := by rw [← HLEN.out]; exact hlt
                  obtain ⟨cb, off, hA, hbl, hcc⟩ := ((HVR.out.below hby).at_ k2 HK4.out).at_ (by omega)
                  obtain ⟨u0, u1, u2, u3⟩ := hcc j hjl
                  have HTK : Hid ((lev k2 v.L).take (j + 1) = (lev k2 v.L).take j ++ [(lev k2 v.L)[j]]) := Lib.hid (List.take_succ_eq_append_getElem hjl)
                  have hfi := HFI.out (lev k2 v.L)[j] (List.mem_filter.1 (List.getElem_mem hjl)).1
                  obtain ⟨e, he⟩ : ∃ e, (lev k2 v.L)[j] = e := ⟨_, rfl⟩
                  rw [he] at u0 u1 u2 u3 HTK hfi
                  rw [HAK.out] at hA
                  obtain ⟨lv, q, g, t1, t2⟩ := e
                  simp only at u0 u1 u2 u3 hfi
                  have HSC := Lib.hid (seen_snoc FL (F ++ (lev k2 v.L).take j) ⟨lv, q, g, t1, t2⟩)
                  rw [List.append_assoc, ← HTK.out] at HSC
                  have hal := (Below.refl wy.heap.size wy).alloc (Nat.le_refl _) (.cells #[.int .i64 q, .int .i64 g, .string t1, .string t2] 64)
                  have hra := heap_alloc_new wy (.cells #[.int .i64 q, .int .i64 g, .string t1, .string t2] 64)
                  have hlk0 := HIMF.out.below (hby.trans (hal.mono hby.size))
                  have hlk := hlk0.look hfi
                  have hcp := cnt_pos FL q
                  obtain ⟨cn, hcn⟩ : ∃ c, cnt FL q = c := ⟨_, rfl⟩
                  rw [hcn] at hlk hcp
                  have g0 : (0 : Int) ≤ (j : Int) := by omega
                  have g1 : (j : Int) < (nk : Int) := by omega
                  subst hA
                  clear hcc he hjl hfi hlk0 hcn hby
                  go_upto_region 20 with fail
                  generalize wy.alloc (.cells #[.int .i64 q, .int .i64 g, .string t1, .string t2] 64) = wa at hal hra hlk ⊢
                  have HBA : Hid (Below wr.heap.size wr wa) := Lib.hid (HBY.out.trans (hal.mono HBY.out.size))
                  have yg0 : wa.cell? ⟨wy.heap.size, 0, none⟩ = some (.int .i64 q) := cell_of_row _ _ _ _ _ _ hra
                  have yg1 : wa.cell? ⟨wy.heap.size, 1, none⟩ = some (.int .i64 g) := cell_of_row _ _ _ _ _ _ hra
                  have yg2 : wa.cell? ⟨wy.heap.size, 2, none⟩ = some (.string t1) := cell_of_row _ _ _ _ _ _ hra
                  have yg3 : wa.cell? ⟨wy.heap.size, 3, none⟩ = some (.string t2) := cell_of_row _ _ _ _ _ _ hra
                  clear hal hra u0 u1 u2 u3
                  by_cases hm : q ∈ FL
                  · have hd : decide (0 < cn) = true := by rw [hcp]; exact decide_eq_true hm
                    rw [if_pos hm] at HSC
                    clear hcp
                    cases b with
                    | false =>
                      have HS2 : Hid (Seen ((F ++ (lev k2 v.L).take (j + 1)).filter (inb FL)) (Lib.minS t1 t1) (Lib.maxS t2 t2) true) := Lib.hid (by rw [HSC.out]; exact HSN.out.one ⟨lv, q, g, t1, t2⟩)
                      have hmn := fun W ts ty => Lib.run_min_strs (P := Try.prog) W ts ty t1 t1
                      have hmx := fun W ts ty => Lib.run_max_strs (P := Try.prog) W ts ty t2 t2
                      obtain ⟨lo2, hlo2⟩ : ∃ x, Lib.minS t1 t1 = x := ⟨_, rfl⟩
                      obtain ⟨hi2, hhi2⟩ : ∃ x, Lib.maxS t2 t2 = x := ⟨_, rfl⟩
                      rw [hlo2, hhi2] at HS2
                      simp only [hlo2] at hmn
                      simp only [hhi2] at hmx
                      clear hlo2 hhi2
                      go_upto_region 22 with fail
                      have HBD : Hid (Below wr.heap.size wr wa.drew) := Lib.hid HBA.out.drew
                      have yh2 : wa.drew.cell? ⟨wy.heap.size, 2, none⟩ = some (.string t1) := yg2
                      have yh3 : wa.drew.cell? ⟨wy.heap.size, 3, none⟩ = some (.string t2) := yg3
                      go_region
                      generalize wa.drew = wd at HBD yh2 yh3 ⊢
                      have HBE : Hid (Below wr.heap.size wr wd.drew) := Lib.hid HBD.out.drew
                      go_upto_region 23 with fail
                      go_region
                      clear hmn hmx yh2 yh3 yg0 yg1 yg2 yg3
                      go_wp2
                      go_roundw
                      case rel => exact ⟨j + 1, lo2, hi2, true, by omega, by go_num, rfl, rfl, rfl, HS2, HBE.out⟩
                      case measure => simp [intOf]; omega
                    | true =>
                      have HS2 : Hid (Seen ((F ++ (lev k2 v.L).take (j + 1)).filter (inb FL)) (Lib.minS lo t1) (Lib.maxS hi t2) true) := Lib.hid (by rw [HSC.out]; exact HSN.out.more ⟨lv, q, g, t1, t2⟩)
                      have hmn := fun W ts ty => Lib.run_min_strs (P := Try.prog) W ts ty lo t1
                      have hmx := fun W ts ty => Lib.run_max_strs (P := Try.prog) W ts ty hi t2
                      obtain ⟨lo2, hlo2⟩ : ∃ x, Lib.minS lo t1 = x := ⟨_, rfl⟩
                      obtain ⟨hi2, hhi2⟩ : ∃ x, Lib.maxS hi t2 = x := ⟨_, rfl⟩
                      rw [hlo2, hhi2] at HS2
                      simp only [hlo2] at hmn
                      simp only [hhi2] at hmx
                      clear hlo2 hhi2
                      go_upto_region 23 with fail
                      have HBE : Hid (Below wr.heap.size wr wa.drew) := Lib.hid HBA.out.drew
                      go_region
                      clear hmn hmx yg0 yg1 yg2 yg3
                      go_wp2
                      go_roundw
                      case rel => exact ⟨j + 1, lo2, hi2, true, by omega, by go_num, rfl, rfl, rfl, HS2, HBE.out⟩
                      case measure => simp [intOf]; omega
                  · have hd : decide (0 < cn) = false := by rw [hcp]; exact decide_eq_false hm
                    rw [if_neg hm] at HSC
                    have HS2 : Hid (Seen ((F ++ (lev k2 v.L).take (j + 1)).filter (inb FL)) lo hi b) := Lib.hid (by rw [HSC.out]; exact HSN.out)
                    clear hcp HSN HSC
                    go_wp2_with fail
                    go_roundw
                    case rel => exact ⟨j + 1, lo, hi, b, by omega, by go_num, rfl, rfl, rfl, HS2, HBA.out⟩
                    case measure => simp [intOf]; omega
                · obtain rfl : j = nk := by omega
                  have HS2 : Hid (Seen ((front v.L (k2 + 1)).filter (inb FL)) lo hi b) := Lib.hid (by
                    have h1 := HSN.out
                    rw [List.take_of_length_le (by rw [HLEN.out]; exact Nat.le_refl _)] at h1
                    rw [HFK.out]
                    exact h1)
                  have hk2s : k2 < 4 := HK4.out
                  clear hby
                  go_wp2_with fail
                  go_roundw
                  case rel => exact ⟨k2 + 1, lo, hi, b, by omega, by go_num, rfl, rfl, rfl, HS2, HBY.out⟩
                  case measure => simp [intOf]; omega
            · obtain rfl : k2 = 4 := by omega
              have HBX := Lib.hid hbx
              have hseen : Seen (v.L.filter (inb FL)) lo hi b := by
                have h1 := HSN.out
                rw [front_four, HOK.out.levs] at h1
                exact h1
              obtain ⟨rfl, hap⟩ := HDONE.out lo hi b hseen
              have HAP := Lib.hid hap
              have HSE := Lib.hid hseen
              clear hap hseen hbx HSN
              have HWFM : Hid (∀ m ∈ v.L, m.wf) := Lib.hid fun m hm => by
                have hf := fine_num (HOK.out.fine m hm)
                obtain ⟨i, hi⟩ : ∃ i : Nat, m.lvl = i := ⟨m.lvl.toNat, by omega⟩
                exact (HVR.out.at_ i (by omega)).wf m (List.mem_filter.2 ⟨hm, by rw [hi]; simp⟩)
              have HLH : Hid (lo.size ≤ 140737488351232 ∧ hi.size ≤ 140737488351232) := Lib.hid (by
                obtain ⟨h1, h2⟩ := HSE.out.2 rfl
                obtain ⟨a, ha, rfl⟩ := h1.2
                obtain ⟨b, hb, rfl⟩ := h2.2
                exact ⟨(HWFM.out a (List.mem_filter.1 ha).1).lo, (HWFM.out b (List.mem_filter.1 hb).1).hi⟩)
              have HB8x : Hid (Below p w8 wx) := Lib.hid (HB.out.trans (HBX.out.mono (by have := HB.out.size; have := HPS.out; omega)))
              have HN64 : Hid (0 ≤ v.next ∧ i64 v.log ∧ i64 v.seq) := Lib.hid ⟨HNU.out.2.2.1, HNU.out.1.1, HNU.out.1.2.2⟩
              have hk3 := HK.out
              have hkw : IntKind.i64.wrap ((k : Int) + 1) = (k : Int) + 1 := IntWalk.i64_in _ ⟨by omega, by omega⟩
              have hnw : IntKind.i64.wrap (v.next + 1) = v.next + 1 := IntWalk.i64_in _ ⟨by have := HN64.out; have := HNX.out; omega, by have := HN64.out; have := HNX.out; omega⟩
              have HDI : Hid (∀ W, Below w8.heap.size w8 W → True) := Lib.hid fun _ _ => trivial
              clear HSE HDONE
              go_upto_region 26 with fail
              go_cut [21] from 115 to 138 (fun pv wz => ∃ pa bs D3 d3, pv = .pointer (some ⟨pa, 0, none⟩) ∧ wz.heap[pa]? = some (.cells #[.slice (some ⟨bs, 0, none⟩) 1 1, .slice D3 m3 d3, .int .i64 v.log, .int .i64 (v.next + 1), .int .i64 v.seq] 36 (0, 0)) ∧ wz.heap[bs]? = some (.cells #[.int .i64 ((k : Int) + 1), .int .i64 v.next, .int .i64 0, .string lo, .string hi] 81 (0, 0)) ∧ IntsIn wz wz.heap.size D3 FL ∧ m3 ≤ d3 ∧ Below wx.heap.size wx wz)
              case first =>
                rename_i J1 K1 hJ1 hK1
                have HB6x : Hid (Below p w6 wx) := Lib.hid ((HB67.out.trans (HB8.out.mono (by have := HP.out; omega))).trans HB8x.out)
                have HPX : Hid (p ≤ wx.heap.size) := Lib.hid (by have := HB8x.out.size; have := HPS.out; omega)
                have HIX1 : Hid (∀ W, Below wx.heap.size wx W → IntsIn W W.heap.size A1 (files fr)) := Lib.hid fun W h => (HIW.out W (HB6x.out.trans (h.mono HPX.out))).1
                have HIX2 : Hid (∀ W, Below wx.heap.size wx W → IntsIn W W.heap.size A2 (files tw)) := Lib.hid fun W h => (HIW.out W (HB6x.out.trans (h.mono HPX.out))).2
                have HCL : Hid (∀ W, Below wx.heap.size wx W → W.cell? ⟨z, 0, none⟩ = some (.int .i64 k) ∧ W.cell? ⟨z, 1, none⟩ = some (.slice A1 m1 c1) ∧ W.cell? ⟨z, 2, none⟩ = some (.slice A2 m2 c2) ∧ W.cell? ⟨y, 4, none⟩ = some (.int .i64 v.log) ∧ W.cell? ⟨y, 5, none⟩ = some (.int .i64 v.next) ∧ W.cell? ⟨y, 6, none⟩ = some (.int .i64 v.seq)) := Lib.hid fun W h => by
                  have rj := HRJW.out W (HB8x.out.trans (h.mono HPX.out))
                  have rv := HRVW.out W (HB8x.out.trans (h.mono HPX.out))
                  exact ⟨cell_of_row _ _ _ _ _ _ rj, cell_of_row _ _ _ _ _ _ rj, cell_of_row _ _ _ _ _ _ rj, cell_of_row _ _ _ _ _ _ rv, cell_of_row _ _ _ _ _ _ rv, cell_of_row _ _ _ _ _ _ rv⟩
                have BAL : Hid (∀ W r, Below wx.heap.size wx W → Below wx.heap.size wx (W.alloc r)) := Lib.hid fun W r h => h.alloc h.size r
                have BDR : Hid (∀ W, Below wx.heap.size wx W → Below wx.heap.size wx W.drew) := Lib.hid fun W h => h.drew
                have BST : Hid (∀ W (p : Addr) u, wx.heap.size ≤ p.block → Below wx.heap.size wx W → Below wx.heap.size wx (W.setCell p u)) := Lib.hid fun W p u hp h => h.setCell hp u
                have BTR : Hid (∀ W W', Below wx.heap.size wx W → Below W.heap.size W W' → Below wx.heap.size wx W') := Lib.hid fun W W' h1 h2 => h1.trans (h2.mono h1.size)
                have BTS : Hid (∀ W W' B, Below wx.heap.size wx W → Below B W W' → wx.heap.size ≤ B → Below wx.heap.size wx W') := Lib.hid fun W W' B h1 h2 h3 => h1.trans (h2.mono h3)
                have HB0 : Hid (Below wx.heap.size wx wx.drew) := Lib.hid (Below.refl _ _).drew
                clear HAF HWK HRA HB1 HX HS1 HRL HRS HB3 HRV HB4 HB4' HJ HC HRJ HB5 HB5' HB6 HB7 HIM HIa HBa HIb HRJ7 HRV7 HIN8 HIM8 HB8 HRVW HRJW HB38 HB HIMF HB3r HVR HIX HFI HBX HAP HLH HWFM HN64 HDI HIW HB6x HB67 HNE
                go_region_held3 (fun s => s.cell? ⟨z, 0, none⟩ = some (.int .i64 k) ∧ s.cell? ⟨z, 1, none⟩ = some (.slice A1 m1 c1) ∧ s.cell? ⟨z, 2, none⟩ = some (.slice A2 m2 c2) ∧ s.cell? ⟨y, 4, none⟩ = some (.int .i64 v.log) ∧ s.cell? ⟨y, 5, none⟩ = some (.int .i64 v.next) ∧ s.cell? ⟨y, 6, none⟩ = some (.int .i64 v.seq))
                  (first | (refine HCL.out _ ?_; (repeat' (first | with_reducible exact HB2.out | with_reducible exact HB1.out | with_reducible exact HB0.out | with_reducible exact Below.refl _ _ | with_reducible refine BAL.out _ _ ?_ | with_reducible refine BDR.out _ ?_ | with_reducible refine BST.out _ _ _ ?_ ?_ | (dsimp only; omega) | (simp; done) | (simp; omega))); done) | fail)
                  (first
                    | (refine step_app_ints (by rfl) _ _ (by rfl) (by rfl) A1 m1 c1 (files fr) (by rfl) (by rfl) (HIX1.out _ (by (repeat' (first | with_reducible exact HB2.out | with_reducible exact HB1.out | with_reducible exact HB0.out | with_reducible exact Below.refl _ _ | with_reducible refine BAL.out _ _ ?_ | with_reducible refine BDR.out _ ?_ | with_reducible refine BST.out _ _ _ ?_ ?_ | (dsimp only; omega) | (simp; done) | (simp; omega))); first | done | fail)) HL1.out (by have := HSM.out; omega) ?_
                       intro D1 e1 wa hin1 hd1 hb1 ho1
                       have HO1 := Lib.hid ho1
                       have HB1 : Hid (Below wx.heap.size wx wa) := Lib.hid (BTR.out _ _ (by (repeat' (first | with_reducible exact HB2.out | with_reducible exact HB1.out | with_reducible exact HB0.out | with_reducible exact Below.refl _ _ | with_reducible refine BAL.out _ _ ?_ | with_reducible refine BDR.out _ ?_ | with_reducible refine BST.out _ _ _ ?_ ?_ | (dsimp only; omega) | (simp; done) | (simp; omega))); first | done | fail) hb1)
                       have HG1 := Lib.hid (below_keep hb1)
                       have HS1 := Lib.hid hb1.size
                       have HD1 := Lib.hid (own_some ho1)
                       have hs1 := hb1.size
                       try simp at hs1
                       clear hin1 hd1 hb1 ho1)
                    | (refine step_app_own (by rfl) _ _ (by rfl) (by rfl) _ D1 m1 e1 (files fr) A2 m2 c2 (files tw) m3 HM3.out (by rfl) (by rfl) (by first | with_reducible exact HO1.out | with_reducible exact HO1.out.alloc _ | with_reducible exact (HO1.out.alloc _).alloc _) HI1W.out HL1.out HM1.out (HIX2.out _ (by (repeat' (first | with_reducible exact HB2.out | with_reducible exact HB1.out | with_reducible exact HB0.out | with_reducible exact Below.refl _ _ | with_reducible refine BAL.out _ _ ?_ | with_reducible refine BDR.out _ ?_ | with_reducible refine BST.out _ _ _ ?_ ?_ | (dsimp only; omega) | (simp; done) | (simp; omega))); first | done | fail)) HL2.out (by have := HSM.out; omega) (by have := HS1.out; first | exact this | (simp at this ⊢; omega)) ?_
                       intro D3 e3 wb hin2 hd2 hb2 hg2
                       rw [HFL.out] at hin2
                       have HIN2 := Lib.hid hin2
                       have HD2 := Lib.hid hd2
                       have HG2 := Lib.hid hg2
                       have HL3 := Lib.hid (ints_lt hin2)
                       have HB2 : Hid (Below wx.heap.size wx wb) := Lib.hid (BTS.out _ _ _ (by (repeat' (first | with_reducible exact HB2.out | with_reducible exact HB1.out | with_reducible exact HB0.out | with_reducible exact Below.refl _ _ | with_reducible refine BAL.out _ _ ?_ | with_reducible refine BDR.out _ ?_ | with_reducible refine BST.out _ _ _ ?_ ?_ | (dsimp only; omega) | (simp; done) | (simp; omega))); first | done | fail) hb2 (by first | (simp; done) | (simp; omega)))
                       have hs2 := hb2.size
                       try simp at hs2
                       have hzw : ((wb.alloc (.cells #[.slice none 0 0, .slice none 0 0, .int .i64 0, .int .i64 0, .int .i64 0] 36)).alloc (.cells #[.int .i64 ((k : Int) + 1), .int .i64 v.next, .int .i64 0, .string lo, .string hi] 81)).heap[wb.heap.size]? = some (.cells #[.slice none 0 0, .slice none 0 0, .int .i64 0, .int .i64 0, .int .i64 0] 36) := alloc_keep (heap_alloc_new wb _)
                       obtain ⟨zb0, zb1, zb2, zb3, zb4, zb5, zb6, zb7, zb8, zb9⟩ := zero_cells hzw
                       first
                         | (have hzz : wb.heap[wx.heap.size]? = some (.cells #[.slice none 0 0, .slice none 0 0, .int .i64 0, .int .i64 0, .int .i64 0] 36) ∧ (∀ g, D3 = some g → g.block ≠ wx.heap.size) := HG2.out _ _ (by (repeat' (first | exact alloc_here (by simp; first | done | fail) | with_reducible refine alloc_keep ?_ | with_reducible refine drew_keep ?_ | with_reducible refine HG1.out _ _ ?_)); first | done | fail) (by (intro g e; have h := HD1.out g e; (try simp at h); omega))
                            have hzr := hzz.1
                            have hzd := hzz.2
                            clear hzz
                            obtain ⟨zc0, zc1, zc2, zc3, zc4, zc5, zc6, zc7, zc8, zc9⟩ := zero_cells hzr
                            obtain ⟨zd0, zd1, zd2, zd3, zd4, zd5, zd6, zd7, zd8, zd9⟩ := zero_cells (alloc_keep (r := (.cells #[.int .i64 ((k : Int) + 1), .int .i64 v.next, .int .i64 0, .string lo, .string hi] 81)) hzr))
                         | (have hzz : wb.heap[wx.heap.size + 1]? = some (.cells #[.slice none 0 0, .slice none 0 0, .int .i64 0, .int .i64 0, .int .i64 0] 36) ∧ (∀ g, D3 = some g → g.block ≠ wx.heap.size + 1) := HG2.out _ _ (by (repeat' (first | exact alloc_here (by simp; first | done | fail) | with_reducible refine alloc_keep ?_ | with_reducible refine drew_keep ?_ | with_reducible refine HG1.out _ _ ?_)); first | done | fail) (by (intro g e; have h := HD1.out g e; (try simp at h); omega))
                            have hzr := hzz.1
                            have hzd := hzz.2
                            clear hzz
                            obtain ⟨zc0, zc1, zc2, zc3, zc4, zc5, zc6, zc7, zc8, zc9⟩ := zero_cells hzr
                            obtain ⟨zd0, zd1, zd2, zd3, zd4, zd5, zd6, zd7, zd8, zd9⟩ := zero_cells (alloc_keep (r := (.cells #[.int .i64 ((k : Int) + 1), .int .i64 v.next, .int .i64 0, .string lo, .string hi] 81)) hzr))
                         | (have hzz : wb.heap[wa.heap.size]? = some (.cells #[.slice none 0 0, .slice none 0 0, .int .i64 0, .int .i64 0, .int .i64 0] 36) ∧ (∀ g, D3 = some g → g.block ≠ wa.heap.size) := HG2.out _ _ (by (repeat' (first | exact alloc_here (by simp; first | done | fail) | with_reducible refine alloc_keep ?_ | with_reducible refine drew_keep ?_ | with_reducible refine HG1.out _ _ ?_)); first | done | fail) (by (intro g e; have h := HD1.out g e; (try simp at h); omega))
                            have hzr := hzz.1
                            have hzd := hzz.2
                            clear hzz
                            obtain ⟨zc0, zc1, zc2, zc3, zc4, zc5, zc6, zc7, zc8, zc9⟩ := zero_cells hzr
                            obtain ⟨zd0, zd1, zd2, zd3, zd4, zd5, zd6, zd7, zd8, zd9⟩ := zero_cells (alloc_keep (r := (.cells #[.int .i64 ((k : Int) + 1), .int .i64 v.next, .int .i64 0, .string lo, .string hi] 81)) hzr))
                         | (have hzz : wb.heap[wa.heap.size + 1]? = some (.cells #[.slice none 0 0, .slice none 0 0, .int .i64 0, .int .i64 0, .int .i64 0] 36) ∧ (∀ g, D3 = some g → g.block ≠ wa.heap.size + 1) := HG2.out _ _ (by (repeat' (first | exact alloc_here (by simp; first | done | fail) | with_reducible refine alloc_keep ?_ | with_reducible refine drew_keep ?_ | with_reducible refine HG1.out _ _ ?_)); first | done | fail) (by (intro g e; have h := HD1.out g e; (try simp at h); omega))
                            have hzr := hzz.1
                            have hzd := hzz.2
                            clear hzz
                            obtain ⟨zc0, zc1, zc2, zc3, zc4, zc5, zc6, zc7, zc8, zc9⟩ := zero_cells hzr
                            obtain ⟨zd0, zd1, zd2, zd3, zd4, zd5, zd6, zd7, zd8, zd9⟩ := zero_cells (alloc_keep (r := (.cells #[.int .i64 ((k : Int) + 1), .int .i64 v.next, .int .i64 0, .string lo, .string hi] 81)) hzr))
                         | skip
                       clear hin2 hd2 hb2 hg2)
                    | fail)
                all_goals refine hK1 _ _ (Met.intro (hJ1 _ _ ?_))
                all_goals (repeat apply Exists.intro)
                all_goals refine ⟨?_, rfl⟩
                all_goals (
                  first
                    | (with_reducible refine end_new (W := wb) ?_ HIN2.out HB2.out HD2.out rfl
                       exact (HG2.out _ _ (by (repeat' (first | exact alloc_here (by simp; first | done | fail) | with_reducible refine alloc_keep ?_ | with_reducible refine drew_keep ?_ | with_reducible refine HG1.out _ _ ?_)); first | done | fail) (by (intro g e; have h := HD1.out g e; (try simp at h); omega))).1)
                    | (with_reducible refine end_new (W := wb.alloc (.cells #[.int .i64 ((k : Int) + 1), .int .i64 v.next, .int .i64 0, .string lo, .string hi] 81)) (alloc_here rfl) (ints_alloc HIN2.out) (BAL.out _ _ HB2.out) HD2.out (by simp))
                    | (with_reducible refine end_set (W := wb) hzr ?_ HIN2.out HB2.out HD2.out ?_ hzd ?_
                       · exact (HG2.out _ _ (by (repeat' (first | exact alloc_here (by simp; first | done | fail) | with_reducible refine alloc_keep ?_ | with_reducible refine drew_keep ?_ | with_reducible refine HG1.out _ _ ?_)); first | done | fail) (by (intro g e; have h := HD1.out g e; (try simp at h); omega))).1
                       · (first | omega | (simp at hs1 hs2 ⊢; omega))
                       · (first | omega | (simp at hs1 hs2 ⊢; omega)))
                    | (with_reducible refine end_set (W := wb.alloc (.cells #[.int .i64 ((k : Int) + 1), .int .i64 v.next, .int .i64 0, .string lo, .string hi] 81)) (alloc_keep hzr) (alloc_here rfl) (ints_alloc HIN2.out) (BAL.out _ _ HB2.out) HD2.out ?_ hzd ?_
                       · (first | omega | (simp at hs1 hs2 ⊢; omega))
                       · (first | omega | (simp at hs1 hs2 ⊢; omega)))
                    | with_reducible exact ⟨wb.heap.size, wb.heap.size + 1, D3, e3, rfl, alloc_keep (alloc_here rfl), alloc_here (by simp), ints_alloc (ints_alloc HIN2.out), HD2.out, BAL.out _ _ (BAL.out _ _ HB2.out)⟩)
              case rest =>
              obtain ⟨pa, bs, D3, d3, rfl, hpa, hbs, hin3, hd3, hbz⟩ := hcut
              rename World => wz
              have HB8z : Hid (Below p w8 wz) := Lib.hid (HB8x.out.trans (hbz.mono (by have := HB8x.out.size; have := HPS.out; omega)))
              have HVZ := Lib.hid ((HVR.out.below HBX.out).below hbz)
              have HED : Hid (EdIn wz (some ⟨bs, 0, none⟩) 1 1 D3 m3 d3 ⟨[⟨(k : Int) + 1, v.next, 0, lo, hi⟩], FL, v.log, v.next + 1, v.seq⟩) := Lib.hid (by
                refine ⟨⟨fun m hm => ?_, fun _ => ⟨bs, 0, rfl, (Array.getElem?_eq_some_iff.1 hbs).1, fun j hj => ?_⟩⟩, rfl, Nat.le_refl _, hin3, HLF.out, hd3, HN64.out.2.1, ?_, HN64.out.2.2⟩
                · obtain rfl := List.mem_singleton.1 hm
                  exact ⟨⟨by show -9223372036854775808 ≤ (k : Int) + 1; omega, by show (k : Int) + 1 ≤ 9223372036854775807; omega⟩, HNU.out.1.2.1, show i64 0 from i64_lit (by decide), HLH.out.1, HLH.out.2⟩
                · have hj1 : j < 1 := hj
                  obtain rfl : j = 0 := by omega
                  simp [World.cell?, hbs]
                · have := HN64.out
                  have := HNX.out
                  exact ⟨by show -9223372036854775808 ≤ v.next + 1; omega, by show v.next + 1 ≤ 9223372036854775807; omega⟩)
              have hrv := HRVW.out wz HB8z.out
              have HBZ : Hid (Below w.heap.size w wz) := Lib.hid (by
                have h1 := HB1.out
                have h2 := HB3.out
                have h3 := HB3r.out
                rw [HX.out] at h1 ⊢
                exact (((h1.trans (h2.mono (by have := HS1.out; omega))).trans (h3.mono (by have := HY.out; omega))).trans (HBX.out.mono (by have := h3.size; have := HY.out; omega))).trans (hbz.mono (by have := h3.size; have := HBX.out.size; have := HY.out; omega)))
              have yi0 : wz.cell? ⟨pa, 0, none⟩ = some (.slice (some ⟨bs, 0, none⟩) 1 1) := cell_of_row _ _ _ _ _ _ hpa
              have yi1 : wz.cell? ⟨pa, 1, none⟩ = some (.slice D3 m3 d3) := cell_of_row _ _ _ _ _ _ hpa
              have yi2 : wz.cell? ⟨pa, 2, none⟩ = some (.int .i64 v.log) := cell_of_row _ _ _ _ _ _ hpa
              have yi3 : wz.cell? ⟨pa, 3, none⟩ = some (.int .i64 (v.next + 1)) := cell_of_row _ _ _ _ _ _ hpa
              have yi4 : wz.cell? ⟨pa, 4, none⟩ = some (.int .i64 v.seq) := cell_of_row _ _ _ _ _ _ hpa
              have yj0 : wz.cell? ⟨y, 0, none⟩ = some (.slice (A 0) (N 0) (C 0)) := cell_of_row _ _ _ _ _ _ hrv
              have yj1 : wz.cell? ⟨y, 1, none⟩ = some (.slice (A 1) (N 1) (C 1)) := cell_of_row _ _ _ _ _ _ hrv
              have yj2 : wz.cell? ⟨y, 2, none⟩ = some (.slice (A 2) (N 2) (C 2)) := cell_of_row _ _ _ _ _ _ hrv
              have yj3 : wz.cell? ⟨y, 3, none⟩ = some (.slice (A 3) (N 3) (C 3)) := cell_of_row _ _ _ _ _ _ hrv
              have yj4 : wz.cell? ⟨y, 4, none⟩ = some (.int .i64 v.log) := cell_of_row _ _ _ _ _ _ hrv
              have yj5 : wz.cell? ⟨y, 5, none⟩ = some (.int .i64 v.next) := cell_of_row _ _ _ _ _ _ hrv
              have yj6 : wz.cell? ⟨y, 6, none⟩ = some (.int .i64 v.seq) := cell_of_row _ _ _ _ _ _ hrv
              clear hpa hbs hin3 hbz hrv hkw hnw
              go_wp2_with fail
              refine (apply_any A N C v (some ⟨bs, 0, none⟩) 1 1 D3 m3 d3 ⟨[⟨(k : Int) + 1, v.next, 0, lo, hi⟩], FL, v.log, v.next + 1, v.seq⟩ wz HVZ.out HOK.out (by have := HN.out; omega) HED.out (by decide) (by have := HSM.out; omega)).mono ?_
              rintro r w9 ⟨⟨A9, N9, C9, rfl, -, -⟩, hb9⟩
              rw [HAP.out]
              generalize (apply v ⟨[⟨(k : Int) + 1, v.next, 0, lo, hi⟩], FL, v.log, v.next + 1, v.seq⟩).1 = v9
              have HB9 := Lib.hid (HBZ.out.trans (hb9.mono HBZ.out.size))
              clear hb9 yi0 yi1 yi2 yi3 yi4 yj0 yj1 yj2 yj3 yj4 yj5 yj6
              unfold verV
              go_upto_region 28 with fail
              have HBA := Lib.hid (HB9.out.alloc HB9.out.size (.cells #[.slice (A9 0) (N9 0) (C9 0), .slice (A9 1) (N9 1) (C9 1), .slice (A9 2) (N9 2) (C9 2), .slice (A9 3) (N9 3) (C9 3), .int .i64 v9.log, .int .i64 v9.next, .int .i64 v9.seq] 26))
              generalize w9.alloc (.cells #[.slice (A9 0) (N9 0) (C9 0), .slice (A9 1) (N9 1) (C9 1), .slice (A9 2) (N9 2) (C9 2), .slice (A9 3) (N9 3) (C9 3), .int .i64 v9.log, .int .i64 v9.next, .int .i64 v9.seq] 26) = wf at HBA ⊢
              go_wp2_with fail
              go_ret
              exact ⟨rfl, HBA.out⟩
end lawFits
end Go.Proofs.Ytffdiiolgflbkaa

