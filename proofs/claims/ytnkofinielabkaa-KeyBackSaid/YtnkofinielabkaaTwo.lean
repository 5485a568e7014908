/- Two rows of unlike elements, each appended to; the walk of lists. -/
import Derived.Test.YtnkofinielabkaaOpen
import Derived.Deep.RegionHeld3
import Derived.Deep.DrawnRows
import Derived.Deep.AppendLies
namespace Go.Proofs.Ytnkofinielabkaa
open Go.RowKit
attribute [local go_sem ↓] Go.wp_at_zero Go.wp_at_succ

section
variable {w w' : World} {b1 b2 : Nat} {e1 e2 : TypeId} {s1 s2 : Nat} {v1 v2 : Value} {n1 n2 : Nat} {xs1 xs2 : List Value}

/-- two rows whose elements' types differ never share a block -/
theorem own_apart (h1 : w.ownsRow b1 e1 s1 v1 n1 xs1) (h2 : w.ownsRow b2 e2 s2 v2 n2 xs2) (hne : e1 ≠ e2) : v1.ownBlock = none ∨ v1.ownBlock ≠ v2.ownBlock := by
  rcases h1.2 with ⟨rfl, _⟩ | ⟨g, cap, cur, rfl, _, hg, _⟩
  · left; rfl
  · right
    intro he
    rcases h2.2 with ⟨rfl, _⟩ | ⟨g', cap', cur', rfl, _, hg', _⟩
    · simp [Value.ownBlock] at he
    · have : g = g' := by simpa [Value.ownBlock] using he
      subst this
      rw [hg] at hg'
      injection hg' with hg'
      injection hg' with _ ht
      exact hne ht

theorem own_drew (h : w.ownsRow b1 e1 s1 v1 n1 xs1) : w.drew.ownsRow b1 e1 s1 v1 n1 xs1 := h

/-- a block that is not yet there is no row's own -/
theorem own_new (h : w.ownsRow b1 e1 s1 v1 n1 xs1) {B : Nat} (hB : w.heap.size ≤ B) : some B ≠ v1.ownBlock := fun he => by
  have := (h.lt B he.symm).2
  omega
end

theorem alloc_at (w : World) (o : Obj) (B : Nat) (h : w.heap.size = B) : (w.alloc o).heap[B]? = some o := by subst h; exact heap_alloc_new w o
theorem alloc_old (w : World) (o x : Obj) (B : Nat) (h : w.heap[B]? = some x) : (w.alloc o).heap[B]? = some x := by
  have hlt : B < w.heap.size := (Array.getElem?_eq_some_iff.1 h).1
  exact (Below.heap_alloc w o B hlt).trans h
theorem drew_at (w : World) (x : Obj) (B : Nat) (h : w.heap[B]? = some x) : w.drew.heap[B]? = some x := h

/-- two rows that the call owns, of unlike elements -/
structure Two (base : Nat) (e1 : TypeId) (s1 : Nat) (v1 : Value) (n1 : Nat) (xs1 : List Value) (e2 : TypeId) (s2 : Nat) (v2 : Value) (n2 : Nat) (xs2 : List Value) (W w : World) : Prop where
  own1 : w.ownsRow base e1 s1 v1 n1 xs1
  own2 : w.ownsRow base e2 s2 v2 n2 xs2
  below : Below base W w
  base_le : base ≤ w.heap.size

section
variable {base : Nat} {e1 e2 : TypeId} {s1 s2 : Nat} {v1 v2 : Value} {n1 n2 : Nat} {xs1 xs2 : List Value} {W w w' : World}
theorem Two.alloc (h : Two base e1 s1 v1 n1 xs1 e2 s2 v2 n2 xs2 W w) (o : Obj) : Two base e1 s1 v1 n1 xs1 e2 s2 v2 n2 xs2 W (w.alloc o) :=
  ⟨h.own1.alloc o, h.own2.alloc o, h.below.alloc h.base_le o, by have := h.base_le; simp; omega⟩
theorem Two.drew (h : Two base e1 s1 v1 n1 xs1 e2 s2 v2 n2 xs2 W w) : Two base e1 s1 v1 n1 xs1 e2 s2 v2 n2 xs2 W w.drew :=
  ⟨own_drew h.own1, own_drew h.own2, h.below.drew, h.base_le⟩
theorem Two.app1 {v : Value} {n : Nat} {xs : List Value} (h : Two base e1 s1 v1 n1 xs1 e2 s2 v2 n2 xs2 W w) (hne : e1 ≠ e2) (ho : w'.ownsRow base e1 s1 v n xs) (hg : w.grownBy w' v1.ownBlock) : Two base e1 s1 v n xs e2 s2 v2 n2 xs2 W w' :=
  ⟨ho, h.own2.kept hg (own_apart h.own2 h.own1 (Ne.symm hne)), h.below.grown hg h.base_le (fun g hg => (h.own1.lt g hg).1), Nat.le_trans h.base_le hg.size⟩
theorem Two.app2 {v : Value} {n : Nat} {xs : List Value} (h : Two base e1 s1 v1 n1 xs1 e2 s2 v2 n2 xs2 W w) (hne : e1 ≠ e2) (ho : w'.ownsRow base e2 s2 v n xs) (hg : w.grownBy w' v2.ownBlock) : Two base e1 s1 v1 n1 xs1 e2 s2 v n xs W w' :=
  ⟨h.own1.kept hg (own_apart h.own1 h.own2 hne), ho, h.below.grown hg h.base_le (fun g hg => (h.own2.lt g hg).1), Nat.le_trans h.base_le hg.size⟩
end

theorem info_part : (Try.prog.info? 34).map (fun i => (i.zero, i.size, i.bytes)) = some (some (.agg #[.bool false, .int .i64 0, .string ⟨#[]⟩]), 3, 32) := by kernel_rfl
theorem info_rpart : (Try.prog.info? 48).map (fun i => (i.zero, i.size, i.bytes)) = some (some (.agg #[.bool false, .int .i64 0, .string ⟨#[]⟩]), 3, 32) := by kernel_rfl

def cells3 (p : KM.KP) : List Value := [.bool p.t, .int .i64 p.n, .string p.s]
def partCells (l : List KM.KP) : List Value := l.flatMap cells3

theorem partCells_len (l : List KM.KP) : (partCells l).length = l.length * 3 := by
  induction l with
  | nil => rfl
  | cons p l ih => simp only [partCells, List.flatMap_cons, List.length_append, List.length_cons] at ih ⊢; simp [cells3] at ih ⊢; omega

theorem partCells_snoc (l : List KM.KP) (k : Nat) (h : k < l.length) : partCells (l.take (k + 1)) = partCells (l.take k) ++ cells3 l[k] := by
  rw [List.take_succ_eq_append_getElem h]
  unfold partCells
  rw [List.flatMap_append]
  simp

def ListsRel (n base : Nat) (l : List KM.KP) (w : World) (a b i : Value) (wr : World) : Prop :=
  ∃ k : Nat, k ≤ n ∧ i = .int .i64 k ∧ Two base 34 3 a k (partCells (l.take k)) 48 3 b k (partCells (l.take k)) w wr

set_option maxRecDepth 100000 in
set_option maxHeartbeats 1000000 in
theorem lists_any (A : Option Addr) (n cap : Nat) (l : List KM.KP) (w : World) (hn : l.length = n) (hz : PartsIn w w.heap.size A l) (hb : n * 32 ≤ 140737488351232) :
    Calls Try.prog 8 #[.slice A n cap] w fun e w' => ∃ a b, e = .returned (.tuple #[a, b]) ∧ Two w.heap.size 34 3 a n (partCells l) 48 3 b n (partCells l) w w' := by
  obtain ⟨i0, hi, hz0, hz1, hz2⟩ := info_parts info_part
  obtain ⟨j0, hj, hy0, hy1, hy2⟩ := info_parts info_rpart
  have HZ := Lib.hid hz
  have HN := Lib.hid hn
  clear hz hn
  go_enter Try.func8, Try.ntmps8
  go_wp2
  go_loopw [4, 5, 10] (fun a b i wr => ListsRel n w.heap.size l w a b i wr) (fun _ _ i _ => n - (intOf i).toNat)
  case atStart => exact ⟨0, by omega, rfl, World.ownsRow_nil _ _ _ _, World.ownsRow_nil _ _ _ _, Below.refl _ _, Nat.le_refl _⟩
  case round =>
    obtain ⟨k, hk, rfl, hT⟩ := hrel
    by_cases hlt : k < n
    · have hkl : k < l.length := by rw [HN.out]; exact hlt
      obtain ⟨b, off, hA, hbl, hc⟩ := (HZ.out.below hT.below).2 (by omega)
      obtain ⟨hc0, hc1, hc2⟩ := hc k hkl
      have HSN := Lib.hid (partCells_snoc l k hkl)
      obtain ⟨p, hp⟩ : ∃ p, l[k] = p := ⟨_, rfl⟩
      rw [hp] at hc0 hc1 hc2 HSN
      obtain ⟨X, hX⟩ : ∃ X, partCells (l.take k) = X := ⟨_, rfl⟩
      rw [hX] at hT HSN
      have HT := Lib.hid hT
      have hBs := hT.below.size
      have hTo1 := hT.own1
      have hTo2 := hT.own2
      have HN1 := Lib.hid (fun B => @own_new _ _ _ _ _ _ _ hTo1 B)
      have HN2 := Lib.hid (fun B => @own_new _ _ _ _ _ _ _ hTo2 B)
      have hm1 : k + 1 ≤ maxLen := by unfold maxLen; omega
      have hm2 : (k + 1) * 32 ≤ 140737488355328 := by omega
      clear hT hTo1 hTo2 hc hp hX
      subst hA
      have HT1 := HT
      have HT2 := HT
      have hgrow1 : wr.grownBy wr none := World.grownBy.refl _ _
      have hgrow2 : wr.grownBy wr none := World.grownBy.refl _ _
      go_wp2_with fail
      go_region_held3 (fun w' => w'.cell? ⟨wr.heap.size, 0, none⟩ = some (.bool p.t) ∧ w'.cell? ⟨wr.heap.size, 1, none⟩ = some (.int .i64 p.n) ∧ w'.cell? ⟨wr.heap.size, 2, none⟩ = some (.string p.s))
        (first
          | go_keep
          | (go_split_ands; refine ⟨?_, ?_, ?_⟩ <;> (first | (rw [hgrow1.cell_far _ (by simp; omega) (HN1.out _ (by simp))]; assumption) | (rw [hgrow2.cell_far _ (by simp; omega) (HN2.out _ (by simp))]; assumption))))
        (first
          | (refine step_append_lies _ (by rfl) _ _ 23 (by rfl) w.heap.size 34 i0 _ 3 32 Try.underlying23 hi hz0 hz1 hz2 rfl (by omega) u4 k X (by rfl) ?_ _ 1 1 (cells3 p) (by rfl) (by rfl) ?_ (by simp [cells3, Value.oneCell']) (by omega) hm1 hm2 ?_ _ (by rfl) ?_
             · repeat (first | exact HT.out.own1 | exact HT2.out.own1 | refine World.ownsRow.alloc ?_ _ | refine own_drew ?_ | fail)
             · refine World.news_of_block (cs := (cells3 p).toArray) (t := 34) (fr := (0, 0)) ?_
               first | exact drew_at _ _ _ (alloc_at _ _ _ (by simp)) | exact drew_at _ _ _ (alloc_old _ _ _ _ (alloc_at _ _ _ (by simp))) | exact alloc_at _ _ _ (by simp) | (refine (hgrow2.block _ (by simp <;> omega) (HN2.out _ (by omega))).trans ?_; first | exact drew_at _ _ _ (alloc_at _ _ _ (by simp)) | exact drew_at _ _ _ (alloc_old _ _ _ _ (alloc_at _ _ _ (by simp))) | fail) | fail
             · first | (simp; omega) | omega | fail
             intro g1 c1 w1 hown1 hgrow1 hat1 hlt1
             have hs1 : wr.heap.size < w1.heap.size := by
               have hgs := hgrow1.size
               first | omega | (simp at hgs; omega) | fail
             first | have HT1 := Lib.hid (Two.app1 ((HT.out.alloc _).alloc _).drew (by decide) hown1 hgrow1) | have HT1 := Lib.hid (Two.app1 (((HT.out.alloc _).alloc _).alloc _).drew (by decide) hown1 hgrow1) | have HT1 := Lib.hid (Two.app1 HT2.out (by decide) hown1 hgrow1) | have HT1 := Lib.hid (Two.app1 (HT2.out.alloc _) (by decide) hown1 hgrow1) | fail
             clear hat1 hlt1)
          | (refine step_append_lies _ (by rfl) _ _ 24 (by rfl) w.heap.size 48 j0 _ 3 32 Try.underlying24 hj hy0 hy1 hy2 rfl (by omega) u5 k X (by rfl) ?_ _ 1 1 (cells3 p) (by rfl) (by rfl) ?_ (by simp [cells3, Value.oneCell']) (by omega) hm1 hm2 ?_ _ (by rfl) ?_
             · repeat (first | exact HT.out.own2 | exact HT1.out.own2 | refine World.ownsRow.alloc ?_ _ | refine own_drew ?_ | fail)
             · refine World.news_of_block (cs := (cells3 p).toArray) (t := 48) (fr := (0, 0)) ?_
               first | exact drew_at _ _ _ (alloc_at _ _ _ (by simp)) | exact drew_at _ _ _ (alloc_old _ _ _ _ (alloc_at _ _ _ (by simp))) | exact alloc_at _ _ _ (by simp) | (refine (hgrow1.block _ (by simp <;> omega) (HN1.out _ (by omega))).trans ?_; first | exact drew_at _ _ _ (alloc_at _ _ _ (by simp)) | exact drew_at _ _ _ (alloc_old _ _ _ _ (alloc_at _ _ _ (by simp))) | fail) | fail
             · first | (simp; omega) | omega | fail
             intro g2 c2 w2 hown2 hgrow2 hat2 hlt2
             have hs2 : wr.heap.size < w2.heap.size := by
               have hgs := hgrow2.size
               first | omega | (simp at hgs; omega) | fail
             first | have HT2 := Lib.hid (Two.app2 ((HT.out.alloc _).alloc _).drew (by decide) hown2 hgrow2) | have HT2 := Lib.hid (Two.app2 (((HT.out.alloc _).alloc _).alloc _).drew (by decide) hown2 hgrow2) | have HT2 := Lib.hid (Two.app2 HT1.out (by decide) hown2 hgrow2) | have HT2 := Lib.hid (Two.app2 (HT1.out.alloc _) (by decide) hown2 hgrow2) | fail
             clear hat2 hlt2)
          | fail)
      all_goals
        have HR := Lib.hid HT2.out
        rw [← HSN.out] at HR
        go_wp2
        go_roundw
        case rel => exact ⟨k + 1, by omega, by go_num, HR.out⟩
        case measure => simp [intOf]; omega
    · have hkn : k = n := by omega
      have htk : l.take k = l := List.take_of_length_le (by rw [HN.out]; omega)
      rw [htk] at hT
      subst hkn
      have HT := Lib.hid hT
      clear hT htk
      go_wp2
      go_ret2
      exact ⟨_, _, rfl, HT.out⟩
end Go.Proofs.Ytnkofinielabkaa
