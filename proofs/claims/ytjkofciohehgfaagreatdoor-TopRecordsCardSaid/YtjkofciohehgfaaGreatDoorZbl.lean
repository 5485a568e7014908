/- Texts joined by bundle.py: YMClone, YMMq, YMSa, YMSb. -/
import Derived.Test.YtjkofciohehgfaaGreatDoorZbk
import Derived.Outline

/- The walk of strings.Clone. -/
namespace Go.Proofs.YtjkofciohehgfaaGreatDoor.L13
open Go.RowKit

/-- a new row of noughts, and then a text's bytes in it -/
def byteWorld (w : World) (n : Nat) : World := w.alloc (.cells (madeCells #[.int .u8 0] n) 5)
def textWorld (w : World) (s : ByteArray) : World := (byteWorld w s.size).setRow w.heap.size (Lib.byteCells s.data.toList).toArray

theorem byteWorld_row (w : World) (n : Nat) : (byteWorld w n).heap[w.heap.size]? = some (.cells (madeCells #[.int .u8 0] n) 5 (0, 0)) := heap_alloc_new w _

theorem textWorld_row (w : World) (s : ByteArray) : (textWorld w s).heap[w.heap.size]? = some (.cells (Lib.byteCells s.data.toList).toArray 5 (0, 0)) :=
  setRow_heap _ _ _ _ _ _ (byteWorld_row w s.size)

theorem textWorld_below (w : World) (s : ByteArray) : Below w.heap.size w (textWorld w s) :=
  below_setRow ((Below.refl _ _).alloc (Nat.le_refl _) _) (Nat.le_refl _)

theorem make_bytes (w : World) (n : Nat) (h : n ≤ 281474976710656) : (Instr.makeSlice 68 (.int .i64 (n : Int)) (.int .i64 (n : Int))).run Tryz.prog w = .ok (.slice (some ⟨w.heap.size, 0, none⟩) n n) (byteWorld w n) := by
  obtain ⟨i0, hi, hz0, hz1, hz2⟩ := info_parts info_u8
  have h := run_make (P := Tryz.prog) w 68 5 i0 (.int .u8 0) Tryz.underlying68 hi hz0 .i64 .i64 (n : Int) (n : Int) (by omega) (Int.le_refl _) (by rw [hz2]; omega) (by omega)
  rw [Int.toNat_natCast] at h
  simpa [hz1, Value.cells, byteWorld] using h

theorem copy_text (w : World) (s : ByteArray) (ty : TypeId) : (Builtin.copy_ #[68, 9] ty #[.slice (some ⟨w.heap.size, 0, none⟩) s.size s.size, .string s]).run Tryz.prog (byteWorld w s.size) = .ok (goInt s.size) (textWorld w s) := by
  have h := Lib.run_copy_row_string (P := Tryz.prog) (byteWorld w s.size) 68 9 ty 5 w.heap.size 0 s.size s.size s (madeCells #[.int .u8 0] s.size) 5 Tryz.underlying68 (by kernel_rfl) (byteWorld_row w s.size) (Nat.le_refl _) (by rw [size_madeCells]; omega)
  rw [h]
  have hd : (madeCells #[Value.int .u8 0] s.size).toList.drop (0 + s.size) = [] := List.drop_eq_nil_of_le (by simp [size_madeCells])
  rw [hd]
  simp [textWorld]

theorem text_string (w : World) (s : ByteArray) (h0 : 0 < s.size) (h1 : s.size ≤ 281474976710656) (ty : TypeId) :
    (Builtin.unsafeString_ #[124, 3] ty #[.pointer (some ⟨w.heap.size, 0, none⟩), .int .i64 (s.size : Int)]).run Tryz.prog (textWorld w s) = .ok (.string s) ((textWorld w s).freeze ⟨w.heap.size, 0, none⟩ s.size) := by
  have hl := size_list s
  have hrow := textWorld_row w s
  have h := Lib.run_unsafeString_row (P := Tryz.prog) (textWorld w s) 124 3 ty 5 Tryz.underlying124 (by kernel_rfl) w.heap.size s.size
    (by simp [World.shape?, hrow, Lib.byteCells_length, hl]) s.data.toList (by intro h; rw [h] at hl; simp at hl; omega) (by rw [hl]; exact Nat.le_refl _) (by rw [hl]; omega) (by
      intro j x hj
      have hadd : (⟨w.heap.size, 0, none⟩ : Addr).add j = ⟨w.heap.size, j, none⟩ := by unfold Addr.add; split <;> simp_all
      rw [hadd, cell_of_row _ _ _ _ _ _ hrow]
      simp [Lib.byteCells, hj])
  rw [hl] at h
  simpa using h

theorem cloneIn_any (s : ByteArray) (w : World) (hs : s.size ≤ 281474976710656) :
    Calls Tryz.prog 98 #[.string s] w fun e w' => e = .returned (.string s) ∧ Below w.heap.size w w' := by
  by_cases h0 : s.size = 0
  · have hs0 : s = ⟨#[]⟩ := by
      apply ByteArray.ext
      exact Array.eq_empty_of_size_eq_zero h0
    subst hs0
    clear h0 hs
    go_enter Tryz.func98, Tryz.ntmps98
    go_wp2
    go_ret
    exact ⟨rfl, Below.refl _ _⟩
  · have h1 : 0 < s.size := by omega
    have hne : ((s.size : Int) == 0) = false := beq_eq_false_iff_ne.2 (by omega)
    have hmk := make_bytes w s.size hs
    have hcp := copy_text w s
    have hus := text_string w s h1 hs
    have hB := Lib.below_freeze (textWorld_below w s) (p := ⟨w.heap.size, 0, none⟩) (Nat.le_refl _) s.size
    go_enter Tryz.func98, Tryz.ntmps98
    go_wp2
    go_ret
    exact ⟨rfl, hB⟩

theorem clone_any (s : ByteArray) (w : World) (hs : s.size ≤ 281474976710656) :
    Calls Tryz.prog 49 #[.string s] w fun e w' => e = .returned (.string s) ∧ Below w.heap.size w w' := by
  go_enter Tryz.func49, Tryz.ntmps49
  go_wp2_with fail
  refine (cloneIn_any s _ hs).mono ?_
  rintro e w1 ⟨rfl, hB⟩
  go_wp2
  go_ret
  exact ⟨rfl, hB⟩
end Go.Proofs.YtjkofciohehgfaaGreatDoor.L13


/- Plain mathematics: one step of a merge. -/
namespace Go.Proofs.YtjkofciohehgfaaGreatDoor.L13
open SK
namespace HP

structure FineN (S : List Src) : Prop where
  sorted : ∀ s ∈ S, Sorted s.left
  nodup : (S.map (·.place)).Nodup

theorem nodup_apart : ∀ {S : List Src}, (S.map (·.place)).Nodup → ∀ s ∈ S, ∀ t ∈ S, s.place = t.place → s = t
  | [], _, s, hs, _, _, _ => by cases hs
  | x :: S, h, s, hs, t, ht, e => by
    rw [List.map_cons, List.nodup_cons] at h
    rcases List.mem_cons.1 hs with h1 | h1
    · rcases List.mem_cons.1 ht with h2 | h2
      · rw [h1, h2]
      · exact absurd (List.mem_map.2 ⟨t, h2, by rw [← e, h1]⟩) h.1
    · rcases List.mem_cons.1 ht with h2 | h2
      · exact absurd (List.mem_map.2 ⟨s, h1, by rw [e, h2]⟩) h.1
      · exact nodup_apart h.2 s h1 t h2 e

theorem nodup_place {S : List Src} (h : (S.map (·.b)).Nodup) (ha : ∀ s ∈ S, ∀ t ∈ S, s.place = t.place → s = t) : (S.map (·.place)).Nodup := by
  rw [List.Nodup, List.pairwise_map] at h ⊢
  exact h.imp_of_mem fun hx hy hne e => hne (by rw [ha _ hx _ hy e])

theorem FineN.fine {S : List Src} (h : FineN S) : Fine S := ⟨h.sorted, nodup_apart h.nodup⟩
theorem FineN.perm {S T : List Src} (h : FineN S) (p : T.Perm S) : FineN T := ⟨fun s hs => h.sorted s (p.mem_iff.1 hs), (p.map _).nodup_iff.2 h.nodup⟩
theorem Inv.perm {R out : List E} {S T : List Src} (h : Inv R out S) (p : T.Perm S) : Inv R out T := h.congr fun _ _ => p.mem_iff.symm

def tot (S : List Src) : Nat := (S.map (·.left.length)).sum
theorem tot_perm {S T : List Src} (h : S.Perm T) : tot S = tot T := (h.map _).sum_nat
theorem tot_cons (s : Src) (S : List Src) : tot (s :: S) = s.left.length + tot S := by simp [tot]

theorem step_plain {R out : List E} {L S L' : List Src} {s : Src} {h : E} {t : List E} (hi : Inv R out L) (hf : FineN L) (hp : (s :: S).Perm L) (hmin : ∀ u ∈ S, ltS u s = false) (hl : s.left = h :: t)
    (hrest : (t = [] ∧ L'.Perm S) ∨ (t ≠ [] ∧ ∃ s2 : Src, s2.left = t ∧ s2.place = s.place ∧ L'.Perm (S ++ [s2]))) :
    FineN L' ∧ ((∀ o, out.getLast? = some o → less o h = true) → Inv R (out ++ [h]) L') ∧ (∀ o, out.getLast? = some o → less o h = false → Inv R out L') ∧ tot L = tot L' + 1 := by
  have hf1 := hf.perm hp
  have hi1 := hi.perm hp
  have hst : Sorted (h :: t) := by rw [← hl]; exact hf1.sorted s (by simp)
  have htt := (List.pairwise_cons.1 hst).2
  have hnd := hf1.nodup
  rw [List.map_cons, List.nodup_cons] at hnd
  have ht0 : tot L = tot (s :: S) := (tot_perm hp).symm
  rw [tot_cons, hl] at ht0
  rcases hrest with ⟨rfl, hL⟩ | ⟨hne, s2, h1, h2, hL⟩
  · have hpop := hi1.pop (s2 := ⟨s.b, s.A, s.c, s.place, []⟩) hf1.fine hl rfl rfl hmin
    have hc : ∀ x : Src, x.left ≠ [] → (x ∈ (⟨s.b, s.A, s.c, s.place, []⟩ : Src) :: S ↔ x ∈ L') := fun x hx => by
      rw [hL.mem_iff, List.mem_cons]
      refine ⟨fun h => ?_, .inr⟩
      rcases h with rfl | h
      · exact absurd rfl hx
      · exact h
    refine ⟨⟨fun u hu => hf1.sorted u (by simp [hL.mem_iff.1 hu]), (hL.map _).nodup_iff.2 hnd.2⟩, fun ha => (hpop.1 ha).congr hc, fun o ho hb => (hpop.2 o ho hb).congr hc, ?_⟩
    rw [ht0, tot_perm hL]
    simp; omega
  · have hpop := hi1.pop (s2 := s2) hf1.fine hl h1 h2 hmin
    have hpm : (s2 :: S).Perm L' := ((List.perm_append_singleton _ _).symm.trans hL.symm)
    refine ⟨⟨fun u hu => ?_, ?_⟩, fun ha => (hpop.1 ha).perm hpm.symm, fun o ho hb => (hpop.2 o ho hb).perm hpm.symm, ?_⟩
    · rcases List.mem_cons.1 (hpm.symm.mem_iff.1 hu) with rfl | hu
      · rw [h1]; exact htt
      · exact hf1.sorted u (by simp [hu])
    · refine (hpm.symm.map _).nodup_iff.2 ?_
      rw [List.map_cons, List.nodup_cons, h2]
      exact hnd
    · rw [ht0, ← tot_perm hpm, tot_cons, h1]
      simp; omega
end HP
end Go.Proofs.YtjkofciohehgfaaGreatDoor.L13


/- Less and Good: of single entries. -/
namespace Go.Proofs.YtjkofciohehgfaaGreatDoor.L13
open Go.RowKit
open SK

theorem less_before : ∀ (a b : List UInt8), Op.bytesLess a b = bytesBefore a b
  | [], [] => by simp [Op.bytesLess, bytesBefore]
  | [], _ :: _ => by simp [Op.bytesLess, bytesBefore]
  | _ :: _, [] => by simp [Op.bytesLess, bytesBefore]
  | x :: r, y :: t => by simp [Op.bytesLess, bytesBefore, less_before r t]

theorem text_less (a b : ByteArray) : Op.bytesLess a.toList b.toList = bytesBefore a.data.toList b.data.toList := by
  rw [ByteArray.toList_eq, ByteArray.toList_eq, less_before]
theorem text_eq (a b : ByteArray) : (a.toList == b.toList) = decide (a = b) := by
  rw [Bool.eq_iff_iff, beq_iff_eq, decide_eq_true_eq, ByteArray.toList_eq, ByteArray.toList_eq]
  exact ⟨str_ext, fun h => by rw [h]⟩
set_option maxRecDepth 100000 in
theorem less_any (a b : E) (w : World) :
    Calls Tryz.prog 56 #[a.val, b.val] w fun e w' => e = .returned (.bool (less a b)) ∧ Below w.heap.size w w' := by
  obtain ⟨k1, q1, g1, v1, t1⟩ := a
  obtain ⟨k2, q2, g2, v2, t2⟩ := b
  have HTE := Lib.hid (text_eq k1 k2)
  by_cases hk : k1 = k2
  · subst hk
    have hte : (k1.toList == k1.toList) = true := by simp
    have HL : Hid (less ⟨k1, q1, g1, v1, t1⟩ ⟨k1, q2, g2, v2, t2⟩ = decide (q2 < q1)) := by simp [less, Hid]
    simp only [E.val]
    go_enter Tryz.func56, Tryz.ntmps56
    go_wp2
    go_ret
    exact ⟨by rw [HL.out]; rfl, ((Below.refl _ w).alloc (Nat.le_refl _) _).alloc (by simp) _⟩
  · have hte : (k1.toList == k2.toList) = false := by rw [HTE.out]; simp [hk]
    have HL : Hid (less ⟨k1, q1, g1, v1, t1⟩ ⟨k2, q2, g2, v2, t2⟩ = Op.bytesLess k1.toList k2.toList) := by
      unfold Hid
      rw [text_less]; simp [less, hk]
    simp only [E.val]
    go_enter Tryz.func56, Tryz.ntmps56
    go_wp2
    go_ret
    exact ⟨by rw [HL.out]; rfl, ((Below.refl _ w).alloc (Nat.le_refl _) _).alloc (by simp) _⟩

end Go.Proofs.YtjkofciohehgfaaGreatDoor.L13


/- clone: an entry whose texts are memory of their own. -/
namespace Go.Proofs.YtjkofciohehgfaaGreatDoor.L13
open Go.RowKit
open SK

/-- a store of what is there leaves the world -/
theorem set_same {w : World} {b j : Nat} {u : Value} (h : w.cell? ⟨b, j, none⟩ = some u) : w.setCell ⟨b, j, none⟩ u = w := by
  obtain ⟨cs, ty, fr, hb, hj⟩ : ∃ cs ty fr, w.heap[b]? = some (.cells cs ty fr) ∧ cs[j]? = some u := by
    unfold World.cell? at h
    cases hh : w.heap[b]? with
    | none => simp [hh] at h
    | some o =>
      cases o with
      | cells cs ty fr => exact ⟨cs, ty, fr, rfl, by simpa [hh] using h⟩
      | _ => simp [hh] at h
  obtain ⟨heap, tape, drawn, os, output⟩ := w
  simp only [World.setCell, World.mk.injEq, and_true]
  simp only at hb
  apply Array.ext_getElem?
  intro i
  rw [Array.getElem?_modify]
  split
  · rename_i hi
    subst hi
    rw [hb]
    simp only [Option.map_some, Option.isSome_none, Bool.false_eq_true, if_false, Option.some.injEq, Obj.cells.injEq, and_true]
    apply Array.ext_getElem?
    intro i
    rw [Array.getElem?_setIfInBounds]
    split
    · rename_i hi
      subst hi
      rw [hj]
      split
      · rfl
      · rename_i hlt
        rw [Array.getElem?_eq_some_iff] at hj
        exact absurd hj.1 hlt
    · rfl
  · rfl

set_option maxRecDepth 100000 in
set_option maxHeartbeats 2000000 in
theorem eclone_any (a : E) (w : World) (ha : a.key.size ≤ 281474976710656 ∧ a.value.size ≤ 281474976710656) :
    Calls Tryz.prog 63 #[a.val] w fun e w' => e = .returned a.val ∧ Below w.heap.size w w' := by
  obtain ⟨k, q, g, v, t⟩ := a
  obtain ⟨h1, h2⟩ := ha
  simp only at h1 h2
  have H1 : Hid (∀ W, Calls Tryz.prog 49 #[.string k] W fun e w' => e = .returned (.string k) ∧ Below W.heap.size W w') := fun W => clone_any k W h1
  have H2 : Hid (∀ W, Calls Tryz.prog 49 #[.string v] W fun e w' => e = .returned (.string v) ∧ Below W.heap.size W w') := fun W => clone_any v W h2
  clear h1 h2
  simp only [E.val]
  obtain ⟨x, hx⟩ : ∃ x, w.heap.size = x := ⟨_, rfl⟩
  go_enter Tryz.func63, Tryz.ntmps63
  go_wp2_with fail
  have hrow : ((w.alloc (.cells #[.string k, .int .i64 q, .bool g, .string v, .int .i64 t] 45)).alloc (.cells #[.string ⟨#[]⟩, .int .i64 0, .bool false, .string ⟨#[]⟩, .int .i64 0] 45)).heap[x]? = some (.cells #[.string k, .int .i64 q, .bool g, .string v, .int .i64 t] 45 (0, 0)) := by
    subst hx
    rw [Below.heap_alloc _ _ _ (by simp)]; exact heap_alloc_new w _
  have hrow2 : ((w.alloc (.cells #[.string k, .int .i64 q, .bool g, .string v, .int .i64 t] 45)).alloc (.cells #[.string ⟨#[]⟩, .int .i64 0, .bool false, .string ⟨#[]⟩, .int .i64 0] 45)).heap[x + 1]? = some (.cells #[.string ⟨#[]⟩, .int .i64 0, .bool false, .string ⟨#[]⟩, .int .i64 0] 45 (0, 0)) := by
    subst hx
    have := heap_alloc_new (w.alloc (.cells #[.string k, .int .i64 q, .bool g, .string v, .int .i64 t] 45)) (.cells #[.string ⟨#[]⟩, .int .i64 0, .bool false, .string ⟨#[]⟩, .int .i64 0] 45)
    simpa using this
  have hbel : Below x w ((w.alloc (.cells #[.string k, .int .i64 q, .bool g, .string v, .int .i64 t] 45)).alloc (.cells #[.string ⟨#[]⟩, .int .i64 0, .bool false, .string ⟨#[]⟩, .int .i64 0] 45)) := by
    subst hx
    exact ((Below.refl _ w).alloc (Nat.le_refl _) _).alloc (by simp) _
  have hsz : ((w.alloc (.cells #[.string k, .int .i64 q, .bool g, .string v, .int .i64 t] 45)).alloc (.cells #[.string ⟨#[]⟩, .int .i64 0, .bool false, .string ⟨#[]⟩, .int .i64 0] 45)).heap.size = x + 2 := by
    subst hx; simp
  generalize (w.alloc (.cells #[.string k, .int .i64 q, .bool g, .string v, .int .i64 t] 45)).alloc (.cells #[.string ⟨#[]⟩, .int .i64 0, .bool false, .string ⟨#[]⟩, .int .i64 0] 45) = W0 at hrow hrow2 hbel hsz ⊢
  have z0 : W0.cell? ⟨x, 0, none⟩ = some (.string k) := cell_of_row _ _ _ _ _ _ hrow
  have z3 : W0.cell? ⟨x, 3, none⟩ = some (.string v) := cell_of_row _ _ _ _ _ _ hrow
  have f0 : W0.frozen? ⟨x, 0, none⟩ = false := frozen_of_row _ _ _ _ _ hrow
  have f3 : W0.frozen? ⟨x, 3, none⟩ = false := frozen_of_row _ _ _ _ _ hrow
  have HR := Lib.hid hrow
  have HR2 := Lib.hid hrow2
  have HBL := Lib.hid hbel
  have HSZ := Lib.hid hsz
  have HX := Lib.hid hx
  clear hrow hrow2 hbel hsz hx
  have HB1 : Hid (Below W0.heap.size W0 W0) := Below.refl _ _
  go_region_held3 (fun w' => w'.cell? ⟨x, 0, none⟩ = some (.string k) ∧ w'.cell? ⟨x, 3, none⟩ = some (.string v) ∧ w'.frozen? ⟨x, 0, none⟩ = false ∧ w'.frozen? ⟨x, 3, none⟩ = false)
    (first | go_keep | exact ⟨d0, d3, e0, e3⟩ | exact ⟨i0, i3, j0, j3⟩ | (refine ⟨?_, ?_, ?_, ?_⟩ <;> simp [*]) | fail)
    (first
      | (go_at_call 49
         refine (H1.out _).mono ?_
         rintro e w1 ⟨rfl, hb⟩
         have d0 : w1.cell? ⟨x, 0, none⟩ = some (.string k) := (hb.cell (p := ⟨x, 0, none⟩) (by have := HSZ.out; simp; omega)).trans z0
         have d3 : w1.cell? ⟨x, 3, none⟩ = some (.string v) := (hb.cell (p := ⟨x, 3, none⟩) (by have := HSZ.out; simp; omega)).trans z3
         have e0 : w1.frozen? ⟨x, 0, none⟩ = false := (hb.frozen (p := ⟨x, 0, none⟩) (by have := HSZ.out; simp; omega)).trans f0
         have e3 : w1.frozen? ⟨x, 3, none⟩ = false := (hb.frozen (p := ⟨x, 3, none⟩) (by have := HSZ.out; simp; omega)).trans f3
         have HC1 : Hid (Below W0.heap.size W0 w1) := Lib.hid (Below.trans ((Below.refl _ W0).drew) hb)
         clear hb)
      | (go_at_call 49
         refine (H2.out _).mono ?_
         rintro e w2 ⟨rfl, hb⟩
         have hlt1 : x + 2 ≤ w1.heap.size := by have := HSZ.out; have := HC1.out.size; omega
         have i0 : w2.cell? ⟨x, 0, none⟩ = some (.string k) := (hb.cell (p := ⟨x, 0, none⟩) (by simp; omega)).trans d0
         have i3 : w2.cell? ⟨x, 3, none⟩ = some (.string v) := (hb.cell (p := ⟨x, 3, none⟩) (by simp; omega)).trans d3
         have j0 : w2.frozen? ⟨x, 0, none⟩ = false := (hb.frozen (p := ⟨x, 0, none⟩) (by simp; omega)).trans e0
         have j3 : w2.frozen? ⟨x, 3, none⟩ = false := (hb.frozen (p := ⟨x, 3, none⟩) (by simp; omega)).trans e3
         have hs0 : w2.setCell ⟨x, 0, none⟩ (.string k) = w2 := set_same i0
         have hs3 : w2.setCell ⟨x, 3, none⟩ (.string v) = w2 := set_same i3
         have HC2 : Hid (Below W0.heap.size W0 w2) := Lib.hid (HC1.out.trans (hb.mono HC1.out.size))
         clear hb)
      | fail)
  all_goals
    have hr : w2.heap[x]? = some (.cells #[.string k, .int .i64 q, .bool g, .string v, .int .i64 t] 45 (0, 0)) := (HC2.out.block x (by have := HSZ.out; omega)).trans HR.out
    have hr2 : w2.heap[x + 1]? = some (.cells #[.string ⟨#[]⟩, .int .i64 0, .bool false, .string ⟨#[]⟩, .int .i64 0] 45 (0, 0)) := (HC2.out.block (x + 1) (by have := HSZ.out; omega)).trans HR2.out
    have hend : Below w.heap.size w w2 := by
      rw [HX.out]
      exact HBL.out.trans (HC2.out.mono (by have := HSZ.out; omega))
    have HEND := Lib.hid hend
    have y0 : w2.cell? ⟨x, 0, none⟩ = some (.string k) := cell_of_row _ _ _ _ _ _ hr
    have y1 : w2.cell? ⟨x, 1, none⟩ = some (.int .i64 q) := cell_of_row _ _ _ _ _ _ hr
    have y2 : w2.cell? ⟨x, 2, none⟩ = some (.bool g) := cell_of_row _ _ _ _ _ _ hr
    have y3 : w2.cell? ⟨x, 3, none⟩ = some (.string v) := cell_of_row _ _ _ _ _ _ hr
    have y4 : w2.cell? ⟨x, 4, none⟩ = some (.int .i64 t) := cell_of_row _ _ _ _ _ _ hr
    have n0 : w2.cell? ⟨x + 1, 0, none⟩ = some (.string ⟨#[]⟩) := cell_of_row _ _ _ _ _ _ hr2
    have n1 : w2.cell? ⟨x + 1, 1, none⟩ = some (.int .i64 0) := cell_of_row _ _ _ _ _ _ hr2
    have n2 : w2.cell? ⟨x + 1, 2, none⟩ = some (.bool false) := cell_of_row _ _ _ _ _ _ hr2
    have n3 : w2.cell? ⟨x + 1, 3, none⟩ = some (.string ⟨#[]⟩) := cell_of_row _ _ _ _ _ _ hr2
    have n4 : w2.cell? ⟨x + 1, 4, none⟩ = some (.int .i64 0) := cell_of_row _ _ _ _ _ _ hr2
    have g0 : w2.frozen? ⟨x + 1, 0, none⟩ = false := frozen_of_row _ _ _ _ _ hr2
    have g1 : w2.frozen? ⟨x + 1, 1, none⟩ = false := frozen_of_row _ _ _ _ _ hr2
    have g2 : w2.frozen? ⟨x + 1, 2, none⟩ = false := frozen_of_row _ _ _ _ _ hr2
    have g3 : w2.frozen? ⟨x + 1, 3, none⟩ = false := frozen_of_row _ _ _ _ _ hr2
    have g4 : w2.frozen? ⟨x + 1, 4, none⟩ = false := frozen_of_row _ _ _ _ _ hr2
    have HEND2 : Hid (∀ v0 v1 v2 v3 v4, Below w.heap.size w (((((w2.setCell ⟨x + 1, 0, none⟩ v0).setCell ⟨x + 1, 1, none⟩ v1).setCell ⟨x + 1, 2, none⟩ v2).setCell ⟨x + 1, 3, none⟩ v3).setCell ⟨x + 1, 4, none⟩ v4)) := fun v0 v1 v2 v3 v4 => by
      have hle : w.heap.size ≤ x + 1 := by rw [HX.out]; omega
      exact ((((hend.setCell (p := ⟨x + 1, 0, none⟩) hle v0).setCell (p := ⟨x + 1, 1, none⟩) hle v1).setCell (p := ⟨x + 1, 2, none⟩) hle v2).setCell (p := ⟨x + 1, 3, none⟩) hle v3).setCell (p := ⟨x + 1, 4, none⟩) hle v4
    clear hr hr2 hend hs0 hs3 hlt1 d0 d3 e0 e3 i0 i3 j0 j3 z0 z3 f0 f3
    go_wp2
    exact bodyPost_ret (v := .agg #[.string k, .int .i64 q, .bool g, .string v, .int .i64 t]) (by simp [results, Tryz.results63, go_sem, *]) rfl ⟨rfl, HEND2.out _ _ _ _ _⟩
end Go.Proofs.YtjkofciohehgfaaGreatDoor.L13


