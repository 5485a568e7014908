/- CacheLast: what was put, or found, last is the one used last, and found again. For every limit and every acts. -/
import Derived.Test.YtlfhjbilnfkabaaOp
import Derived.Laws.StructEq
namespace Go.Proofs.Ytlfhjbilnfkabaa
open Go.ChangeShapes Go.WideShapes Go.ChangeAt Go.RowKit
open BM CM

def Apt (L : Ls) : Prop := L.Pairwise (fun x y => ¬ (x.file = y.file ∧ x.block = y.block))
theorem Live.apt {W w : World} {c z b N : Nat} {Z : Zs} {s : S} (h : Live W w c z b N Z s) : Apt (bl Z) := by
  unfold Apt bl
  rw [List.pairwise_map]
  exact h.rep.cor.keys
theorem hitB_iff {f k : Int} {x : Blk} : hitB f k x = true ↔ x.file = f ∧ x.block = k := by simp [hitB]
theorem find_last {L0 : Ls} {x : Blk} (h : Apt (L0 ++ [x])) : findB x.file x.block (L0 ++ [x]) = some L0.length := by
  unfold findB
  rw [List.findIdx?_eq_some_iff_getElem]
  refine ⟨by simp, by simp [hitB], fun j hj => ?_⟩
  rw [List.getElem_append_left hj]
  have := (List.pairwise_append.1 h).2.2 _ (List.getElem_mem hj) x (by simp)
  intro hh
  exact this (hitB_iff.1 hh)
theorem get_last {L0 : Ls} {x : Blk} (h : Apt (L0 ++ [x])) : getB x.file x.block (L0 ++ [x]) = (x.data, true, L0 ++ [x]) := by
  unfold getB
  rw [find_last h]
  have h1 : (L0 ++ [x]).eraseIdx L0.length = L0 := by rw [List.eraseIdx_append_of_length_le (Nat.le_refl _)]; simp
  simp [h1]
theorem find_hit {f k : Int} {L : Ls} {i : Nat} (h : findB f k L = some i) : ∃ hi : i < L.length, L[i].file = f ∧ L[i].block = k := by
  unfold findB at h
  rw [List.findIdx?_eq_some_iff_getElem] at h
  obtain ⟨hi, h1, -⟩ := h
  exact ⟨hi, hitB_iff.1 h1⟩

theorem getB_len (f k : Int) (L : Ls) : (getB f k L).2.2.length = L.length := by
  unfold getB
  cases hf : findB f k L with
  | none => rfl
  | some i =>
    obtain ⟨hi, -, -⟩ := find_hit hf
    simp only [List.getElem?_eq_getElem hi]
    rw [List.length_append, List.length_eraseIdx_of_lt hi]
    simp; omega

/-- what a Put and a Get of one key tell -/
theorem put_get {f k : Int} {d : ByteArray} {L : Ls} {s : S} {r : Int × Ls × S} (hr : putB f k d L s = r) (ha : Apt r.2.1) :
    (r.1 = 0 ∧ ∃ L0 x, getB f k r.2.1 = (d, true, L0 ++ [x]) ∧ x.file = f ∧ x.block = k) ∨ (r.1 = 11 ∧ ∃ e L0 x, getB f k r.2.1 = (e, true, L0 ++ [x]) ∧ x.file = f ∧ x.block = k) ∨ (r.1 = 14 ∧ ∃ e L0, getB f k r.2.1 = (e, false, L0)) := by
  subst hr
  unfold putB at ha ⊢
  cases hf : findB f k L with
  | some i =>
    refine .inr (.inl ⟨by simp, ?_⟩)
    obtain ⟨hi, h1, h2⟩ := find_hit hf
    refine ⟨L[i].data, L.eraseIdx i, L[i], ?_, h1, h2⟩
    simp only [Option.isSome_some, if_true]
    unfold getB
    rw [hf]
    simp [hi]
  | none =>
    rw [hf] at ha
    simp only [Option.isSome_none, Bool.false_eq_true, if_false] at ha ⊢
    cases hs : (shrB (cost d : Nat) L s).1 with
    | true =>
      rw [hs] at ha
      simp only [if_true] at ha ⊢
      refine .inl ⟨trivial, _, _, get_last ha, rfl, rfl⟩
    | false =>
      simp only [Bool.false_eq_true, if_false]
      refine .inr (.inr ⟨trivial, ⟨#[]⟩, L, ?_⟩)
      unfold getB
      rw [hf]

theorem key_neq (W : World) (f k : Int) : (binOp .neq 42 (.agg #[.int .i64 f, .int .i64 k]) (.agg #[.int .i64 f, .int .i64 k])).run Try.prog W = .ok (.bool false) W := by
  have ui := Try.underlying2
  have uj := Try.underlying3
  rw [run_neq_struct, run_equalIn_agg W 9999 42 _ _ (by kernel_rfl) (by kernel_rfl)]
  unfold Program.fieldsOf
  rw [Try.underlying42]
  have e0 : ∀ W, (Go.part 2 #[.int .i64 f, .int .i64 k] 0).run Try.prog W = .ok (.int .i64 f) W := fun W => by simp [Go.part, isAgg, run_underlying ui]
  have e1 : ∀ W, (Go.part 3 #[.int .i64 f, .int .i64 k] 1).run Try.prog W = .ok (.int .i64 k) W := fun W => by simp [Go.part, isAgg, run_underlying uj]
  simp [Op.eqFields, e0, e1, run_equalIn_int _ _ _ _ _ _ _ ui, run_equalIn_int _ _ _ _ _ _ _ uj, Result.andThen]
theorem key_guard (W : World) (x y : Operand) (xs ys : Array Value) : (eqGuard .neq 42 x y (.agg xs) (.agg ys)).run Try.prog W = .ok () W :=
  run_eqGuard_agg W _ _ _ _ _ _ (by kernel_rfl)

/-- an act's box and a key's, beside a cache -/
structure Boxes (W : World) (y : Nat) (ad f k : Int) (d : ByteArray) (an : Int) (P : Nat → Prop) : Prop where
  act : W.heap[y]? = some (.cells #[.int .i64 ad, .int .i64 f, .int .i64 k, .string d, .int .i64 an] 36 (0, 0))
  key : W.heap[y + 1]? = some (.cells #[.int .i64 f, .int .i64 k] 42 (0, 0))
  na : ¬ P y
  nk : ¬ P (y + 1)
section
variable {W w w' : World} {y : Nat} {ad f k : Int} {d : ByteArray} {an : Int} {P : Nat → Prop} {c z b N N' : Nat} {Z Z' : Zs} {s' : S}
theorem Boxes.still (h : Boxes w y ad f k d an P) (hb : Below w.heap.size w w') : Boxes w' y ad f k d an P :=
  ⟨(hb.block _ (Array.getElem?_eq_some_iff.1 h.act).1).trans h.act, (hb.block _ (Array.getElem?_eq_some_iff.1 h.key).1).trans h.key, h.na, h.nk⟩
theorem Boxes.turn (h : Boxes w y ad f k d an (own c z b Z)) (t : Turn W w w' c z b N Z N' Z' s') : Boxes w' y ad f k d an (own c z b Z') :=
  ⟨(t.only.block _ (Array.getElem?_eq_some_iff.1 h.act).1 h.na).trans h.act, (t.only.block _ (Array.getElem?_eq_some_iff.1 h.key).1 h.nk).trans h.key,
    fun ho => (t.own_ _ ho).elim h.na (fun hl => by have := (Array.getElem?_eq_some_iff.1 h.act).1; omega), fun ho => (t.own_ _ ho).elim h.nk (fun hl => by have := (Array.getElem?_eq_some_iff.1 h.key).1; omega)⟩
theorem Boxes.k0 (h : Boxes w y ad f k d an P) : w.cell? ⟨y + 1, 0, none⟩ = some (.int .i64 f) := cell_of_row _ _ _ _ _ _ h.key
theorem Boxes.k1 (h : Boxes w y ad f k d an P) : w.cell? ⟨y + 1, 1, none⟩ = some (.int .i64 k) := cell_of_row _ _ _ _ _ _ h.key
theorem Boxes.a3 (h : Boxes w y ad f k d an P) : w.cell? ⟨y, 3, none⟩ = some (.string d) := cell_of_row _ _ _ _ _ _ h.act
theorem boxes_new (w : World) (hP : ∀ g, P g → g < w.heap.size) : Boxes ((w.alloc (.cells #[.int .i64 ad, .int .i64 f, .int .i64 k, .string d, .int .i64 an] 36)).alloc (.cells #[.int .i64 f, .int .i64 k] 42)) w.heap.size ad f k d an P := by
  have hs1 : (w.alloc (.cells #[.int .i64 ad, .int .i64 f, .int .i64 k, .string d, .int .i64 an] 36)).heap.size = w.heap.size + 1 := by simp
  have hrowa := heap_alloc_new w (.cells #[.int .i64 ad, .int .i64 f, .int .i64 k, .string d, .int .i64 an] 36)
  have hrowk := heap_alloc_new (w.alloc (.cells #[.int .i64 ad, .int .i64 f, .int .i64 k, .string d, .int .i64 an] 36)) (.cells #[.int .i64 f, .int .i64 k] 42)
  rw [hs1] at hrowk
  have hal := (Below.refl (w.alloc (.cells #[.int .i64 ad, .int .i64 f, .int .i64 k, .string d, .int .i64 an] 36)).heap.size (w.alloc (.cells #[.int .i64 ad, .int .i64 f, .int .i64 k, .string d, .int .i64 an] 36))).alloc (Nat.le_refl _) (.cells #[.int .i64 f, .int .i64 k] 42)
  exact ⟨(hal.block _ (by omega)).trans hrowa, hrowk, fun ho => by have := hP _ ho; omega, fun ho => by have := hP _ ho; omega⟩
theorem below_two (w : World) (o p : Obj) : Below w.heap.size w ((w.alloc o).alloc p) := by
  have h := (Below.refl w.heap.size w).alloc (Nat.le_refl _) o
  exact h.alloc h.size p
end

namespace lawLast
set_option maxRecDepth 100000 in
set_option maxHeartbeats 4000000 in
theorem walk (l : Int) (A : Option Addr) (n cap : Nat) (sc : List AC) (w : World) (hlen : sc.length = n) (hin : ActsIn w w.heap.size A sc) (hb : n * 48 ≤ reachBytes) (hcap : n ≤ cap) :
    Calls Try.prog 7 #[.int .i64 l, .slice A n cap] w fun e w' => e = .returned (.bool true) ∧ Below w.heap.size w w' := by
  have hn : n ≤ 9223372036854775807 := by unfold reachBytes at hb; omega
  have HIN := Lib.hid hin
  have HLEN := Lib.hid hlen
  obtain ⟨m, hm⟩ : ∃ m : Nat, min (n : Int) 100 = m := ⟨min n 100, by omega⟩
  have hm1 : m ≤ n ∧ m ≤ 100 := by omega
  have hsl := fun W => slice_head W A n cap m (by omega)
  clear hin hb hlen
  go_enter Try.func7, Try.ntmps7
  go_wp2_with fail
  refine (new_any l w).mono ?_
  rintro e w1 ⟨rfl, hb1, hbel⟩
  have HNW := Lib.hid (live_new (W := w) hbel hb1 (Nat.le_refl _) (ok_new l) rfl)
  clear hb1 hbel
  go_wp2_with fail
  refine HNW.out.mono ?_
  rintro e w2 ⟨c, z, rfl, hl2, -, -, -⟩
  have HL2 := Lib.hid hl2
  clear hl2 HNW
  generalize w.heap.size = b at HL2 ⊢
  go_wp2_with fail
  go_loopw [24] (fun i wr => ∃ (j N : Nat) (Z : Zs) (s : S), j ≤ m ∧ i = .int .i64 j ∧ N ≤ j ∧ Z.length ≤ j ∧ Hid (Live w wr c z b N Z s)) (fun i _ => m - (intOf i).toNat)
  case atStart => exact ⟨0, 0, [], _, by omega, rfl, by omega, by simp, HL2⟩
  case round =>
    obtain ⟨j, N, Z, s, hj, rfl, hNj, hZj, HL⟩ := hrel
    by_cases hlt : j < m
    · have hjl : j < sc.length := by rw [HLEN.out]; omega
      obtain ⟨q, off, hA, hql, hc⟩ := (HIN.out.below HL.out.below).at_ (by omega)
      obtain ⟨c0, c1, c2, c3, c4⟩ := hc j hjl
      obtain ⟨a, ha⟩ : ∃ a, sc[j] = a := ⟨_, rfl⟩
      have hwf : a.wf := HIN.out.wf a (by rw [← ha]; exact List.getElem_mem hjl)
      rw [ha] at c0 c1 c2 c3 c4
      obtain ⟨ad, f, k, d, an⟩ := a
      simp only at c0 c1 c2 c3 c4
      subst hA
      clear hc ha
      have HX := Lib.hid (boxes_new (ad := ad) (f := f) (k := k) (d := d) (an := an) wr HL.out.rep.own_lt)
      have HB2 := Lib.hid (below_two wr (.cells #[.int .i64 ad, .int .i64 f, .int .i64 k, .string d, .int .i64 an] 36) (.cells #[.int .i64 f, .int .i64 k] 42))
      go_wp2_with fail
      obtain ⟨y, hy⟩ : ∃ y, wr.heap.size = y := ⟨_, rfl⟩
      generalize hW : ((wr.alloc (.cells #[.int .i64 ad, .int .i64 f, .int .i64 k, .string d, .int .i64 an] 36)).alloc (.cells #[.int .i64 f, .int .i64 k] 42)) = wk at HX HB2 ⊢
      have hlk := HL.out.still HB2.out
      rw [hy] at HX ⊢
      have hput := fun {r} hr => hlk.put (by omega) (by omega) (f := f) (k := k) hwf.f hwf.k d hwf.dat (r := r) hr
      obtain ⟨r, hr⟩ : ∃ r, putB f k d (bl Z) s = r := ⟨_, rfl⟩
      have HP := Lib.hid (hput hr)
      have HPR := Lib.hid hr
      have hf64 := hwf.f
      have hk64 := hwf.k
      simp only at hf64 hk64
      have HFK : Hid (i64 f ∧ i64 k) := Lib.hid ⟨hf64, hk64⟩
      unfold keyV at HP
      clear hput hr hlk hW hy HB2 hwf c0 c1 c2 c3 c4 hf64 hk64 HL hsl
      refine HP.out.mono ?_
      rintro e w3 ⟨rfl, N3, Z3, ht, hz⟩
      have HX3 := Lib.hid (HX.out.turn ht)
      have HL3 := Lib.hid ht.live
      have HN3 : Hid (N3 ≤ j + 1 ∧ Z3.length ≤ j + 1) := Lib.hid ⟨by have := ht.bound; omega, by have := ht.len; omega⟩
      have hpg := put_get HPR.out (by rw [← hz]; exact ht.live.apt)
      rw [← hz] at hpg
      have HPG := Lib.hid hpg
      clear ht hz hpg HP HX
      obtain ⟨co, hco⟩ : ∃ co, r.1 = co := ⟨_, rfl⟩
      have k0 := HX3.out.k0
      have k1 := HX3.out.k1
      have a3 := HX3.out.a3
      obtain ⟨gr, hgr⟩ : ∃ gr, getB f k (bl Z3) = gr := ⟨_, rfl⟩
      have HG := Lib.hid (HL3.out.get HFK.out.1 HFK.out.2 hgr)
      unfold keyV at HG
      have HGL : Hid (gr.2.2.length ≤ j + 1) := Lib.hid (by rw [← hgr, getB_len, bl_len]; exact HN3.out.2)
      rcases HPG.out with ⟨h0, L0, x, hg, hx1, hx2⟩ | ⟨h0, e0, L0, x, hg, hx1, hx2⟩ | ⟨h0, e0, L0, hg⟩
      · rw [hgr] at hg
        subst hg
        rw [h0]
        have HXE : Hid (x.file = f ∧ x.block = k) := Lib.hid ⟨hx1, hx2⟩
        clear h0 hx1 hx2 hgr HPG HPR hco
        go_wp2_with fail
        refine HG.out.mono ?_
        rintro e w4 ⟨rfl, Z4, ht4, hz4⟩
        have HX4 := Lib.hid (HX3.out.turn ht4)
        have HL4 := Lib.hid ht4.live
        have HN4 : Hid (Z4.length ≤ j + 1) := Lib.hid (by rw [← bl_len, hz4]; exact HGL.out)
        have HK := Lib.hid (ht4.live.kept (by have := HN3.out; omega) (by have := HN4.out; omega) hz4)
        clear ht4 hz4 HG k0 k1 a3
        have k0 := HX4.out.k0
        have k1 := HX4.out.k1
        have a3 := HX4.out.a3
        go_wp2_with fail
        refine HK.out.mono ?_
        rintro e w5 ⟨A5, cap5, rfl, hki, hb5⟩
        have hlp : 0 < (L0 ++ [x]).length := by simp
        obtain ⟨g, hA5, -, -, hc5⟩ := hki (by simp)
        have hc50 := hc5 0 (by simp)
        simp only [List.reverse_append, List.reverse_cons, List.reverse_nil, List.nil_append, List.singleton_append, List.map_cons, List.getElem_cons_zero, Nat.zero_mul, Nat.zero_add, HXE.out.1, HXE.out.2] at hc50
        obtain ⟨v0, v1⟩ := hc50
        have HX5 := Lib.hid (HX4.out.still hb5)
        have HL5 := Lib.hid (HL4.out.still hb5)
        clear hki hb5 hc5 k0 k1 a3 HK
        have k0 := HX5.out.k0
        have k1 := HX5.out.k1
        obtain ⟨len, hlen⟩ : ∃ len, (L0 ++ [x]).length = len := ⟨_, rfl⟩
        rw [hlen] at hlp ⊢
        clear hlen
        subst hA5
        have hl0 : ((len : Int) == 0) = false := beq_eq_false_iff_ne.2 (by omega)
        have hl1 : (0 : Int) < (len : Int) := by omega
        have hq := fun W => key_neq W f k
        have hqg := fun W x y => key_guard W x y #[.int .i64 f, .int .i64 k] #[.int .i64 f, .int .i64 k]
        go_wp2_with fail
        go_quiet (fail)
        go_wp2
        go_roundw
        case rel => exact ⟨j + 1, N3, Z4, _, by omega, by go_num, HN3.out.1, HN4.out, Lib.hid (HL5.out.still (below_drewN (Below.refl _ _) _))⟩
        case measure => simp [intOf]; omega
      · rw [hgr] at hg
        subst hg
        rw [h0]
        have HXE : Hid (x.file = f ∧ x.block = k) := Lib.hid ⟨hx1, hx2⟩
        clear h0 hx1 hx2 hgr HPG HPR hco
        go_wp2_with fail
        refine HG.out.mono ?_
        rintro e w4 ⟨rfl, Z4, ht4, hz4⟩
        have HX4 := Lib.hid (HX3.out.turn ht4)
        have HL4 := Lib.hid ht4.live
        have HN4 : Hid (Z4.length ≤ j + 1) := Lib.hid (by rw [← bl_len, hz4]; exact HGL.out)
        have HK := Lib.hid (ht4.live.kept (by have := HN3.out; omega) (by have := HN4.out; omega) hz4)
        clear ht4 hz4 HG k0 k1 a3
        have k0 := HX4.out.k0
        have k1 := HX4.out.k1
        have a3 := HX4.out.a3
        go_wp2_with fail
        refine HK.out.mono ?_
        rintro e w5 ⟨A5, cap5, rfl, hki, hb5⟩
        have hlp : 0 < (L0 ++ [x]).length := by simp
        obtain ⟨g, hA5, -, -, hc5⟩ := hki (by simp)
        have hc50 := hc5 0 (by simp)
        simp only [List.reverse_append, List.reverse_cons, List.reverse_nil, List.nil_append, List.singleton_append, List.map_cons, List.getElem_cons_zero, Nat.zero_mul, Nat.zero_add, HXE.out.1, HXE.out.2] at hc50
        obtain ⟨v0, v1⟩ := hc50
        have HX5 := Lib.hid (HX4.out.still hb5)
        have HL5 := Lib.hid (HL4.out.still hb5)
        clear hki hb5 hc5 k0 k1 a3 HK
        have k0 := HX5.out.k0
        have k1 := HX5.out.k1
        obtain ⟨len, hlen⟩ : ∃ len, (L0 ++ [x]).length = len := ⟨_, rfl⟩
        rw [hlen] at hlp ⊢
        clear hlen
        subst hA5
        have hl0 : ((len : Int) == 0) = false := beq_eq_false_iff_ne.2 (by omega)
        have hl1 : (0 : Int) < (len : Int) := by omega
        have hq := fun W => key_neq W f k
        have hqg := fun W x y => key_guard W x y #[.int .i64 f, .int .i64 k] #[.int .i64 f, .int .i64 k]
        go_wp2_with fail
        go_quiet (fail)
        go_wp2
        go_roundw
        case rel => exact ⟨j + 1, N3, Z4, _, by omega, by go_num, HN3.out.1, HN4.out, Lib.hid (HL5.out.still (below_drewN (Below.refl _ _) _))⟩
        case measure => simp [intOf]; omega
      · rw [hgr] at hg
        subst hg
        rw [h0]
        clear h0 hgr HPG HPR hco
        go_wp2_with fail
        refine HG.out.mono ?_
        rintro e w4 ⟨rfl, Z4, ht4, hz4⟩
        have HX4 := Lib.hid (HX3.out.turn ht4)
        have HL4 := Lib.hid ht4.live
        have HN4 : Hid (Z4.length ≤ j + 1) := Lib.hid (by rw [← bl_len, hz4]; exact HGL.out)
        have HK := Lib.hid (ht4.live.kept (by have := HN3.out; omega) (by have := HN4.out; omega) hz4)
        clear ht4 hz4 HG k0 k1 a3
        have k0 := HX4.out.k0
        have k1 := HX4.out.k1
        have a3 := HX4.out.a3
        go_wp2_with fail
        refine HK.out.mono ?_
        rintro e w5 ⟨A5, cap5, rfl, -, hb5⟩
        have HX5 := Lib.hid (HX4.out.still hb5)
        have HL5 := Lib.hid (HL4.out.still hb5)
        clear hb5 k0 k1 a3 HK
        have k0 := HX5.out.k0
        have k1 := HX5.out.k1
        go_wp2_with fail
        go_quiet (fail)
        go_wp2
        go_roundw
        case rel => exact ⟨j + 1, N3, Z4, _, by omega, by go_num, HN3.out.1, HN4.out, Lib.hid (HL5.out.still (below_drewN (Below.refl _ _) _))⟩
        case measure => simp [intOf]; omega
    · have hjm : j = m := by omega
      subst hjm
      have HW := Lib.hid (wakes_any wr)
      have HBF := Lib.hid HL.out.below
      go_wp2_with fail
      refine HW.out.mono ?_
      rintro e wz ⟨rfl, hbz⟩
      have HBZ := Lib.hid (HBF.out.trans (hbz.mono HBF.out.size))
      clear hbz
      go_wp2
      go_ret
      exact ⟨rfl, HBZ.out⟩

set_option maxRecDepth 100000 in
theorem contract (H : Type) (enc : TypeId × Value → H) (W : World) (base : Nat) (args : Array Value) (ds gs : List (DataW H)) (before : List MemPlace)
    (hval : ∀ (j : Nat) t v, Try.f7.params[j]? = some t → args[j]? = some v → Value.okWide Try.prog W .any base t v)
    (hW : DataW.Whole enc Try.prog Try.f7.params.toList Rows.cacheLastSpec.vars false W args.toList ds gs before)
    (hz : (DataW.weightsEach Try.prog Try.f7.params.toList (ds ++ gs)).all (· ≤ reachBytes) = true) :
    Calls Try.prog 7 args W fun e W' => ∃ v, e = .returned v ∧ Rows.cacheLastSpec.post enc Try.prog Try.f7 false true false false W args v W' := by
  have hW' := hW
  obtain ⟨p, q, hA0, hV, rfl, hfz, hnd⟩ := hW
  have hA : DataW.TrodAll enc Try.prog W 0 (fun _ => true) true Try.f7.params.toList args.toList ds p := hA0
  rw [Try.params7] at hA hval hz
  obtain ⟨v0, vs0, d0, ds0, p0, q0, hargs, rfl, rfl, h0, r0⟩ := trodAll_cons hA
  obtain ⟨v1, vs1, d1, ds1, p1, q1, rfl, rfl, rfl, h1, r1⟩ := trodAll_cons r0
  obtain ⟨rfl, rfl, rfl⟩ := trodAll_nil r1
  obtain rfl : args = #[v0, v1] := by cases args; simp_all
  obtain ⟨rfl, rfl⟩ := trodVars_none hV
  obtain ⟨l, rfl, rfl, rfl, wl⟩ := open_int Try.underlying2 (hval 0 2 v0 rfl rfl) h0
  have hl : -9223372036854775808 ≤ l ∧ l ≤ 9223372036854775807 := by simpa [Lit.wf, IntKind.min, IntKind.max, IntKind.signed, IntKind.bits] using wl
  obtain ⟨scA, scN, scC, sc, rfl, hlensc, hinsc, hbsc, hcapsc⟩ := open_acts5 (hval 1 22 v1 rfl rfl) h1 (parts_sized hz (j := 1) rfl rfl)
  refine (walk l scA scN scC sc W hlensc hinsc hbsc hcapsc).mono fun e W' ⟨he, hB⟩ => ?_
  subst he
  exact ⟨_, rfl, law_post Try.laidOut (by kernel_rfl) rfl rfl Try.underlying4 hW' rfl hB⟩

set_option maxRecDepth 100000 in
theorem lifted (os : Os) (started : os.Started) (H : Type) (enc : TypeId × Value → H) :
    ReturnsInHanded {} Try.checked os 7 .any (Rows.cacheLastSpec.pre6 enc Try.prog Try.f7 Rows.cacheLastRow.domain false) (Rows.cacheLastSpec.post enc Try.prog Try.f7 false true false false) := by
  refine returnsInHanded_of_change_sized (C := Try.checked) Try.own started (by kernel_rfl) Try.func7
    (ChangeSpec.witness6 (enc := enc) (C := Try.checked) false ⟨#[], #[.int .i64 0, .slice none 0 0], []⟩ 8 (by kernel_rfl) (by kernel_rfl) (by kernel_rfl) (by kernel_rfl)) ?_
  intro W base args ds gs before hval hW _ hz _
  exact contract H enc W base args ds gs before hval hW hz

theorem proved : Rows.CacheLastSaid :=
  OpenClaim.holds_of_wide 7 Try.f7 rfl rfl rfl rfl rfl rfl rfl ⟨rfl, rfl, rfl, rfl, rfl⟩ rfl rfl rfl rfl rfl (by kernel_rfl) Try.func7 (by kernel_rfl)
    (of_decide_eq_true (by kernel_rfl)) (by unfold Func.isWrapper; first | (rw [if_pos (by decide +kernel)]; kernel_rfl) | (rw [if_neg (by decide +kernel)]; exact ⟨rfl, rfl⟩))
    (fun os started H enc _ => lifted os started H enc)
end lawLast
end Go.Proofs.Ytlfhjbilnfkabaa
