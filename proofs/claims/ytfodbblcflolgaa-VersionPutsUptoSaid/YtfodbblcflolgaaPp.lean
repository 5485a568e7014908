/- An edit's reader: the whole edit (the program's). -/
import Derived.Test.YtfodbblcflolgaaPo
import Derived.Deep.CutBlock
namespace Go.Proofs.Ytfodbblcflolgaa
open Go.RowKit
open VS
attribute [local go_sem ↓] Go.wp_at_zero Go.wp_at_succ

/-- an edit's box whose two rows grow -/
structure GE (TE TM : TypeId) (y : Nat) (w : World) (va vd : Value) (adds : List M) (drops : List Int) (lg nx sq : Int) : Prop where
  row : w.heap[y]? = some (.cells #[va, vd, .int .i64 lg, .int .i64 nx, .int .i64 sq] TE (0, 0))
  oa : w.ownsRow (y + 1) TM 5 va adds.length (cs5 adds)
  od : w.ownsRow (y + 1) 2 1 vd drops.length (nums drops)
  ap : ∀ g, va.ownBlock = some g → vd.ownBlock ≠ some g

section
variable {TE TM : TypeId} {y : Nat} {w w' : World} {va vd : Value} {adds : List M} {drops : List Int} {lg nx sq : Int}
theorem GE.lt (h : GE TE TM y w va vd adds drops lg nx sq) : y < w.heap.size := (Array.getElem?_eq_some_iff.1 h.row).1
theorem GE.below (h : GE TE TM y w va vd adds drops lg nx sq) (hb : Below w.heap.size w w') : GE TE TM y w' va vd adds drops lg nx sq :=
  ⟨(hb.block y h.lt).trans h.row, own_below h.oa hb, own_below h.od hb, h.ap⟩
theorem own_notlow {w : World} {B : Nat} {e : TypeId} {s : Nat} {v : Value} {n : Nat} {xs : List Value} (h : w.ownsRow B e s v n xs) {b : Nat} (hb : b < B) : v.ownBlock = none ∨ v.ownBlock ≠ some b := by
  cases hv : v.ownBlock with
  | none => exact .inl rfl
  | some g => exact .inr (fun e => by cases e; have := (h.lt _ hv).1; omega)
theorem GE.grown (h : GE TE TM y w va vd adds drops lg nx sq) {b : Nat} (hg : w.grownBy w' (some b)) (hb : b < y) : GE TE TM y w' va vd adds drops lg nx sq :=
  ⟨(hg.block y h.lt (fun e => by cases e; omega)).trans h.row, h.oa.kept hg (own_notlow h.oa (by omega)), h.od.kept hg (own_notlow h.od (by omega)), h.ap⟩
theorem GE.c (h : GE TE TM y w va vd adds drops lg nx sq) : w.cell? ⟨y, 0, none⟩ = some va ∧ w.cell? ⟨y, 1, none⟩ = some vd ∧ w.cell? ⟨y, 2, none⟩ = some (.int .i64 lg) ∧ w.cell? ⟨y, 3, none⟩ = some (.int .i64 nx) ∧ w.cell? ⟨y, 4, none⟩ = some (.int .i64 sq) :=
  ⟨cell_of_row _ _ _ _ _ _ h.row, cell_of_row _ _ _ _ _ _ h.row, cell_of_row _ _ _ _ _ _ h.row, cell_of_row _ _ _ _ _ _ h.row, cell_of_row _ _ _ _ _ _ h.row⟩
theorem GE.new (w : World) (lg nx sq : Int) : GE TE TM w.heap.size (w.alloc (.cells #[.slice none 0 0, .slice none 0 0, .int .i64 lg, .int .i64 nx, .int .i64 sq] TE)) (.slice none 0 0) (.slice none 0 0) [] [] lg nx sq :=
  ⟨heap_alloc_new w _, World.ownsRow_nil _ _ _ _, World.ownsRow_nil _ _ _ _, fun g hg => by cases hg⟩

/-- a number more -/
theorem GE.appD (h : GE TE TM y w va vd adds drops lg nx sq) (hlen : drops.length ≤ 10000000) (z : Int) :
    ∃ A6 c6 w8, (Builtin.append_ #[31, 31] 31 #[vd, .slice (some ⟨w.heap.size, 0, none⟩) 1 1]).run Try.prog (w.alloc (.cells #[.int .i64 z] 2)) = .ok (.slice A6 (drops.length + 1) c6) w8 ∧
      w8.cell? ⟨y, 1, none⟩ = some vd ∧ w8.frozen? ⟨y, 1, none⟩ = false ∧ Below y w (w8.setCell ⟨y, 1, none⟩ (.slice A6 (drops.length + 1) c6)) ∧ GE TE TM y (w8.setCell ⟨y, 1, none⟩ (.slice A6 (drops.length + 1) c6)) va (.slice A6 (drops.length + 1) c6) adds (drops ++ [z]) lg nx sq := by
  obtain ⟨i0, hi0, hz0, hz1, hz2⟩ := info_parts info_i64
  have hyl := h.lt
  obtain ⟨v', w8, happ, hown8, hg8, -, hloc⟩ := run_append_own_at (P := Try.prog) (w.alloc (.cells #[.int .i64 z] 2)) (y + 1) 31 31 2 i0 _ 1 8 Try.underlying31 hi0 hz0 hz1 hz2 rfl (by decide) vd drops.length _ (h.od.alloc _)
    ⟨w.heap.size, 0, none⟩ 1 1 [.int .i64 z] rfl (cell_one_new _ _ _) (by simp [Value.oneCell']) (by unfold maxLen; omega) (by omega) (by simp; omega)
  obtain ⟨A6, c6, rfl⟩ : ∃ A6 c6, v' = .slice A6 (drops.length + 1) c6 := own_shape hown8
  have hb7 : Below w.heap.size w (w.alloc (.cells #[.int .i64 z] 2)) := (Below.refl _ w).alloc (Nat.le_refl _) _
  have hvy : some y ≠ vd.ownBlock := fun he => by have := (h.od.lt y he.symm).1; omega
  have hrow8 : w8.heap[y]? = some (.cells #[va, vd, .int .i64 lg, .int .i64 nx, .int .i64 sq] TE (0, 0)) := (hg8.block y (by simp; omega) hvy).trans ((hb7.block y hyl).trans h.row)
  have hset := grownBy_setCell w8 ⟨y, 1, none⟩ (.slice A6 (drops.length + 1) c6)
  have hb8 : Below y w w8 := (hb7.mono (Nat.le_of_lt hyl)).grown hg8 (by simp; omega) (fun r e => by have := (h.od.lt r e).1; omega)
  refine ⟨A6, c6, w8, happ, cell_of_row _ _ _ _ _ _ hrow8, frozen_of_row _ _ _ _ _ hrow8, hb8.setCell (p := ⟨y, 1, none⟩) (Nat.le_refl _) _, ⟨?_, ?_, ?_, ?_⟩⟩
  · exact heap_set_fr hrow8 1 (.slice A6 (drops.length + 1) c6)
  · refine own_set ((own_below h.oa hb7).kept hg8 ?_) (Nat.lt_succ_self y) 1 _
    cases hv : va.ownBlock with
    | none => exact .inl rfl
    | some g => exact .inr (fun e => h.ap g hv e.symm)
  · refine own_set ?_ (Nat.lt_succ_self y) 1 _
    rw [nums_snoc, List.length_append]
    exact hown8
  · intro g hg e
    rcases hloc with hl | hl
    · rw [hl] at e; exact h.ap g hg e
    · rw [hl] at e
      cases e
      have h1 := (h.oa.lt _ hg).2
      have h2 : (w.alloc (.cells #[.int .i64 z] 2)).heap.size = w.heap.size + 1 := by simp
      omega

/-- a table more -/
theorem GE.appA {TS : TypeId} (h : GE TE TM y w va vd adds drops lg nx sq) (hlen : adds.length ≤ 10000000) (m : M) {i0 : TypeInfo} {zz : Value} (ht : Try.prog.underlying TS = some (.slice TM)) (hi0 : Try.prog.info? TM = some i0) (hz0 : i0.zero = some zz) (hz1 : i0.size = 5) (hz2 : i0.bytes = 56) (hzc : zz.cells.size = 5) :
    ∃ A6 c6 w8, (Builtin.append_ #[TS, TS] TS #[va, .slice (some ⟨w.heap.size, 0, none⟩) 1 1]).run Try.prog (w.alloc (.cells #[.int .i64 m.lvl, .int .i64 m.file, .int .i64 m.size, .string m.lo, .string m.hi] TM)) = .ok (.slice A6 (adds.length + 1) c6) w8 ∧
      w8.cell? ⟨y, 0, none⟩ = some va ∧ w8.frozen? ⟨y, 0, none⟩ = false ∧ Below y w (w8.setCell ⟨y, 0, none⟩ (.slice A6 (adds.length + 1) c6)) ∧ GE TE TM y (w8.setCell ⟨y, 0, none⟩ (.slice A6 (adds.length + 1) c6)) (.slice A6 (adds.length + 1) c6) vd (adds ++ [m]) drops lg nx sq := by
  have hyl := h.lt
  obtain ⟨v', w8, happ, hown8, hg8, -, hloc⟩ := run_append_own_at (P := Try.prog) (w.alloc (.cells #[.int .i64 m.lvl, .int .i64 m.file, .int .i64 m.size, .string m.lo, .string m.hi] TM)) (y + 1) TS TS TM i0 _ 5 56 ht hi0 hz0 hz1 hz2 hzc (by decide) va adds.length _ (h.oa.alloc _)
    ⟨w.heap.size, 0, none⟩ 1 1 (M.c5 m) rfl (cells5 w m _) (one5 _) (by unfold maxLen; omega) (by omega) (by simp; omega)
  obtain ⟨A6, c6, rfl⟩ : ∃ A6 c6, v' = .slice A6 (adds.length + 1) c6 := own_shape hown8
  have hb7 : Below w.heap.size w (w.alloc (.cells #[.int .i64 m.lvl, .int .i64 m.file, .int .i64 m.size, .string m.lo, .string m.hi] TM)) := (Below.refl _ w).alloc (Nat.le_refl _) _
  have hvy : some y ≠ va.ownBlock := fun he => by have := (h.oa.lt y he.symm).1; omega
  have hrow8 : w8.heap[y]? = some (.cells #[va, vd, .int .i64 lg, .int .i64 nx, .int .i64 sq] TE (0, 0)) := (hg8.block y (by simp; omega) hvy).trans ((hb7.block y hyl).trans h.row)
  have hb8 : Below y w w8 := (hb7.mono (Nat.le_of_lt hyl)).grown hg8 (by simp; omega) (fun r e => by have := (h.oa.lt r e).1; omega)
  refine ⟨A6, c6, w8, happ, cell_of_row _ _ _ _ _ _ hrow8, frozen_of_row _ _ _ _ _ hrow8, hb8.setCell (p := ⟨y, 0, none⟩) (Nat.le_refl _) _, ⟨?_, ?_, ?_, ?_⟩⟩
  · exact heap_set_fr hrow8 0 (.slice A6 (adds.length + 1) c6)
  · refine own_set ?_ (Nat.lt_succ_self y) 0 _
    rw [cs5_snoc, List.length_append]
    exact hown8
  · refine own_set ((own_below h.od hb7).kept hg8 ?_) (Nat.lt_succ_self y) 0 _
    cases hv : vd.ownBlock with
    | none => exact .inl rfl
    | some g =>
      refine .inr (fun e => ?_)
      exact h.ap g e.symm hv
  · intro g hg e
    rcases hloc with hl | hl
    · rw [hl] at hg; exact h.ap g hg e
    · rw [hl] at hg
      cases hg
      have h1 := (h.od.lt _ e).2
      have h2 : (w.alloc (.cells #[.int .i64 m.lvl, .int .i64 m.file, .int .i64 m.size, .string m.lo, .string m.hi] TM)).heap.size = w.heap.size + 1 := by simp
      omega
/-- below the box nothing has changed but the reader -/
theorem grown_box {a w w' : World} {b y : Nat} (h : a.grownBy w (some b)) (hb : Below y w w') (hy : a.heap.size ≤ y) : a.grownBy w' (some b) :=
  ⟨hb.os.trans h.os, hb.tape.trans h.tape, hb.output.trans h.output, Nat.le_trans h.size hb.size, fun k hk hne => (hb.block k (by omega)).trans (h.block k hk hne)⟩
theorem Rd.low {T : TypeId} {w w' : World} {b y : Nat} {s : ByteArray} {st : RS} (h : Rd T w b s st) (hb : Below y w w') (hy : b < y) : Rd T w' b s st := by
  obtain ⟨a, f, hr, hs⟩ := h
  exact ⟨a, f, (hb.block b hy).trans hr, hs⟩
end
theorem Rd.c {T : TypeId} {w : World} {b : Nat} {s : ByteArray} {st : RS} (h : Rd T w b s st) : ∃ a f, w.cell? ⟨b, 0, none⟩ = some (.string s) ∧ w.cell? ⟨b, 1, none⟩ = some (.int .i64 a) ∧ w.cell? ⟨b, 2, none⟩ = some (.int .i64 f) ∧ Stt st a f := by
  obtain ⟨a, f, hr, hs⟩ := h
  exact ⟨a, f, cell_of_row _ _ _ _ _ _ hr, cell_of_row _ _ _ _ _ _ hr, cell_of_row _ _ _ _ _ _ hr, hs⟩

/-- in the midst of reading an edit -/
def Mid (w : World) (b x y : Nat) (s : ByteArray) (lg nx sq : Int) (st : RS) (adds : List M) (drops : List Int) (W : World) : Prop :=
  ∃ va vd, Rd 94 W b s st ∧ GE 36 81 y W va vd adds drops lg nx sq ∧ w.grownBy W (some b) ∧ W.heap[x]? = some (.cells #[.slice none 0 0, .slice none 0 0, .int .i64 0, .int .i64 0, .int .i64 0] 36 (0, 0))

set_option maxRecDepth 100000 in
set_option maxHeartbeats 4000000 in
theorem edit_any (w : World) (b : Nat) (s : ByteArray) (h : Rd 94 w b s (.ok 0)) (hs : s.size ≤ 140737488351232) :
    Calls Try.prog 35 #[.pointer (some ⟨b, 0, none⟩)] w fun r w' => (∃ A n c D m d, r = .returned (.agg #[.slice A n c, .slice D m d, .int .i64 (re s.data.toList).1.log, .int .i64 (re s.data.toList).1.next, .int .i64 (re s.data.toList).1.seq]) ∧ EdIn w' A n c D m d (re s.data.toList).1 ∧ (∀ g, A = some g → w.heap.size ≤ g.block) ∧ (∀ g, D = some g → w.heap.size ≤ g.block)) ∧ Rd 94 w' b s (re s.data.toList).2 ∧ w.grownBy w' (some b) := by
  obtain ⟨i0, hi0, hz0, hz1, hz2⟩ := info_parts info_place
  have f0 : VS.Fair s.data.toList (.ok 0) := ⟨by omega, by omega⟩
  have f1 := rn_fair f0
  have f2 := rn_fair f1.1
  have f3 := rn_fair f2.1
  have f4 := rb_fair (most := 4096) (by decide) f3.1
  have f5 := rds_fair (rb s.data.toList 4096 (rn s.data.toList (rn s.data.toList (rn s.data.toList (.ok 0)).2).2).2).1.toNat f4.1
  have H0 := Lib.hid (fun W (hW : Rd 94 W b s (.ok 0)) => number_any W b s (.ok 0) hW f0 hs)
  have H1 := Lib.hid (fun W (hW : Rd 94 W b s _) => number_any W b s (rn s.data.toList (.ok 0)).2 hW f1.1 hs)
  have H2 := Lib.hid (fun W (hW : Rd 94 W b s _) => number_any W b s (rn s.data.toList (rn s.data.toList (.ok 0)).2).2 hW f2.1 hs)
  have H3 := Lib.hid (fun W (hW : Rd 94 W b s _) => numberTo_any W b s (rn s.data.toList (rn s.data.toList (rn s.data.toList (.ok 0)).2).2).2 4096 hW f3.1 hs (by decide))
  have HOK := Lib.hid (re_fair s.data.toList)
  have HRE : Hid (re s.data.toList = (let x0 := rn s.data.toList (.ok 0); let x1 := rn s.data.toList x0.2; let x2 := rn s.data.toList x1.2; let x3 := rb s.data.toList 4096 x2.2; let x4 := rds s.data.toList x3.1.toNat x3.2; let x5 := rb s.data.toList 4096 x4.2; let x6 := rps s.data.toList x5.1.toNat x5.2; (⟨x6.1, x4.1, x0.1, x1.1, x2.1⟩, x6.2))) := Lib.hid rfl
  obtain ⟨R, hR⟩ : ∃ R, re s.data.toList = R := ⟨_, rfl⟩
  rw [hR] at HRE HOK ⊢
  obtain ⟨v0, hv0⟩ : ∃ x, rn s.data.toList (.ok 0) = x := ⟨_, rfl⟩
  rw [hv0] at H0 H1 H2 H3 HRE f1 f2 f3 f4 f5
  obtain ⟨n0, st0⟩ := v0
  simp only at H0 H1 H2 H3 HRE f1 f2 f3 f4 f5
  obtain ⟨v1, hv1⟩ : ∃ x, rn s.data.toList st0 = x := ⟨_, rfl⟩
  rw [hv1] at H1 H2 H3 HRE f2 f3 f4 f5
  obtain ⟨n1, st1⟩ := v1
  simp only at H1 H2 H3 HRE f2 f3 f4 f5
  obtain ⟨v2, hv2⟩ : ∃ x, rn s.data.toList st1 = x := ⟨_, rfl⟩
  rw [hv2] at H2 H3 HRE f3 f4 f5
  obtain ⟨n2, st2⟩ := v2
  simp only at H2 H3 HRE f3 f4 f5
  obtain ⟨v3, hv3⟩ : ∃ x, rb s.data.toList 4096 st2 = x := ⟨_, rfl⟩
  rw [hv3] at H3 HRE f4 f5
  obtain ⟨n3, st3⟩ := v3
  simp only at H3 HRE f4 f5
  obtain ⟨K3, hK3⟩ : ∃ K3 : Nat, n3 = K3 := ⟨n3.toNat, by omega⟩
  subst hK3
  have hK3b : K3 ≤ 4096 := by omega
  rw [Int.toNat_natCast] at HRE f5
  have HF3 := Lib.hid f4.1
  have HI012 : Hid (i64 n0 ∧ i64 n1 ∧ i64 n2) := Lib.hid ⟨f1.2, f2.2, f3.2⟩
  obtain ⟨v4, hv4⟩ : ∃ x, rds s.data.toList K3 st3 = x := ⟨_, rfl⟩
  have HV4 := Lib.hid hv4
  rw [hv4] at HRE f5
  obtain ⟨d4, st4⟩ := v4
  simp only at HRE f5
  have HF4 := Lib.hid f5
  have H5 := Lib.hid (fun W (hW : Rd 94 W b s st4) => numberTo_any W b s st4 4096 hW f5.1 hs (by decide))
  have f6 := rb_fair (most := 4096) (by decide) f5.1
  obtain ⟨v5, hv5⟩ : ∃ x, rb s.data.toList 4096 st4 = x := ⟨_, rfl⟩
  rw [hv5] at H5 HRE f6
  obtain ⟨n5, st5⟩ := v5
  simp only at H5 HRE f6
  obtain ⟨K5, hK5⟩ : ∃ K5 : Nat, n5 = K5 := ⟨n5.toNat, by omega⟩
  subst hK5
  have hK5b : K5 ≤ 4096 := by omega
  rw [Int.toNat_natCast] at HRE
  have HF5 := Lib.hid f6.1
  have f7 := rps_fair (l := s.data.toList) K5 f6.1
  obtain ⟨v6, hv6⟩ : ∃ x, rps s.data.toList K5 st5 = x := ⟨_, rfl⟩
  have HV6 := Lib.hid hv6
  rw [hv6] at HRE f7
  obtain ⟨a6, st6⟩ := v6
  simp only at HRE f7
  have HF6 := Lib.hid f7
  have hRR := HRE.out
  subst hRR
  have HRD := Lib.hid h
  have HBL := Lib.hid h.lt
  clear f0 f1 f2 f3 f4 f5 f6 f7 hv0 hv1 hv2 hv3 hv4 hv5 hv6 hR HRE h
  simp only
  go_enter Try.func35, Try.ntmps35
  go_wp2_with fail
  have hg0 : w.grownBy (w.alloc (.cells #[.slice none 0 0, .slice none 0 0, .int .i64 0, .int .i64 0, .int .i64 0] 36)) (some b) := grown_alloc' (grown_refl w _) _
  have hrx := heap_alloc_new w (.cells #[.slice none 0 0, .slice none 0 0, .int .i64 0, .int .i64 0, .int .i64 0] 36)
  have hrd0 := HRD.out.below ((Below.refl _ w).alloc (Nat.le_refl _) (.cells #[.slice none 0 0, .slice none 0 0, .int .i64 0, .int .i64 0, .int .i64 0] 36))
  generalize w.alloc (.cells #[.slice none 0 0, .slice none 0 0, .int .i64 0, .int .i64 0, .int .i64 0] 36) = w0 at hg0 hrx hrd0 ⊢
  obtain ⟨x, hx⟩ : ∃ x, w.heap.size = x := ⟨_, rfl⟩
  have HX : Hid (w.heap.size = x ∧ b < x) := Lib.hid ⟨hx, by have := HBL.out; omega⟩
  rw [hx] at hrx ⊢
  have HRD0 := Lib.hid hrd0
  have HRX0 : Hid (w0.heap[x]? = some (.cells #[.slice none 0 0, .slice none 0 0, .int .i64 0, .int .i64 0, .int .i64 0] 36 (0, 0))) := Lib.hid hrx
  have HG0 := Lib.hid hg0
  clear hrd0 hrx hg0 hx
  refine (H0.out _ HRD0.out).mono ?_
  rintro r w1 ⟨rfl, hrd, hg⟩
  have HRD1 := Lib.hid hrd
  have HRX1 := Lib.hid ((hg.block x (Array.getElem?_eq_some_iff.1 HRX0.out).1 (fun e => by have := HX.out.2; cases e; omega)).trans HRX0.out)
  have HG1 := Lib.hid (grown_trans HG0.out hg)
  clear hrd hg
  go_wp2_with fail
  refine (H1.out _ HRD1.out).mono ?_
  rintro r w2 ⟨rfl, hrd, hg⟩
  have HRD2 := Lib.hid hrd
  have HRX2 := Lib.hid ((hg.block x (Array.getElem?_eq_some_iff.1 HRX1.out).1 (fun e => by have := HX.out.2; cases e; omega)).trans HRX1.out)
  have HG2 := Lib.hid (grown_trans HG1.out hg)
  clear hrd hg
  go_wp2_with fail
  refine (H2.out _ HRD2.out).mono ?_
  rintro r w3 ⟨rfl, hrd, hg⟩
  have HRD3 := Lib.hid hrd
  have HRX3 := Lib.hid ((hg.block x (Array.getElem?_eq_some_iff.1 HRX2.out).1 (fun e => by have := HX.out.2; cases e; omega)).trans HRX2.out)
  have HG3 := Lib.hid (grown_trans HG2.out hg)
  clear hrd hg
  go_upto_region 2 with fail
  have hge := GE.new (TE := 36) (TM := 81) w3 n0 n1 n2
  have hal := (Below.refl w3.heap.size w3).alloc (Nat.le_refl _) (.cells #[.slice none 0 0, .slice none 0 0, .int .i64 n0, .int .i64 n1, .int .i64 n2] 36)
  have HRD4 := Lib.hid (HRD3.out.below hal)
  have HRX4 := Lib.hid ((hal.block x (Array.getElem?_eq_some_iff.1 HRX3.out).1).trans HRX3.out)
  have HG4 := Lib.hid (grown_alloc' HG3.out (.cells #[.slice none 0 0, .slice none 0 0, .int .i64 n0, .int .i64 n1, .int .i64 n2] 36))
  generalize w3.alloc (.cells #[.slice none 0 0, .slice none 0 0, .int .i64 n0, .int .i64 n1, .int .i64 n2] 36) = w4 at hge hal HRD4 HRX4 HG4 ⊢
  obtain ⟨y, hy⟩ : ∃ y, w3.heap.size = y := ⟨_, rfl⟩
  rw [hy] at hge ⊢
  have HXY : Hid (x < y) := Lib.hid (by rw [← hy]; exact (Array.getElem?_eq_some_iff.1 HRX3.out).1)
  have HBY : Hid (b < y) := Lib.hid (by have := HXY.out; have := HX.out.2; omega)
  have HWY : Hid (w.heap.size ≤ y) := Lib.hid (by have := HXY.out; have := HX.out.1; omega)
  have HGE4 := Lib.hid hge
  clear hge hal hy
  go_wp2_with fail
  refine (H3.out _ HRD4.out).mono ?_
  rintro r w5 ⟨rfl, hrd, hg⟩
  have HRD5 := Lib.hid hrd
  have HRX5 := Lib.hid ((hg.block x (Array.getElem?_eq_some_iff.1 HRX4.out).1 (fun e => by have := HX.out.2; cases e; omega)).trans HRX4.out)
  have HGE5 := Lib.hid (HGE4.out.grown hg HBY.out)
  have HG5 := Lib.hid (grown_trans HG4.out hg)
  clear hrd hg
  have HMID5 : Hid (Mid w b x y s n0 n1 n2 st3 [] [] w5) := Lib.hid ⟨_, _, HRD5.out, HGE5.out, HG5.out, HRX5.out⟩
  clear HRD0 HRD1 HRD2 HRD3 HRD4 HRD5 HRX0 HRX1 HRX2 HRX3 HRX4 HRX5 HG0 HG1 HG2 HG3 HG4 HG5 HGE4 HGE5
  go_upto_block 0 with fail
  go_cut [4] from 15 to 33 (fun n wc => Mid w b x y s n0 n1 n2 st4 [] d4 wc)
  case first =>
    go_wp2_with fail
    go_loopw [4] (fun n wr => ∃ (k : Nat) (st : RS) (d : List Int), n = .int .i64 k ∧ k ≤ 4096 ∧ d.length + k ≤ 4096 ∧ Hid (VS.Fair s.data.toList st) ∧ Hid (∃ r, rds s.data.toList k st = (r, st4) ∧ d ++ r = d4) ∧ Mid w b x y s n0 n1 n2 st [] d wr) (fun n _ => (intOf n).toNat)
    case atStart => exact ⟨K3, st3, [], rfl, hK3b, by simpa using hK3b, HF3, Lib.hid ⟨d4, HV4.out, rfl⟩, HMID5.out⟩
    case round =>
      obtain ⟨k, st, d, rfl, hk, hdk, HFA, HRR, va, vd, hrd, hge, hg, hrx⟩ := hrel
      obtain ⟨a, f, -, -, c2, hst⟩ := hrd.c
      have HRD := Lib.hid hrd
      have HGE := Lib.hid hge
      have HG := Lib.hid hg
      have HRX := Lib.hid hrx
      clear hrd hge hg hrx
      cases k with
      | zero =>
        have HM : Hid (Mid w b x y s n0 n1 n2 st4 [] d4 wr) := Lib.hid (by
          obtain ⟨r, h1, h2⟩ := HRR.out
          have h3 : rds s.data.toList 0 st = ([], st) := rfl
          rw [h3] at h1
          cases h1
          rw [List.append_nil] at h2
          subst h2
          exact ⟨va, vd, HRD.out, HGE.out, HG.out, HRX.out⟩)
        clear hst
        go_wp2
        go_meet
        exact HM.out
      | succ j =>
        have d0 : decide ((0 : Int) < ((j + 1 : Nat) : Int)) = true := decide_eq_true (by omega)
        cases st with
        | error c =>
          obtain rfl : f = c := hst
          have hc : (f == 0) = false := by have := HFA.out.1; simp; omega
          have HM : Hid (Mid w b x y s n0 n1 n2 st4 [] d4 wr) := Lib.hid (by
            obtain ⟨r, h1, h2⟩ := HRR.out
            rw [rds_bad] at h1
            cases h1
            rw [List.append_nil] at h2
            subst h2
            exact ⟨va, vd, HRD.out, HGE.out, HG.out, HRX.out⟩)
          go_wp2
          go_meet
          exact HM.out
        | ok p =>
          obtain ⟨rfl, rfl⟩ := hst
          have hfn := rn_fair HFA.out
          have HNC := Lib.hid (fun W (hW : Rd 94 W b s (.ok a)) => number_any W b s (.ok a) hW HFA.out hs)
          have HRR2 : Hid (∃ r, rds s.data.toList j (rn s.data.toList (.ok a)).2 = (r, st4) ∧ (d ++ [(rn s.data.toList (.ok a)).1]) ++ r = d4) := Lib.hid (by
            obtain ⟨r, h1, h2⟩ := HRR.out
            rw [rds_more] at h1
            cases h1
            exact ⟨_, rfl, by rw [← h2]; simp⟩)
          obtain ⟨v, hv⟩ : ∃ x, rn s.data.toList (.ok a) = x := ⟨_, rfl⟩
          rw [hv] at hfn HNC HRR2
          obtain ⟨z, st'⟩ := v
          simp only at hfn HNC HRR2
          have HFN := Lib.hid hfn.1
          have hdl : d.length ≤ 10000000 := by omega
          have HAP := Lib.hid (fun W (hW : GE 36 81 y W va vd [] d n0 n1 n2) => hW.appD hdl z)
          have q1 := HGE.out.c.2.1
          have HRDd := Lib.hid (HRD.out.below ((Below.refl _ wr).drew))
          have HGEd := Lib.hid (HGE.out.below ((Below.refl _ wr).drew))
          have hwj : IntKind.i64.wrap (((j + 1 : Nat) : Int) - 1) = (j : Int) := by rw [IntWalk.i64_in _ ⟨by omega, by omega⟩]; omega
          have hwj2 : IntKind.i64.wrap ((j : Int) + 1 - 1) = (j : Int) := by rw [IntWalk.i64_in _ ⟨by omega, by omega⟩]; omega
          have hwj3 : IntKind.i64.wrap (j : Int) = (j : Int) := IntWalk.i64_in _ ⟨by omega, by omega⟩
          clear hv hfn HRR
          go_upto_region 5 with fail
          go_region_law (first
            | (refine step_app 31 (by rfl) _ _ (by rfl) (by rfl) _ _ (by rfl) (by rfl) _ _ HAPP.out ?_)
            | (go_simp
               go_at_call 58
               refine (HNC.out _ HRDd.out).mono ?_
               rintro r w1 ⟨rfl, hrd1, hg1⟩
               have hge1 := HGEd.out.grown hg1 HBY.out
               have z0 := hge1.c.2.1
               have o0 : (w1.alloc (.cells #[.int .i64 z] 2)).cell? ⟨y, 1, none⟩ = some vd := (hge1.below ((Below.refl _ w1).alloc (Nat.le_refl _) _)).c.2.1
               obtain ⟨A6, c6, w8, happ, e1, e2, hb8, hge8⟩ := HAP.out w1 hge1
               have HAPP := Lib.hid happ
               have HGE8 := Lib.hid hge8
               have HB8 := Lib.hid hb8
               have HRD1 := Lib.hid hrd1
               have HG1 : Hid (w.grownBy w1 (some b)) := Lib.hid (grown_trans HG.out (grown_trans (grown_drewN (grown_refl wr _) 1) hg1))
               have HRX1 := Lib.hid ((hg1.block x (Array.getElem?_eq_some_iff.1 HRX.out).1 (fun e => by have := HX.out.2; cases e; omega)).trans HRX.out)
               clear hrd1 hg1 hge1 happ hge8 hb8)
            | fail)
          all_goals
            clear HAP HAPP
            go_wp2
            go_roundw
            case rel => exact ⟨j, st', d ++ [z], by go_num, by omega, by rw [List.length_append]; simp; omega, HFN, HRR2, _, _, HRD1.out.low HB8.out HBY.out, HGE8.out, grown_box HG1.out HB8.out HWY.out, (HB8.out.block x HXY.out).trans HRX1.out⟩
            case measure => simp [intOf]
  case rest =>
  obtain ⟨va, vd, hrd, hge, hg, hrx⟩ := hcut
  have HRD5 := Lib.hid hrd
  have HGE5 := Lib.hid hge
  have HG5 := Lib.hid hg
  have HRX5 := Lib.hid hrx
  clear hrd hge hg hrx HMID5
  go_wp2_with fail
  refine (H5.out _ HRD5.out).mono ?_
  rintro r w6 ⟨rfl, hrd, hg⟩
  have HMID6 : Hid (Mid w b x y s n0 n1 n2 st5 [] d4 w6) := Lib.hid ⟨_, _, hrd, HGE5.out.grown hg HBY.out, grown_trans HG5.out hg, (hg.block x (Array.getElem?_eq_some_iff.1 HRX5.out).1 (fun e => by have := HX.out.2; cases e; omega)).trans HRX5.out⟩
  clear hrd hg
  go_upto_block 2 with fail
  go_cut [5] from 35 to 53 (fun n wc => Mid w b x y s n0 n1 n2 st6 a6 d4 wc)
  case first =>
    go_wp2_with fail
    go_loopw [5] (fun n wr => ∃ (k : Nat) (st : RS) (d : List M), n = .int .i64 k ∧ k ≤ 4096 ∧ d.length + k ≤ 4096 ∧ Hid (VS.Fair s.data.toList st) ∧ Hid (∃ r, rps s.data.toList k st = (r, st6) ∧ d ++ r = a6) ∧ Mid w b x y s n0 n1 n2 st d d4 wr) (fun n _ => (intOf n).toNat)
    case atStart => exact ⟨K5, st5, [], rfl, hK5b, by simpa using hK5b, HF5, Lib.hid ⟨a6, HV6.out, rfl⟩, HMID6.out⟩
    case round =>
      obtain ⟨k, st, d, rfl, hk, hdk, HFA, HRR, va, vd, hrd, hge, hg, hrx⟩ := hrel
      obtain ⟨a, f, -, -, c2, hst⟩ := hrd.c
      have HRD := Lib.hid hrd
      have HGE := Lib.hid hge
      have HG := Lib.hid hg
      have HRX := Lib.hid hrx
      clear hrd hge hg hrx
      cases k with
      | zero =>
        have HM : Hid (Mid w b x y s n0 n1 n2 st6 a6 d4 wr) := Lib.hid (by
          obtain ⟨r, h1, h2⟩ := HRR.out
          have h3 : rps s.data.toList 0 st = ([], st) := rfl
          rw [h3] at h1
          cases h1
          rw [List.append_nil] at h2
          subst h2
          exact ⟨va, vd, HRD.out, HGE.out, HG.out, HRX.out⟩)
        clear hst
        go_wp2
        go_meet
        exact HM.out
      | succ j =>
        have d0 : decide ((0 : Int) < ((j + 1 : Nat) : Int)) = true := decide_eq_true (by omega)
        cases st with
        | error c =>
          obtain rfl : f = c := hst
          have hc : (f == 0) = false := by have := HFA.out.1; simp; omega
          have HM : Hid (Mid w b x y s n0 n1 n2 st6 a6 d4 wr) := Lib.hid (by
            obtain ⟨r, h1, h2⟩ := HRR.out
            rw [rps_bad] at h1
            cases h1
            rw [List.append_nil] at h2
            subst h2
            exact ⟨va, vd, HRD.out, HGE.out, HG.out, HRX.out⟩)
          go_wp2
          go_meet
          exact HM.out
        | ok p =>
          obtain ⟨rfl, rfl⟩ := hst
          have hfn := rp_fair HFA.out
          have HNC := Lib.hid (fun W (hW : Rd 94 W b s (.ok a)) => place_any W b s (.ok a) hW HFA.out hs)
          have HRR2 : Hid (∃ r, rps s.data.toList j (rp s.data.toList (.ok a)).2 = (r, st6) ∧ (d ++ [(rp s.data.toList (.ok a)).1]) ++ r = a6) := Lib.hid (by
            obtain ⟨r, h1, h2⟩ := HRR.out
            rw [rps_more] at h1
            cases h1
            exact ⟨_, rfl, by rw [← h2]; simp⟩)
          obtain ⟨v, hv⟩ : ∃ x, rp s.data.toList (.ok a) = x := ⟨_, rfl⟩
          rw [hv] at hfn HNC HRR2
          obtain ⟨⟨z0, z1, z2, z3, z4⟩, st'⟩ := v
          simp only at hfn HNC HRR2
          have HFN := Lib.hid hfn.1
          have hdl : d.length ≤ 10000000 := by omega
          have HAP := Lib.hid (fun W (hW : GE 36 81 y W va vd d d4 n0 n1 n2) => hW.appA hdl ⟨z0, z1, z2, z3, z4⟩ Try.underlying34 hi0 hz0 hz1 hz2 rfl)
          have q1 := HGE.out.c.1
          have HRDd := Lib.hid (HRD.out.below ((Below.refl _ wr).drew))
          have HGEd := Lib.hid (HGE.out.below ((Below.refl _ wr).drew))
          have hwj : IntKind.i64.wrap (((j + 1 : Nat) : Int) - 1) = (j : Int) := by rw [IntWalk.i64_in _ ⟨by omega, by omega⟩]; omega
          have hwj2 : IntKind.i64.wrap ((j : Int) + 1 - 1) = (j : Int) := by rw [IntWalk.i64_in _ ⟨by omega, by omega⟩]; omega
          have hwj3 : IntKind.i64.wrap (j : Int) = (j : Int) := IntWalk.i64_in _ ⟨by omega, by omega⟩
          clear hv hfn HRR
          go_upto_region 9 with fail
          go_region_law (first
            | (refine step_app 34 (by rfl) _ _ (by rfl) (by rfl) _ _ (by rfl) (by rfl) _ _ HAPP.out ?_)
            | (go_simp
               go_at_call 60
               refine (HNC.out _ HRDd.out).mono ?_
               rintro r w1 ⟨rfl, hrd1, hg1⟩
               have hge1 := HGEd.out.grown hg1 HBY.out
               have zz0 := hge1.c.1
               have o0 : (w1.alloc (.cells #[.int .i64 z0, .int .i64 z1, .int .i64 z2, .string z3, .string z4] 81)).cell? ⟨y, 0, none⟩ = some va := (hge1.below ((Below.refl _ w1).alloc (Nat.le_refl _) _)).c.1
               obtain ⟨A6, c6, w8, happ, e1, e2, hb8, hge8⟩ := HAP.out w1 hge1
               have HAPP := Lib.hid happ
               have HGE8 := Lib.hid hge8
               have HB8 := Lib.hid hb8
               have HRD1 := Lib.hid hrd1
               have HG1 : Hid (w.grownBy w1 (some b)) := Lib.hid (grown_trans HG.out (grown_trans (grown_drewN (grown_refl wr _) 1) hg1))
               have HRX1 := Lib.hid ((hg1.block x (Array.getElem?_eq_some_iff.1 HRX.out).1 (fun e => by have := HX.out.2; cases e; omega)).trans HRX.out)
               clear hrd1 hg1 hge1 happ hge8 hb8)
            | fail)
          all_goals
            clear HAP HAPP
            go_wp2
            go_roundw
            case rel => exact ⟨j, st', d ++ [⟨z0, z1, z2, z3, z4⟩], by go_num, by omega, by rw [List.length_append]; simp; omega, HFN, HRR2, _, _, HRD1.out.low HB8.out HBY.out, HGE8.out, grown_box HG1.out HB8.out HWY.out, (HB8.out.block x HXY.out).trans HRX1.out⟩
            case measure => simp [intOf]
  case rest =>
  obtain ⟨va, vd, hrd, hge, hg, hrx⟩ := hcut
  obtain ⟨An, cn, rfl⟩ := own_shape hge.oa
  obtain ⟨Dn, dn, rfl⟩ := own_shape hge.od
  have HRD7 := Lib.hid hrd
  have HGE7 := Lib.hid hge
  have HG7 := Lib.hid hg
  obtain ⟨e0, e1, e2, e3, e4⟩ := hge.c
  have k0 : wc.cell? ⟨x, 0, none⟩ = some (.slice none 0 0) := cell_of_row _ _ _ _ _ _ hrx
  have k1 : wc.cell? ⟨x, 1, none⟩ = some (.slice none 0 0) := cell_of_row _ _ _ _ _ _ hrx
  have k2 : wc.cell? ⟨x, 2, none⟩ = some (.int .i64 0) := cell_of_row _ _ _ _ _ _ hrx
  have k3 : wc.cell? ⟨x, 3, none⟩ = some (.int .i64 0) := cell_of_row _ _ _ _ _ _ hrx
  have k4 : wc.cell? ⟨x, 4, none⟩ = some (.int .i64 0) := cell_of_row _ _ _ _ _ _ hrx
  have g0 : wc.frozen? ⟨x, 0, none⟩ = false := frozen_of_row _ _ _ _ _ hrx
  have g1 : wc.frozen? ⟨x, 1, none⟩ = false := frozen_of_row _ _ _ _ _ hrx
  have g2 : wc.frozen? ⟨x, 2, none⟩ = false := frozen_of_row _ _ _ _ _ hrx
  have g3 : wc.frozen? ⟨x, 3, none⟩ = false := frozen_of_row _ _ _ _ _ hrx
  have g4 : wc.frozen? ⟨x, 4, none⟩ = false := frozen_of_row _ _ _ _ _ hrx
  have HXY1 : Hid (x < y + 1) := Lib.hid (by have := HXY.out; omega)
  obtain ⟨na, hna⟩ : ∃ n, a6.length = n := ⟨_, rfl⟩
  obtain ⟨nd, hnd⟩ : ∃ n, d4.length = n := ⟨_, rfl⟩
  rw [hna] at e0 HGE7
  rw [hnd] at e1 HGE7
  have HNA := Lib.hid hna
  have HND := Lib.hid hnd
  clear hrd hge hg hrx hna hnd
  go_wp2
  refine bodyPost_ret (v := .agg #[.slice An na cn, .slice Dn nd dn, .int .i64 n0, .int .i64 n1, .int .i64 n2]) (by simp [results, Try.results35, go_sem, *]) rfl ⟨⟨An, na, cn, Dn, nd, dn, rfl, ?_, ?_, ?_⟩, ?_, ?_⟩
  · have ho := own_set (own_set (own_set (own_set (own_set HGE7.out.oa HXY1.out 0 (.slice An na cn)) HXY1.out 1 (.slice Dn nd dn)) HXY1.out 2 (.int .i64 n0)) HXY1.out 3 (.int .i64 n1)) HXY1.out 4 (.int .i64 n2)
    have hd := own_set (own_set (own_set (own_set (own_set HGE7.out.od HXY1.out 0 (.slice An na cn)) HXY1.out 1 (.slice Dn nd dn)) HXY1.out 2 (.int .i64 n0)) HXY1.out 3 (.int .i64 n1)) HXY1.out 4 (.int .i64 n2)
    rw [HNA.out] at ho
    rw [HND.out] at hd
    obtain ⟨A', c', e, hin, -, hle⟩ := own5 (fun m hm => HOK.out.2.add m hm) HNA.out ho
    obtain ⟨D', d', e', hin', -, hle'⟩ := own_nums (fun z hz => HOK.out.2.drop z hz) HND.out hd
    cases e
    cases e'
    exact ⟨hin, HNA.out, hle, hin', HND.out, hle', HI012.out.1, HI012.out.2.1, HI012.out.2.2⟩
  · intro g hg
    have := (HGE7.out.oa.lt g.block (by rw [hg]; rfl)).1
    have := HWY.out
    omega
  · intro g hg
    have := (HGE7.out.od.lt g.block (by rw [hg]; rfl)).1
    have := HWY.out
    omega
  · have hne : x ≠ b := by have := HX.out.2; omega
    exact ((((HRD7.out.new hne _ _).new hne _ _).new hne _ _).new hne _ _).new hne _ _
  · have hle : w.heap.size ≤ x := by rw [HX.out.1]; exact Nat.le_refl _
    exact grown_new (grown_new (grown_new (grown_new (grown_new HG7.out hle _ _) hle _ _) hle _ _) hle _ _) hle _ _
end Go.Proofs.Ytfodbblcflolgaa
