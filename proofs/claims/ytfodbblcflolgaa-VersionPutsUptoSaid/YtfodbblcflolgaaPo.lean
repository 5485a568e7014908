/- An edit's reader: a place (the program's); rows that grow in an edit's box. -/
import Derived.Test.YtfodbblcflolgaaPn
import Derived.Deep.CutRange
import Derived.Deep.RegionLaw
namespace Go.Proofs.Ytfodbblcflolgaa
open Go.RowKit
open VS
attribute [local go_sem ↓] Go.wp_at_zero Go.wp_at_succ

theorem grown_new {a w : World} {r : Option Nat} (h : a.grownBy w r) {x : Nat} (hx : a.heap.size ≤ x) (j : Nat) (u : Value) : a.grownBy (w.setCell ⟨x, j, none⟩ u) r :=
  h.andThen (grownBy_setCell w ⟨x, j, none⟩ u) (fun k hk => by cases hk; exact .inl hx)
theorem grown_alloc' {a w : World} {r : Option Nat} (h : a.grownBy w r) (o : Obj) : a.grownBy (w.alloc o) r := grown_trans h (World.grownBy_alloc w o r)
theorem Rd.new {T : TypeId} {w : World} {b : Nat} {s : ByteArray} {st : RS} (h : Rd T w b s st) {x : Nat} (hx : x ≠ b) (j : Nat) (u : Value) : Rd T (w.setCell ⟨x, j, none⟩ u) b s st :=
  h.grown (grownBy_setCell w ⟨x, j, none⟩ u) (fun e => hx (by cases e; rfl))

set_option maxRecDepth 100000 in
set_option maxHeartbeats 2000000 in
theorem place_any (w : World) (b : Nat) (s : ByteArray) (st : RS) (h : Rd 94 w b s st) (hf : VS.Fair s.data.toList st) (hs : s.size ≤ 140737488351232) :
    Calls Try.prog 60 #[.pointer (some ⟨b, 0, none⟩)] w fun r w' => r = .returned (.agg #[.int .i64 (rp s.data.toList st).1.lvl, .int .i64 (rp s.data.toList st).1.file, .int .i64 (rp s.data.toList st).1.size, .string (rp s.data.toList st).1.lo, .string (rp s.data.toList st).1.hi]) ∧ Rd 94 w' b s (rp s.data.toList st).2 ∧ w.grownBy w' (some b) := by
  have f0 := rb_fair (most := 3) (by decide) hf
  have f1 := rn_fair f0.1
  have f2 := rn_fair f1.1
  have f3 := rt_fair f2.1
  have H0 := Lib.hid (fun W (hW : Rd 94 W b s st) => numberTo_any W b s st 3 hW hf hs (by decide))
  have H1 := Lib.hid (fun W (hW : Rd 94 W b s _) => number_any W b s (rb s.data.toList 3 st).2 hW f0.1 hs)
  have H2 := Lib.hid (fun W (hW : Rd 94 W b s _) => number_any W b s (rn s.data.toList (rb s.data.toList 3 st).2).2 hW f1.1 hs)
  have H3 := Lib.hid (fun W (hW : Rd 94 W b s _) => text_any W b s (rn s.data.toList (rn s.data.toList (rb s.data.toList 3 st).2).2).2 hW f2.1 hs)
  have H4 := Lib.hid (fun W (hW : Rd 94 W b s _) => text_any W b s (rt s.data.toList (rn s.data.toList (rn s.data.toList (rb s.data.toList 3 st).2).2).2).2 hW f3.1 hs)
  have HRP : Hid (rp s.data.toList st = (⟨(rb s.data.toList 3 st).1, (rn s.data.toList (rb s.data.toList 3 st).2).1, (rn s.data.toList (rn s.data.toList (rb s.data.toList 3 st).2).2).1, (rt s.data.toList (rn s.data.toList (rn s.data.toList (rb s.data.toList 3 st).2).2).2).1, (rt s.data.toList (rt s.data.toList (rn s.data.toList (rn s.data.toList (rb s.data.toList 3 st).2).2).2).2).1⟩, (rt s.data.toList (rt s.data.toList (rn s.data.toList (rn s.data.toList (rb s.data.toList 3 st).2).2).2).2).2)) := Lib.hid rfl
  obtain ⟨R, hR⟩ : ∃ R, rp s.data.toList st = R := ⟨_, rfl⟩
  rw [hR] at HRP ⊢
  obtain ⟨v0, hv0⟩ : ∃ x, rb s.data.toList 3 st = x := ⟨_, rfl⟩
  rw [hv0] at H0 H1 H2 H3 H4 HRP
  obtain ⟨n0, st0⟩ := v0
  simp only at H0 H1 H2 H3 H4 HRP
  obtain ⟨v1, hv1⟩ : ∃ x, rn s.data.toList st0 = x := ⟨_, rfl⟩
  rw [hv1] at H1 H2 H3 H4 HRP
  obtain ⟨n1, st1⟩ := v1
  simp only at H1 H2 H3 H4 HRP
  obtain ⟨v2, hv2⟩ : ∃ x, rn s.data.toList st1 = x := ⟨_, rfl⟩
  rw [hv2] at H2 H3 H4 HRP
  obtain ⟨n2, st2⟩ := v2
  simp only at H2 H3 H4 HRP
  obtain ⟨v3, hv3⟩ : ∃ x, rt s.data.toList st2 = x := ⟨_, rfl⟩
  rw [hv3] at H3 H4 HRP
  obtain ⟨t3, st3⟩ := v3
  simp only at H3 H4 HRP
  obtain ⟨v4, hv4⟩ : ∃ x, rt s.data.toList st3 = x := ⟨_, rfl⟩
  rw [hv4] at H4 HRP
  obtain ⟨t4, st4⟩ := v4
  simp only at H4 HRP
  have hRR := HRP.out
  subst hRR
  have HRD := Lib.hid h
  have HBL := Lib.hid h.lt
  clear f0 f1 f2 f3 hv0 hv1 hv2 hv3 hv4 hR HRP hf h
  simp only
  go_enter Try.func60, Try.ntmps60
  go_wp2_with fail
  have hg0 : w.grownBy (w.alloc (.cells #[.int .i64 0, .int .i64 0, .int .i64 0, .string ⟨#[]⟩, .string ⟨#[]⟩] 81)) (some b) := grown_alloc' (grown_refl w _) _
  have hrx := heap_alloc_new w (.cells #[.int .i64 0, .int .i64 0, .int .i64 0, .string ⟨#[]⟩, .string ⟨#[]⟩] 81)
  have hrd0 := HRD.out.below ((Below.refl _ w).alloc (Nat.le_refl _) (.cells #[.int .i64 0, .int .i64 0, .int .i64 0, .string ⟨#[]⟩, .string ⟨#[]⟩] 81))
  generalize w.alloc (.cells #[.int .i64 0, .int .i64 0, .int .i64 0, .string ⟨#[]⟩, .string ⟨#[]⟩] 81) = w0 at hg0 hrx hrd0 ⊢
  obtain ⟨x, hx⟩ : ∃ x, w.heap.size = x := ⟨_, rfl⟩
  have HX : Hid (w.heap.size = x ∧ x ≠ b) := Lib.hid ⟨hx, by have := HBL.out; omega⟩
  rw [hx] at hrx ⊢
  have HRD0 := Lib.hid hrd0
  have HRX0 : Hid (w0.heap[x]? = some (.cells #[.int .i64 0, .int .i64 0, .int .i64 0, .string ⟨#[]⟩, .string ⟨#[]⟩] 81 (0, 0))) := Lib.hid hrx
  have HG0 := Lib.hid hg0
  clear hrd0 hrx hg0 hx
  refine (H0.out _ HRD0.out).mono ?_
  rintro r w1 ⟨rfl, hrd, hg⟩
  have HRD1 := Lib.hid hrd
  have HRX1 := Lib.hid ((hg.block x (Array.getElem?_eq_some_iff.1 HRX0.out).1 (fun e => HX.out.2 (by cases e; rfl))).trans HRX0.out)
  have HG1 := Lib.hid (grown_trans HG0.out hg)
  clear hrd hg
  go_wp2_with fail
  refine (H1.out _ HRD1.out).mono ?_
  rintro r w2 ⟨rfl, hrd, hg⟩
  have HRD2 := Lib.hid hrd
  have HRX2 := Lib.hid ((hg.block x (Array.getElem?_eq_some_iff.1 HRX1.out).1 (fun e => HX.out.2 (by cases e; rfl))).trans HRX1.out)
  have HG2 := Lib.hid (grown_trans HG1.out hg)
  clear hrd hg
  go_wp2_with fail
  refine (H2.out _ HRD2.out).mono ?_
  rintro r w3 ⟨rfl, hrd, hg⟩
  have HRD3 := Lib.hid hrd
  have HRX3 := Lib.hid ((hg.block x (Array.getElem?_eq_some_iff.1 HRX2.out).1 (fun e => HX.out.2 (by cases e; rfl))).trans HRX2.out)
  have HG3 := Lib.hid (grown_trans HG2.out hg)
  clear hrd hg
  go_wp2_with fail
  refine (H3.out _ HRD3.out).mono ?_
  rintro r w4 ⟨rfl, hrd, hg⟩
  have HRD4 := Lib.hid hrd
  have HRX4 := Lib.hid ((hg.block x (Array.getElem?_eq_some_iff.1 HRX3.out).1 (fun e => HX.out.2 (by cases e; rfl))).trans HRX3.out)
  have HG4 := Lib.hid (grown_trans HG3.out hg)
  clear hrd hg
  go_wp2_with fail
  refine (H4.out _ HRD4.out).mono ?_
  rintro r w5 ⟨rfl, hrd, hg⟩
  have HRD5 := Lib.hid hrd
  have HRX5 := Lib.hid ((hg.block x (Array.getElem?_eq_some_iff.1 HRX4.out).1 (fun e => HX.out.2 (by cases e; rfl))).trans HRX4.out)
  have HG5 := Lib.hid (grown_trans HG4.out hg)
  clear hrd hg
  go_upto_region 3 with fail
  have hxl := (Array.getElem?_eq_some_iff.1 HRX5.out).1
  have hal := (Below.refl w5.heap.size w5).alloc (Nat.le_refl _) (.cells #[.int .i64 n1, .int .i64 n2, .string t3, .string t4] 64)
  have hra := heap_alloc_new w5 (.cells #[.int .i64 n1, .int .i64 n2, .string t3, .string t4] 64)
  have hrx := (hal.block x hxl).trans HRX5.out
  have HRD6 := Lib.hid (HRD5.out.below hal)
  have HG6 := Lib.hid (grown_alloc' HG5.out (.cells #[.int .i64 n1, .int .i64 n2, .string t3, .string t4] 64))
  generalize w5.alloc (.cells #[.int .i64 n1, .int .i64 n2, .string t3, .string t4] 64) = w6 at hal hra hrx HRD6 HG6 ⊢
  have e0 : w6.cell? ⟨w5.heap.size, 0, none⟩ = some (.int .i64 n1) := cell_of_row _ _ _ _ _ _ hra
  have e1 : w6.cell? ⟨w5.heap.size, 1, none⟩ = some (.int .i64 n2) := cell_of_row _ _ _ _ _ _ hra
  have e2 : w6.cell? ⟨w5.heap.size, 2, none⟩ = some (.string t3) := cell_of_row _ _ _ _ _ _ hra
  have e3 : w6.cell? ⟨w5.heap.size, 3, none⟩ = some (.string t4) := cell_of_row _ _ _ _ _ _ hra
  have k0 : w6.cell? ⟨x, 0, none⟩ = some (.int .i64 0) := cell_of_row _ _ _ _ _ _ hrx
  have k1 : w6.cell? ⟨x, 1, none⟩ = some (.int .i64 0) := cell_of_row _ _ _ _ _ _ hrx
  have k2 : w6.cell? ⟨x, 2, none⟩ = some (.int .i64 0) := cell_of_row _ _ _ _ _ _ hrx
  have k3 : w6.cell? ⟨x, 3, none⟩ = some (.string ⟨#[]⟩) := cell_of_row _ _ _ _ _ _ hrx
  have k4 : w6.cell? ⟨x, 4, none⟩ = some (.string ⟨#[]⟩) := cell_of_row _ _ _ _ _ _ hrx
  have g0 : w6.frozen? ⟨x, 0, none⟩ = false := frozen_of_row _ _ _ _ _ hrx
  have g1 : w6.frozen? ⟨x, 1, none⟩ = false := frozen_of_row _ _ _ _ _ hrx
  have g2 : w6.frozen? ⟨x, 2, none⟩ = false := frozen_of_row _ _ _ _ _ hrx
  have g3 : w6.frozen? ⟨x, 3, none⟩ = false := frozen_of_row _ _ _ _ _ hrx
  have g4 : w6.frozen? ⟨x, 4, none⟩ = false := frozen_of_row _ _ _ _ _ hrx
  clear hal hra hrx hxl
  go_wp2
  refine bodyPost_ret (v := .agg #[.int .i64 n0, .int .i64 n1, .int .i64 n2, .string t3, .string t4]) (by simp [results, Try.results60, go_sem, *]) rfl ⟨rfl, ?_, ?_⟩
  · exact ((((HRD6.out.new HX.out.2 _ _).new HX.out.2 _ _).new HX.out.2 _ _).new HX.out.2 _ _).new HX.out.2 _ _
  · have hle : w.heap.size ≤ x := by rw [HX.out.1]; exact Nat.le_refl _
    exact grown_new (grown_new (grown_new (grown_new (grown_new HG6.out hle _ _) hle _ _) hle _ _) hle _ _) hle _ _
end Go.Proofs.Ytfodbblcflolgaa
