/- Texts joined by bundle.py: Ub. -/
import Derived.Test.YtnglaolbfpdgoaaGreatZba
import Derived.Test.YtnglaolbfpdgoaaGreatZbf

/- The closure that puts a frame behind the others. -/
namespace Go.Proofs.YtnglaolbfpdgoaaGreat
open Go.RowKit
open SK
open TB (Bs Sp)

theorem below_seq' {B C : Nat} {w w1 w2 : World} (h : Below C w w1) (k : Below w1.heap.size w1 w2) (hB : B ≤ C) (hC : C ≤ w1.heap.size) : Below B w w2 :=
  (h.trans ⟨k.os, k.tape, k.output, k.size, fun j hj => k.block j (by omega)⟩).mono hB

/-- what putting a body comes to -/
def PutT (B b : Nat) (l p : Bs) (w : World) (c : Int) (e : Ending) (w' : World) : Prop :=
  Below B w w' ∧ if c ≠ 0 then e = .panicked (tfault c) else if 65535 < p.length then e = .panicked (tfault 5)
    else e = .returned (.agg #[.string ⟨#[]⟩, .int .i64 l.length, .int .i64 (8 + p.length : Nat)]) ∧ Bld B b (l ++ TB.fr p) w' ∧ ApartB w w'

set_option maxRecDepth 100000 in
set_option maxHeartbeats 2000000 in
theorem tput_any (B b : Nat) (l p : Bs) (c : Int) (w : World) (h : Bld B b l w) (hl : l.length + (8 + p.length) ≤ 100000000) (hB : B ≤ w.heap.size) :
    Calls Tryz.prog 48 #[.string ⟨p.toArray⟩, .int .i64 c, .pointer (some ⟨b, 0, none⟩)] w fun e w' => PutT B b l p w c e w' := by
  have HPUT := Lib.hid (fun W => F3.put_any ⟨p.toArray⟩ W (by rw [mk_size]; omega))
  obtain ⟨z, hz⟩ : ∃ z, w.heap.size = z := ⟨_, rfl⟩
  have HR0 : Hid ((w.alloc (.cells #[.string ⟨#[]⟩, .int .i64 0, .int .i64 0] 81)).heap[z]? = some (.cells #[.string ⟨#[]⟩, .int .i64 0, .int .i64 0] 81 (0, 0))) := Lib.hid (by rw [← hz]; exact heap_alloc_new w _)
  have HW0 : Hid (Below w.heap.size w (w.alloc (.cells #[.string ⟨#[]⟩, .int .i64 0, .int .i64 0] 81))) := Lib.hid ((Below.refl _ _).alloc (Nat.le_refl _) _)
  have HS0 : Hid ((w.alloc (.cells #[.string ⟨#[]⟩, .int .i64 0, .int .i64 0] 81)).heap.size = z + 1) := Lib.hid (by simp; omega)
  have HH := Lib.hid h
  have HBZ : Hid (B ≤ z) := Lib.hid (by omega)
  unfold PutT
  by_cases hc : c = 0
  · subst hc
    simp only [ne_eq, not_true_eq_false, if_false]
    by_cases hp : 65535 < p.length
    · simp only [if_pos hp]
      have HP2 : Hid (∀ W, Calls Tryz.prog 50 #[.string ⟨p.toArray⟩] W fun e w' => e = .returned (.tuple #[.string ⟨#[]⟩, .int .i64 5]) ∧ Below W.heap.size W w') := Lib.hid fun W => (HPUT.out W).mono fun e w' hq => ⟨by have := hq.1; unfold F3.putOut at this; rw [if_pos (by rw [mk_size]; exact hp)] at this; exact this, hq.2⟩
      clear h HPUT
      go_enter Tryz.func48, Tryz.ntmps48
      go_wp2_with fail
      refine (tleave_ok _).mono ?_
      rintro e w1 ⟨rfl, rfl⟩
      go_wp2_with fail
      refine (HP2.out _).mono ?_
      rintro e w1 ⟨rfl, hb1⟩
      go_wp2_with fail
      refine (tleave_bad 5 _ (by decide)).mono ?_
      rintro e w2 ⟨rfl, rfl⟩
      exact ⟨rfl, (below_seq' (HW0.out) hb1 (by omega) (by have := HS0.out; omega)), rfl⟩
    · simp only [if_neg hp]
      have HP2 : Hid (∀ W, Calls Tryz.prog 50 #[.string ⟨p.toArray⟩] W fun e w' => e = .returned (.tuple #[.string ⟨(TB.fr p).toArray⟩, .int .i64 0]) ∧ Below W.heap.size W w') := Lib.hid fun W => (HPUT.out W).mono fun e w' hq => ⟨by have := hq.1; unfold F3.putOut at this; rw [if_neg (by rw [mk_size]; exact hp)] at this; simpa [TB.fr] using this, hq.2⟩
      have hfl := TB.fr_len p
      have hfs : (⟨(TB.fr p).toArray⟩ : ByteArray).size = 8 + p.length := by rw [mk_size, hfl]
      have HWR : Hid (∀ W, Bld B b l W → B ≤ W.heap.size → Calls Tryz.prog 52 #[.pointer (some ⟨b, 0, none⟩), .string ⟨(TB.fr p).toArray⟩] W fun e w' => (∃ k, e = .returned (.tuple #[.int .i64 k, .nilIface])) ∧ Bld B b (l ++ TB.fr p) w' ∧ Below B W w' ∧ ApartB W w') := Lib.hid fun W h1 h2 => (writeA_any B b l (TB.fr p) W h1 (by rw [hfl]; omega) h2).mono fun e w' hq => ⟨⟨_, hq.1⟩, hq.2⟩
      obtain ⟨F, hF⟩ : ∃ F : ByteArray, (⟨(TB.fr p).toArray⟩ : ByteArray) = F := ⟨_, rfl⟩
      rw [hF] at hfs HP2 HWR
      have HFS := Lib.hid hfs
      clear h HPUT hF hfl hfs
      go_enter Tryz.func48, Tryz.ntmps48
      go_wp2_with fail
      generalize w.alloc (.cells #[.string ⟨#[]⟩, .int .i64 0, .int .i64 0] 81) = w0 at HR0 HW0 HS0 ⊢
      refine (tleave_ok _).mono ?_
      rintro e w1 ⟨rfl, rfl⟩
      go_wp2_with fail
      refine (HP2.out _).mono ?_
      rintro e w1 ⟨rfl, hb1⟩
      have HR1 := Lib.hid ((hb1.block z (by have := HS0.out; omega)).trans HR0.out)
      have HW1 : Hid (Below w.heap.size w w1) := Lib.hid (below_seq' HW0.out hb1 (Nat.le_refl _) (by have := HS0.out; omega))
      have HS1 : Hid (z + 1 ≤ w1.heap.size) := Lib.hid (by have := hb1.size; have := HS0.out; omega)
      have HB1 : Hid (Bld B b l w1) := Lib.hid (HH.out.kept HW1.out)
      clear hb1 HW0 HR0 HS0
      go_wp2_with fail
      refine (tleave_ok _).mono ?_
      rintro e w2 ⟨rfl, rfl⟩
      go_wp2_with fail
      refine (len_any B b l _ HB1.out).mono ?_
      rintro e w2 ⟨rfl, rfl⟩
      go_wp2_with fail
      refine (HWR.out _ HB1.out (by have := HS1.out; have := HBZ.out; omega)).mono ?_
      rintro e w2 ⟨⟨k, rfl⟩, hbl, hb2, ha2⟩
      have hr2 : w2.heap[z]? = some (.cells #[.string ⟨#[]⟩, .int .i64 0, .int .i64 0] 81 (0, 0)) := ha2 z _ _ _ HR1.out (by decide) (by decide)
      have hc := fun o => cell_of_row w2 z o _ _ _ hr2
      have c0 : w2.cell? ⟨z, 0, none⟩ = some (.string ⟨#[]⟩) := hc 0
      have c1 : w2.cell? ⟨z, 1, none⟩ = some (.int .i64 0) := hc 1
      have c2 : w2.cell? ⟨z, 2, none⟩ = some (.int .i64 0) := hc 2
      have f1 : ∀ o, w2.frozen? ⟨z, o, none⟩ = false := fun o => frozen_of_row _ _ _ _ _ hr2
      have HFS' := HFS.out
      have HBL2 := Lib.hid hbl
      have HBB2 := Lib.hid (HW1.out.mono hB |>.trans hb2)
      have HAP2 := Lib.hid (ApartB.trans (ApartB.below HW1.out) ha2)
      have HR2 := Lib.hid hr2
      clear hc hbl hb2 ha2 hr2 HWR HP2
      go_wp2
      have hr3 : (((w2.setCell ⟨z, 0, none⟩ (.string ⟨#[]⟩)).setCell ⟨z, 1, none⟩ (.int .i64 l.length)).setCell ⟨z, 2, none⟩ (.int .i64 (8 + (p.length : Int)))).heap[z]? = some (.cells #[.string ⟨#[]⟩, .int .i64 l.length, .int .i64 (8 + (p.length : Int))] 81 (0, 0)) :=
        heap_set_fr (heap_set_fr (heap_set_fr HR2.out 0 (.string ⟨#[]⟩)) 1 (.int .i64 l.length)) 2 (.int .i64 (8 + (p.length : Int)))
      have hg3 : w2.grownBy (((w2.setCell ⟨z, 0, none⟩ (.string ⟨#[]⟩)).setCell ⟨z, 1, none⟩ (.int .i64 l.length)).setCell ⟨z, 2, none⟩ (.int .i64 (8 + (p.length : Int)))) (some z) := grown_set (grown_set (grown_set (grown_refl _ _) _ _) _ _) _ _
      generalize ((w2.setCell ⟨z, 0, none⟩ (.string ⟨#[]⟩)).setCell ⟨z, 1, none⟩ (.int .i64 l.length)).setCell ⟨z, 2, none⟩ (.int .i64 (8 + (p.length : Int))) = w3 at hr3 hg3 ⊢
      have hown : w2.ownsRow B 81 3 (.slice (some ⟨z, 0, none⟩) 1 1) 1 [.string ⟨#[]⟩, .int .i64 0, .int .i64 0] := ⟨rfl, .inr ⟨z, 1, _, rfl, HBZ.out, HR2.out, Nat.le_refl _, by decide, rfl, rfl⟩⟩
      have hbl3 : Bld B b (l ++ TB.fr p) w3 := bld_grown HBL2.out hown hg3 (by decide) (by decide)
      have hbb3 : Below B w w3 := below_via HBB2.out hg3 (by have := HBB2.out.size; omega) HBZ.out
      have hap3 : ApartB w w3 := fun i cs t fr hi h1 h2 => (hg3.block i (Array.getElem?_eq_some_iff.1 (HAP2.out i cs t fr hi h1 h2)).1 (by
        intro he
        simp only [Option.some.injEq] at he
        have := (Array.getElem?_eq_some_iff.1 hi).1
        omega)).trans (HAP2.out i cs t fr hi h1 h2)
      have hc3 := fun o => cell_of_row w3 z o _ _ _ hr3
      refine bodyPost_ret (v := .agg #[.string ⟨#[]⟩, .int .i64 l.length, .int .i64 (8 + (p.length : Int))]) (by simp [results, Tryz.results48, go_sem, hc3]) rfl ⟨hbb3, ?_, hbl3, hap3⟩
      simp
  · simp only [ne_eq, hc, not_false_eq_true, if_true]
    clear h HPUT
    go_enter Tryz.func48, Tryz.ntmps48
    go_wp2_with fail
    refine (tleave_bad c _ hc).mono ?_
    rintro e w1 ⟨rfl, rfl⟩
    exact ⟨rfl, HW0.out.mono hB, rfl⟩
end Go.Proofs.YtnglaolbfpdgoaaGreat

