/- wakes: bytes that the document fixes; lists, its answers as slices. -/
import Derived.Test.YtcmnbfcceeljpaaPb
import Derived.Test.YtcmnbfcceeljpaaLs
import Derived.Test.YtcmnbfcceeljpaaLaw
namespace Go.Proofs.Ytcmnbfcceeljpaa
open Go.ChangeShapes Go.WideShapes Go.ChangeAt Go.RowKit
open SK

/-- lists, its answers as slices -/
theorem lists_in (A : Option Addr) (n cap : Nat) (l : List E) (w : World) (hn : l.length = n) (hz : EntsIn w A l) (hb : n * 56 ≤ reachBytes) :
    Calls Try.prog 10 #[.slice A n cap] w fun e w' => ∃ A1 c1 A2 c2, e = .returned (.tuple #[.slice A1 n c1, .slice A2 n c2]) ∧ (EntsIn w' A1 l ∧ n ≤ c1) ∧ (EntsIn w' A2 l ∧ n ≤ c2) ∧ Below w.heap.size w w' ∧ w.heap.size ≤ w'.heap.size := by
  refine (lists_any A n cap l w hn hz (by unfold reachBytes at hb; omega)).mono ?_
  rintro e w1 ⟨a, b, rfl, ht⟩
  obtain ⟨A1, c1, rfl, h1, -, h1c⟩ := own_ents hz.wf hn ht.own1
  obtain ⟨A2, c2, rfl, h2, -, h2c⟩ := own_ents hz.wf hn ht.own2
  exact ⟨A1, c1, A2, c2, rfl, ⟨h1, h1c⟩, ⟨h2, h2c⟩, ht.below, ht.base_le⟩

def eA : E := ⟨⟨#[97, 98]⟩, 1, false, ⟨#[]⟩, 0⟩
def eB : E := ⟨⟨#[97, 99]⟩, 1, false, ⟨#[]⟩, 0⟩

theorem wake_bytes : BK.buildOut [eA, eB] 16 = ([4, 0, 4, 97, 98, 2, 2, 0, 2, 2, 99, 2, 2, 0], 0) := by
  have h0 := BK.enc_small 0 (by decide)
  have h1 := BK.enc_small 1 (by decide)
  have h2 := BK.enc_small 2 (by decide)
  have ho : BK.ord [eA, eB] = (0, 0) := by decide
  have x1 : (⟨#[97, 98]⟩ : ByteArray).extract 0 2 = ⟨#[97, 98]⟩ := by apply str_ext; rw [Lib.extract_data]; rfl
  have x2 : (⟨#[97, 99]⟩ : ByteArray).extract 1 2 = ⟨#[99]⟩ := by apply str_ext; rw [Lib.extract_data]; rfl
  have t1 : BK.textB ⟨#[97, 98]⟩ = [4, 97, 98] := by unfold BK.textB; exact (congrArg (· ++ [97, 98]) h2).trans (by decide)
  have t2 : BK.textB ⟨#[99]⟩ = [2, 99] := by unfold BK.textB; exact (congrArg (· ++ [99]) h1).trans (by decide)
  have t0 : BK.textB ⟨#[]⟩ = [0] := by unfold BK.textB; exact (congrArg (· ++ []) h0).trans (by decide)
  have k0 : VM.enc 0 = [0] := h0.trans (by decide)
  have k1 : VM.enc 1 = [2] := h1.trans (by decide)
  have k2 : VM.enc 2 = [4] := h2.trans (by decide)
  have hA : BK.entB eA 0 = [0, 4, 97, 98, 2, 2, 0] := by
    show VM.enc 0 ++ (BK.textB ((⟨#[97, 98]⟩ : ByteArray).extract 0 2) ++ (VM.enc 1 ++ (if false = true then VM.enc 0 else VM.enc 1 ++ BK.textB ⟨#[]⟩))) = _
    rw [x1, t1, t0, if_neg (by decide), k0, k1]; rfl
  have hB : BK.entB eB 1 = [2, 2, 99, 2, 2, 0] := by
    show VM.enc 1 ++ (BK.textB ((⟨#[97, 99]⟩ : ByteArray).extract 1 2) ++ (VM.enc 1 ++ (if false = true then VM.enc 0 else VM.enc 1 ++ BK.textB ⟨#[]⟩))) = _
    rw [x2, t2, t0, if_neg (by decide), k1]; rfl
  have hP : BK.buildB [eA, eB] 16 = [4, 0, 4, 97, 98, 2, 2, 0, 2, 2, 99, 2, 2, 0] := by
    show VM.enc 2 ++ (BK.entB eA (BK.sh 16 [] eA) ++ (BK.entB eB (BK.sh 16 [eA] eB) ++ [])) = _
    rw [show BK.sh 16 [] eA = 0 by decide, show BK.sh 16 [eA] eB = 1 by decide, hA, hB, k2]; rfl
  unfold BK.buildOut
  rw [if_neg (by decide), if_neg (by decide), ho, if_neg (by decide)]
  show (BK.buildB [eA, eB] 16, (0 : Int)) = _
  rw [hP]

theorem wake_in (w : World) : EntsIn (w.alloc (.cells #[.string ⟨#[97, 98]⟩, .int .i64 1, .bool false, .string ⟨#[]⟩, .int .i64 0, .string ⟨#[97, 99]⟩, .int .i64 1, .bool false, .string ⟨#[]⟩, .int .i64 0] 45)) (some ⟨w.heap.size, 0, none⟩) [eA, eB] := by
  have hrow := heap_alloc_new w (.cells #[.string ⟨#[97, 98]⟩, .int .i64 1, .bool false, .string ⟨#[]⟩, .int .i64 0, .string ⟨#[97, 99]⟩, .int .i64 1, .bool false, .string ⟨#[]⟩, .int .i64 0] 45)
  refine ⟨fun e he => ?_, fun _ => ⟨w.heap.size, 0, rfl, by simp, fun j hj => ?_⟩⟩
  · simp only [List.mem_cons, List.not_mem_nil, or_false] at he
    rcases he with rfl | rfl <;> exact ⟨by decide, by decide, by decide, by decide⟩
  · have h2 : j < 2 := hj
    match j, h2 with
    | 0, _ => exact ⟨cell_of_row _ _ _ _ _ _ hrow, cell_of_row _ _ _ _ _ _ hrow, cell_of_row _ _ _ _ _ _ hrow, cell_of_row _ _ _ _ _ _ hrow, cell_of_row _ _ _ _ _ _ hrow⟩
    | 1, _ => exact ⟨cell_of_row _ _ _ _ _ _ hrow, cell_of_row _ _ _ _ _ _ hrow, cell_of_row _ _ _ _ _ _ hrow, cell_of_row _ _ _ _ _ _ hrow, cell_of_row _ _ _ _ _ _ hrow⟩

set_option maxRecDepth 100000 in
theorem wakes_any (w : World) : Calls Try.prog 13 #[] w fun e w' => e = .returned (.bool true) ∧ Below w.heap.size w w' := by
  have hin := wake_in w
  have hbel := (Below.refl w.heap.size w).alloc (Nat.le_refl _) (.cells #[.string ⟨#[97, 98]⟩, .int .i64 1, .bool false, .string ⟨#[]⟩, .int .i64 0, .string ⟨#[97, 99]⟩, .int .i64 1, .bool false, .string ⟨#[]⟩, .int .i64 0] 45)
  have hsz : w.heap.size ≤ (w.alloc (.cells #[.string ⟨#[97, 98]⟩, .int .i64 1, .bool false, .string ⟨#[]⟩, .int .i64 0, .string ⟨#[97, 99]⟩, .int .i64 1, .bool false, .string ⟨#[]⟩, .int .i64 0] 45)).heap.size := by simp
  have hput := build_any (some ⟨w.heap.size, 0, none⟩) 2 2 [eA, eB] 16 _ rfl (Nat.le_refl _) hin (by decide)
  rw [wake_bytes] at hput
  have HPUT := Lib.hid hput
  have HBEL := Lib.hid hbel
  have HSZ := Lib.hid hsz
  clear hin hbel hsz hput
  go_enter Try.func13, Try.ntmps13
  go_wp2_with fail
  refine HPUT.out.mono ?_
  rintro e w1 ⟨rfl, hb1⟩
  have HB1 : Hid (Below w.heap.size w w1) := Lib.hid (HBEL.out.trans (hb1.mono HSZ.out))
  clear hb1 HPUT HBEL HSZ
  go_wp2
  go_ret
  exact ⟨rfl, HB1.out⟩
end Go.Proofs.Ytcmnbfcceeljpaa
