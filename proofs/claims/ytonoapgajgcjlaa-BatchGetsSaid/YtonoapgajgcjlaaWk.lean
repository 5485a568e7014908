/- wakes: bytes that the document fixes. -/
import Derived.Test.YtonoapgajgcjlaaPb
namespace Go.Proofs.Ytonoapgajgcjlaa
open Go.RowKit
open SK

def eA : E := ⟨⟨#[97]⟩, 0, false, ⟨#[120]⟩, 0⟩
def eB : E := ⟨⟨#[98]⟩, 0, true, ⟨#[]⟩, 0⟩

theorem enc_small (n : Nat) (h : n < 64) : VM.enc n = [(2 * n).toUInt8] := by
  unfold VM.enc
  have hz : Go.Lib.zigzag (n : Int) = 2 * n := by unfold Go.Lib.zigzag; rw [if_pos (by omega)]; omega
  rw [hz, Go.Lib.uvarint_small (by omega)]

theorem wake_bytes : BK.putOut [eA, eB] = ([4, 2, 97, 2, 2, 120, 2, 98, 0], 0) := by
  have h0 := enc_small 0 (by decide)
  have h1 := enc_small 1 (by decide)
  have h2 := enc_small 2 (by decide)
  have hb : BK.bad [eA, eB] = 0 := by decide
  have ht1 : BK.textB ⟨#[97]⟩ = [2, 97] := by unfold BK.textB; exact (congrArg (· ++ [97]) h1).trans (by decide)
  have ht2 : BK.textB ⟨#[98]⟩ = [2, 98] := by unfold BK.textB; exact (congrArg (· ++ [98]) h1).trans (by decide)
  have ht3 : BK.textB ⟨#[120]⟩ = [2, 120] := by unfold BK.textB; exact (congrArg (· ++ [120]) h1).trans (by decide)
  have hA : BK.itemB eA = [2, 97, 2, 2, 120] := by
    show BK.textB ⟨#[97]⟩ ++ (if false = true then VM.enc 0 else VM.enc (0 + 1) ++ BK.textB ⟨#[120]⟩) = _
    rw [ht1, ht3, if_neg (by decide)]
    exact (congrArg (fun y => [2, 97] ++ (y ++ [2, 120])) h1).trans (by decide)
  have hB : BK.itemB eB = [2, 98, 0] := by
    show BK.textB ⟨#[98]⟩ ++ (if true = true then VM.enc 0 else VM.enc (0 + 1) ++ BK.textB ⟨#[]⟩) = _
    rw [ht2, if_pos rfl]
    exact (congrArg (fun y => [2, 98] ++ y) h0).trans (by decide)
  unfold BK.putOut
  rw [if_neg (by decide), hb, if_neg (by decide)]
  have hP : BK.putB [eA, eB] = [4, 2, 97, 2, 2, 120, 2, 98, 0] := by
    show VM.enc 2 ++ ([eA, eB].flatMap BK.itemB) = _
    simp only [List.flatMap_cons, List.flatMap_nil, hA, hB]
    exact (congrArg (fun y => y ++ ([2, 97, 2, 2, 120] ++ ([2, 98, 0] ++ []))) h2).trans (by decide)
  rw [hP]

theorem wake_in (w : World) : EntsIn (w.alloc (.cells #[.string ⟨#[97]⟩, .int .i64 0, .bool false, .string ⟨#[120]⟩, .int .i64 0, .string ⟨#[98]⟩, .int .i64 0, .bool true, .string ⟨#[]⟩, .int .i64 0] 40)) (some ⟨w.heap.size, 0, none⟩) [eA, eB] := by
  have hrow := heap_alloc_new w (.cells #[.string ⟨#[97]⟩, .int .i64 0, .bool false, .string ⟨#[120]⟩, .int .i64 0, .string ⟨#[98]⟩, .int .i64 0, .bool true, .string ⟨#[]⟩, .int .i64 0] 40)
  refine ⟨fun e he => ?_, fun _ => ⟨w.heap.size, 0, rfl, by simp, fun j hj => ?_⟩⟩
  · simp only [List.mem_cons, List.not_mem_nil, or_false] at he
    rcases he with rfl | rfl <;> exact ⟨by decide, by decide, by decide, by decide⟩
  · have h2 : j < 2 := hj
    match j, h2 with
    | 0, _ => exact ⟨cell_of_row _ _ _ _ _ _ hrow, cell_of_row _ _ _ _ _ _ hrow, cell_of_row _ _ _ _ _ _ hrow, cell_of_row _ _ _ _ _ _ hrow, cell_of_row _ _ _ _ _ _ hrow⟩
    | 1, _ => exact ⟨cell_of_row _ _ _ _ _ _ hrow, cell_of_row _ _ _ _ _ _ hrow, cell_of_row _ _ _ _ _ _ hrow, cell_of_row _ _ _ _ _ _ hrow, cell_of_row _ _ _ _ _ _ hrow⟩

set_option maxRecDepth 100000 in
theorem wakes_any (w : World) : Calls Try.prog 11 #[] w fun e w' => e = .returned (.bool true) ∧ Below w.heap.size w w' := by
  have hin := wake_in w
  have hbel := (Below.refl w.heap.size w).alloc (Nat.le_refl _) (.cells #[.string ⟨#[97]⟩, .int .i64 0, .bool false, .string ⟨#[120]⟩, .int .i64 0, .string ⟨#[98]⟩, .int .i64 0, .bool true, .string ⟨#[]⟩, .int .i64 0] 40)
  have hsz : w.heap.size ≤ (w.alloc (.cells #[.string ⟨#[97]⟩, .int .i64 0, .bool false, .string ⟨#[120]⟩, .int .i64 0, .string ⟨#[98]⟩, .int .i64 0, .bool true, .string ⟨#[]⟩, .int .i64 0] 40)).heap.size := by simp
  have hput := bput_any (some ⟨w.heap.size, 0, none⟩) 2 2 [eA, eB] _ rfl hin
  rw [wake_bytes] at hput
  have HPUT := Lib.hid hput
  have HBEL := Lib.hid hbel
  have HSZ := Lib.hid hsz
  clear hin hbel hsz hput
  go_enter Try.func11, Try.ntmps11
  go_wp2_with fail
  refine HPUT.out.mono ?_
  rintro e w1 ⟨rfl, hb1⟩
  have HB1 : Hid (Below w.heap.size w w1) := Lib.hid (HBEL.out.trans (hb1.mono HSZ.out))
  clear hb1 HPUT HBEL HSZ
  go_wp2
  go_ret
  exact ⟨rfl, HB1.out⟩
end Go.Proofs.Ytonoapgajgcjlaa
