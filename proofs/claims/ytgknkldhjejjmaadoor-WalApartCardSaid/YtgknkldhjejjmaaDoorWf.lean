/- The bodies that a statement takes out of a list of texts; a log that they are put into. -/
import Derived.Test.YtgknkldhjejjmaaDoorWd
import Derived.Test.YtgknkldhjejjmaaDoorFTxt
import Derived.Test.YtgknkldhjejjmaaDoorDkW
namespace Go.Proofs.YtgknkldhjejjmaaDoor
open Go.RowKit Go.Maps
open DM

theorem wadd_zero (a : Addr) : a.add 0 = a := by
  obtain ⟨b, o, sp⟩ := a
  unfold Addr.add
  split <;> simp_all

/-- 'l[:m]' of a slice of texts -/
theorem texts_head (W : World) (A : Option Addr) (n cap m : Nat) (h : m ≤ cap) : (Instr.slice 28 (.slice A n cap) none (some (.int .i64 (m : Int))) none).run Tryd.prog W = .ok (.slice A m cap) W := by
  have hs : ∀ w, (sizeOf (Tryd.prog.elem 28)).run Tryd.prog w = .ok 1 w := fun w => by kernel_rfl
  rw [run_slice_h W 28 A n cap (by kernel_rfl) .i64 (m : Int) (by omega) (by omega), hs]
  simp only [Result.andThen, sliced, Int.toNat_natCast, Nat.sub_zero, Nat.zero_mul, wadd_zero, Option.map_id']
  split <;> rfl

/-- 's[:m]' of a text -/
theorem text_head (W : World) (s : ByteArray) (b : Nat) (h : b ≤ s.size) :
    (Instr.slice 9 (.string s) none (some (.int .i64 (b : Int))) none).run Tryd.prog W = .ok (.string (s.extract 0 b)) W := by
  have i1 : (0 : Int) ≤ (b : Int) := by omega
  have i4 : (b : Int) ≤ (s.size : Int) := by omega
  simp [Instr.slice, run_underlying Tryd.underlying9, Instr.sliceBounds, run_sliceBound, i1, i4]

/-- the first N texts, of each at most m bytes -/
def cutB (N m : Nat) (l : List ByteArray) : List Bs := (l.take N).map fun t => t.data.toList.take m
theorem cutB_length (N m : Nat) (l : List ByteArray) : (cutB N m l).length = min l.length N := by simp [cutB, Nat.min_comm]
theorem cutB_small (N m : Nat) (l : List ByteArray) : ∀ b ∈ cutB N m l, b.length ≤ m := by
  intro b hb
  obtain ⟨t, -, rfl⟩ := List.mem_map.1 hb
  exact List.length_take_le _ _
theorem cutB_at (N m : Nat) (l : List ByteArray) (k : Nat) (h : k < (cutB N m l).length) (hl : k < l.length) : (cutB N m l)[k] = l[k].data.toList.take m := by
  simp [cutB]
/-- a text's first bytes -/
theorem text_cut (t : ByteArray) (m : Nat) : ∃ (M : Nat) (b : ByteArray), min t.size m = M ∧ t.extract 0 M = b ∧ b.data.toList = t.data.toList.take m ∧ b.size = M := by
  refine ⟨_, _, rfl, rfl, ?_, by rw [ByteArray.size_extract]; omega⟩
  rw [Lib.extract_data, List.drop_zero, Nat.sub_zero]
  rcases Nat.le_total t.size m with h | h
  · rw [Nat.min_eq_left h, List.take_of_length_le (by rw [size_list]; exact Nat.le_refl _), List.take_of_length_le (by rw [size_list]; exact h)]
  · rw [Nat.min_eq_right h]

namespace WL
/-- a log with bodies in it, all synced -/
def held (bs : List Bs) (c : Nat) (n : Int) (l : List Int) : St := lg (FM.frames bs) (FM.frames bs).length c n l
theorem held_nil : lg [] 0 0 0 [] = held [] 0 0 [] := rfl
theorem take_succ (bs : List Bs) (k : Nat) (h : k < bs.length) : FM.frames (bs.take k) ++ FM.frame bs[k] = FM.frames (bs.take (k + 1)) := (FM.frames_snoc bs k h).symm
theorem held_append (bs : List Bs) (k : Nat) (h : k < bs.length) (hs : ∀ b ∈ bs, b.length ≤ 1000) (hn : bs.length ≤ 20) (c : Nat) (n : Int) (l : List Int) :
    append 1 bs[k] (held (bs.take k) c n l) = if c = 1 ∨ c = 2 then (13, dark (lg (FM.frames (bs.take k) ++ FM.frame bs[k]) (FM.frames (bs.take k)).length 0 n l) n l) else (0, held (bs.take (k + 1)) (c - 2) n l) := by
  have h1 := hs bs[k] (List.getElem_mem h)
  have h2 := frames_len_le (bs.take k) 1000 fun b hb => hs b (List.mem_of_mem_take hb)
  have h3 : (bs.take k).length ≤ 20 := by rw [List.length_take]; omega
  have h4 : (bs.take k).length * (8 + 1000) ≤ 20 * (8 + 1000) := Nat.mul_le_mul_right _ h3
  unfold held
  rw [lg_append _ _ _ _ _ (by omega) (by omega), take_succ bs k h]
theorem held_append0 (bs : List Bs) (k : Nat) (h : k < bs.length) (hs : ∀ b ∈ bs, b.length ≤ 1000) (hn : bs.length ≤ 20) (n : Int) (l : List Int) : append 1 bs[k] (held (bs.take k) 0 n l) = (0, held (bs.take (k + 1)) 0 n l) := by
  rw [held_append bs k h hs hn, if_neg (by omega)]
theorem held_read (bs : List Bs) (hs : ∀ b ∈ bs, b.length ≤ 65535) : read 1 (held bs 0 0 []) = (bs, false, 0) := read_whole n1 bs hs (dk_read _ _ _ _ _ _ _)
theorem held_spoilt (bs : List Bs) (hs : ∀ b ∈ bs, b.length ≤ 65535) (hne : bs ≠ []) (bit : Int) : read 1 (spoil (K 1) bit (held bs 0 0 [])) = ([], false, 6) := by
  have hf : FM.frames bs ≠ [] := by
    cases bs with
    | nil => exact absurd rfl hne
    | cons b r => rw [FM.frames_cons]; intro h; have := congrArg List.length h; rw [List.length_append, FM.frame_len] at this; simp at this
  obtain ⟨j, y, hj, hy, he⟩ := spoil_lg (FM.frames bs) bit hf
  unfold held
  rw [he]
  exact read_turned bs hs j y hj hy _
end WL
end Go.Proofs.YtgknkldhjejjmaaDoor
