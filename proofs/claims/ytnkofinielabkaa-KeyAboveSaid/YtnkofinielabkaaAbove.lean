/- The walk of Above. -/
import Derived.Test.YtnkofinielabkaaKit
import Derived.Test.YtnkofinielabkaaKmA
namespace Go.Proofs.Ytnkofinielabkaa
open Go.RowKit

/-- what Above comes to -/
def AboveOut (s : ByteArray) (w : World) (e : Ending) (w' : World) : Prop :=
  ∃ k, KM.Trim s.data.toList k ∧ e = .returned (.tuple #[.string ⟨(if k = 0 then [] else KM.above s.data.toList k).toArray⟩, .bool (decide (0 < k))]) ∧ Below w.heap.size w w'

theorem getD_byte (s : ByteArray) (m : Nat) (h : m < s.size) : s.data.toList.getD m 0 = s[m] := by
  have h' : m < s.data.toList.length := by rw [size_list]; exact h
  rw [List.getD_eq_getElem?_getD, List.getElem?_eq_getElem h']
  rfl

theorem above_bytes (w : World) (s : ByteArray) (m : Nat) (hm : m < s.size) (hne : s[m] ≠ 255) :
    ∃ (G : Nat) (W1 : World), (convert 9 49 (.string (s.extract 0 (m + 1)))).run Try.prog w = .ok (.slice (some ⟨w.heap.size, 0, none⟩) (m + 1) G) W1 ∧
      W1.cell? ⟨w.heap.size, m, none⟩ = some (.int .u8 (s[m].toNat : Int)) ∧ W1.frozen? ⟨w.heap.size, m, none⟩ = false ∧
      (convert 49 9 (.slice (some ⟨w.heap.size, 0, none⟩) (m + 1) G)).run Try.prog (W1.setCell ⟨w.heap.size, m, none⟩ (.int .u8 ((s[m].toNat : Int) + 1))) =
        .ok (.string ⟨(KM.above s.data.toList (m + 1)).toArray⟩) (W1.setCell ⟨w.heap.size, m, none⟩ (.int .u8 ((s[m].toNat : Int) + 1))) ∧
      Below w.heap.size w (W1.setCell ⟨w.heap.size, m, none⟩ (.int .u8 ((s[m].toNat : Int) + 1))) := by
  obtain ⟨G, W1, cs, fr, hcv, hrow, hcell, hB⟩ := bytes_of_text w (s.extract 0 (m + 1))
  have hsz : (s.extract 0 (m + 1)).size = m + 1 := by rw [ByteArray.size_extract]; omega
  have hex : (s.extract 0 (m + 1)).data.toList = s.data.toList.take (m + 1) := by
    rw [Lib.extract_data, List.drop_zero, Nat.sub_zero]
  have hget : ∀ j, (h : j < (s.extract 0 (m + 1)).size) → (s.extract 0 (m + 1))[j] = s[j]'(by omega) := by
    intro j h
    rw [extract_at]
    simp
  rw [hsz] at hcv
  obtain ⟨hc1, hf1⟩ := hcell m (by omega)
  rw [hget m (by omega)] at hc1
  refine ⟨G, W1, hcv, by rw [cell_of_row _ _ _ _ _ _ hrow]; exact hc1, hf1, ?_, hB.setCell (Nat.le_refl _) _⟩
  have hlen : (KM.above s.data.toList (m + 1)).length = m + 1 := by
    unfold KM.above
    rw [List.length_append, List.length_take, size_list]
    simp
    omega
  have h := Lib.run_convert_whole (P := Try.prog) (W1.setCell ⟨w.heap.size, m, none⟩ (.int .u8 ((s[m].toNat : Int) + 1))) 49 5 9 Try.underlying49 Try.underlying5 Try.underlying9 w.heap.size 0 ⟨(KM.above s.data.toList (m + 1)).toArray⟩ ?_ G
  · have hs2 : (⟨(KM.above s.data.toList (m + 1)).toArray⟩ : ByteArray).size = m + 1 := by simp [ByteArray.size, hlen]
    rw [hs2] at h
    exact h
  · intro i hi
    have hi' : i < m + 1 := by simpa [ByteArray.size, hlen] using hi
    rw [Nat.zero_add, cell_of_row _ _ _ _ _ _ (heap_set_fr hrow _ _)]
    have hv : (⟨(KM.above s.data.toList (m + 1)).toArray⟩ : ByteArray)[i] = (KM.above s.data.toList (m + 1))[i]'(by omega) := rfl
    rw [hv]
    by_cases him : i = m
    · subst him
      have e : (KM.above s.data.toList (i + 1))[i]'(by omega) = s[i] + 1 := by
        unfold KM.above
        rw [List.getElem_append_right (by rw [List.length_take, size_list]; omega)]
        simp only [Nat.add_sub_cancel, List.getElem_singleton, getD_byte s i hm]
      rw [e, KM.succ_toNat hne]
      have hlt : i < cs.size := (Array.getElem?_eq_some_iff.1 hc1).1
      simp [hlt]
    · have e : (KM.above s.data.toList (m + 1))[i]'(by omega) = s[i]'(by omega) := by
        unfold KM.above
        rw [List.getElem_append_left (by rw [List.length_take, size_list]; omega)]
        rw [List.getElem_take]
        rfl
      rw [e]
      obtain ⟨hc2, -⟩ := hcell i (by omega)
      rw [hget i (by omega)] at hc2
      rw [Array.getElem?_setIfInBounds_ne (by omega)]
      exact hc2

theorem above_trim (s : ByteArray) (m : Nat) (hm : m < s.size) (hne : s[m] ≠ 255) (hf : ∀ j, m + 1 ≤ j → (h : j < s.size) → s[j] = 255) : KM.Trim s.data.toList (m + 1) := by
  refine ⟨by rw [size_list]; omega, fun j h1 h2 => ?_, fun _ => ?_⟩
  · rw [size_list] at h2
    rw [byte_of s j h2]
    exact hf j h1 h2
  · rw [show m + 1 - 1 = m by omega, getD_byte s m hm]
    exact hne

theorem above_any (s : ByteArray) (w : World) (hs : s.size ≤ 140737488351232) :
    Calls Try.prog 17 #[.string s] w fun e w' => AboveOut s w e w' := by
  have HSL := Lib.hid (size_list s)
  go_enter Try.func17, Try.ntmps17
  go_wp2
  go_loop [4] (fun i => ∃ k : Nat, k ≤ s.size ∧ i = .int .i64 k ∧ Hid (∀ j, k ≤ j → (h : j < s.size) → s[j] = 255)) (fun i => (intOf i).toNat)
  case atStart => exact ⟨s.size, Nat.le_refl _, rfl, fun j h1 h2 => by omega⟩
  case round =>
    obtain ⟨k, hk, rfl, HF⟩ := hrel
    rcases Nat.eq_zero_or_pos k with h0 | h0
    · subst h0
      go_wp2
      go_ret2
      exact ⟨0, ⟨by omega, fun j h1 h2 => HF.out j h1 (by simpa using h2), by omega⟩, rfl, Below.refl _ _⟩
    · obtain ⟨m, rfl⟩ : ∃ m, k = m + 1 := ⟨k - 1, by omega⟩
      have hm : m < s.size := by omega
      by_cases hc : s[m] = 255
      · have hce : ((s[m].toNat : Int) == 255) = true := by rw [hc]; rfl
        have HC := Lib.hid hc
        clear hc
        go_wp2
        go_round
        case rel => exact ⟨m, by omega, by go_num, fun j h1 h2 => by
          by_cases hjm : j = m
          · subst hjm; exact HC.out
          · exact HF.out j (by omega) h2⟩
        case measure => simp [intOf]
      · have hne : s[m].toNat ≠ 255 := fun h => hc (UInt8.toNat_inj.1 h)
        have hce : ((s[m].toNat : Int) == 255) = false := beq_eq_false_iff_ne.2 (by omega)
        have hlt := s[m].toNat_lt
        have hlt2 : s[m].toNat < 255 := by omega
        have HT := Lib.hid (above_trim s m hm hc HF.out)
        obtain ⟨G, W1, hcv, hcell, hfz, hback, hB⟩ := above_bytes w s m hm hc
        have HB := Lib.hid hB
        clear hc hB hne hlt
        go_wp2
        go_ret2
        exact ⟨m + 1, HT.out, by simp, HB.out⟩
end Go.Proofs.Ytnkofinielabkaa
