/- Texts joined by bundle.py: Wo, Wp. -/
import Derived.Test.YtgknkldhjejjmaaGreatDoorZah
import Derived.Test.YtgknkldhjejjmaaGreatDoorZav
import Derived.Lib.AtoiErrMem

/- The number of a name: the program's Number, the document's File and Number. -/
namespace Go.Proofs.YtgknkldhjejjmaaGreatDoor
open Go.RowKit
open DM (Bs)

/-- the two errors of strconv's that ParseInt reads -/
def Errs (w : World) : Prop := ∃ t1 p1 t2 p2, w.var? Tryz.prog "strconv.ErrSyntax" = some #[.iface t1 p1] ∧ w.var? Tryz.prog "strconv.ErrRange" = some #[.iface t2 p2]
theorem Errs.below {w w' : World} (h : Errs w) (hb : Below w.heap.size w w') : Errs w' := by
  obtain ⟨t1, p1, t2, p2, h1, h2⟩ := h
  exact ⟨t1, p1, t2, p2, var_below h1 hb, var_below h2 hb⟩

def NumOut (w : World) (r : Int × Bool) (e : Ending) (w' : World) : Prop := e = .returned (.tuple #[.int .i64 r.1, .bool r.2]) ∧ Below w.heap.size w w'

theorem NumOut.of {w w' : World} {r q : Int × Bool} (h : r = q) (hb : Below w.heap.size w w') : NumOut w r (.returned (.tuple #[.int .i64 q.1, .bool q.2])) w' := by subst h; exact ⟨rfl, hb⟩



theorem list_ne {a b : ByteArray} (h : a.data.toList ≠ b.data.toList) : (a.toList == b.toList) = false := by
  rw [beq_eq_false_iff_ne, Lib.toList_data, Lib.toList_data]
  exact h

end Go.Proofs.YtgknkldhjejjmaaGreatDoor

/- The document's File and Number. -/
namespace Go.Proofs.YtgknkldhjejjmaaGreatDoor
open Go.RowKit
open DM (Bs)

theorem byte_text (W : World) (d : UInt8) :
    (convert 97 9 (.slice (some ⟨W.heap.size, 0, none⟩) 1 1)).run Tryz.prog (W.alloc (.cells #[.int .u8 (d.toNat : Int)] 5)) = .ok (.string ⟨#[d]⟩) (W.alloc (.cells #[.int .u8 (d.toNat : Int)] 5)) := by
  have h := Lib.run_convert_whole (P := Tryz.prog) (W.alloc (.cells #[.int .u8 (d.toNat : Int)] 5)) 97 5 9 Tryz.underlying97 Tryz.underlying5 Tryz.underlying9 W.heap.size 0 ⟨#[d]⟩ (fun i hi => by
    have hi' : i = 0 := by simpa [ByteArray.size] using hi
    subst hi'
    rw [cell_of_row _ _ _ _ _ _ (heap_alloc_new _ _)]
    rfl) 1
  exact h

set_option maxRecDepth 100000 in
theorem rfile_any (k : ByteArray) (n : Int) (w : World) (hk : k.size ≤ 140737488355328) (hn : -9223372036854775808 ≤ n ∧ n ≤ 9223372036854775807) :
    Calls Tryz.prog 22 #[.string k, .int .i64 n] w (NameOut w (WN.file k.data.toList n)) := by
  obtain ⟨hn0, hn1⟩ := hn
  have HSL := Lib.hid (size_list k)
  by_cases hbad : k.size = 0 ∨ n < 0 ∨ 100000000 ≤ n
  · have HO : Hid (WN.file k.data.toList n = []) := Lib.hid (WN.file_none (by
      rcases hbad with h | h | h
      · left
        rw [← HSL.out] at h
        rw [goodKind_def, List.length_eq_zero_iff.1 h]
        rfl
      · exact .inr (.inl h)
      · exact .inr (.inr h)))
    rw [HO.out]
    by_cases hz : k.size = 0
    · have hz' : (k.size : Int) = 0 := by omega
      clear hbad
      go_enter Tryz.func22, Tryz.ntmps22
      go_wp2
      go_ret
      exact ⟨rfl, Below.refl _ _⟩
    · have hz' : ¬ (k.size : Int) = 0 := by omega
      by_cases h0 : n < 0
      · clear hbad
        go_enter Tryz.func22, Tryz.ntmps22
        go_wp2
        go_ret
        exact ⟨rfl, Below.refl _ _⟩
      · have h1 : (100000000 : Int) ≤ n := by omega
        clear hbad
        go_enter Tryz.func22, Tryz.ntmps22
        go_wp2
        go_ret
        exact ⟨rfl, Below.refl _ _⟩
  · have hz : ¬ k.size = 0 := fun h => hbad (.inl h)
    have hz' : ¬ (k.size : Int) = 0 := by omega
    have h0 : ¬ n < 0 := fun h => hbad (.inr (.inl h))
    have h1 : ¬ (100000000 : Int) ≤ n := fun h => hbad (.inr (.inr h))
    have hne : k.data.toList ≠ [] := fun e => hz (by rw [← HSL.out, e]; rfl)
    clear hbad
    go_enter Tryz.func22, Tryz.ntmps22
    go_wp2_with fail
    go_loopw [5] (fun v wr => ∃ j : Nat, j ≤ k.size ∧ v = .int .i64 j ∧ Hid ((k.data.toList.take j).all letter = true) ∧ Below w.heap.size w wr) (fun v _ => k.size - (intOf v).toNat)
    case atStart => exact ⟨0, by omega, rfl, by rw [List.take_zero]; exact Lib.hid rfl, Below.refl _ _⟩
    case round =>
      obtain ⟨j, hj, rfl, HA, hB⟩ := hrel
      have HB := Lib.hid hB
      clear hB
      by_cases hlt : j < k.size
      · have hjl : j < k.data.toList.length := by rw [HSL.out]; exact hlt
        have i0 : (0 : Int) ≤ (j : Int) := by omega
        have i1 : (j : Int) < (k.size : Int) := by omega
        have hx1 := byte_of k j hlt
        obtain ⟨x, hx⟩ : ∃ x, k[j] = x := ⟨_, rfl⟩
        rw [hx] at hx1
        by_cases c1 : x.toNat < 97
        · have HO : Hid (WN.file k.data.toList n = []) := Lib.hid (WN.file_none (.inl (by rw [goodKind_def, all_bad hjl (by rw [hx1]; unfold letter; simp; omega), Bool.and_false])))
          go_wp2
          go_ret
          exact ⟨by rw [HO.out]; rfl, HB.out⟩
        · by_cases c2 : 122 < x.toNat
          · have HO : Hid (WN.file k.data.toList n = []) := Lib.hid (WN.file_none (.inl (by rw [goodKind_def, all_bad hjl (by rw [hx1]; unfold letter; simp; omega), Bool.and_false])))
            go_wp2
            go_ret
            exact ⟨by rw [HO.out]; rfl, HB.out⟩
          · have HST : Hid ((k.data.toList.take (j + 1)).all letter = true) := Lib.hid (all_take HA.out hjl (by rw [hx1]; unfold letter; simp; omega))
            go_wp2
            go_roundw
            case rel => exact ⟨j + 1, by omega, by go_num, HST, HB.out⟩
            case measure => simp [intOf]; omega
      · obtain rfl : j = k.size := by omega
        have hall : k.data.toList.all letter = true := by
          have := HA.out
          rwa [← HSL.out, List.take_length] at this
        have hgood : WN.goodKind k.data.toList = true := by
          rw [goodKind_def, hall, Bool.and_true]
          cases hkl : k.data.toList with
          | nil => exact absurd hkl hne
          | cons a r => rfl
        have HFI := Lib.hid (WN.file_some hgood (n := n) (by omega) (by omega))
        obtain ⟨m, rfl⟩ : ∃ m : Nat, n = m := ⟨n.toNat, by omega⟩
        have hm : m < 100000000 := by omega
        clear hall hgood hne HA h0 h1 hn0 hn1 hz
        go_wp2_with fail
        go_loopw [1, 6, 7] (fun vn vs vi w2 => ∃ (i : Nat) (s : ByteArray), i ≤ 8 ∧ vi = .int .i64 i ∧ vn = .int .i64 ((m / 10 ^ i : Nat) : Int) ∧ vs = .string s ∧ Hid (s.data.toList = WN.digs i m) ∧ Below w.heap.size w w2) (fun _ _ v _ => 8 - (intOf v).toNat)
        case atStart => exact ⟨0, ⟨#[]⟩, by omega, rfl, by simp, rfl, Lib.hid rfl, HB.out⟩
        case round =>
          obtain ⟨i, s, hi, rfl, rfl, rfl, HS, hB2⟩ := hrel
          have HB2 := Lib.hid hB2
          clear hB2
          have hss : s.size = i := by rw [← size_list, HS.out, WN.digs_len]
          by_cases hlt : i < 8
          · obtain ⟨q, hq⟩ : ∃ q, m / 10 ^ i = q := ⟨_, rfl⟩
            have hqm : q ≤ m := by rw [← hq]; exact Nat.div_le_self _ _
            have hq1 : m / 10 ^ (i + 1) = q / 10 := by rw [← hq, Nat.div_div_eq_div_mul, Nat.pow_succ]
            have HST : Hid (((⟨#[WN.dig q]⟩ : ByteArray) ++ s).data.toList = WN.digs (i + 1) m) := by
              rw [str_app, HS.out, WN.digs_cons, hq]
              exact Lib.hid rfl
            have hd := WN.dig_nat q
            have hdI : ((WN.dig q).toNat : Int) = 48 + (q : Int) % 10 := by rw [hd]; omega
            have hcv := fun W => byte_text W (WN.dig q)
            simp only [hdI] at hcv
            have hc1 : ¬ ((9223372036854775807 : Int) < ((⟨#[WN.dig q]⟩ : ByteArray).size : Int) + (s.size : Int)) := by rw [hss]; show ¬ ((9223372036854775807 : Int) < ((1 : Nat) : Int) + (i : Int)); omega
            simp only [hq]
            clear hq hd hdI
            go_wp2
            go_roundw
            case rel => exact ⟨i + 1, _, by omega, by go_num, by rw [hq1]; go_num, rfl, HST, HB2.out.alloc HB2.out.size _⟩
            case measure => simp [intOf]; omega
          · obtain rfl : i = 8 := by omega
            have HO : Hid (encS (WN.file k.data.toList (m : Int)) = .string (k ++ ⟨#[45]⟩ ++ s)) := by
              rw [HFI.out]
              unfold encS
              refine Lib.hid ?_
              congr 1
              refine str_ext ?_
              rw [str_app, str_app, HS.out]
              simp
            have hc2 : ¬ ((9223372036854775807 : Int) < (k.size : Int) + 1) := by omega
            go_wp2
            go_ret
            exact ⟨by rw [HO.out]; rfl, HB2.out⟩

theorem num_len {k name : Bs} (h : name.length ≠ k.length + 9) : WN.number k name = (0, false) := by unfold WN.number; rw [if_pos h]
theorem num_bad {k name : Bs} (h : (name.drop (k.length + 1)).all WN.isDig = false) : WN.number k name = (0, false) := by
  unfold WN.number
  split
  · rfl
  · first | rfl | (rw [if_pos h]) | simp [h]
theorem num_full {k name : Bs} (hl : name.length = k.length + 9) (h : (name.drop (k.length + 1)).all WN.isDig = true) :
    WN.number k name = if WN.file k (WN.val (name.drop (k.length + 1)) : Nat) = name then (((WN.val (name.drop (k.length + 1)) : Nat) : Int), true) else (0, false) := by
  unfold WN.number
  rw [if_neg (by omega), if_neg (by rw [h]; decide)]

end Go.Proofs.YtgknkldhjejjmaaGreatDoor

