/- Texts joined by bundle.py: Uc. -/
import Derived.Test.YtnglaolbfpdgoaaGreatZbg
import Derived.Test.YtnglaolbfpdgoaaGreatZbl

/- How many entries a block takes; a place's bytes. -/
namespace Go.Proofs.YtnglaolbfpdgoaaGreat
open Go.RowKit
open SK
open TB (Bs Sp)

set_option maxRecDepth 100000 in
set_option maxHeartbeats 2000000 in
theorem taken_any (A : Option Addr) (n cap S : Nat) (l : List E) (w : World) (hn : l.length = n) (hin : EntsIn w A l) (hf : Fine l) (hS : 1 ≤ S) (hS2 : S ≤ 4096) :
    Calls Tryz.prog 53 #[.slice A n cap, .int .i64 S] w fun e w' => e = .returned (.int .i64 (TB.taken S l : Nat)) ∧ Below w.heap.size w w' := by
  have HIN := Lib.hid hin
  have HN := Lib.hid hn
  have HF := Lib.hid hf
  obtain ⟨X, hX⟩ : ∃ X, TB.taken S l = X := ⟨_, rfl⟩
  have HX0 : Hid (X = TB.tk S 0 0 (l.drop 0)) := Lib.hid (by rw [← hX]; rfl)
  rw [hX]
  clear hX hin hn hf
  go_enter Tryz.func53, Tryz.ntmps53
  go_wp2
  go_loopw [5, 10] (fun h i wr => ∃ (j H : Nat), j ≤ n ∧ j ≤ 2048 ∧ i = .int .i64 j ∧ h = .int .i64 H ∧ X = TB.tk S j H (l.drop j) ∧ H ≤ j * 576 ∧ Below w.heap.size w wr) (fun _ i _ => n - (intOf i).toNat)
  case atStart => exact ⟨0, 0, by omega, by omega, rfl, rfl, HX0.out, by omega, Below.refl _ _⟩
  case round =>
    obtain ⟨j, H, hj, hj2, rfl, rfl, hx, hH, hb⟩ := hrel
    by_cases hlt : j < n
    · have hjl : j < l.length := by rw [HN.out]; exact hlt
      obtain ⟨bb, off, hA, hbl, hc⟩ := (HIN.out.below hb).at_ (by omega)
      obtain ⟨z0, z1, z2, z3, z4⟩ := hc j hjl
      have hg := good_zero (HF.out _ (List.getElem_mem hjl)).2.1
      rw [List.drop_eq_getElem_cons hjl] at hx
      simp only [TB.tk] at hx
      obtain ⟨y, hy⟩ : ∃ y, l[j] = y := ⟨_, rfl⟩
      rw [hy] at z0 z1 z2 z3 z4 hg hx
      subst hA
      have HXX := Lib.hid hx
      have HB := Lib.hid hb
      obtain ⟨-, hk, hv, -⟩ := hg
      have HSZ : Hid (w.heap.size ≤ wr.heap.size) := Lib.hid hb.size
      clear hx hb hc hbl hy
      obtain ⟨k2, r2, g2, v2, t2⟩ := y
      simp only at z0 z1 z2 z3 z4 hk hv HXX
      by_cases h48 : j = 2048
      · subst h48
        have hF : X = 2048 := by rw [HXX.out, if_pos (Or.inl rfl)]
        clear HXX HX0
        subst hF
        go_wp2
        go_ret
        exact ⟨rfl, HB.out.alloc HSZ.out _⟩
      · have d1 : ((j : Int) == 2048) = false := beq_eq_false_iff_ne.2 (by omega)
        by_cases hsh : S ≤ H
        · have d2 : decide ((S : Int) ≤ (H : Int)) = true := decide_eq_true (by omega)
          have d2' : decide (S ≤ H) = true := decide_eq_true hsh
          have hF : X = j := by rw [HXX.out, if_pos (Or.inr hsh)]
          clear HXX HX0
          subst hF
          go_wp2
          go_ret
          exact ⟨rfl, HB.out.alloc HSZ.out _⟩
        · have d2 : decide ((S : Int) ≤ (H : Int)) = false := decide_eq_false (by omega)
          have d2' : decide (S ≤ H) = false := decide_eq_false hsh
          have HF2 : Hid (X = TB.tk S (j + 1) (H + (k2.size + v2.size)) (l.drop (j + 1))) := Lib.hid (by rw [HXX.out, if_neg (by omega)])
          have hw1 : IntKind.i64.wrap ((k2.size : Int) + (v2.size : Int)) = (k2.size : Int) + (v2.size : Int) := IntWalk.i64_in _ ⟨by omega, by omega⟩
          have hw2 : IntKind.i64.wrap ((H : Int) + ((k2.size : Int) + (v2.size : Int))) = (H : Int) + ((k2.size : Int) + (v2.size : Int)) := IntWalk.i64_in _ ⟨by omega, by omega⟩
          clear HXX
          go_wp2
          go_roundw
          case rel => exact ⟨j + 1, H + (k2.size + v2.size), by omega, by omega, by go_num, by go_num, HF2.out, by omega, HB.out.alloc HSZ.out _⟩
          case measure => simp [intOf]; omega
    · have hjn : j = n := by omega
      have hF : X = n := by rw [hx, List.drop_eq_nil_of_le (by rw [HN.out]; omega), hjn]; rfl
      have HB := Lib.hid hb
      clear hx HX0 hb
      subst hF
      go_wp2
      go_ret
      exact ⟨rfl, HB.out⟩

/-! ### a place -/

def bcell (c : UInt8) : Value := .int .u8 (c.toNat : Int)
def rowP (n j : Nat) : Array Value := ((List.replicate (8 - j) (0 : UInt8) ++ TB.be j n).map bcell).toArray

theorem rowP_set (n j : Nat) (h : j < 8) : (rowP n j).setIfInBounds (7 - j) (bcell (n / 256 ^ j % 256).toUInt8) = rowP n (j + 1) := by
  unfold rowP
  rw [List.setIfInBounds_toArray, ← List.map_set]
  congr 2
  have hr : List.replicate (8 - j) (0 : UInt8) = List.replicate (7 - j) 0 ++ [0] := by
    rw [show 8 - j = (7 - j) + 1 by omega, List.replicate_succ']
  rw [hr, List.append_assoc, List.set_append_right _ _ (by simp), show 8 - (j + 1) = 7 - j by omega]
  simp [TB.be]

theorem rowP_at (n j : Nat) (h : j < 8) : (rowP n j)[7 - j]? = some (.int .u8 0) := by
  unfold rowP
  rw [List.getElem?_toArray, List.getElem?_map, List.getElem?_append_left (by rw [List.length_replicate]; omega), List.getElem?_replicate, if_pos (by omega)]
  rfl
theorem place_byte (n j : Nat) : (Value.int .u8 ((n : Int) / 2 ^ (8 * j) % 256)) = bcell (n / 256 ^ j % 256).toUInt8 := by
  unfold bcell
  rw [byte_toNat _ (Nat.mod_lt _ (by decide)), show (256 : Nat) ^ j = 2 ^ (8 * j) by rw [Nat.pow_mul]]
  congr 1

theorem rowP_string (W : World) (g : Nat) (t : TypeId) (n : Nat) (h : W.heap[g]? = some (.cells (rowP n 8) t (0, 0))) :
    (convert 98 9 (.slice (some ⟨g, 0, none⟩) 8 8)).run Tryz.prog W = .ok (.string ⟨(TB.be 8 n).toArray⟩) W := by
  refine Lib.run_convert_whole W 98 5 9 Tryz.underlying98 Tryz.underlying5 Tryz.underlying9 g 0 ⟨(TB.be 8 n).toArray⟩ (fun i hi => ?_) 8
  have hi' : i < (TB.be 8 n).length := by simpa [ByteArray.size] using hi
  rw [Nat.zero_add, cell_of_row _ _ _ _ _ _ h]
  unfold rowP
  simp [bcell, hi']
  rfl

set_option maxRecDepth 100000 in
set_option maxHeartbeats 1000000 in
theorem placeBytes_any (n : Nat) (w : World) (hn : n ≤ 281474976710656) :
    Calls Tryz.prog 58 #[.int .i64 n] w fun e w' => e = .returned (.string ⟨(TB.be 8 n).toArray⟩) ∧ Below w.heap.size w w' := by
  obtain ⟨x, hx⟩ : ∃ x, w.heap.size = x := ⟨_, rfl⟩
  have HR0 : Hid ((w.alloc (.cells #[.int .u8 0, .int .u8 0, .int .u8 0, .int .u8 0, .int .u8 0, .int .u8 0, .int .u8 0, .int .u8 0] 140)).heap[x]? = some (.cells (rowP n 0) 140 (0, 0))) := Lib.hid (by rw [← hx]; exact heap_alloc_new w _)
  have HB0 : Hid (Below x w (w.alloc (.cells #[.int .u8 0, .int .u8 0, .int .u8 0, .int .u8 0, .int .u8 0, .int .u8 0, .int .u8 0, .int .u8 0] 140))) := Lib.hid ((Below.refl _ _).alloc (by omega) _)
  have hwn : IntKind.u64.wrap (n : Int) = (n : Int) := by rw [IntKind.wrap_u64]; omega
  simp only [hx]
  go_enter Tryz.func58, Tryz.ntmps58
  go_wp2_with fail
  go_loopw [5] (fun i wr => ∃ j : Nat, j ≤ 8 ∧ i = .int .i64 j ∧ wr.heap[x]? = some (.cells (rowP n j) 140 (0, 0)) ∧ Below x w wr) (fun i _ => 8 - (intOf i).toNat)
  case atStart => exact ⟨0, by omega, rfl, HR0.out, HB0.out⟩
  case round =>
    obtain ⟨j, hj, rfl, hrow, hb⟩ := hrel
    by_cases hlt : j < 8
    · have hcl : wr.cell? ⟨x, 7 - j, none⟩ = some (.int .u8 0) := by
        rw [cell_of_row _ _ _ _ _ _ hrow]
        exact rowP_at n j hlt
      have hfr : wr.frozen? ⟨x, 7 - j, none⟩ = false := frozen_of_row _ _ _ _ _ hrow
      have HROW := Lib.hid hrow
      have HB := Lib.hid hb
      obtain ⟨m, hm⟩ : ∃ m, 7 - j = m := ⟨_, rfl⟩
      rw [hm] at hcl hfr
      have hwj : IntKind.i64.wrap (7 - (j : Int)) = (m : Int) := by rw [IntWalk.i64_in _ ⟨by omega, by omega⟩]; omega
      have g0 : (0 : Int) ≤ (m : Int) := by omega
      have g1 : (m : Int) < 8 := by omega
      have hmul : IntKind.i64.wrap (8 * (j : Int)) = 8 * (j : Int) := IntWalk.i64_in _ ⟨by omega, by omega⟩
      have HM := Lib.hid hm
      clear hrow hb hm
      have HSET : Hid ((wr.setCell ⟨x, m, none⟩ (.int .u8 ((n : Int) / 2 ^ (8 * j) % 256))).heap[x]? = some (.cells (rowP n (j + 1)) 140 (0, 0))) := Lib.hid (by
        rw [place_byte, ← rowP_set n j hlt, HM.out]
        exact heap_set_fr HROW.out m _)
      have HB2 : Hid (Below x w (wr.setCell ⟨x, m, none⟩ (.int .u8 ((n : Int) / 2 ^ (8 * j) % 256)))) := Lib.hid (HB.out.setCell (p := ⟨x, m, none⟩) (Nat.le_refl _) _)
      go_wp2
      go_roundw
      case rel => exact ⟨j + 1, by omega, by go_num, HSET.out, HB2.out⟩
      case measure => simp [intOf]; omega
    · obtain rfl : j = 8 := by omega
      have hst := rowP_string wr x _ n hrow
      have hsl := F3.arr_slice8 wr x
      have HB := Lib.hid hb
      clear hb
      go_wp2
      go_ret
      exact ⟨rfl, HB.out⟩
end Go.Proofs.YtnglaolbfpdgoaaGreat

