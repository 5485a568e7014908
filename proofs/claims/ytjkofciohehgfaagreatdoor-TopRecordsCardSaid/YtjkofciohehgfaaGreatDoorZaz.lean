/- Texts joined by bundle.py: YTVarA, YTSa, YTBu, YTNRo, YTVarE, YTBm, YTVarP. -/
import Derived.Test.YtjkofciohehgfaaGreatDoorZay
import Derived.Test.YtjkofciohehgfaaGreatDoorZaa
import Derived.WalkKit
import Derived.IntWalk
import Derived.Laws.Rows
import Derived.Lib.Hide
import Derived.Lib.SlBytesRow
import Derived.Outline
import Derived.Lib.Builder
import Derived.Lib.AppendStr
import Derived.Lib.UnsafeStr
import Derived.Laws.Externs
import Derived.Laws.OwnMore
import Derived.Lib.BufferWrite
import Derived.Laws.MakeOwn
import Derived.OwnWalk
import Derived.WalkSmall
import Derived.Deep.AppendLies
import Derived.Lib.BufferRead

/- The walks of layer 1's small functions: turn, turnBack. -/
namespace Go.Proofs.YtjkofciohehgfaaGreatDoor.L11
open Go.RowKit
open Go.Lib (zigzag zigzag_lt uvarint uvarint_small uvarint_big u8_or128_any)

theorem turn_any (n : Int) (w : World) (h0 : -9223372036854775808 ≤ n) (h1 : n ≤ 9223372036854775807) :
    Calls Tryz.prog 109 #[.int .i64 n] w fun e w' => e = .returned (.int .u64 (zigzag n)) ∧ w = w' := by
  by_cases hn : 0 ≤ n
  · go_enter Tryz.func109, Tryz.ntmps109
    go_wp2
    go_ret
    exact ⟨ret_int (VM.turn_pos hn h1), rfl⟩
  · go_enter Tryz.func109, Tryz.ntmps109
    go_wp2
    go_ret
    exact ⟨ret_int (VM.turn_neg h0 (by omega)), rfl⟩

/-- the array that holds a number's bytes -/
def rowOf (l : List UInt8) : Array Value := List.toArray ((l.map fun (c : UInt8) => Value.int .u8 (c.toNat : Int)) ++ List.replicate (10 - l.length) (Value.int .u8 0))

theorem rowOf_size (l : List UInt8) (h : l.length ≤ 10) : (rowOf l).size = 10 := by
  simp [rowOf]; omega

theorem rowOf_lo (l : List UInt8) (j : Nat) (h : j < l.length) : (rowOf l)[j]? = some (.int .u8 (l[j].toNat : Int)) := by
  simp [rowOf, List.getElem?_append, h]

theorem rowOf_hi (l : List UInt8) (j : Nat) (h : l.length ≤ j) (hj : j < 10) : (rowOf l)[j]? = some (.int .u8 0) := by
  simp [rowOf, List.getElem?_append, show ¬ j < l.length by omega, show j - l.length < 10 - l.length by omega]

theorem rowOf_set (l : List UInt8) (c : UInt8) (h : l.length < 10) : (rowOf l).setIfInBounds l.length (.int .u8 (c.toNat : Int)) = rowOf (l ++ [c]) := by
  apply Array.toList_inj.1
  simp only [rowOf, Array.toList_setIfInBounds]
  rw [List.set_append_right _ _ (by simp)]
  simp only [List.length_map, Nat.sub_self, List.map_append, List.append_assoc, List.length_append, List.length_singleton]
  congr 1
  rw [show 10 - l.length = (10 - (l.length + 1)) + 1 by omega, List.replicate_succ]
  simp

theorem rowOf_nil : rowOf [] = #[.int .u8 0, .int .u8 0, .int .u8 0, .int .u8 0, .int .u8 0, .int .u8 0, .int .u8 0, .int .u8 0, .int .u8 0, .int .u8 0] := rfl

def PiecesRel (n : Int) (w : World) (j u : Value) (wr : World) : Prop :=
  ∃ (k v : Nat) (done : List UInt8), done.length = k ∧ k ≤ 9 ∧ v < 128 ^ (9 - k) * 2 ∧ v < 18446744073709551616 ∧ j = .int .i64 k ∧ u = .int .u64 v ∧ uvarint (zigzag n) = done ++ uvarint v ∧
    wr.heap[w.heap.size + 1]? = some (.cells (rowOf done) 121 (0, 0)) ∧ wr.heap[w.heap.size]? = some (.cells (rowOf []) 121 (0, 0)) ∧ Below w.heap.size w wr

theorem pieces_step {n : Int} {w wr : World} {k v : Nat} {done : List UInt8} (hk : done.length = k) (hk9 : k ≤ 9) (hv : v < 128 ^ (9 - k) * 2) (hlt : 128 ≤ v) (hv2 : v < 18446744073709551616)
    (hu : uvarint (zigzag n) = done ++ uvarint v) (hb1 : wr.heap[w.heap.size + 1]? = some (.cells (rowOf done) 121 (0, 0))) (hb0 : wr.heap[w.heap.size]? = some (.cells (rowOf []) 121 (0, 0))) (hB : Below w.heap.size w wr) :
    PiecesRel n w (.int .i64 ((k : Int) + 1)) (.int .u64 ((v : Int) / 128)) (wr.setCell ⟨w.heap.size + 1, k, none⟩ (.int .u8 (bits .or .u8 ((v : Int) % 256) 128))) := by
  have hk8 : k ≤ 8 := by
    by_cases h : k = 9
    · rw [h] at hv; simp at hv; omega
    · omega
  have e : bits .or .u8 ((v : Int) % 256) 128 = (((v % 128 + 128).toUInt8).toNat : Int) := by
    rw [u8_or128_any _ (by omega) (by omega), byte_toNat _ (by omega)]; omega
  refine ⟨k + 1, v / 128, done ++ [(v % 128 + 128).toUInt8], by simp [hk], by omega, ?_, by omega, by simp, by simp, ?_, ?_, ?_, ?_⟩
  · have hp : (128 : Nat) ^ (9 - k) = 128 * 128 ^ (9 - (k + 1)) := by
      rw [show 9 - k = (9 - (k + 1)) + 1 by omega, Nat.pow_succ, Nat.mul_comm]
    rw [hp] at hv
    omega
  · rw [hu, uvarint_big hlt]; simp
  · rw [heap_setCell_same _ _ _ _ _ _ hb1, e, ← hk, rowOf_set _ _ (by omega)]
  · rw [heap_setCell_other _ _ _ _ (by simp)]; exact hb0
  · exact hB.setCell (by simp) _

theorem pieces_last {n : Int} {w wr : World} {k v : Nat} {done : List UInt8} (hk : done.length = k) (hk9 : k ≤ 9) (hlt : ¬ 128 ≤ v)
    (hu : uvarint (zigzag n) = done ++ uvarint v) (hb1 : wr.heap[w.heap.size + 1]? = some (.cells (rowOf done) 121 (0, 0))) (hb0 : wr.heap[w.heap.size]? = some (.cells (rowOf []) 121 (0, 0))) :
    (VM.enc n).length = k + 1 ∧ (wr.setCell ⟨w.heap.size + 1, k, none⟩ (.int .u8 (v : Int))).heap[w.heap.size + 1]? = some (.cells (rowOf (VM.enc n)) 121 (0, 0)) ∧
      (wr.setCell ⟨w.heap.size + 1, k, none⟩ (.int .u8 (v : Int))).heap[w.heap.size]? = some (.cells (rowOf []) 121 (0, 0)) := by
  have he : VM.enc n = done ++ [v.toUInt8] := by
    unfold VM.enc; rw [hu, uvarint_small (by omega)]
  refine ⟨by rw [he]; simp [hk], ?_, ?_⟩
  · rw [heap_setCell_same _ _ _ _ _ _ hb1, he, ← hk, ← byte_toNat v (by omega), rowOf_set _ _ (by omega)]
  · rw [heap_setCell_other _ _ _ _ (by simp)]; exact hb0

theorem rowOf_one (l : List UInt8) : (rowOf l).all (·.oneCell') = true := by
  rw [Array.all_eq_true_iff_forall_mem]
  intro x hx
  simp only [rowOf, List.mem_toArray, List.mem_append, List.mem_map, List.mem_replicate] at hx
  rcases hx with ⟨c, _, rfl⟩ | ⟨_, rfl⟩ <;> rfl

theorem run_storeCells_new {P : Program} {W : World} {g : Nat} {t : TypeId} {l : List UInt8} (hg : W.heap[g]? = some (.cells (rowOf []) t (0, 0))) (hs : (rowOf l).size = 10) :
    (storeCells ⟨g, 0, none⟩ (rowOf l).toList).run P W = .ok () (W.setRow g (rowOf l)) := by
  have h := run_storeCells_from (P := P) g t (rowOf l).toList 0 (rowOf []) W hg (by simp [hs, rowOf_nil]) (fun v hv => (Array.all_eq_true_iff_forall_mem.1 (rowOf_one l)) v (by simpa using hv))
  simpa using h

theorem rowOf_info (l : List UInt8) (h : l.length ≤ 10) : (Tryz.prog.info? 121).map (·.size) = some (rowOf l).size := by
  rw [rowOf_size l h]; kernel_rfl

set_option maxRecDepth 100000 in
theorem pieces_any (n : Int) (w : World) (h0 : -9223372036854775808 ≤ n) (h1 : n ≤ 9223372036854775807) :
    Calls Tryz.prog 73 #[.int .i64 n] w fun e w' => e = .returned (.tuple #[.agg (rowOf (VM.enc n)), .int .i64 (VM.enc n).length]) ∧ Below w.heap.size w w' := by
  have hz := zigzag_lt h0 h1
  go_enter Tryz.func73, Tryz.ntmps73
  go_wp2_with (go_at_call 109; refine (turn_any _ _ h0 h1).mono ?_; rintro e w' ⟨rfl, rfl⟩)
  go_loopw [5, 6] (fun j u wr => PiecesRel n w j u wr) (fun _ u _ => (intOf u).toNat)
  case atStart =>
    refine ⟨0, zigzag n, [], rfl, by omega, by simpa using hz, hz, rfl, rfl, rfl, ?_, ?_, ?_⟩
    · rw [heap_alloc2_new]; rfl
    · rw [heap_alloc2_old]; rfl
    · exact ((Below.refl _ _).alloc (Nat.le_refl _) _).alloc (by simp) _
  case round =>
    obtain ⟨k, v, done, hk, hk9, hv, hv2, rfl, rfl, hu, hb1, hb0, hB⟩ := hrel
    have hcell : wr.cell? ⟨w.heap.size + 1, k, none⟩ = some (.int .u8 0) := by
      rw [cell_of_row _ _ _ _ _ _ hb1, rowOf_hi _ _ (by omega) (by omega)]
    have hfz : wr.frozen? ⟨w.heap.size + 1, k, none⟩ = false := frozen_of_row _ _ _ _ _ hb1
    have HU := Lib.hid hu
    have HB1 := Lib.hid hb1
    have HB0 := Lib.hid hb0
    have HK := Lib.hid hk
    have HV := Lib.hid hv
    clear hu hb1 hb0 hk hv
    by_cases hlt : 128 ≤ v
    · have hr := pieces_step HK.out hk9 HV.out hlt hv2 HU.out HB1.out HB0.out hB
      have HR := Lib.hid hr
      clear hr
      go_wp2
      go_roundw
      case rel => exact HR.out
      case measure => simp [intOf]; omega
    · obtain ⟨hl, hc1, hc0⟩ := pieces_last HK.out hk9 hlt HU.out HB1.out HB0.out
      have hen := VM.enc_len h0 h1
      have HL := Lib.hid hl
      have HC1 := Lib.hid hc1
      have HC0 := Lib.hid hc0
      clear hl hc1 hc0
      have hsz := rowOf_size _ hen.2
      have hst := run_storeCells_new (P := Tryz.prog) HC0.out hsz
      go_wp2_with (refine wpList_load_row rfl 121 (.tmp 4) rfl (w.heap.size + 1) rfl 121 (rowOf (VM.enc n)) (0, 0) _ ?c1 Tryz.underlying121 rfl ?c2 ?_)
      case c1 => exact HC1.out
      case c2 => exact rowOf_info _ hen.2
      go_wp2
      have hld := run_loadVar_row (P := Tryz.prog) _ w.heap.size 121 121 (rowOf (VM.enc n)) (0, 0) _ (setRow_heap _ w.heap.size (rowOf []) (rowOf (VM.enc n)) 121 (0, 0) HC0.out) Tryz.underlying121 rfl (rowOf_info _ hen.2)
      refine bodyPost_ret (v := .tuple #[.agg (rowOf (VM.enc n)), .int .i64 ((k : Int) + 1)]) ?_ rfl ⟨?_, ?_⟩
      · rw [results_cell_tmp rfl]; simp [asAddr, Result.andThen, hld]
      · rw [HL.out]; simp
      · exact below_setRow (hB.setCell (by simp) _) (Nat.le_refl _)

theorem rowOf_bytes (w : World) (g : Nat) (t : TypeId) (fr : Nat × Nat) (l : List UInt8) (h : w.heap[g]? = some (.cells (rowOf l) t fr)) : Lib.Bytes w g 0 ⟨l.toArray⟩ := by
  intro i hi
  have hi' : i < l.length := by simpa [ByteArray.size] using hi
  rw [Nat.zero_add, cell_of_row _ _ _ _ _ _ h, rowOf_lo _ _ hi']
  rfl

theorem arr_slice (W : World) (g n : Nat) (h : n ≤ 10) : (Instr.sliceAt 121 (.pointer (some ⟨g, 0, none⟩)) none (some (.int .i64 (n : Int))) none).run Tryz.prog W = .ok (.slice (some ⟨g, 0, none⟩) n 10) W := by
  have hal : Tryz.prog.arrayLen 121 = 10 := by kernel_rfl
  have hs : ∀ w, (sizeOf (Tryz.prog.elem 121)).run Tryz.prog w = .ok 1 w := fun w => by kernel_rfl
  rw [run_sliceAt_array_h W 121 ⟨g, 0, none⟩ (by kernel_rfl) .i64 (n : Int) (by omega) (by rw [hal]; omega), hs, hal]
  simp [Result.andThen, slicedAt, Int.toNat_natCast, Addr.add]

/-- a new array that a number's bytes were stored into -/
def rowWorld (w : World) (l : List UInt8) : World := (w.alloc (.cells (rowOf []) 121)).setRow w.heap.size (rowOf l)

theorem rowWorld_row (w : World) (l : List UInt8) : (rowWorld w l).heap[w.heap.size]? = some (.cells (rowOf l) 121 (0, 0)) :=
  setRow_heap _ _ _ _ _ _ (heap_alloc_new w (.cells (rowOf []) 121))

theorem rowWorld_below (w : World) (l : List UInt8) : Below w.heap.size w (rowWorld w l) :=
  below_setRow ((Below.refl _ _).alloc (Nat.le_refl _) _) (Nat.le_refl _)

theorem row_string (w : World) (l : List UInt8) (cap : Nat) : (convert 68 9 (.slice (some ⟨w.heap.size, 0, none⟩) l.length cap)).run Tryz.prog (rowWorld w l) = .ok (.string ⟨l.toArray⟩) (rowWorld w l) :=
  Lib.run_convert_whole (rowWorld w l) 68 5 9 Tryz.underlying68 Tryz.underlying5 Tryz.underlying9 w.heap.size 0 ⟨l.toArray⟩ (rowOf_bytes _ _ _ _ _ (rowWorld_row w l)) cap

set_option maxRecDepth 100000 in
theorem put_any (n : Int) (w : World) (h0 : -9223372036854775808 ≤ n) (h1 : n ≤ 9223372036854775807) :
    Calls Tryz.prog 28 #[.int .i64 n] w fun e w' => e = .returned (.string ⟨(VM.enc n).toArray⟩) ∧ Below w.heap.size w w' := by
  have hen := VM.enc_len h0 h1
  have hsz := rowOf_size _ hen.2
  go_enter Tryz.func28, Tryz.ntmps28
  go_wp2_with fail
  refine (pieces_any _ _ h0 h1).mono ?_
  rintro e w1 ⟨rfl, hB⟩
  have hst : (storeCells ⟨w1.heap.size, 0, none⟩ (rowOf (VM.enc n)).toList).run Tryz.prog (w1.alloc (.cells (rowOf []) 121)) = .ok () (rowWorld w1 (VM.enc n)) := run_storeCells_new (heap_alloc_new w1 (.cells (rowOf []) 121)) hsz
  have hsl := fun W => arr_slice W w1.heap.size (VM.enc n).length hen.2
  have hcv := row_string w1 (VM.enc n) 10
  rw [rowOf_nil] at hst
  go_wp2
  go_ret
  exact ⟨rfl, hB.trans ((rowWorld_below w1 _).mono hB.size)⟩
end Go.Proofs.YtjkofciohehgfaaGreatDoor.L11


/- Less and Good: of single entries. -/
namespace Go.Proofs.YtjkofciohehgfaaGreatDoor.L11
open Go.RowKit
open SK

theorem less_before : ∀ (a b : List UInt8), Op.bytesLess a b = bytesBefore a b
  | [], [] => by simp [Op.bytesLess, bytesBefore]
  | [], _ :: _ => by simp [Op.bytesLess, bytesBefore]
  | _ :: _, [] => by simp [Op.bytesLess, bytesBefore]
  | x :: r, y :: t => by simp [Op.bytesLess, bytesBefore, less_before r t]

theorem text_less (a b : ByteArray) : Op.bytesLess a.toList b.toList = bytesBefore a.data.toList b.data.toList := by
  rw [ByteArray.toList_eq, ByteArray.toList_eq, less_before]
theorem text_eq (a b : ByteArray) : (a.toList == b.toList) = decide (a = b) := by
  rw [Bool.eq_iff_iff, beq_iff_eq, decide_eq_true_eq, ByteArray.toList_eq, ByteArray.toList_eq]
  exact ⟨str_ext, fun h => by rw [h]⟩
theorem text_none (a : ByteArray) : (a.toList == ([] : List UInt8)) = decide (a.size = 0) := by
  rw [Bool.eq_iff_iff, beq_iff_eq, decide_eq_true_eq, ByteArray.toList_eq, ← size_list, List.length_eq_zero_iff]

set_option maxRecDepth 100000 in
theorem less_any (a b : E) (w : World) :
    Calls Tryz.prog 56 #[a.val, b.val] w fun e w' => e = .returned (.bool (less a b)) ∧ Below w.heap.size w w' := by
  obtain ⟨k1, q1, g1, v1, t1⟩ := a
  obtain ⟨k2, q2, g2, v2, t2⟩ := b
  have HTE := Lib.hid (text_eq k1 k2)
  by_cases hk : k1 = k2
  · subst hk
    have hte : (k1.toList == k1.toList) = true := by simp
    have HL : Hid (less ⟨k1, q1, g1, v1, t1⟩ ⟨k1, q2, g2, v2, t2⟩ = decide (q2 < q1)) := by simp [less, Hid]
    simp only [E.val]
    go_enter Tryz.func56, Tryz.ntmps56
    go_wp2
    go_ret
    exact ⟨by rw [HL.out]; rfl, ((Below.refl _ w).alloc (Nat.le_refl _) _).alloc (by simp) _⟩
  · have hte : (k1.toList == k2.toList) = false := by rw [HTE.out]; simp [hk]
    have HL : Hid (less ⟨k1, q1, g1, v1, t1⟩ ⟨k2, q2, g2, v2, t2⟩ = Op.bytesLess k1.toList k2.toList) := by
      unfold Hid
      rw [text_less]; simp [less, hk]
    simp only [E.val]
    go_enter Tryz.func56, Tryz.ntmps56
    go_wp2
    go_ret
    exact ⟨by rw [HL.out]; rfl, ((Below.refl _ w).alloc (Nat.le_refl _) _).alloc (by simp) _⟩

set_option maxRecDepth 100000 in
set_option maxHeartbeats 1000000 in
theorem good_any (a : E) (w : World) (ha : a.wf) :
    Calls Tryz.prog 26 #[a.val] w fun e w' => e = .returned (.int .i64 (good a)) ∧ Below w.heap.size w w' := by
  obtain ⟨k, q, g, v, t⟩ := a
  have hk0 := text_none k
  have hv0 := text_none v
  have hks := ha.key
  have hvs := ha.value
  simp only at hks hvs
  clear ha
  obtain ⟨G, hG⟩ : ∃ G, good ⟨k, q, g, v, t⟩ = G := ⟨_, rfl⟩
  rw [hG]
  unfold good at hG
  simp only at hG
  simp only [E.val]
  have hik : ((64 : Int) < (k.size : Int)) ↔ 64 < k.size := by omega
  have hiv : ((512 : Int) < (v.size : Int)) ↔ 512 < v.size := by omega
  by_cases h1 : 64 < k.size ∨ 512 < v.size
  · rw [if_pos h1] at hG
    subst hG
    go_enter Tryz.func26, Tryz.ntmps26
    rcases Decidable.em (64 < k.size) with hx | hx
    · have hxi : (64 : Int) < (k.size : Int) := by omega
      go_wp2
      go_ret
      exact ⟨rfl, (Below.refl _ _).alloc (Nat.le_refl _) _⟩
    · have hy : 512 < v.size := by omega
      have hxi : ¬ (64 : Int) < (k.size : Int) := by omega
      have hyi : (512 : Int) < (v.size : Int) := by omega
      go_wp2
      go_ret
      exact ⟨rfl, (Below.refl _ _).alloc (Nat.le_refl _) _⟩
  · rw [if_neg h1] at hG
    have hxi : ¬ (64 : Int) < (k.size : Int) := by omega
    have hyi : ¬ (512 : Int) < (v.size : Int) := by omega
    by_cases h2 : k.size = 0 ∨ q < 1 ∨ t < 0
    · rw [if_pos h2] at hG
      subst hG
      rcases Decidable.em (k.size = 0) with hx | hx
      · have hk00 : (k.toList == ([] : List UInt8)) = true := by rw [hk0]; simp [hx]
        have hxi0 : (k.size : Int) = 0 := by omega
        have hxb : ((k.size : Int) == 0) = true := by rw [beq_iff_eq]; omega
        clear hk0 hik hiv h1 h2 hx
        go_enter Tryz.func26, Tryz.ntmps26
        go_wp2
        go_ret
        exact ⟨rfl, (Below.refl _ _).alloc (Nat.le_refl _) _⟩
      · have hk00 : (k.toList == ([] : List UInt8)) = false := by rw [hk0]; simp [hx]
        have hxi0 : ¬ (k.size : Int) = 0 := by omega
        have hxb : ((k.size : Int) == 0) = false := beq_eq_false_iff_ne.2 (by omega)
        rcases Decidable.em (q < 1) with hq | hq
        · have hq0 : q ≤ 0 := by omega
          clear hk0 hik hiv h1 h2 hx
          go_enter Tryz.func26, Tryz.ntmps26
          go_wp2
          go_ret
          exact ⟨rfl, (Below.refl _ _).alloc (Nat.le_refl _) _⟩
        · have ht : t < 0 := by omega
          have hq0 : ¬ q ≤ 0 := by omega
          clear hk0 hik hiv h1 h2 hx
          go_enter Tryz.func26, Tryz.ntmps26
          go_wp2
          go_ret
          exact ⟨rfl, (Below.refl _ _).alloc (Nat.le_refl _) _⟩
    · rw [if_neg h2] at hG
      have hk00 : (k.toList == ([] : List UInt8)) = false := by rw [hk0]; exact decide_eq_false (by omega)
      have hxi0 : ¬ (k.size : Int) = 0 := by omega
      have hxb : ((k.size : Int) == 0) = false := beq_eq_false_iff_ne.2 (by omega)
      have hq : ¬ q < 1 := by omega
      have hq0 : ¬ q ≤ 0 := by omega
      have ht : ¬ t < 0 := by omega
      cases g with
      | false =>
        simp only [Bool.false_eq_true, false_and, if_false] at hG
        subst hG
        clear hk0 hik hiv h1 h2 hv0
        go_enter Tryz.func26, Tryz.ntmps26
        go_wp2
        go_ret
        exact ⟨rfl, (Below.refl _ _).alloc (Nat.le_refl _) _⟩
      | true =>
        by_cases h3 : 0 < v.size ∨ 0 < t
        · rw [if_pos ⟨rfl, h3⟩] at hG
          subst hG
          rcases Decidable.em (v.size = 0) with hx | hx
          · have hv00 : (v.toList == ([] : List UInt8)) = true := by rw [hv0]; simp [hx]
            have hvi : decide (0 < v.size) = false := decide_eq_false (by omega)
            have ht1 : 0 < t := by omega
            have ht2 : ¬ t = 0 := by omega
            have ht3 : (t == 0) = false := by simp; omega
            clear hk0 hik hiv h1 h2 hv0 h3 hx
            go_enter Tryz.func26, Tryz.ntmps26
            go_wp2
            go_ret
            exact ⟨rfl, (Below.refl _ _).alloc (Nat.le_refl _) _⟩
          · have hv00 : (v.toList == ([] : List UInt8)) = false := by rw [hv0]; simp [hx]
            have hvi : decide (0 < v.size) = true := decide_eq_true (by omega)
            clear hk0 hik hiv h1 h2 hv0 h3 hx
            go_enter Tryz.func26, Tryz.ntmps26
            go_wp2
            go_ret
            exact ⟨rfl, (Below.refl _ _).alloc (Nat.le_refl _) _⟩
        · rw [if_neg (fun h => h3 h.2)] at hG
          subst hG
          have hv00 : (v.toList == ([] : List UInt8)) = true := by rw [hv0]; exact decide_eq_true (by omega)
          have hvi : decide (0 < v.size) = false := decide_eq_false (by omega)
          have ht1 : ¬ 0 < t := by omega
          obtain rfl : t = 0 := by omega
          clear hk0 hik hiv h1 h2 hv0 h3
          go_enter Tryz.func26, Tryz.ntmps26
          go_wp2
          go_ret
          exact ⟨rfl, (Below.refl _ _).alloc (Nat.le_refl _) _⟩

end Go.Proofs.YtjkofciohehgfaaGreatDoor.L11


/- A strings.Builder that a call has made itself: copyCheck, WriteString, String. -/
namespace Go.Proofs.YtjkofciohehgfaaGreatDoor.L11
open Go.RowKit

/-- the builder in block b, all it has at or above B, holds these bytes -/
abbrev Bld (B b : Nat) (l : List UInt8) (w : World) : Prop := Lib.IsBuilder 70 5 B b (Lib.byteCells l) w

theorem bld_size : (Tryz.prog.info? 70).map (·.size) = some 2 := by kernel_rfl
theorem bld_lies : liesAt Tryz.prog Tryz.prog.depth 70 (2 / Tryz.prog.cellsOf 70) 0 70 1 = true := by kernel_rfl

theorem bld_same (w : World) (b : Nat) : (binOp .neq 67 (.pointer (some ⟨b, 0, none⟩)) (.pointer (some ⟨b, 0, none⟩))).run Tryz.prog w = .ok (.bool false) w := by
  obtain ⟨j, hj, -⟩ := Option.map_eq_some_iff.1 bld_size
  exact Lib.run_neq_ptr_same w _ Tryz.underlying67 hj

set_option maxRecDepth 100000 in
theorem copyCheck_any (B b : Nat) (bs : List Value) (w : World) (h : Lib.IsBuilder 70 5 B b bs w) :
    Calls Tryz.prog 72 #[.pointer (some ⟨b, 0, none⟩)] w fun e w' => e = .returned (.tuple #[]) ∧ Lib.BuilderAt 70 5 B b (.pointer (some ⟨b, 0, none⟩)) bs w' ∧ Below B w w' := by
  have hsm := bld_same w b
  rcases h with h | h
  · obtain ⟨j, hj, hjs⟩ := Option.map_eq_some_iff.1 bld_size
    have hc := h.cell0
    have hz := h.frozen0
    have hv1 : (convert 67 165 (.pointer (some ⟨b, 0, none⟩))).run Tryz.prog w = .ok (.pointer (some ⟨b, 0, none⟩)) w :=
      Lib.run_to_unsafe w ⟨b, 0, none⟩ Tryz.underlying67 Tryz.underlying165 hj (by rw [hjs]; decide) h.shape (Nat.zero_lt_succ 1)
    have hv2 : (convert 165 67 (.pointer (some ⟨b, 0, none⟩))).run Tryz.prog w = .ok (.pointer (some ⟨b, 0, none⟩)) w :=
      Lib.run_from_unsafe w ⟨b, 0, none⟩ Tryz.underlying165 Tryz.underlying67 hj h.shape bld_lies
    have hne : (callFunc 108 #[.pointer (some ⟨b, 0, none⟩)]).run Tryz.prog w = .ok (.value (.pointer (some ⟨b, 0, none⟩))) w := by
      rw [run_callFunc_extern Tryz.func108 (by kernel_rfl) (by kernel_rfl) (by kernel_rfl) (e := Extern.AbiNoEscape.same) (by kernel_rfl), Lib.run_noEscape]
      rfl
    go_enter Tryz.func72, Tryz.ntmps72
    go_wp2
    go_end0
    exact ⟨rfl, h.used _, (Below.refl B w).setCell (p := ⟨b, 0, none⟩) h.1 _⟩
  · have hc := h.cell0
    go_enter Tryz.func72, Tryz.ntmps72
    go_wp2
    go_end0
    exact ⟨rfl, h, Below.refl B _⟩

theorem str_cells (l : List UInt8) : Lib.strCells ⟨l.toArray⟩ = Lib.byteCells l := by simp [Lib.strCells, Lib.byteCells]
theorem cells_app (a b : List UInt8) : Lib.byteCells a ++ Lib.byteCells b = Lib.byteCells (a ++ b) := by simp [Lib.byteCells]

set_option maxRecDepth 100000 in
set_option maxHeartbeats 1000000 in
theorem write_any (B b : Nat) (l m : List UInt8) (w : World) (h : Bld B b l w) (hm : l.length + m.length ≤ 100000000) (hB : B ≤ w.heap.size) :
    Calls Tryz.prog 27 #[.pointer (some ⟨b, 0, none⟩), .string ⟨m.toArray⟩] w fun e w' => e = .returned (.tuple #[.int .i64 m.length, .nilIface]) ∧ Bld B b (l ++ m) w' ∧ Below B w w' := by
  have HC := Lib.hid (copyCheck_any B b (Lib.byteCells l) w h)
  obtain ⟨i0, hi, hz0, hz1, hz2⟩ := info_parts info_u8
  have hms : (⟨m.toArray⟩ : ByteArray).size = m.length := by show m.toArray.size = _; rw [List.size_toArray]
  obtain ⟨S, hS⟩ : ∃ S : ByteArray, (⟨m.toArray⟩ : ByteArray) = S := ⟨_, rfl⟩
  have HSC : Hid (Lib.byteCells l ++ Lib.strCells S = Lib.byteCells (l ++ m)) := Lib.hid (by rw [← hS, str_cells, cells_app])
  rw [hS] at hms ⊢
  rw [← hms]
  rw [← hms] at hm
  have HMS := Lib.hid hms
  have hll := Lib.byteCells_length l
  obtain ⟨bs, hbs⟩ : ∃ bs, Lib.byteCells l = bs := ⟨_, rfl⟩
  rw [hbs] at HC hll HSC
  have HLL := Lib.hid hll
  clear hbs hS hms h
  go_enter Tryz.func27, Tryz.ntmps27
  go_wp2_with fail
  refine HC.out.mono ?_
  rintro e w1 ⟨rfl, h1, hb1⟩
  obtain ⟨hBb, v, hbk, hown, hne⟩ := h1
  have c0 : w1.cell? ⟨b, 0, none⟩ = some (.pointer (some ⟨b, 0, none⟩)) := by rw [Lib.cell_of_heap hbk]; rfl
  have c1 : w1.cell? ⟨b, 1, none⟩ = some v := by rw [Lib.cell_of_heap hbk]; rfl
  clear hll HC
  go_wp2_with (at_builtin; refine Lib.wpList_append_own_string _ rfl _ _ 68 9 rfl B 5 i0 Tryz.underlying68 Tryz.underlying9 hi hz0 hz1 hz2 _ _ _ rfl hown S rfl ?c3 ?c4 ?c5 ?_)
  case c3 => have := HLL.out; unfold maxLen; omega
  case c4 => have := HLL.out; omega
  case c5 => have := hb1.size; omega
  intro v' w2 hown' hgrow _
  have hlt : b < w1.heap.size := (Array.getElem?_eq_some_iff.1 hbk).1
  have hb2 : w2.heap[b]? = some (.cells #[.pointer (some ⟨b, 0, none⟩), v] 70 (0, 0)) := by
    rw [hgrow.block b hlt (fun e => hne e.symm)]
    exact hbk
  have d1 : w2.cell? ⟨b, 1, none⟩ = some v := by rw [Lib.cell_of_heap hb2]; rfl
  have f1 : w2.frozen? ⟨b, 1, none⟩ = false := Lib.frozen_of_heap hb2 1
  have hbel : Below B w w2 := hb1.grown hgrow (by have := hb1.size; omega) (fun k hk => (hown.lt k hk).1)
  have hput : Lib.BuilderAt 70 5 B b (.pointer (some ⟨b, 0, none⟩)) (Lib.byteCells (l ++ m)) (w2.setCell ⟨b, 1, none⟩ v') := by
    rw [← HSC.out]
    exact Lib.BuilderAt.put (T := 70) (e := 5) hBb hb2 (bs' := bs ++ Lib.strCells S) (by simpa [Lib.strCells_length] using hown') (by decide)
  obtain ⟨ao, n', cap, rfl⟩ : ∃ ao n' cap, v' = .slice ao n' cap := by
    rcases hown'.2 with ⟨hv, _⟩ | ⟨g, cap, cur, hv, _⟩
    · exact ⟨_, _, _, hv⟩
    · exact ⟨_, _, _, hv⟩
  clear hgrow hown hown'
  go_wp2
  go_ret2
  exact ⟨rfl, Or.inr hput, hbel.setCell (p := ⟨b, 1, none⟩) hBb _⟩

set_option maxRecDepth 100000 in
set_option maxHeartbeats 1000000 in
theorem bstring_any (B b : Nat) (l : List UInt8) (w : World) (h : Bld B b l w) (h0 : l ≠ []) :
    Calls Tryz.prog 31 #[.pointer (some ⟨b, 0, none⟩)] w fun e w' => e = .returned (.string ⟨l.toArray⟩) ∧ Below B w w' := by
  obtain ⟨p, hBb, v, hbk, hown, hne⟩ : ∃ p, Lib.BuilderAt 70 5 B b p (Lib.byteCells l) w := by
    rcases h with h | h
    · exact ⟨_, h⟩
    · exact ⟨_, h⟩
  have hl0 : l.length ≠ 0 := by simpa using h0
  rw [Lib.byteCells_length] at hown
  rcases hown.2 with ⟨-, hz⟩ | ⟨g, cap, cur, rfl, hbg, hg, hnc, hcm, hcs, htk⟩
  · exact absurd hz hl0
  have hSD : (Builtin.unsafeSliceData_ #[68] 124 #[.slice (some ⟨g, 0, none⟩) l.length cap]).run Tryz.prog w.drew = .ok (.pointer (some ⟨g, 0, none⟩)) w.drew :=
    Lib.run_unsafeSliceData_row _ _ _ _ _ _ (by omega)
  have hUS : (Builtin.unsafeString_ #[124, 3] 9 #[.pointer (some ⟨g, 0, none⟩), .int .i64 l.length]).run Tryz.prog w.drew = .ok (.string ⟨l.toArray⟩) (w.drew.freeze ⟨g, 0, none⟩ l.length) := by
    refine Lib.run_unsafeString_row w.drew 124 3 9 5 Tryz.underlying124 (by kernel_rfl) g cur.size (by have hg' : w.drew.heap[g]? = some (.cells cur 5 (0, 0)) := hg; simp [World.shape?, hg']) l h0 (by omega) (by unfold maxLen at hcm; omega) ?_
    intro j x hx
    exact hown.cells (g := g) rfl j (.int .u8 x.toNat) (by simp [Lib.byteCells, hx])
  have c1 : w.drew.cell? ⟨b, 1, none⟩ = some (.slice (some ⟨g, 0, none⟩) l.length cap) := by
    have h' : w.drew.heap[b]? = some (.cells #[p, .slice (some ⟨g, 0, none⟩) l.length cap] 70 (0, 0)) := hbk
    rw [Lib.cell_of_heap h']; rfl
  clear hown hcs htk hl0 hne
  go_enter Tryz.func31, Tryz.ntmps31
  go_wp2
  go_region
  all_goals (go_wp2; go_ret; exact ⟨rfl, Lib.below_freeze (Below.drew (Below.refl B w)) (p := ⟨g, 0, none⟩) hbg _⟩)

theorem bld_new (w : World) : Bld w.heap.size w.heap.size [] (w.alloc (.cells #[.pointer none, .slice none 0 0] 70)) := Lib.fresh_isBuilder _ _ w
end Go.Proofs.YtjkofciohehgfaaGreatDoor.L11


/- A row that lies in memory as it is listed; rows of numbers, of bytes; 'make'. -/
namespace Go.Proofs.YtjkofciohehgfaaGreatDoor.L11.B9
open Go.RowKit

/-- block g holds just these cells -/
def Lies (w : World) (g : Nat) (t : TypeId) (xs : List Value) : Prop := w.heap[g]? = some (.cells xs.toArray t (0, 0))

namespace Lies
variable {w w' : World} {g : Nat} {t : TypeId} {xs : List Value}

theorem new (w : World) (t : TypeId) (xs : List Value) : Lies (w.alloc (.cells xs.toArray t)) w.heap.size t xs := heap_alloc_new w _
theorem lt (h : Lies w g t xs) : g < w.heap.size := (Array.getElem?_eq_some_iff.1 h).1
theorem cell (h : Lies w g t xs) {j : Nat} {v : Value} (hj : xs[j]? = some v) : w.cell? ⟨g, j, none⟩ = some v := by
  rw [cell_of_row _ _ _ _ _ _ h]; simpa using hj
theorem frozen (h : Lies w g t xs) (j : Nat) : w.frozen? ⟨g, j, none⟩ = false := frozen_of_row _ _ _ _ _ h
theorem set (h : Lies w g t xs) (j : Nat) (u : Value) : Lies (w.setCell ⟨g, j, none⟩ u) g t (xs.set j u) := by
  have := heap_set_fr h j u
  unfold Lies
  rw [this]
  simp
theorem below {B : Nat} (h : Lies w g t xs) (hb : Below B w w') (hg : g < B) : Lies w' g t xs := (hb.block g hg).trans h
theorem all (h : Lies w g t xs) (hb : Below w.heap.size w w') : Lies w' g t xs := h.below hb h.lt
theorem drewN (h : Lies w g t xs) (n : Nat) : Lies (w.drewN n) g t xs := h
theorem own (h : Lies w g t xs) (hx : xs.length ≤ maxLen) {base : Nat} (hb : base ≤ g) : w.ownsRow base t 1 (.slice (some ⟨g, 0, none⟩) xs.length xs.length) xs.length xs := by
  refine ⟨by simp, .inr ⟨g, xs.length, _, rfl, hb, h, Nat.le_refl _, hx, by simp, ?_⟩⟩
  simp
end Lies

def nums (l : List Nat) : List Value := l.map fun n => Value.int .i64 (n : Nat)

theorem nums_length (l : List Nat) : (nums l).length = l.length := by simp [nums]
theorem nums_at (l : List Nat) (j : Nat) (h : j < l.length) : (nums l)[j]? = some (.int .i64 (l[j] : Nat)) := by simp [nums, h]
theorem nums_set (l : List Nat) (j n : Nat) : (nums l).set j (.int .i64 (n : Nat)) = nums (l.set j n) := by simp [nums, List.map_set]
theorem nums_zeros (n : Nat) : nums (List.replicate n 0) = List.replicate n (.int .i64 0) := by simp [nums]
theorem bytes_set (l : List UInt8) (j : Nat) (x : UInt8) : (Lib.byteCells l).set j (.int .u8 (x.toNat : Int)) = Lib.byteCells (l.set j x) := by simp [Lib.byteCells, List.map_set]
theorem bytes_at (l : List UInt8) (j : Nat) (h : j < l.length) : (Lib.byteCells l)[j]? = some (.int .u8 (l[j].toNat : Int)) := by simp [Lib.byteCells, h]
theorem bytes_zeros (n : Nat) : Lib.byteCells (List.replicate n 0) = List.replicate n (.int .u8 0) := by simp [Lib.byteCells]

/-- a slice of numbers that a call has made: its block is new -/
def NumsAt (w : World) (base : Nat) (A : Option Addr) (l : List Nat) : Prop :=
  0 < l.length → ∃ b, A = some ⟨b, 0, none⟩ ∧ base ≤ b ∧ b < w.heap.size ∧ ∀ j, (h : j < l.length) → w.cell? ⟨b, j, none⟩ = some (.int .i64 (l[j] : Nat))

theorem own_nums {w : World} {base : Nat} {e : TypeId} {v : Value} {l : List Nat} (h : w.ownsRow base e 1 v l.length (nums l)) : ∃ A c, v = .slice A l.length c ∧ NumsAt w base A l := by
  have h' := h
  rcases h.2 with ⟨rfl, h0⟩ | ⟨g, cap, cur, rfl, hb, hg, _, _, _, _⟩
  · exact ⟨none, 0, by rw [h0], fun hn => by omega⟩
  · refine ⟨some ⟨g, 0, none⟩, cap, rfl, fun _ => ⟨g, rfl, hb, (Array.getElem?_eq_some_iff.1 hg).1, fun j hj => ?_⟩⟩
    have hc := h'.cells (g := g) rfl j _ (nums_at l j hj)
    rw [addr_add0] at hc
    exact hc

theorem NumsAt.grown {w w' : World} {base : Nat} {A : Option Addr} {l : List Nat} {r : Option Nat} (h : NumsAt w base A l) (hg : w.grownBy w' r) (hr : ∀ g, r = some g → g < base) : NumsAt w' base A l := by
  intro hn
  obtain ⟨b, hA, hb, hlt, hc⟩ := h hn
  refine ⟨b, hA, hb, Nat.lt_of_lt_of_le hlt hg.size, fun j hj => ?_⟩
  exact hg.cell (hc j hj) (fun e => by have := hr b e.symm; omega)

theorem NumsAt.set {w : World} {base : Nat} {A : Option Addr} {l : List Nat} (h : NumsAt w base A l) {g : Nat} (hg : g < base) (j : Nat) (u : Value) : NumsAt (w.setCell ⟨g, j, none⟩ u) base A l :=
  h.grown (r := some g) (grownBy_setCell w ⟨g, j, none⟩ u) (fun _ e => by cases e; exact hg)

theorem NumsAt.drewN {w : World} {base : Nat} {A : Option Addr} {l : List Nat} (h : NumsAt w base A l) (n : Nat) : NumsAt (w.drewN n) base A l := h
theorem info_int : (Tryz.prog.info? 3).map (fun i => (i.zero, i.size, i.bytes)) = some (some (.int .i64 0), 1, 8) := by kernel_rfl

theorem make_ints (w : World) (n : Nat) (h : n * 8 ≤ 281474976710656) : (Instr.makeSlice 24 (.int .i64 (n : Int)) (.int .i64 (n : Int))).run Tryz.prog w = .ok (.slice (some ⟨w.heap.size, 0, none⟩) n n) (w.alloc (.cells (nums (List.replicate n 0)).toArray 3)) := by
  obtain ⟨i0, hi, hz0, hz1, hz2⟩ := info_parts info_int
  have h := run_make (P := Tryz.prog) w 24 3 i0 (.int .i64 0) Tryz.underlying24 hi hz0 .i64 .i64 (n : Int) (n : Int) (by omega) (Int.le_refl _) (by rw [hz2]; omega) (by omega)
  rw [Int.toNat_natCast] at h
  have e : madeCells #[Value.int .i64 0] n = (nums (List.replicate n 0)).toArray := by
    apply Array.toList_inj.1
    rw [toList_madeCells_one, nums_zeros]
  rw [← e]
  simpa [hz1, Value.cells] using h

theorem make_bytes (w : World) (n : Nat) (h : n ≤ 281474976710656) : (Instr.makeSlice 68 (.int .i64 (n : Int)) (.int .i64 (n : Int))).run Tryz.prog w = .ok (.slice (some ⟨w.heap.size, 0, none⟩) n n) (w.alloc (.cells (Lib.byteCells (List.replicate n 0)).toArray 5)) := by
  obtain ⟨i0, hi, hz0, hz1, hz2⟩ := info_parts info_u8
  have h := run_make (P := Tryz.prog) w 68 5 i0 (.int .u8 0) Tryz.underlying68 hi hz0 .i64 .i64 (n : Int) (n : Int) (by omega) (Int.le_refl _) (by rw [hz2]; omega) (by omega)
  rw [Int.toNat_natCast] at h
  have e : madeCells #[Value.int .u8 0] n = (Lib.byteCells (List.replicate n 0)).toArray := by
    apply Array.toList_inj.1
    rw [toList_madeCells_one, bytes_zeros]
  rw [← e]
  simpa [hz1, Value.cells] using h
end Go.Proofs.YtjkofciohehgfaaGreatDoor.L11.B9


/- The walks of Clone, PutText, GetText. -/
namespace Go.Proofs.YtjkofciohehgfaaGreatDoor.L11
open Go.RowKit

/-- the bytes of a text -/
def textEnc (s : ByteArray) : ByteArray := ⟨(VM.enc s.size ++ s.data.toList).toArray⟩

theorem putText_any (s : ByteArray) (w : World) (hs : s.size ≤ 9223372036854775000) :
    Calls Tryz.prog 74 #[.string s] w fun e w' => e = .returned (.string (textEnc s)) ∧ Below w.heap.size w w' := by
  have hen := VM.enc_len (n := (s.size : Int)) (by omega) (by omega)
  have he : (⟨(VM.enc s.size).toArray⟩ : ByteArray) ++ s = textEnc s := by
    apply ByteArray.ext
    apply Array.toList_inj.1
    simp [textEnc]
  have HE := Lib.hid he
  obtain ⟨l, hl⟩ : ∃ l : List UInt8, VM.enc (s.size : Int) = l := ⟨_, rfl⟩
  have HP := Lib.hid (fun W => put_any (s.size : Int) W (by omega) (by omega))
  rw [hl] at hen HE HP
  obtain ⟨hen1, hen2⟩ := hen
  clear he hl
  go_enter Tryz.func74, Tryz.ntmps74
  go_wp2_with fail
  refine (HP.out _).mono ?_
  rintro e w1 ⟨rfl, hB⟩
  go_wp2
  go_ret
  exact ⟨by rw [HE.out]; rfl, hB⟩

end Go.Proofs.YtjkofciohehgfaaGreatDoor.L11


/- Plain mathematics of blocks: their bytes, and what is read of bytes. No function of the program. -/
namespace Go.Proofs.YtjkofciohehgfaaGreatDoor.L11
namespace BK
open SK
open VM

/-! ### entries in order -/

/-- the error of an entry behind others -/
def nb (a : List E) (e : E) : Int :=
  if good e ≠ 0 then good e else if e.til = 9223372036854775807 then 2 else
    match a.getLast? with
    | none => 0
    | some p => if less p e = true then 0 else 16
def ordF : List E → List E → Int × Int
  | _, [] => (0, 0)
  | a, e :: r => if nb a e ≠ 0 then ((a.length : Int), nb a e) else ordF (a ++ [e]) r
def ord (l : List E) : Int × Int := ordF [] l
def OkF : List E → List E → Prop
  | _, [] => True
  | a, e :: r => nb a e = 0 ∧ OkF (a ++ [e]) r

theorem nb_zero {a : List E} {e : E} (h : nb a e = 0) : good e = 0 ∧ e.til ≠ 9223372036854775807 ∧ ∀ p, a.getLast? = some p → less p e = true := by
  unfold nb at h
  split at h
  · rename_i h1; exact absurd h h1
  · rename_i h1
    have hg : good e = 0 := by simpa using h1
    split at h
    · simp at h
    · rename_i h2
      refine ⟨hg, h2, fun p hp => ?_⟩
      rw [hp] at h
      simp only at h
      split at h
      · assumption
      · simp at h

theorem ordF_ok : ∀ (a r : List E), OkF a r → ordF a r = (0, 0)
  | _, [], _ => rfl
  | a, e :: r, h => by
    simp only [ordF, h.1, ne_eq, not_true_eq_false, if_false]
    exact ordF_ok _ _ h.2
theorem okF_ord : ∀ (a r : List E), (ordF a r).2 = 0 → OkF a r
  | _, [], _ => trivial
  | a, e :: r, h => by
    by_cases h0 : nb a e = 0
    · simp only [ordF, h0, ne_eq, not_true_eq_false, if_false] at h
      exact ⟨h0, okF_ord _ _ h⟩
    · simp only [ordF, h0, ne_eq, not_false_eq_true, if_true] at h

theorem ord_step {l : List E} {j : Nat} (hj : j < l.length) (h : ord l = ordF (l.take j) (l.drop j)) (hb : nb (l.take j) l[j] = 0) : ord l = ordF (l.take (j + 1)) (l.drop (j + 1)) := by
  rw [h, List.drop_eq_getElem_cons hj, List.take_succ_eq_append_getElem hj]
  simp only [ordF, hb, ne_eq, not_true_eq_false, if_false]
theorem ord_bad {l : List E} {j : Nat} (hj : j < l.length) (h : ord l = ordF (l.take j) (l.drop j)) (hb : nb (l.take j) l[j] ≠ 0) : ord l = ((j : Int), nb (l.take j) l[j]) := by
  rw [h, List.drop_eq_getElem_cons hj]
  simp only [ordF, hb, ne_eq, not_false_eq_true, if_true, List.length_take]
  rw [Nat.min_eq_left (by omega)]
theorem ord_end {l : List E} (h : ord l = ordF (l.take l.length) (l.drop l.length)) : ord l = (0, 0) := by
  rw [h, List.drop_length]; rfl

theorem okF_all : ∀ (a r : List E), OkF a r → ∀ e ∈ r, good e = 0 ∧ e.til ≠ 9223372036854775807
  | _, [], _ => by simp
  | a, x :: r, h => by
    intro e he
    rcases List.mem_cons.1 he with rfl | he
    · exact ⟨(nb_zero h.1).1, (nb_zero h.1).2.1⟩
    · exact okF_all _ _ h.2 e he

/-! ### what keys share -/

def alike : List UInt8 → List UInt8 → Nat
  | x :: a, y :: b => if x = y then alike a b + 1 else 0
  | _, _ => 0

theorem alike_le : ∀ (a b : List UInt8), alike a b ≤ a.length ∧ alike a b ≤ b.length ∧ a.take (alike a b) = b.take (alike a b)
  | [], [] => by simp [alike]
  | [], _ :: _ => by simp [alike]
  | _ :: _, [] => by simp [alike]
  | x :: a, y :: b => by
    obtain ⟨h1, h2, h3⟩ := alike_le a b
    unfold alike
    split
    · rename_i h
      refine ⟨by simp; omega, by simp; omega, ?_⟩
      simp [h, h3]
    · simp

theorem alike_split : ∀ (i : Nat) (a b : List UInt8), a.take i = b.take i → i ≤ a.length → i ≤ b.length → alike a b = i + alike (a.drop i) (b.drop i)
  | 0, a, b, _, _, _ => by simp
  | i + 1, [], b, _, h, _ => by simp at h
  | i + 1, a, [], _, _, h => by simp at h
  | i + 1, x :: a, y :: b, h, h1, h2 => by
    simp only [List.take_succ_cons, List.cons.injEq] at h
    have := alike_split i a b h.2 (by simpa using h1) (by simpa using h2)
    simp only [alike, h.1, if_true, List.drop_succ_cons]
    omega

theorem alike_stop {a b : List UInt8} {i : Nat} (h : a.take i = b.take i) (h1 : i < a.length) (h2 : i < b.length) (hne : a[i] ≠ b[i]) : alike a b = i := by
  rw [alike_split i a b h (by omega) (by omega), List.drop_eq_getElem_cons h1, List.drop_eq_getElem_cons h2]
  simp [alike, hne]
theorem alike_end {a b : List UInt8} {i : Nat} (h : a.take i = b.take i) (h1 : i ≤ a.length) (h2 : i ≤ b.length) (hm : i = a.length ∨ i = b.length) : alike a b = i := by
  rw [alike_split i a b h h1 h2]
  rcases hm with hm | hm
  · rw [hm, List.drop_length]; simp [alike]
  · rw [hm, List.drop_length]
    cases a.drop b.length <;> simp [alike]
theorem alike_next {a b : List UInt8} {i : Nat} (h : a.take i = b.take i) (h1 : i < a.length) (h2 : i < b.length) (he : a[i] = b[i]) : a.take (i + 1) = b.take (i + 1) := by
  rw [List.take_succ_eq_append_getElem h1, List.take_succ_eq_append_getElem h2, h, he]

def lastKey (a : List E) : ByteArray := match a.getLast? with | none => ⟨#[]⟩ | some p => p.key
/-- how many bytes an entry's key shares with the one ahead -/
def sh (v : Nat) (a : List E) (e : E) : Nat := if a.length % v = 0 then 0 else alike (lastKey a).data.toList e.key.data.toList

theorem sh_le (v : Nat) (a : List E) (e : E) : sh v a e ≤ (lastKey a).size ∧ sh v a e ≤ e.key.size ∧ (lastKey a).data.toList.take (sh v a e) = e.key.data.toList.take (sh v a e) := by
  unfold sh
  split
  · simp
  · have := alike_le (lastKey a).data.toList e.key.data.toList
    rw [size_list, size_list] at this
    exact this
/-! ### bytes -/

def textB (s : ByteArray) : List UInt8 := enc s.size ++ s.data.toList
/-- the bytes of an entry whose key shares n bytes with the one ahead -/
def entB (e : E) (n : Nat) : List UInt8 := enc n ++ (textB (e.key.extract n e.key.size) ++ (enc e.seq ++ (if e.gone = true then enc 0 else enc (e.til + 1) ++ textB e.value)))
def bodyF (v : Nat) : List E → List E → List UInt8
  | _, [] => []
  | a, e :: r => entB e (sh v a e) ++ bodyF v (a ++ [e]) r
def buildB (l : List E) (v : Nat) : List UInt8 := enc l.length ++ bodyF v [] l
def buildOut (l : List E) (v : Int) : List UInt8 × Int := if v < 1 ∨ 64 < v then ([], 2) else if 4096 < l.length then ([], 5) else if (ord l).2 ≠ 0 then ([], (ord l).2) else (buildB l v.toNat, 0)

theorem textEnc_eq (s : ByteArray) : textEnc s = ⟨(textB s).toArray⟩ := rfl

theorem textB_len (s : ByteArray) (h : s.size ≤ 9223372036854775807) : (textB s).length ≤ 10 + s.size := by
  have := (enc_len (n := (s.size : Int)) (by omega) (by omega)).2
  simp only [textB, List.length_append, size_list]
  omega

theorem tail_size (k : ByteArray) (n : Nat) : (k.extract n k.size).size = k.size - n := by rw [ByteArray.size_extract]; omega

theorem bodyF_snoc (v : Nat) : ∀ (a r : List E) (e : E), bodyF v a (r ++ [e]) = bodyF v a r ++ entB e (sh v (a ++ r) e)
  | a, [], e => by simp [bodyF]
  | a, x :: r, e => by
    simp only [List.cons_append, bodyF]
    rw [bodyF_snoc v (a ++ [x]) r e]
    simp
theorem body_take {l : List E} {j : Nat} (v : Nat) (hj : j < l.length) : bodyF v [] (l.take (j + 1)) = bodyF v [] (l.take j) ++ entB l[j] (sh v (l.take j) l[j]) := by
  rw [List.take_succ_eq_append_getElem hj, bodyF_snoc]; rfl

theorem entB_len {e : E} {n : Nat} (hg : good e = 0) (hn : n ≤ e.key.size) (hw : e.wf) (ht : e.til ≠ 9223372036854775807) : (entB e n).length ≤ 700 := by
  obtain ⟨h1, h2, h3, h4, h5⟩ := good_zero hg
  have hq := hw.seq
  have htl := hw.til
  have l1 := (enc_len (n := (n : Int)) (by omega) (by omega)).2
  have l2 := textB_len (e.key.extract n e.key.size) (by rw [tail_size]; omega)
  have l3 := (enc_len (n := e.seq) (by omega) (by omega)).2
  rw [tail_size] at l2
  unfold entB
  rw [List.length_append, List.length_append, List.length_append]
  split
  · have := (enc_len (n := 0) (by omega) (by omega)).2
    omega
  · have l4 := (enc_len (n := e.til + 1) (by omega) (by omega)).2
    have l5 := textB_len e.value (by omega)
    rw [List.length_append]
    omega

theorem bodyF_len (v : Nat) : ∀ (a r : List E), (∀ e ∈ r, good e = 0 ∧ e.wf ∧ e.til ≠ 9223372036854775807) → (bodyF v a r).length ≤ r.length * 700
  | _, [], _ => by simp [bodyF]
  | a, e :: r, h => by
    obtain ⟨h1, h2, h3⟩ := h e (List.mem_cons_self ..)
    have l1 := entB_len h1 (sh_le v a e).2.1 h2 h3
    have l2 := bodyF_len v (a ++ [e]) r fun x hx => h x (List.mem_cons_of_mem _ hx)
    simp only [bodyF, List.length_append, List.length_cons]
    omega

theorem buildB_pos (l : List E) (v : Nat) (h : l.length ≤ 4096) : 0 < (buildB l v).length := by
  have := (enc_len (n := (l.length : Int)) (by omega) (by omega)).1
  unfold buildB
  rw [List.length_append]
  omega

/-! ### reading -/

/-! ### errors are no noughts -/

/-! ### what keys share never takes more -/

/-! ### what is found -/

end BK
end Go.Proofs.YtjkofciohehgfaaGreatDoor.L11


/- The walk of PutAll. -/
namespace Go.Proofs.YtjkofciohehgfaaGreatDoor.L11
open Go.RowKit

/-- a slice of numbers that came in, and lies below block B: nil and empty ones too -/
def IntsIn (w : World) (B : Nat) (A : Option Addr) (zs : List Int) : Prop :=
  (∀ z ∈ zs, -9223372036854775808 ≤ z ∧ z ≤ 9223372036854775807) ∧
  (0 < zs.length → ∃ b off, A = some ⟨b, off, none⟩ ∧ b < B ∧ ∀ j, (h : j < zs.length) → w.cell? ⟨b, off + j, none⟩ = some (.int .i64 zs[j]))

theorem IntsIn.below {w w' : World} {B : Nat} {A : Option Addr} {zs : List Int} (h : IntsIn w B A zs) (hb : Below B w w') : IntsIn w' B A zs := by
  refine ⟨h.1, fun hn => ?_⟩
  obtain ⟨b, off, hA, hlt, hc⟩ := h.2 hn
  exact ⟨b, off, hA, hlt, fun j hj => (hb.cell (p := ⟨b, off + j, none⟩) hlt).trans (hc j hj)⟩

/-- the bytes of numbers, one behind the other -/
def encAll (zs : List Int) : List UInt8 := zs.flatMap VM.enc

theorem encAll_snoc (zs : List Int) (k : Nat) (h : k < zs.length) : encAll (zs.take (k + 1)) = encAll (zs.take k) ++ VM.enc zs[k] := by
  rw [List.take_succ_eq_append_getElem h]
  simp only [encAll, List.flatMap_append, List.flatMap_cons, List.flatMap_nil, List.append_nil]

theorem encAll_len (zs : List Int) (h : ∀ z ∈ zs, -9223372036854775808 ≤ z ∧ z ≤ 9223372036854775807) : (encAll zs).length ≤ 10 * zs.length := by
  induction zs with
  | nil => simp [encAll]
  | cons z r ih =>
    have h1 := (VM.enc_len (h z (by simp)).1 (h z (by simp)).2).2
    have h2 := ih fun y hy => h y (by simp [hy])
    have e : encAll (z :: r) = VM.enc z ++ encAll r := by simp [encAll]
    rw [e, List.length_append, List.length_cons]
    omega

def PutAllRel (n : Nat) (zs : List Int) (w : World) (A i : Value) (wr : World) : Prop :=
  ∃ k : Nat, k ≤ n ∧ i = .int .i64 k ∧ wr.ownsRow w.heap.size 5 1 A (encAll (zs.take k)).length (Lib.byteCells (encAll (zs.take k))) ∧ Below w.heap.size w wr

theorem row_cells (w : World) (l : List UInt8) : ∀ j u, (Lib.byteCells l)[j]? = some u → (rowWorld w l).cell? ((⟨w.heap.size, 0, none⟩ : Addr).add j) = some u := by
  intro j u hj
  have hadd : (⟨w.heap.size, 0, none⟩ : Addr).add j = ⟨w.heap.size, j, none⟩ := by unfold Addr.add; split <;> simp_all
  have hl : j < l.length := by
    have h := (List.getElem?_eq_some_iff.1 hj).1
    rwa [Lib.byteCells_length] at h
  rw [hadd, cell_of_row _ _ _ _ _ _ (rowWorld_row w l), rowOf_lo _ _ hl, ← hj]
  simp [Lib.byteCells, hl]

set_option maxRecDepth 100000 in
theorem putAll_any (A : Option Addr) (n cap : Nat) (zs : List Int) (w : World) (hn : zs.length = n) (hz : IntsIn w w.heap.size A zs) (hb : 10 * n ≤ 140737488355328) :
    Calls Tryz.prog 117 #[.slice A n cap] w fun e w' => e = .returned (.string ⟨(encAll zs).toArray⟩) ∧ Below w.heap.size w w' := by
  obtain ⟨i0, hi, hz0, hz1, hz2⟩ := info_parts info_u8
  have HZ := Lib.hid hz
  have HN := Lib.hid hn
  clear hz hn
  go_enter Tryz.func117, Tryz.ntmps117
  go_wp2
  go_loopw [3, 10] (fun a i wr => PutAllRel n zs w a i wr) (fun _ i _ => n - (intOf i).toNat)
  case atStart => exact ⟨0, Nat.zero_le _, rfl, World.ownsRow_nil _ _ _ _, Below.refl _ _⟩
  case round =>
    obtain ⟨k, hk, rfl, hown, hB⟩ := hrel
    by_cases hlt : k < n
    · have hkl : k < zs.length := by rw [HN.out]; exact hlt
      obtain ⟨b, off, hA, hbl, hc⟩ := (HZ.out.below hB).2 (by omega)
      obtain ⟨z, hzk⟩ : ∃ z, zs[k] = z := ⟨_, rfl⟩
      have hzr := HZ.out.1 z (by rw [← hzk]; exact List.getElem_mem hkl)
      have hcell := hc k hkl
      rw [hzk] at hcell
      have HS := Lib.hid (encAll_snoc zs k hkl)
      have HOWN := Lib.hid hown
      have hen := VM.enc_len hzr.1 hzr.2
      have HP := Lib.hid (pieces_any z wr hzr.1 hzr.2)
      have HK := Lib.hid hzk
      have hl10 := Lib.hid (encAll_len (zs.take k) (fun y hy => HZ.out.1 y (List.mem_of_mem_take hy)))
      clear hc hown hzk hzr
      subst hA
      go_wp2_with fail
      refine HP.out.mono ?_
      rintro e w1 ⟨rfl, hB1⟩
      have hst : (storeCells ⟨w1.heap.size, 0, none⟩ (rowOf (VM.enc z)).toList).run Tryz.prog (w1.alloc (.cells (rowOf []) 121)) = .ok () (rowWorld w1 (VM.enc z)) := run_storeCells_new (heap_alloc_new w1 (.cells (rowOf []) 121)) (rowOf_size _ hen.2)
      have hsz := rowOf_size _ hen.2
      have hsl := fun W => arr_slice W w1.heap.size (VM.enc z).length hen.2
      rw [rowOf_nil] at hst
      have hown2 := own_below (own_below HOWN.out hB1) (rowWorld_below w1 (VM.enc z))
      have HO2 := Lib.hid hown2
      clear hown2
      have hwb := rowWorld_below w1 (VM.enc z)
      go_wp2_with (at_builtin; refine wpList_append_own _ rfl _ _ 68 rfl w.heap.size 5 i0 (.int .u8 0) 1 1 Tryz.underlying68 hi hz0 hz1 hz2 rfl (by decide) _ _ _ rfl HO2.out ⟨w1.heap.size, 0, none⟩ (VM.enc z).length 10 (Lib.byteCells (VM.enc z)) rfl ?c1 ?c2 ?c3 ?c4 ?c5 ?c6 ?_)
      case c1 => simp [Lib.byteCells_length]
      case c2 => exact row_cells w1 (VM.enc z)
      case c3 => exact Lib.byteCells_one _
      case c4 =>
        have := hl10.out
        have hl : (zs.take k).length ≤ k := List.length_take_le _ _
        unfold maxLen; omega
      case c5 =>
        have := hl10.out
        have hl : (zs.take k).length ≤ k := List.length_take_le _ _
        omega
      case c6 => exact Nat.le_trans hB.size (Nat.le_trans hB1.size hwb.size)
      intro v' w2 hown3 hgrow hnil
      clear hnil
      have hB3 : Below w.heap.size w w2 := ((hB.trans (hB1.mono hB.size)).trans (hwb.mono (Nat.le_trans hB.size hB1.size))).grown hgrow (Nat.le_trans hB.size (Nat.le_trans hB1.size hwb.size)) (fun g hg => (HO2.out.lt g hg).1)
      have HR : Hid (PutAllRel n zs w v' (.int .i64 ((k : Int) + 1)) w2) := by
        refine ⟨k + 1, by omega, by go_num, ?_, hB3⟩
        rw [HS.out, HK.out, List.length_append, Lib.byteCells_append]
        exact hown3
      clear hown3 hgrow hB3 hwb hst hsl
      go_wp2
      go_roundw
      case rel => exact HR.out
      case measure => simp [intOf]; omega
    · have hkn : k = n := by omega
      have htk : zs.take k = zs := List.take_of_length_le (by rw [HN.out]; omega)
      rw [htk] at hown
      have hcv := own_string hown
      have HB := Lib.hid hB
      clear hown htk hB
      go_wp2
      go_ret
      exact ⟨rfl, HB.out⟩
end Go.Proofs.YtjkofciohehgfaaGreatDoor.L11


