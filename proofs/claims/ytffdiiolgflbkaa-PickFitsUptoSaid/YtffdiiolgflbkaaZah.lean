/- Texts joined by bundle.py: VarA, VarC, VarD. -/
import Derived.Test.YtffdiiolgflbkaaZaa
import Derived.Test.YtffdiiolgflbkaaZag
import Derived.WalkKit
import Derived.IntWalk
import Derived.Laws.Rows
import Derived.Lib.Hide
import Derived.Lib.SlBytesRow

/- The walks of layer 1's small functions: turn, turnBack. -/
namespace Go.Proofs.Ytffdiiolgflbkaa
open Go.RowKit
open Go.Lib (zigzag zigzag_lt uvarint uvarint_small uvarint_big u8_or128_any)

theorem turn_any (n : Int) (w : World) (h0 : -9223372036854775808 ≤ n) (h1 : n ≤ 9223372036854775807) :
    Calls Try.prog 80 #[.int .i64 n] w fun e w' => e = .returned (.int .u64 (zigzag n)) ∧ w = w' := by
  by_cases hn : 0 ≤ n
  · go_enter Try.func80, Try.ntmps80
    go_wp2
    go_ret
    exact ⟨ret_int (VM.turn_pos hn h1), rfl⟩
  · go_enter Try.func80, Try.ntmps80
    go_wp2
    go_ret
    exact ⟨ret_int (VM.turn_neg h0 (by omega)), rfl⟩

theorem turnBack_any (v : Nat) (w : World) (h1 : v < 18446744073709551616) :
    Calls Try.prog 117 #[.int .u64 v] w fun e w' => e = .returned (.int .i64 (VM.unzig v)) ∧ w = w' := by
  go_enter Try.func117, Try.ntmps117
  go_wp2
  go_ret
  exact ⟨ret_int (VM.turn_back h1), rfl⟩

/-- the array that holds a number's bytes -/
def rowOf (l : List UInt8) : Array Value := List.toArray ((l.map fun (c : UInt8) => Value.int .u8 (c.toNat : Int)) ++ List.replicate (10 - l.length) (Value.int .u8 0))

theorem rowOf_size (l : List UInt8) (h : l.length ≤ 10) : (rowOf l).size = 10 := by
  simp [rowOf]; omega

theorem rowOf_lo (l : List UInt8) (j : Nat) (h : j < l.length) : (rowOf l)[j]? = some (.int .u8 (l[j].toNat : Int)) := by
  simp [rowOf, List.getElem?_append, h]

theorem rowOf_hi (l : List UInt8) (j : Nat) (h : l.length ≤ j) (hj : j < 10) : (rowOf l)[j]? = some (.int .u8 0) := by
  simp [rowOf, List.getElem?_append, show ¬ j < l.length by omega, show j - l.length < 10 - l.length by omega]

theorem rowOf_set (l : List UInt8) (c : UInt8) (h : l.length < 10) : (rowOf l).setIfInBounds l.length (.int .u8 (c.toNat : Int)) = rowOf (l ++ [c]) := by
  apply Array.toList_inj.1
  simp only [rowOf, Array.toList_setIfInBounds]
  rw [List.set_append_right _ _ (by simp)]
  simp only [List.length_map, Nat.sub_self, List.map_append, List.append_assoc, List.length_append, List.length_singleton]
  congr 1
  rw [show 10 - l.length = (10 - (l.length + 1)) + 1 by omega, List.replicate_succ]
  simp

theorem rowOf_nil : rowOf [] = #[.int .u8 0, .int .u8 0, .int .u8 0, .int .u8 0, .int .u8 0, .int .u8 0, .int .u8 0, .int .u8 0, .int .u8 0, .int .u8 0] := rfl

def PiecesRel (n : Int) (w : World) (j u : Value) (wr : World) : Prop :=
  ∃ (k v : Nat) (done : List UInt8), done.length = k ∧ k ≤ 9 ∧ v < 128 ^ (9 - k) * 2 ∧ v < 18446744073709551616 ∧ j = .int .i64 k ∧ u = .int .u64 v ∧ uvarint (zigzag n) = done ++ uvarint v ∧
    wr.heap[w.heap.size + 1]? = some (.cells (rowOf done) 140 (0, 0)) ∧ wr.heap[w.heap.size]? = some (.cells (rowOf []) 140 (0, 0)) ∧ Below w.heap.size w wr

theorem pieces_step {n : Int} {w wr : World} {k v : Nat} {done : List UInt8} (hk : done.length = k) (hk9 : k ≤ 9) (hv : v < 128 ^ (9 - k) * 2) (hlt : 128 ≤ v) (hv2 : v < 18446744073709551616)
    (hu : uvarint (zigzag n) = done ++ uvarint v) (hb1 : wr.heap[w.heap.size + 1]? = some (.cells (rowOf done) 140 (0, 0))) (hb0 : wr.heap[w.heap.size]? = some (.cells (rowOf []) 140 (0, 0))) (hB : Below w.heap.size w wr) :
    PiecesRel n w (.int .i64 ((k : Int) + 1)) (.int .u64 ((v : Int) / 128)) (wr.setCell ⟨w.heap.size + 1, k, none⟩ (.int .u8 (bits .or .u8 ((v : Int) % 256) 128))) := by
  have hk8 : k ≤ 8 := by
    by_cases h : k = 9
    · rw [h] at hv; simp at hv; omega
    · omega
  have e : bits .or .u8 ((v : Int) % 256) 128 = (((v % 128 + 128).toUInt8).toNat : Int) := by
    rw [u8_or128_any _ (by omega) (by omega), byte_toNat _ (by omega)]; omega
  refine ⟨k + 1, v / 128, done ++ [(v % 128 + 128).toUInt8], by simp [hk], by omega, ?_, by omega, by simp, by simp, ?_, ?_, ?_, ?_⟩
  · have hp : (128 : Nat) ^ (9 - k) = 128 * 128 ^ (9 - (k + 1)) := by
      rw [show 9 - k = (9 - (k + 1)) + 1 by omega, Nat.pow_succ, Nat.mul_comm]
    rw [hp] at hv
    omega
  · rw [hu, uvarint_big hlt]; simp
  · rw [heap_setCell_same _ _ _ _ _ _ hb1, e, ← hk, rowOf_set _ _ (by omega)]
  · rw [heap_setCell_other _ _ _ _ (by simp)]; exact hb0
  · exact hB.setCell (by simp) _

theorem pieces_last {n : Int} {w wr : World} {k v : Nat} {done : List UInt8} (hk : done.length = k) (hk9 : k ≤ 9) (hlt : ¬ 128 ≤ v)
    (hu : uvarint (zigzag n) = done ++ uvarint v) (hb1 : wr.heap[w.heap.size + 1]? = some (.cells (rowOf done) 140 (0, 0))) (hb0 : wr.heap[w.heap.size]? = some (.cells (rowOf []) 140 (0, 0))) :
    (VM.enc n).length = k + 1 ∧ (wr.setCell ⟨w.heap.size + 1, k, none⟩ (.int .u8 (v : Int))).heap[w.heap.size + 1]? = some (.cells (rowOf (VM.enc n)) 140 (0, 0)) ∧
      (wr.setCell ⟨w.heap.size + 1, k, none⟩ (.int .u8 (v : Int))).heap[w.heap.size]? = some (.cells (rowOf []) 140 (0, 0)) := by
  have he : VM.enc n = done ++ [v.toUInt8] := by
    unfold VM.enc; rw [hu, uvarint_small (by omega)]
  refine ⟨by rw [he]; simp [hk], ?_, ?_⟩
  · rw [heap_setCell_same _ _ _ _ _ _ hb1, he, ← hk, ← byte_toNat v (by omega), rowOf_set _ _ (by omega)]
  · rw [heap_setCell_other _ _ _ _ (by simp)]; exact hb0

theorem rowOf_one (l : List UInt8) : (rowOf l).all (·.oneCell') = true := by
  rw [Array.all_eq_true_iff_forall_mem]
  intro x hx
  simp only [rowOf, List.mem_toArray, List.mem_append, List.mem_map, List.mem_replicate] at hx
  rcases hx with ⟨c, _, rfl⟩ | ⟨_, rfl⟩ <;> rfl

theorem run_storeCells_new {P : Program} {W : World} {g : Nat} {t : TypeId} {l : List UInt8} (hg : W.heap[g]? = some (.cells (rowOf []) t (0, 0))) (hs : (rowOf l).size = 10) :
    (storeCells ⟨g, 0, none⟩ (rowOf l).toList).run P W = .ok () (W.setRow g (rowOf l)) := by
  have h := run_storeCells_from (P := P) g t (rowOf l).toList 0 (rowOf []) W hg (by simp [hs, rowOf_nil]) (fun v hv => (Array.all_eq_true_iff_forall_mem.1 (rowOf_one l)) v (by simpa using hv))
  simpa using h

theorem rowOf_info (l : List UInt8) (h : l.length ≤ 10) : (Try.prog.info? 140).map (·.size) = some (rowOf l).size := by
  rw [rowOf_size l h]; kernel_rfl

set_option maxRecDepth 100000 in
theorem pieces_any (n : Int) (w : World) (h0 : -9223372036854775808 ≤ n) (h1 : n ≤ 9223372036854775807) :
    Calls Try.prog 64 #[.int .i64 n] w fun e w' => e = .returned (.tuple #[.agg (rowOf (VM.enc n)), .int .i64 (VM.enc n).length]) ∧ Below w.heap.size w w' := by
  have hz := zigzag_lt h0 h1
  go_enter Try.func64, Try.ntmps64
  go_wp2_with (go_at_call 80; refine (turn_any _ _ h0 h1).mono ?_; rintro e w' ⟨rfl, rfl⟩)
  go_loopw [5, 6] (fun j u wr => PiecesRel n w j u wr) (fun _ u _ => (intOf u).toNat)
  case atStart =>
    refine ⟨0, zigzag n, [], rfl, by omega, by simpa using hz, hz, rfl, rfl, rfl, ?_, ?_, ?_⟩
    · rw [heap_alloc2_new]; rfl
    · rw [heap_alloc2_old]; rfl
    · exact ((Below.refl _ _).alloc (Nat.le_refl _) _).alloc (by simp) _
  case round =>
    obtain ⟨k, v, done, hk, hk9, hv, hv2, rfl, rfl, hu, hb1, hb0, hB⟩ := hrel
    have hcell : wr.cell? ⟨w.heap.size + 1, k, none⟩ = some (.int .u8 0) := by
      rw [cell_of_row _ _ _ _ _ _ hb1, rowOf_hi _ _ (by omega) (by omega)]
    have hfz : wr.frozen? ⟨w.heap.size + 1, k, none⟩ = false := frozen_of_row _ _ _ _ _ hb1
    have HU := Lib.hid hu
    have HB1 := Lib.hid hb1
    have HB0 := Lib.hid hb0
    have HK := Lib.hid hk
    have HV := Lib.hid hv
    clear hu hb1 hb0 hk hv
    by_cases hlt : 128 ≤ v
    · have hr := pieces_step HK.out hk9 HV.out hlt hv2 HU.out HB1.out HB0.out hB
      have HR := Lib.hid hr
      clear hr
      go_wp2
      go_roundw
      case rel => exact HR.out
      case measure => simp [intOf]; omega
    · obtain ⟨hl, hc1, hc0⟩ := pieces_last HK.out hk9 hlt HU.out HB1.out HB0.out
      have hen := VM.enc_len h0 h1
      have HL := Lib.hid hl
      have HC1 := Lib.hid hc1
      have HC0 := Lib.hid hc0
      clear hl hc1 hc0
      have hsz := rowOf_size _ hen.2
      have hst := run_storeCells_new (P := Try.prog) HC0.out hsz
      go_wp2_with (refine wpList_load_row rfl 140 (.tmp 4) rfl (w.heap.size + 1) rfl 140 (rowOf (VM.enc n)) (0, 0) _ ?c1 Try.underlying140 rfl ?c2 ?_)
      case c1 => exact HC1.out
      case c2 => exact rowOf_info _ hen.2
      go_wp2
      have hld := run_loadVar_row (P := Try.prog) _ w.heap.size 140 140 (rowOf (VM.enc n)) (0, 0) _ (setRow_heap _ w.heap.size (rowOf []) (rowOf (VM.enc n)) 140 (0, 0) HC0.out) Try.underlying140 rfl (rowOf_info _ hen.2)
      refine bodyPost_ret (v := .tuple #[.agg (rowOf (VM.enc n)), .int .i64 ((k : Int) + 1)]) ?_ rfl ⟨?_, ?_⟩
      · rw [results_cell_tmp rfl]; simp [asAddr, Result.andThen, hld]
      · rw [HL.out]; simp
      · exact below_setRow (hB.setCell (by simp) _) (Nat.le_refl _)

theorem rowOf_bytes (w : World) (g : Nat) (t : TypeId) (fr : Nat × Nat) (l : List UInt8) (h : w.heap[g]? = some (.cells (rowOf l) t fr)) : Lib.Bytes w g 0 ⟨l.toArray⟩ := by
  intro i hi
  have hi' : i < l.length := by simpa [ByteArray.size] using hi
  rw [Nat.zero_add, cell_of_row _ _ _ _ _ _ h, rowOf_lo _ _ hi']
  rfl

theorem arr_slice (W : World) (g n : Nat) (h : n ≤ 10) : (Instr.sliceAt 140 (.pointer (some ⟨g, 0, none⟩)) none (some (.int .i64 (n : Int))) none).run Try.prog W = .ok (.slice (some ⟨g, 0, none⟩) n 10) W := by
  have hal : Try.prog.arrayLen 140 = 10 := by kernel_rfl
  have hs : ∀ w, (sizeOf (Try.prog.elem 140)).run Try.prog w = .ok 1 w := fun w => by kernel_rfl
  rw [run_sliceAt_array_h W 140 ⟨g, 0, none⟩ (by kernel_rfl) .i64 (n : Int) (by omega) (by rw [hal]; omega), hs, hal]
  simp [Result.andThen, slicedAt, Int.toNat_natCast, Addr.add]

/-- a new array that a number's bytes were stored into -/
def rowWorld (w : World) (l : List UInt8) : World := (w.alloc (.cells (rowOf []) 140)).setRow w.heap.size (rowOf l)

theorem rowWorld_row (w : World) (l : List UInt8) : (rowWorld w l).heap[w.heap.size]? = some (.cells (rowOf l) 140 (0, 0)) :=
  setRow_heap _ _ _ _ _ _ (heap_alloc_new w (.cells (rowOf []) 140))

theorem rowWorld_below (w : World) (l : List UInt8) : Below w.heap.size w (rowWorld w l) :=
  below_setRow ((Below.refl _ _).alloc (Nat.le_refl _) _) (Nat.le_refl _)

theorem row_string (w : World) (l : List UInt8) (cap : Nat) : (convert 102 9 (.slice (some ⟨w.heap.size, 0, none⟩) l.length cap)).run Try.prog (rowWorld w l) = .ok (.string ⟨l.toArray⟩) (rowWorld w l) :=
  Lib.run_convert_whole (rowWorld w l) 102 5 9 Try.underlying102 Try.underlying5 Try.underlying9 w.heap.size 0 ⟨l.toArray⟩ (rowOf_bytes _ _ _ _ _ (rowWorld_row w l)) cap

set_option maxRecDepth 100000 in
theorem put_any (n : Int) (w : World) (h0 : -9223372036854775808 ≤ n) (h1 : n ≤ 9223372036854775807) :
    Calls Try.prog 41 #[.int .i64 n] w fun e w' => e = .returned (.string ⟨(VM.enc n).toArray⟩) ∧ Below w.heap.size w w' := by
  have hen := VM.enc_len h0 h1
  have hsz := rowOf_size _ hen.2
  go_enter Try.func41, Try.ntmps41
  go_wp2_with fail
  refine (pieces_any _ _ h0 h1).mono ?_
  rintro e w1 ⟨rfl, hB⟩
  have hst : (storeCells ⟨w1.heap.size, 0, none⟩ (rowOf (VM.enc n)).toList).run Try.prog (w1.alloc (.cells (rowOf []) 140)) = .ok () (rowWorld w1 (VM.enc n)) := run_storeCells_new (heap_alloc_new w1 (.cells (rowOf []) 140)) hsz
  have hsl := fun W => arr_slice W w1.heap.size (VM.enc n).length hen.2
  have hcv := row_string w1 (VM.enc n) 10
  rw [rowOf_nil] at hst
  go_wp2
  go_ret
  exact ⟨rfl, hB.trans ((rowWorld_below w1 _).mono hB.size)⟩
end Go.Proofs.Ytffdiiolgflbkaa

/- The walks of measure, join and Get. -/
namespace Go.Proofs.Ytffdiiolgflbkaa
open Go.RowKit
open Go.Lib (zigzag zigzag_lt uvarint uvarint_small uvarint_big u8_or128_any)

theorem meas_if10 {l : List UInt8} (h : VM.lead 10 l = 10) : VM.meas l = (0, 4) := by unfold VM.meas; rw [if_pos h]
theorem meas_iflen {l : List UInt8} {k : Nat} (h : VM.lead 10 l = k) (h10 : k ≠ 10) (hl : k = l.length) : VM.meas l = (0, 3) := by
  unfold VM.meas; rw [if_neg (by omega), if_pos (by omega)]
theorem meas_if9 {l : List UInt8} {k : Nat} (h : VM.lead 10 l = k) (h9 : k = 9) (hl : k < l.length) (hc : 1 < l[k].toNat) : VM.meas l = (0, 4) := by
  subst h9
  have hg : l.getD 9 0 = l[9] := by simp [List.getD, hl]
  unfold VM.meas; rw [if_neg (by omega), if_neg (by omega), if_pos ⟨h, by rw [hg]; exact hc⟩]
theorem meas_if0 {l : List UInt8} {k : Nat} (h : VM.lead 10 l = k) (h10 : k < 10) (hl : k < l.length) (h9 : ¬(k = 9 ∧ 1 < l[k].toNat)) (h0 : 0 < k) (hc : l[k].toNat = 0) : VM.meas l = (0, 4) := by
  have hg : l.getD k 0 = l[k] := by simp [List.getD, hl]
  unfold VM.meas
  rw [if_neg (by omega), if_neg (by omega), if_neg (by rintro ⟨a, b⟩; rw [h] at a; subst a; rw [hg] at b; exact h9 ⟨rfl, b⟩), if_pos ⟨by omega, by rw [h, hg]; exact hc⟩]
theorem meas_else {l : List UInt8} {k : Nat} (h : VM.lead 10 l = k) (h10 : k < 10) (hl : k < l.length) (h9 : ¬(k = 9 ∧ 1 < l[k].toNat)) (h0 : ¬(0 < k ∧ l[k].toNat = 0)) : VM.meas l = (k + 1, 0) := by
  have hg : l.getD k 0 = l[k] := by simp [List.getD, hl]
  unfold VM.meas
  rw [if_neg (by omega), if_neg (by omega), if_neg (by rintro ⟨a, b⟩; rw [h] at a; subst a; rw [hg] at b; exact h9 ⟨rfl, b⟩), if_neg (by rw [h, hg]; exact h0), h]

def MeasOut (s : ByteArray) (e : Ending) : Prop := e = .returned (.tuple #[.int .i64 (VM.meas s.data.toList).1, .int .i64 (VM.meas s.data.toList).2])

theorem measOut {s : ByteArray} {a : Nat} {b : Int} (h : VM.meas s.data.toList = (a, b)) : MeasOut s (.returned (.tuple #[.int .i64 (a : Int), .int .i64 b])) := by
  unfold MeasOut; rw [h]

set_option maxRecDepth 100000 in
theorem measure_any (s : ByteArray) (w : World) (hs : s.size ≤ 9223372036854775807) :
    Calls Try.prog 105 #[.string s] w fun e w' => MeasOut s e ∧ w = w' := by
  have hsl := size_list s
  have HSL := Lib.hid hsl
  clear hsl
  go_enter Try.func105, Try.ntmps105
  go_wp2
  go_loop [4] (fun i => ∃ k : Nat, k ≤ 10 ∧ k ≤ s.size ∧ i = .int .i64 k ∧ VM.lead 10 s.data.toList = k + VM.lead (10 - k) (s.data.toList.drop k)) (fun i => 10 - (intOf i).toNat)
  case atStart => exact ⟨0, by omega, by omega, rfl, by simp⟩
  case round =>
    obtain ⟨k, hk10, hks, rfl, hl⟩ := hrel
    have HL := Lib.hid hl
    clear hl
    by_cases h10 : k = 10
    · have HO := Lib.hid (measOut (s := s) (meas_if10 (by rw [VM.lead_stop (Or.inl h10) HL.out, h10])))
      obtain rfl : 10 = k := h10.symm
      clear HL
      by_cases hlt : 10 < s.size
      all_goals
        go_wp2
        go_ret2
        exact ⟨HO.out, rfl⟩
    have t10 : ((k : Int) == 10) = false := beq_eq_false_iff_ne.2 (by omega)
    by_cases hlen : k = s.size
    · have HO := Lib.hid (measOut (s := s) (meas_iflen (VM.lead_stop (Or.inr (Or.inl (by rw [HSL.out]; exact hlen))) HL.out) h10 (by rw [HSL.out]; exact hlen)))
      have tlen : ((k : Int) == (s.size : Int)) = true := beq_iff_eq.2 (by omega)
      have hge : s.size ≤ k := by omega
      clear hlen HL
      go_wp2
      go_ret2
      exact ⟨HO.out, rfl⟩
    have tlen : ((k : Int) == (s.size : Int)) = false := beq_eq_false_iff_ne.2 (by omega)
    have hlt : k < s.size := by omega
    have hk9 : k ≤ 9 := by omega
    clear hlen h10
    by_cases hc : 128 ≤ s[k].toNat
    · have HR := Lib.hid (VM.lead_step (l := s.data.toList) (by rw [HSL.out]; exact hlt) (by omega) hc HL.out)
      go_wp2
      go_round
      case rel => exact ⟨k + 1, by omega, by omega, by go_num, HR.out⟩
      case measure => simp [intOf]; omega
    have HS := Lib.hid (VM.lead_stop (Or.inr (Or.inr ⟨by rw [HSL.out]; exact hlt, by rw [byte_of s k hlt]; omega⟩)) HL.out)
    have HLL := Lib.hid (show k < s.data.toList.length by rw [HSL.out]; exact hlt)
    by_cases h9 : k = 9 ∧ 1 < s[k].toNat
    · have HO := Lib.hid (measOut (s := s) (meas_if9 HS.out h9.1 HLL.out h9.2))
      obtain ⟨h9', h9c⟩ := h9
      obtain rfl : 9 = k := h9'.symm
      clear HL HS
      go_wp2
      go_ret2
      exact ⟨HO.out, rfl⟩
    by_cases h0 : 0 < k ∧ s[k].toNat = 0
    · have HO := Lib.hid (measOut (s := s) (meas_if0 HS.out (by omega) HLL.out h9 h0.1 h0.2))
      obtain ⟨h0', h0c⟩ := h0
      have tz : ((s[k].toNat : Int) == 0) = true := beq_iff_eq.2 (by omega)
      have hz : s[k].toNat ≤ 0 := by omega
      by_cases h9' : k = 9
      · obtain rfl : 9 = k := h9'.symm
        clear HL HS h9 h0c
        go_wp2
        go_ret2
        exact ⟨HO.out, rfl⟩
      · have t9 : ((k : Int) == 9) = false := beq_eq_false_iff_ne.2 (by omega)
        clear HL HS h9 h0c h9'
        go_wp2
        go_ret2
        exact ⟨HO.out, rfl⟩
    have HO := Lib.hid (measOut (s := s) (meas_else HS.out (by omega) HLL.out h9 h0))
    by_cases h9' : k = 9
    · obtain rfl : 9 = k := h9'.symm
      have h1 : s[9].toNat ≤ 1 := by omega
      have tz : ((s[9].toNat : Int) == 0) = false := beq_eq_false_iff_ne.2 (by omega)
      clear HL HS h9 h0 h9'
      go_wp2
      go_ret2
      exact ⟨HO.out, rfl⟩
    · have t9 : ((k : Int) == 9) = false := beq_eq_false_iff_ne.2 (by omega)
      by_cases hk0 : k = 0
      · obtain rfl : 0 = k := hk0.symm
        clear HL HS h9 h0 h9'
        go_wp2
        go_ret2
        exact ⟨HO.out, rfl⟩
      · have tz : ((s[k].toNat : Int) == 0) = false := beq_eq_false_iff_ne.2 (by omega)
        have hkp : 0 < k := by omega
        clear HL HS h9 h0 h9' hk0
        go_wp2
        go_ret2
        exact ⟨HO.out, rfl⟩

theorem join_step (s : ByteArray) (k : Nat) (hlt : k < s.size) (hv : VM.val s.data.toList < 18446744073709551616) :
    bits .or .u64 ((VM.val (s.data.toList.take k) : Nat) : Int) (IntKind.u64.wrap ((s[k].toNat : Int) % 128 * 2 ^ (7 * k))) = ((VM.val (s.data.toList.take (k + 1)) : Nat) : Int) := by
  have hl : k < s.data.toList.length := by rw [size_list]; exact hlt
  have hle := VM.val_take_le s.data.toList (k + 1)
  have hb := VM.val_lt (s.data.toList.take k)
  have hlen : (s.data.toList.take k).length = k := by rw [List.length_take]; omega
  rw [hlen] at hb
  have hsucc := VM.val_take_succ hl
  rw [byte_of s k hlt] at hsucc
  have h := VM.or_step (u := VM.val (s.data.toList.take k)) (k := k) (m := s[k].toNat % 128) hb (by omega)
  rw [hsucc]
  exact h

theorem join_any (s : ByteArray) (w : World) (hs : s.size ≤ 10) (hv : VM.val s.data.toList < 18446744073709551616) :
    Calls Try.prog 106 #[.string s] w fun e w' => e = .returned (.int .i64 (VM.unzig (VM.val s.data.toList))) ∧ w = w' := by
  have HSL := Lib.hid (size_list s)
  go_enter Try.func106, Try.ntmps106
  go_wp2
  go_loop [3, 7] (fun u i => ∃ k : Nat, k ≤ s.size ∧ i = .int .i64 k ∧ u = .int .u64 (VM.val (s.data.toList.take k) : Nat)) (fun _ i => s.size - (intOf i).toNat)
  case atStart => exact ⟨0, by omega, rfl, rfl⟩
  case round =>
    obtain ⟨k, hk, rfl, rfl⟩ := hrel
    by_cases hlt : k < s.size
    · have HR := Lib.hid (join_step s k hlt hv)
      have hand := VM.andNot128 s[k]
      go_wp2
      go_round
      case rel => exact ⟨k + 1, by omega, by go_num, by rw [HR.out]⟩
      case measure => simp [intOf]; omega
    · have htk : s.data.toList.take k = s.data.toList := List.take_of_length_le (by rw [HSL.out]; omega)
      rw [htk]
      go_wp2_with (go_at_call 117; refine (turnBack_any _ _ hv).mono ?_; rintro e w' ⟨rfl, rfl⟩)
      go_ret
      exact ⟨rfl, rfl⟩
end Go.Proofs.Ytffdiiolgflbkaa

/- The walk of Get. -/
namespace Go.Proofs.Ytffdiiolgflbkaa
open Go.RowKit

theorem extract_rest (s : ByteArray) (a : Nat) : (s.extract a s.size).data.toList = s.data.toList.drop a := by
  rw [Lib.extract_data, List.take_of_length_le (by rw [List.length_drop, size_list]; omega)]

/-- 's[a:b]' of a text -/
theorem str_slice (W : World) (s : ByteArray) (a b : Nat) (x : Int) (hx : x = b) (h1 : a ≤ b) (h2 : b ≤ s.size) :
    (Instr.slice 9 (.string s) (some (.int .i64 (a : Int))) (some (.int .i64 x)) none).run Try.prog W = .ok (.string (s.extract a b)) W := by
  subst hx
  have i1 : (0 : Int) ≤ (a : Int) := by omega
  have i2 : (0 : Int) ≤ (b : Int) := by omega
  have i3 : (a : Int) ≤ (b : Int) := by omega
  have i4 : (b : Int) ≤ (s.size : Int) := by omega
  simp [Instr.slice, run_underlying Try.underlying9, Instr.sliceBounds, run_sliceBound, i1, i2, i3, i4]

def GetOut (s : ByteArray) (p : Int) (e : Ending) : Prop :=
  e = .returned (.tuple #[.int .i64 (VM.vget s.data.toList p).1, .int .i64 (VM.vget s.data.toList p).2.1, .int .i64 (VM.vget s.data.toList p).2.2])

theorem getOut {s : ByteArray} {p a b c : Int} (h : VM.vget s.data.toList p = (a, b, c)) : GetOut s p (.returned (.tuple #[.int .i64 a, .int .i64 b, .int .i64 c])) := by
  unfold GetOut; rw [h]

theorem vget_out {l : List UInt8} {p : Int} (h : p < 0 ∨ (l.length : Int) < p) : VM.vget l p = (0, 0, 2) := by unfold VM.vget; rw [if_pos h]
theorem vget_fault {l : List UInt8} {p : Nat} (h : p ≤ l.length) (hm : (VM.meas (l.drop p)).2 ≠ 0) : VM.vget l p = (0, 0, (VM.meas (l.drop p)).2) := by
  unfold VM.vget; rw [if_neg (by omega), Int.toNat_natCast, if_neg hm]
theorem vget_good {l : List UInt8} {p : Nat} (h : p ≤ l.length) (hm : (VM.meas (l.drop p)).2 = 0) : VM.vget l p = (VM.unzig (VM.val ((l.drop p).take (VM.meas (l.drop p)).1)), (p : Int) + (VM.meas (l.drop p)).1, 0) := by
  unfold VM.vget; rw [if_neg (by omega), Int.toNat_natCast, if_pos hm]

set_option maxRecDepth 100000 in
theorem get_any (s : ByteArray) (p : Int) (w : World) (hs : s.size ≤ 9223372036854775807) (hp0 : -9223372036854775808 ≤ p) (hp1 : p ≤ 9223372036854775807) :
    Calls Try.prog 77 #[.string s, .int .i64 p] w fun e w' => GetOut s p e ∧ w = w' := by
  have HSL := Lib.hid (size_list s)
  by_cases hneg : p < 0
  · have HO := Lib.hid (getOut (s := s) (vget_out (Or.inl hneg)))
    go_enter Try.func77, Try.ntmps77
    go_wp2
    go_ret3
    exact ⟨HO.out, rfl⟩
  by_cases hgt : (s.size : Int) < p
  · have HO := Lib.hid (getOut (s := s) (vget_out (Or.inr (by rw [HSL.out]; exact hgt))))
    have hge : 0 ≤ p := by omega
    go_enter Try.func77, Try.ntmps77
    go_wp2
    go_ret3
    exact ⟨HO.out, rfl⟩
  obtain ⟨a, rfl⟩ := Int.eq_ofNat_of_zero_le (show 0 ≤ p by omega)
  have ha : a ≤ s.size := by omega
  clear hneg hgt hp0 hp1
  have hsz : (s.extract a s.size).size ≤ 9223372036854775807 := by rw [ByteArray.size_extract]; omega
  have HE := Lib.hid (extract_rest s a)
  have hal : a ≤ s.data.toList.length := by rw [HSL.out]; exact ha
  have HAL := Lib.hid hal
  obtain ⟨m1, m2, hm⟩ : ∃ m1 m2, VM.meas (s.data.toList.drop a) = (m1, m2) := ⟨_, _, rfl⟩
  have HMc := Lib.hid (measure_any (s.extract a s.size) w hsz)
  clear hal
  by_cases h2 : m2 = 0
  · have hok := VM.meas_ok (l := s.data.toList.drop a) (by rw [hm]; exact h2)
    rw [hm, List.length_drop, HSL.out] at hok
    obtain ⟨k1, k10, kle, -, kv, -⟩ := hok
    have HO := Lib.hid (getOut (s := s) (vget_good HAL.out (by rw [hm]; exact h2)))
    rw [hm] at HO
    have hle : a + m1 ≤ s.size := by have : m1 ≤ s.size - a := kle; omega
    have hm1 : m1 ≤ 10 := k10
    have HEX : Hid ((s.extract a (a + m1)).data.toList = (s.data.toList.drop a).take m1) := by
      have h := Lib.extract_data s a (a + m1)
      rw [show a + m1 - a = m1 by omega] at h
      exact h
    have hjs : (s.extract a (a + m1)).size ≤ 10 := by rw [ByteArray.size_extract]; omega
    have hjv : VM.val (s.extract a (a + m1)).data.toList < 18446744073709551616 := by rw [HEX.out]; exact kv
    have HJ := Lib.hid (fun W => join_any (s.extract a (a + m1)) W hjs hjv)
    have hsl := fun W => str_slice W s a (a + m1) ((a : Int) + m1) (by omega) (by omega) hle
    have HM := Lib.hid hm
    clear hm kle k10 kv k1 hjs hjv
    subst h2
    go_enter Try.func77, Try.ntmps77
    go_wp2_with fail
    refine HMc.out.mono ?_
    rintro e w1 ⟨he, rfl⟩
    unfold MeasOut at he
    rw [HE.out, HM.out] at he
    subst he
    go_wp2_with fail
    refine (HJ.out _).mono ?_
    rintro e w1 ⟨rfl, rfl⟩
    rw [HEX.out]
    go_wp2
    go_ret3
    exact ⟨HO.out, rfl⟩
  · have HO := Lib.hid (getOut (s := s) (vget_fault HAL.out (by rw [hm]; exact h2)))
    rw [hm] at HO
    have HM := Lib.hid hm
    have t2 : (m2 == 0) = false := beq_eq_false_iff_ne.2 h2
    have t2' : (m2 != 0) = true := by rw [bne_iff_ne]; exact h2
    clear hm
    go_enter Try.func77, Try.ntmps77
    go_wp2_with fail
    refine HMc.out.mono ?_
    rintro e w1 ⟨he, rfl⟩
    unfold MeasOut at he
    rw [HE.out, HM.out] at he
    subst he
    go_wp2
    go_ret3
    exact ⟨HO.out, rfl⟩
end Go.Proofs.Ytffdiiolgflbkaa

