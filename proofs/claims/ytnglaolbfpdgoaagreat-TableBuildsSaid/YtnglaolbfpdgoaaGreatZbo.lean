/- Texts joined by bundle.py: Ud, Ue. -/
import Derived.Test.YtnglaolbfpdgoaaGreatZbm
import Derived.Test.YtnglaolbfpdgoaaGreatZbn
import Derived.Test.YtnglaolbfpdgoaaGreatZam
import Derived.Lib.SliceRun

/- The index of blocks, as bytes. -/
namespace Go.Proofs.YtnglaolbfpdgoaaGreat
open Go.RowKit
open SK
open TB (Bs Sp)

theorem spB_eq (s : Sp) : BK.textB s.last ++ encAll [(s.at_ : Int), (s.n : Int)] = TB.spB s := by simp [TB.spB, encAll]
theorem flat_take (ss : List Sp) (j : Nat) (h : j < ss.length) : (ss.take (j + 1)).flatMap TB.spB = (ss.take j).flatMap TB.spB ++ TB.spB ss[j] := by
  rw [List.take_succ_eq_append_getElem h, List.flatMap_append]
  simp only [List.flatMap_cons, List.flatMap_nil, List.append_nil]
theorem spB_len {s : Sp} (hw : s.wf) (h : s.last.size ≤ 64) : (TB.spB s).length ≤ 94 := by
  obtain ⟨-, h1, h2⟩ := hw
  have l1 := BK.textB_len s.last (by omega)
  have l2 := (VM.enc_len (n := (s.at_ : Int)) (by omega) (by omega)).2
  have l3 := (VM.enc_len (n := (s.n : Int)) (by omega) (by omega)).2
  unfold TB.spB
  rw [List.length_append, List.length_append]
  omega
theorem flat_len (ss : List Sp) (hw : ∀ s ∈ ss, s.wf ∧ s.last.size ≤ 64) : (ss.flatMap TB.spB).length ≤ ss.length * 94 := by
  induction ss with
  | nil => simp
  | cons s r ih =>
    have h1 := spB_len (hw s (by simp)).1 (hw s (by simp)).2
    have h2 := ih fun x hx => hw x (by simp [hx])
    rw [List.flatMap_cons, List.length_append, List.length_cons]
    omega

theorem ints_two (w : World) (a b : Int) (ha : -9223372036854775808 ≤ a ∧ a ≤ 9223372036854775807) (hb : -9223372036854775808 ≤ b ∧ b ≤ 9223372036854775807) (t : TypeId) (W : World) (g : Nat) (h : W.heap[g]? = some (.cells #[.int .i64 a, .int .i64 b] t (0, 0))) (hg : g < W.heap.size) (_ : w = w) : IntsIn W W.heap.size (some ⟨g, 0, none⟩) [a, b] := by
  refine ⟨fun z hz => ?_, fun _ => ⟨g, 0, rfl, hg, fun j hj => ?_⟩⟩
  · simp only [List.mem_cons, List.not_mem_nil, or_false] at hz
    rcases hz with rfl | rfl
    · exact ha
    · exact hb
  · rw [Nat.zero_add, cell_of_row _ _ _ _ _ _ h]
    simp only [List.length_cons, List.length_nil] at hj
    have hj2 : j = 0 ∨ j = 1 := by omega
    rcases hj2 with rfl | rfl <;> rfl

set_option maxRecDepth 100000 in
set_option maxHeartbeats 4000000 in
theorem indexOf_any (A : Option Addr) (n cap : Nat) (ss : List Sp) (w : World) (hn : ss.length = n) (hin : SpsIn w A ss) (hk : ∀ s ∈ ss, s.last.size ≤ 64) (hb : n ≤ 65536) :
    Calls Tryz.prog 55 #[.slice A n cap] w fun e w' => e = .returned (.string ⟨(TB.idx ss).toArray⟩) ∧ Below w.heap.size w w' := by
  have HIN := Lib.hid hin
  have HN := Lib.hid hn
  have HK := Lib.hid hk
  obtain ⟨N, hNN⟩ : ∃ N, VM.enc (n : Int) = N := ⟨_, rfl⟩
  have hnl := VM.enc_len (n := (n : Int)) (by omega) (by omega)
  have HP := Lib.hid (fun W => put_any (n : Int) W (by omega) (by omega))
  rw [hNN] at HP hnl
  have HID : Hid (TB.idx ss = N ++ (ss.take n).flatMap TB.spB) := Lib.hid (by unfold TB.idx; rw [hn, hNN, List.take_of_length_le (by omega)])
  have HNL := Lib.hid hnl
  obtain ⟨X, hX⟩ : ∃ X, TB.idx ss = X := ⟨_, rfl⟩
  rw [hX] at HID ⊢
  obtain ⟨B, hBB⟩ : ∃ B, w.heap.size = B := ⟨_, rfl⟩
  have HB0 : Hid (Bld B B [] (w.alloc (.cells #[.pointer none, .slice none 0 0] 100))) := Lib.hid (by rw [← hBB]; exact bld_new w)
  have HW0 : Hid (Below B w (w.alloc (.cells #[.pointer none, .slice none 0 0] 100))) := Lib.hid ((Below.refl _ _).alloc (by omega) _)
  have HS0 : Hid ((w.alloc (.cells #[.pointer none, .slice none 0 0] 100)).heap.size = B + 1) := Lib.hid (by simp; omega)
  simp only [hBB]
  clear hX hNN hnl hin hn hk
  go_enter Tryz.func55, Tryz.ntmps55
  go_wp2_with fail
  generalize w.alloc (.cells #[.pointer none, .slice none 0 0] 100) = w0 at HB0 HW0 HS0 ⊢
  refine (HP.out _).mono ?_
  rintro e w1 ⟨rfl, hb1⟩
  have HB1 := Lib.hid (HB0.out.kept hb1)
  have HW1 := Lib.hid (below_seq HW0.out hb1 (by have := HS0.out; omega))
  have HS1 : Hid (B + 1 ≤ w1.heap.size) := Lib.hid (by have := hb1.size; have := HS0.out; omega)
  clear hb1 HB0 HW0 HS0
  go_wp2_with fail
  refine (writeA_any B B [] N w1 HB1.out (by have := HNL.out; simp; omega) (by have := HS1.out; omega)).mono ?_
  rintro e w2 ⟨rfl, hbl, hb2, -⟩
  rw [List.nil_append] at hbl
  have HB2 := Lib.hid hbl
  have HW2 := Lib.hid (HW1.out.trans hb2)
  have HS2 : Hid (B + 1 ≤ w2.heap.size) := Lib.hid (by have := hb2.size; have := HS1.out; omega)
  clear hbl hb2 HB1 HW1 HS1
  go_wp2_with fail
  go_loopw [12] (fun i wr => ∃ j : Nat, j ≤ n ∧ i = .int .i64 j ∧ Bld B B (N ++ (ss.take j).flatMap TB.spB) wr ∧ Below B w wr ∧ B + 1 ≤ wr.heap.size) (fun i _ => n - (intOf i).toNat)
  case atStart => exact ⟨0, by omega, rfl, by simpa using HB2.out, HW2.out, HS2.out⟩
  case round =>
    obtain ⟨j, hj, rfl, hbld, hbel, hsz⟩ := hrel
    by_cases hlt : j < n
    · have hjs : j < ss.length := by rw [HN.out]; exact hlt
      obtain ⟨bb, off, hA, hbl, hc⟩ := (HIN.out.below (by rw [hBB]; exact hbel)).at_ (by omega)
      obtain ⟨z0, z1, z2⟩ := hc j hjs
      have HFT := Lib.hid (flat_take ss j hjs)
      have HLN : Hid (((ss.take j).flatMap TB.spB).length ≤ j * 94) := Lib.hid (by
        have h1 := flat_len (ss.take j) fun x hx => ⟨HIN.out.wf x (List.mem_of_mem_take hx), HK.out x (List.mem_of_mem_take hx)⟩
        have h2 : (ss.take j).length ≤ j := List.length_take_le _ _
        omega)
      have hwf := HIN.out.wf ss[j] (List.getElem_mem hjs)
      have hks := HK.out ss[j] (List.getElem_mem hjs)
      obtain ⟨y, hy⟩ : ∃ y, ss[j] = y := ⟨_, rfl⟩
      rw [hy] at z0 z1 z2 HFT hwf hks
      have HSE := Lib.hid (spB_eq y)
      have HSL := Lib.hid (spB_len hwf hks)
      obtain ⟨-, hw1, hw2⟩ := hwf
      subst hA
      have HBLD := Lib.hid hbld
      have HBEL := Lib.hid hbel
      have HSZ := Lib.hid hsz
      clear hbld hbel hsz hc hbl hy
      obtain ⟨ky, ay, ny⟩ := y
      simp only at z0 z1 z2 hks hw1 hw2
      generalize hG : N ++ (ss.take j).flatMap TB.spB = G at HBLD
      have HGL : Hid (G.length ≤ 10 + j * 94) := Lib.hid (by rw [← hG, List.length_append]; have := HNL.out; have := HLN.out; omega)
      have HGN : Hid (N ++ (ss.take (j + 1)).flatMap TB.spB = G ++ TB.spB ⟨ky, ay, ny⟩) := Lib.hid (by rw [HFT.out, ← hG, List.append_assoc])
      have HPT := Lib.hid (fun W => putText_any ky W (by omega))
      rw [BK.textEnc_eq] at HPT
      have hseL : (BK.textB ky).length + (encAll [(ay : Int), (ny : Int)]).length ≤ 94 := by have := HSL.out; rw [← HSE.out, List.length_append] at this; exact this
      have HSEL := Lib.hid hseL
      obtain ⟨z, hz⟩ : ∃ z, wr.heap.size = z := ⟨_, rfl⟩
      have HR0 : Hid ((wr.alloc (.cells #[.string ky, .int .i64 ay, .int .i64 ny] 81)).heap[z]? = some (.cells #[.string ky, .int .i64 ay, .int .i64 ny] 81 (0, 0))) := Lib.hid (by rw [← hz]; exact heap_alloc_new wr _)
      have HB0 : Hid (Bld B B G (wr.alloc (.cells #[.string ky, .int .i64 ay, .int .i64 ny] 81))) := Lib.hid (HBLD.out.kept ((Below.refl _ _).alloc (Nat.le_refl _) _))
      have HW0 : Hid (Below B w (wr.alloc (.cells #[.string ky, .int .i64 ay, .int .i64 ny] 81))) := Lib.hid (HBEL.out.alloc (by have := HSZ.out; omega) _)
      have HS0 : Hid ((wr.alloc (.cells #[.string ky, .int .i64 ay, .int .i64 ny] 81)).heap.size = z + 1) := Lib.hid (by simp; omega)
      have HZB : Hid (B + 1 ≤ z) := Lib.hid (by have := HSZ.out; omega)
      have e0 : (wr.alloc (.cells #[.string ky, .int .i64 ay, .int .i64 ny] 81)).cell? ⟨z, 0, none⟩ = some (.string ky) := cell_of_row _ _ _ _ _ _ HR0.out
      clear hG HBLD HBEL HSZ hseL
      go_wp2_with fail
      generalize wr.alloc (.cells #[.string ky, .int .i64 ay, .int .i64 ny] 81) = w3 at HR0 HB0 HW0 HS0 e0 ⊢
      refine (HPT.out _).mono ?_
      rintro e w4 ⟨rfl, hb4⟩
      have HB4 := Lib.hid (HB0.out.kept hb4)
      have HW4 := Lib.hid (below_seq HW0.out hb4 (by have := HS0.out; have := HZB.out; omega))
      have HR4 := Lib.hid ((hb4.block z (by have := HS0.out; omega)).trans HR0.out)
      have HS4 : Hid (z + 1 ≤ w4.heap.size) := Lib.hid (by have := hb4.size; have := HS0.out; omega)
      clear hb4 HB0 HW0 HR0 HS0 e0 z0 z1 z2
      go_wp2_with fail
      refine (writeA_any B B G (BK.textB ky) w4 HB4.out (by have := HGL.out; have := HSEL.out; omega) (by have := HS4.out; have := HZB.out; omega)).mono ?_
      rintro e w5 ⟨rfl, hbl5, hb5, ha5⟩
      have HB5 := Lib.hid hbl5
      have HW5 := Lib.hid (HW4.out.trans hb5)
      have hr5 := ha5 z _ _ _ HR4.out (by decide) (by decide)
      have HS5 : Hid (z + 1 ≤ w5.heap.size) := Lib.hid (by have := hb5.size; have := HS4.out; omega)
      have e1 : w5.cell? ⟨z, 1, none⟩ = some (.int .i64 ay) := cell_of_row _ _ _ _ _ _ hr5
      have e2 : w5.cell? ⟨z, 2, none⟩ = some (.int .i64 ny) := cell_of_row _ _ _ _ _ _ hr5
      have HIT : Hid (IntsIn (w5.alloc (.cells #[.int .i64 ay, .int .i64 ny] 2)) (w5.alloc (.cells #[.int .i64 ay, .int .i64 ny] 2)).heap.size (some ⟨w5.heap.size, 0, none⟩) [(ay : Int), (ny : Int)]) := Lib.hid (ints_two w5 _ _ ⟨by omega, by omega⟩ ⟨by omega, by omega⟩ _ _ _ (heap_alloc_new w5 _) (by simp) rfl)
      have HB6 : Hid (Bld B B (G ++ BK.textB ky) (w5.alloc (.cells #[.int .i64 ay, .int .i64 ny] 2))) := Lib.hid (HB5.out.kept ((Below.refl _ _).alloc (Nat.le_refl _) _))
      have HW6 : Hid (Below B w (w5.alloc (.cells #[.int .i64 ay, .int .i64 ny] 2))) := Lib.hid (HW5.out.alloc (by have := HS5.out; have := HZB.out; omega) _)
      have HS6 : Hid (z + 1 ≤ (w5.alloc (.cells #[.int .i64 ay, .int .i64 ny] 2)).heap.size) := Lib.hid (by have := HS5.out; simp; omega)
      clear hbl5 hb5 ha5 hr5 HB4 HW4 HR4 HS4
      go_wp2_with fail
      generalize hw6 : w5.alloc (.cells #[.int .i64 ay, .int .i64 ny] 2) = w6 at HIT HB6 HW6 HS6 ⊢
      refine (putAll_any (some ⟨w5.heap.size, 0, none⟩) 2 2 [(ay : Int), (ny : Int)] w6 rfl HIT.out (by omega)).mono ?_
      rintro e w7 ⟨rfl, hb7⟩
      have HB7 := Lib.hid (HB6.out.kept hb7)
      have HW7 := Lib.hid (below_seq HW6.out hb7 (by have := HS6.out; have := HZB.out; omega))
      have HS7 : Hid (z + 1 ≤ w7.heap.size) := Lib.hid (by have := hb7.size; have := HS6.out; omega)
      clear hb7 HB6 HW6 HS6 HIT hw6 e1 e2
      go_wp2_with fail
      refine (writeA_any B B (G ++ BK.textB ky) (encAll [(ay : Int), (ny : Int)]) w7 HB7.out (by have := HGL.out; have := HSEL.out; rw [List.length_append]; omega) (by have := HS7.out; have := HZB.out; omega)).mono ?_
      rintro e w8 ⟨rfl, hbl8, hb8, -⟩
      rw [List.append_assoc, HSE.out] at hbl8
      have HB8 := Lib.hid hbl8
      have HW8 := Lib.hid (HW7.out.trans hb8)
      have HS8 : Hid (B + 1 ≤ w8.heap.size) := Lib.hid (by have := hb8.size; have := HS7.out; have := HZB.out; omega)
      clear hbl8 hb8 HB7 HW7 HS7
      go_wp2
      go_roundw
      case rel => exact ⟨j + 1, by omega, by go_num, by rw [HGN.out]; exact HB8.out, HW8.out, HS8.out⟩
      case measure => simp [intOf]; omega
    · obtain rfl : j = n := by omega
      rw [← HID.out] at hbld
      have HST := Lib.hid (bstring_any B B X wr hbld (by rw [HID.out]; intro h; have := HNL.out.1; rw [List.append_eq_nil_iff] at h; rw [h.1] at this; simp at this))
      have HBEL := Lib.hid hbel
      clear hbld hbel hsz
      go_wp2_with fail
      refine HST.out.mono ?_
      rintro e w9 ⟨rfl, hb9⟩
      go_wp2
      go_ret
      exact ⟨rfl, HBEL.out.trans hb9⟩
end Go.Proofs.YtnglaolbfpdgoaaGreat

/- slices.Compact of texts; the keys of entries, each once. -/
namespace Go.Proofs.YtnglaolbfpdgoaaGreat
open Go.RowKit
open SK
open TB (Bs Sp)

theorem dedF_snoc : ∀ (l : List ByteArray) (p : Option ByteArray) (x : ByteArray), TB.dedF p (l ++ [x]) = TB.dedF p l ++ (if (match l.getLast? with | some y => some y | none => p) = some x then [] else [x])
  | [], p, x => by
    by_cases h : p = some x <;> simp [TB.dedF, h]
  | y :: r, p, x => by
    have h1 := dedF_snoc r p x
    have h2 := dedF_snoc r (some y) x
    simp only [List.cons_append, TB.dedF]
    by_cases hp : p = some y
    · simp only [hp, if_true]
      rw [h2]
      congr 1
      cases r with
      | nil => simp
      | cons z t => simp [List.getLast?_cons]
    · simp only [hp, if_false, List.cons_append]
      rw [h2]
      congr 2
      cases r with
      | nil => simp
      | cons z t => simp [List.getLast?_cons]

theorem ded_take (L : List ByteArray) (i : Nat) (h : i < L.length) : TB.ded (L.take (i + 1)) = TB.ded (L.take i) ++ (if 0 < i ∧ L[i - 1]? = some L[i] then [] else [L[i]]) := by
  unfold TB.ded
  rw [List.take_succ_eq_append_getElem h, dedF_snoc]
  congr 1
  cases i with
  | zero => simp
  | succ j =>
    have hl : (L.take (j + 1)).getLast? = L[j]? := by
      rw [List.getLast?_take, if_neg (by omega)]
      simp only [Nat.add_sub_cancel]
      rw [List.getElem?_eq_getElem (by omega)]
      rfl
    rw [hl]
    simp only [Nat.add_sub_cancel, Nat.zero_lt_succ, true_and]
    rw [List.getElem?_eq_getElem (by omega)]

theorem strV_set (L : List ByteArray) (j : Nat) (a : ByteArray) : (L.map fun s => Value.string s).set j (.string a) = (L.set j a).map fun s => Value.string s := by rw [List.map_set]

def strV (L : List ByteArray) : List Value := L.map fun s => .string s
theorem strV_at (L : List ByteArray) (j : Nat) (h : j < L.length) : (strV L)[j]? = some (.string L[j]) := by simp [strV, h]

theorem tail_strs (W : World) (g n k : Nat) (hk : k < n) : (Instr.slice 66 (.slice (some ⟨g, 0, none⟩) n n) (some (.int .i64 (k : Int))) none none).run Tryz.prog W = .ok (.slice (some ⟨g, k, none⟩) (n - k) (n - k)) W := by
  have hs : ∀ w, (sizeOf (Tryz.prog.elem 66)).run Tryz.prog w = .ok 1 w := fun w => by kernel_rfl
  rw [run_slice_l W 66 (some ⟨g, 0, none⟩) n n (by kernel_rfl) .i64 (k : Int) (by omega) (by omega), hs]
  simp only [Result.andThen, sliced, Int.toNat_natCast]
  split
  · omega
  · simp [add_off]
theorem head_strs (W : World) (g n k : Nat) (hk : k ≤ n) : (Instr.slice 66 (.slice (some ⟨g, 0, none⟩) n n) none (some (.int .i64 (k : Int))) none).run Tryz.prog W = .ok (.slice (some ⟨g, 0, none⟩) k n) W := by
  have hs : ∀ w, (sizeOf (Tryz.prog.elem 66)).run Tryz.prog w = .ok 1 w := fun w => by kernel_rfl
  rw [run_slice_h W 66 (some ⟨g, 0, none⟩) n n (by kernel_rfl) .i64 (k : Int) (by omega) (by omega), hs]
  simp only [Result.andThen, sliced, Int.toNat_natCast, Nat.sub_zero, Nat.zero_mul, add_zero', Option.map_id']
  split <;> rfl

theorem grown_setCells (b : Nat) : ∀ (vs : List Value) (o : Nat) (w : World), w.grownBy (w.setCells b o vs) (some b)
  | [], _, w => grown_refl w _
  | v :: vs, o, w => grown_trans (grownBy_setCell w ⟨b, o, none⟩ v) (grown_setCells b vs (o + 1) _)

/-- what Compact comes to -/
def CompOut (g n : Nat) (L : List ByteArray) (w : World) (e : Ending) (w' : World) : Prop :=
  e = .returned (.slice (some ⟨g, 0, none⟩) (TB.ded L).length n) ∧ (∀ j, (h : j < (TB.ded L).length) → w'.cell? ⟨g, j, none⟩ = some (.string (TB.ded L)[j])) ∧ w.grownBy w' (some g)

set_option maxRecDepth 100000 in
set_option maxHeartbeats 4000000 in
theorem compact_any (g n : Nat) (L : List ByteArray) (w : World) (hn : L.length = n) (hrow : B9.Lies w g 9 (strV L)) (hb : n ≤ 65536) :
    Calls Tryz.prog 94 #[.slice (some ⟨g, 0, none⟩) n n] w fun e w' => CompOut g n L w e w' := by
  have HN := Lib.hid hn
  have HROW := Lib.hid hrow
  by_cases h2 : n < 2
  · have hd : TB.ded L = L := by
      cases L with
      | nil => rfl
      | cons a r =>
        cases r with
        | nil => rfl
        | cons b t => simp at hn; omega
    have HC : Hid (∀ j, (h : j < L.length) → w.cell? ⟨g, j, none⟩ = some (.string L[j])) := Lib.hid fun j h => hrow.cell (strV_at L j h)
    unfold CompOut
    subst hn
    simp only [hd]
    have d1 : decide ((L.length : Int) < 2) = true := decide_eq_true (by omega)
    clear hrow
    go_enter Tryz.func94, Tryz.ntmps94
    go_wp2
    go_ret
    exact ⟨rfl, HC.out, grown_refl _ _⟩
  · have d1 : decide ((n : Int) < 2) = false := decide_eq_false (by omega)
    have h2' := Lib.hid h2
    clear hrow hn h2
    go_enter Tryz.func94, Tryz.ntmps94
    go_wp2_with fail
    go_loopw [3] (fun i wr => ∃ k : Nat, 1 ≤ k ∧ k ≤ n ∧ i = .int .i64 k ∧ TB.ded (L.take k) = L.take k ∧ B9.Lies wr g 9 (strV L) ∧ w.grownBy wr (some g)) (fun i _ => n - (intOf i).toNat)
    case atStart => exact ⟨1, by omega, by have := h2'.out; omega, rfl, by
      have hl0 : 0 < L.length := by rw [HN.out]; have := h2'.out; omega
      rw [ded_take L 0 hl0]
      simp [TB.ded, TB.dedF, List.take_succ_eq_append_getElem hl0], HROW.out, grown_refl _ _⟩
    case round =>
      obtain ⟨k, hk1, hk, rfl, hded, hrow, hg⟩ := hrel
      by_cases hlt : k < n
      · have hkl : k < L.length := by rw [HN.out]; exact hlt
        obtain ⟨m, hm⟩ : ∃ m, k = m + 1 := ⟨k - 1, by omega⟩
        have hml : m < L.length := by omega
        have za := hrow.cell (strV_at L k hkl)
        have zb := hrow.cell (strV_at L m hml)
        have HDT := Lib.hid (ded_take L k hkl)
        have hkm1 : L[k - 1]? = some L[m] := by rw [show k - 1 = m by omega]; exact List.getElem?_eq_getElem hml
        rw [hkm1] at HDT
        have HTK := Lib.hid (List.take_succ_eq_append_getElem hkl)
        obtain ⟨a, ha⟩ : ∃ a, L[k] = a := ⟨_, rfl⟩
        obtain ⟨b, hbb⟩ : ∃ b, L[m] = b := ⟨_, rfl⟩
        rw [ha] at za HDT HTK
        rw [hbb] at zb HDT
        have hwr : IntKind.i64.wrap ((k : Int) - 1) = (m : Int) := by rw [IntWalk.i64_in _ ⟨by omega, by omega⟩]; omega
        have g0 : (0 : Int) ≤ (k : Int) := by omega
        have g1 : (k : Int) < (n : Int) := by omega
        have g2 : (0 : Int) ≤ (m : Int) := by omega
        have g3 : (m : Int) < (n : Int) := by omega
        have HDED := Lib.hid hded
        have HROWK := Lib.hid hrow
        have HG := Lib.hid hg
        have HM := Lib.hid hm
        clear hded hrow hg hm ha hbb hkm1
        by_cases hab : a = b
        · subst hab
          have dk : (a.toList == a.toList) = true := by simp
          have HDK : Hid (TB.ded (L.take (k + 1)) = L.take k) := Lib.hid (by rw [HDT.out, if_pos ⟨by omega, rfl⟩, List.append_nil, HDED.out])
          go_wp2_with fail
          go_quiet (fail)
          generalize hq : World.drewN wr _ = w1
          have HROW1 : Hid (B9.Lies w1 g 9 (strV L)) := Lib.hid (by rw [← hq]; exact HROWK.out)
          have HG1 : Hid (w.grownBy w1 (some g)) := Lib.hid (by rw [← hq]; exact grown_drewN HG.out _)
          have hst := fun W => tail_strs W g n k hlt
          clear hq za zb
          go_wp2_with fail
          go_loopw [3, 5] (fun i q wr => ∃ (M : List ByteArray) (k1 q1 : Nat), i = .int .i64 k1 ∧ q = .int .i64 q1 ∧ 1 ≤ q1 ∧ q1 ≤ n - k ∧ M.length = n ∧ k1 = (TB.ded (L.take (k + q1))).length ∧ M.take k1 = TB.ded (L.take (k + q1)) ∧ (∀ i, k + q1 - 1 ≤ i → M[i]? = L[i]?) ∧ k1 ≤ k + q1 - 1 ∧ B9.Lies wr g 9 (strV M) ∧ w.grownBy wr (some g)) (fun _ q _ => n - (intOf q).toNat)
          case atStart => exact ⟨L, k, 1, rfl, rfl, by omega, by omega, HN.out, by rw [HDK.out, List.length_take]; omega, by rw [HDK.out], fun i _ => rfl, by omega, HROW1.out, HG1.out⟩
          case round =>
            obtain ⟨M, k1, q1, rfl, rfl, hq1, hq2, hMl, hk1, hMt, hMr, hkq, hrow, hg⟩ := hrel
            by_cases hql : q1 < n - k
            · have hkq1 : k + q1 < n := by omega
              have hkqL : k + q1 < L.length := by rw [HN.out]; exact hkq1
              have hkqM : k + q1 < M.length := by rw [hMl]; exact hkq1
              obtain ⟨m1, hm1⟩ : ∃ m1, q1 = m1 + 1 := ⟨q1 - 1, by omega⟩
              have hmL : k + m1 < L.length := by omega
              have hmM : k + m1 < M.length := by omega
              have za := hrow.cell (strV_at M (k + q1) hkqM)
              have zb := hrow.cell (strV_at M (k + m1) hmM)
              have ea : M[k + q1] = L[k + q1] := by
                have := hMr (k + q1) (by omega)
                rw [List.getElem?_eq_getElem hkqM, List.getElem?_eq_getElem hkqL] at this
                exact Option.some.inj this
              have eb : M[k + m1] = L[k + m1] := by
                have := hMr (k + m1) (by omega)
                rw [List.getElem?_eq_getElem hmM, List.getElem?_eq_getElem hmL] at this
                exact Option.some.inj this
              rw [ea] at za
              rw [eb] at zb
              have HDQ := Lib.hid (ded_take L (k + q1) hkqL)
              have hpm : L[k + q1 - 1]? = some L[k + m1] := by rw [show k + q1 - 1 = k + m1 by omega]; exact List.getElem?_eq_getElem hmL
              rw [hpm] at HDQ
              obtain ⟨x, hx⟩ : ∃ x, L[k + q1] = x := ⟨_, rfl⟩
              obtain ⟨y, hy⟩ : ∃ y, L[k + m1] = y := ⟨_, rfl⟩
              rw [hx] at za HDQ
              rw [hy] at zb HDQ
              have hw1 : IntKind.i64.wrap ((q1 : Int) - 1) = (m1 : Int) := by rw [IntWalk.i64_in _ ⟨by omega, by omega⟩]; omega
              have u0 : (0 : Int) ≤ (q1 : Int) := by omega
              have u1 : (q1 : Int) < ((n - k : Nat) : Int) := by omega
              have u2 : (0 : Int) ≤ (m1 : Int) := by omega
              have u3 : (m1 : Int) < ((n - k : Nat) : Int) := by omega
              obtain ⟨nk, hnk⟩ : ∃ nk, n - k = nk := ⟨_, rfl⟩
              rw [hnk] at u1 u3 hq2 ⊢
              have HNK := Lib.hid hnk
              have HROWM := Lib.hid hrow
              have HGM := Lib.hid hg
              have HMR := Lib.hid hMr
              have HMT := Lib.hid hMt
              have HMLL := Lib.hid hMl
              have HK1 := Lib.hid hk1
              have HM1 := Lib.hid hm1
              have hk1n : k1 < n := by omega
              clear hrow hg hMr hMt hMl hk1 ea eb hx hy hpm hnk hm1
              by_cases hxy : x = y
              · subst hxy
                have dk : (x.toList == x.toList) = true := by simp
                have dk' : (x.toList != x.toList) = false := by simp
                have HDR : Hid (TB.ded (L.take (k + (q1 + 1))) = TB.ded (L.take (k + q1))) := Lib.hid (by rw [← Nat.add_assoc, HDQ.out, if_pos ⟨by omega, rfl⟩, List.append_nil])
                go_wp2_with fail
                go_quiet (fail)
                go_wp2
                go_roundw
                case rel => exact ⟨M, k1, q1 + 1, rfl, by go_num, by omega, by have := HNK.out; omega, HMLL.out, by rw [HDR.out]; exact HK1.out, by rw [HDR.out]; exact HMT.out, fun i hi => HMR.out i (by omega), by omega, HROWM.out, grown_drewN HGM.out _⟩
                case measure => simp [intOf]; omega
              · have dk : (x.toList == y.toList) = false := by rw [text_eq]; exact decide_eq_false hxy
                have dk' : (x.toList != y.toList) = true := by simp only [bne, dk]; rfl
                have HDR : Hid (TB.ded (L.take (k + (q1 + 1))) = TB.ded (L.take (k + q1)) ++ [x]) := Lib.hid (by rw [← Nat.add_assoc, HDQ.out, if_neg (fun h => hxy (Option.some.inj h.2).symm)])
                have f1 : wr.frozen? ⟨g, k1, none⟩ = false := HROWM.out.frozen k1
                have ck : wr.cell? ⟨g, k1, none⟩ = some (.string (M[k1]'(by have := HMLL.out; omega))) := HROWM.out.cell (strV_at M k1 (by have := HMLL.out; omega))
                have v0 : (0 : Int) ≤ (k1 : Int) := by omega
                have v1 : (k1 : Int) < (n : Int) := by omega
                have HSET : Hid (∀ nq, B9.Lies ((wr.drewN nq).setCell ⟨g, k1, none⟩ (.string x)) g 9 (strV (M.set k1 x))) := Lib.hid fun nq => by
                  have := (B9.Lies.drewN HROWM.out nq).set k1 (.string x)
                  unfold strV at this ⊢
                  rw [strV_set] at this
                  exact this
                have HTK2 : Hid ((M.set k1 x).take (k1 + 1) = TB.ded (L.take (k + q1)) ++ [x]) := Lib.hid (by
                  have hl : k1 < (M.set k1 x).length := by rw [List.length_set]; have := HMLL.out; omega
                  rw [List.take_succ_eq_append_getElem hl, List.getElem_set_self, List.take_set_of_le (Nat.le_refl _), HMT.out])
                go_wp2_with fail
                go_quiet (fail)
                go_wp2
                go_roundw
                case rel => exact ⟨M.set k1 x, k1 + 1, q1 + 1, by go_num, by go_num, by omega, by have := HNK.out; omega, by rw [List.length_set]; exact HMLL.out, by rw [HDR.out, List.length_append]; have := HK1.out; simp; omega, by rw [HDR.out]; exact HTK2.out, fun i hi => by rw [List.getElem?_set_ne (by omega)]; exact HMR.out i (by omega), by omega, HSET.out _, grown_set (grown_drewN HGM.out _) _ _⟩
                case measure => simp [intOf]; omega
            · have hqe : k + q1 = n := by omega
              have hkn : k1 < n := by omega
              rw [hqe, List.take_of_length_le (l := L) (i := n) (by rw [HN.out]; exact Nat.le_refl _)] at hk1 hMt
              have hst := fun W => tail_strs W g n k1 hkn
              have hsh := fun W => head_strs W g n k1 (by omega)
              have hclr : ∀ ty, (Builtin.clear_ #[66] ty #[.slice (some ⟨g, k1, none⟩) (n - k1) (n - k1)]).run Tryz.prog wr = .ok (.tuple #[]) (wr.setCells g k1 (List.replicate (n - k1) (.string ⟨#[]⟩))) := fun ty =>
                Lib.run_clear_slice wr 66 9 ty (.string ⟨#[]⟩) Tryz.underlying66 (fun W => by kernel_rfl) rfl rfl g k1 (n - k1) (n - k1) (by omega)
                  (fun j hj => by rw [hrow.cell (strV_at M (k1 + j) (by omega))]; rfl) (fun j _ => hrow.frozen _)
              have HRES : Hid (∀ j, (h : j < (TB.ded L).length) → (wr.setCells g k1 (List.replicate (n - k1) (.string ⟨#[]⟩))).cell? ⟨g, j, none⟩ = some (.string (TB.ded L)[j])) := Lib.hid fun j hj => by
                rw [World.cell?_setCells_out _ _ _ _ _ (fun _ _ => Or.inl (by show j < k1; omega)), hrow.cell (strV_at M j (by omega))]
                congr 2
                have h1 : (M.take k1)[j]? = (TB.ded L)[j]? := by rw [hMt]
                rw [List.getElem?_take_of_lt (by omega), List.getElem?_eq_getElem (by omega), List.getElem?_eq_getElem hj] at h1
                exact Option.some.inj h1
              have HG2 : Hid (w.grownBy (wr.setCells g k1 (List.replicate (n - k1) (.string ⟨#[]⟩))) (some g)) := Lib.hid (grown_trans hg (grown_setCells _ _ _ _))
              have HK1 := Lib.hid hk1
              clear hrow hg hMr hMt hMl hk1 hqe
              go_wp2
              go_ret
              exact ⟨by rw [← HK1.out]; rfl, HRES.out, HG2.out⟩
        · have dk : (a.toList == b.toList) = false := by rw [text_eq]; exact decide_eq_false hab
          have HDK : Hid (TB.ded (L.take (k + 1)) = L.take (k + 1)) := Lib.hid (by rw [HDT.out, if_neg (fun h => hab (Option.some.inj h.2).symm), HDED.out, HTK.out])
          go_wp2_with fail
          go_quiet (fail)
          go_wp2
          go_roundw
          case rel => exact ⟨k + 1, by omega, by omega, by go_num, HDK.out, HROWK.out, grown_drewN HG.out _⟩
          case measure => simp [intOf]; omega
      · have hkn : k = n := by omega
        rw [hkn, List.take_of_length_le (l := L) (i := n) (by rw [HN.out]; exact Nat.le_refl _)] at hded
        have HC : Hid (∀ j, (h : j < L.length) → wr.cell? ⟨g, j, none⟩ = some (.string L[j])) := Lib.hid fun j h => hrow.cell (strV_at L j h)
        have HG := Lib.hid hg
        have HD := Lib.hid hded
        clear hrow hg hded
        go_wp2
        go_ret
        unfold CompOut
        simp only [HD.out]
        exact ⟨by rw [HN.out]; rfl, HC.out, HG.out⟩
end Go.Proofs.YtnglaolbfpdgoaaGreat

