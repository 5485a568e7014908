/- Texts joined by bundle.py: FSum, FHead, FMeas. -/
import Derived.Test.YtnglaolbfpdgoaaGreatZaa
import Derived.Test.YtnglaolbfpdgoaaGreatZah
import Derived.Laws.BitsAllLaws
import Derived.Deep.QuietTactic
import Derived.BigQuiet

/- The walks of Sum: the code's, and the document's. -/
namespace Go.Proofs.YtnglaolbfpdgoaaGreat.F3
open Go.RowKit

theorem reg_and1 (a : Nat) (ha : a < 4294967296) : bits .and .u32 (a : Int) 1 = ((a % 2 : Nat) : Int) := by
  have h := u32_and_nat a 1 ha (by decide)
  rw [Nat.and_one_is_mod] at h
  exact h

theorem reg_poly (a : Nat) (ha : a < 4294967296) : bits .xor .u32 ((a : Int) / 2) 3988292384 = ((a / 2 ^^^ 3988292384 : Nat) : Int) := by
  have h := u32_xor_nat (a / 2) 3988292384 (by omega) (by decide)
  rw [← h]
  rw [Int.natCast_ediv]
  rfl

theorem xor_ones32 (b : Nat) (hb : b < 2 ^ 32) : (2 ^ 32 - 1) ^^^ b = 2 ^ 32 - 1 - b := by
  apply Nat.eq_of_testBit_eq
  intro i
  rw [Nat.testBit_xor, Nat.testBit_two_pow_sub_one, show 2 ^ 32 - 1 - b = 2 ^ 32 - (b + 1) by omega, Nat.testBit_two_pow_sub_succ hb]
  by_cases hi : i < 32
  · simp [hi]
  · have : b.testBit i = false := Nat.testBit_lt_two_pow (Nat.lt_of_lt_of_le hb (Nat.pow_le_pow_right (by decide) (by omega)))
    simp [hi, this]

theorem reg_not (a : Nat) (ha : a < 4294967296) : bits .xor .u32 IntKind.u32.max (a : Int) = ((4294967295 - a : Nat) : Int) := by
  have e : IntKind.u32.max = ((4294967295 : Nat) : Int) := by decide
  rw [e, u32_xor_nat _ a (by decide) ha]
  exact congrArg (fun n : Nat => (n : Int)) (xor_ones32 a (by omega))

set_option maxRecDepth 100000 in
theorem sum_any (s : ByteArray) (w : World) (hs : s.size ≤ 9223372036854775807) :
    Calls Tryz.prog 99 #[.string s] w fun e w' => e = .returned (.int .u32 (FM.sum s.data.toList : Nat)) ∧ w = w' := by
  have HSL := Lib.hid (size_list s)
  go_enter Tryz.func99, Tryz.ntmps99
  go_wp2
  go_loop [3, 8] (fun r i => ∃ (k R : Nat), k ≤ s.size ∧ i = .int .i64 k ∧ r = .int .u32 R ∧ R < 4294967296 ∧ Hid (FM.reg (s.data.toList.take k) = R)) (fun _ i => s.size - (intOf i).toNat)
  case atStart => exact ⟨0, 4294967295, by omega, rfl, rfl, by omega, Lib.hid rfl⟩
  case round =>
    obtain ⟨k, R, hk, rfl, rfl, hR, HR⟩ := hrel
    by_cases hlt : k < s.size
    · have hst := FM.reg_snoc s.data.toList k (by rw [HSL.out]; exact hlt)
      rw [byte_of s k hlt, HR.out] at hst
      obtain ⟨c, hc⟩ : ∃ c, s[k] = c := ⟨_, rfl⟩
      rw [hc] at hst
      have hcl := c.toNat_lt
      have hx := u32_xor_nat R c.toNat hR (by omega)
      have hxl := FM.xor_byte_lt hR c
      unfold FM.byte at hst
      obtain ⟨X, hX⟩ : ∃ X, R ^^^ c.toNat = X := ⟨_, rfl⟩
      rw [hX] at hx hxl hst
      have HST := Lib.hid hst
      have HC : Hid ((s[k].toNat : Int) % 4294967296 = (c.toNat : Int)) := by rw [hc]; exact Lib.hid (by omega)
      clear hst hX hc HR
      go_wp2
      go_loop [3, 17] (fun r i => ∃ (j Y : Nat), j ≤ 8 ∧ i = .int .i64 j ∧ r = .int .u32 Y ∧ Y < 4294967296 ∧ Hid (FM.turns j X = Y)) (fun _ i => 8 - (intOf i).toNat)
      case atStart => exact ⟨0, X, by omega, rfl, by rw [HC.out, hx], hxl, Lib.hid rfl⟩
      case round =>
        obtain ⟨j, Y, hj, rfl, rfl, hY, HY⟩ := hrel
        by_cases hj8 : j < 8
        · have ha := reg_and1 Y hY
          have hp := reg_poly Y hY
          have htl : FM.turns (j + 1) X = FM.turn Y := by rw [← HY.out]; rfl
          have htlt := FM.turn_lt hY
          by_cases hodd : Y % 2 = 1
          · have ht : FM.turn Y = Y / 2 ^^^ 3988292384 := by unfold FM.turn; rw [if_pos hodd]
            rw [hodd] at ha
            rw [ht] at htlt htl
            have HTL := Lib.hid htl
            clear htl ht
            go_wp2
            go_round
            case rel => exact ⟨j + 1, _, by omega, by go_num, by first | rfl | rw [hp], htlt, HTL⟩
            case measure => simp [intOf]; omega
          · have ht : FM.turn Y = Y / 2 := by unfold FM.turn; rw [if_neg hodd]
            have h0 : Y % 2 = 0 := by omega
            rw [h0] at ha
            rw [ht] at htlt htl
            have HTL := Lib.hid htl
            clear htl ht
            go_wp2
            go_round
            case rel => exact ⟨j + 1, _, by omega, by go_num, by rw [Int.natCast_ediv]; rfl, htlt, HTL⟩
            case measure => simp [intOf]; omega
        · obtain rfl : j = 8 := by omega
          have HR2 : Hid (FM.reg (s.data.toList.take (k + 1)) = Y) := by rw [HST.out]; exact HY
          go_wp2
          go_round
          case rel => exact ⟨k + 1, Y, by omega, by go_num, rfl, hY, HR2⟩
          case measure => simp [intOf]; omega
    · have htk : s.data.toList.take k = s.data.toList := List.take_of_length_le (by rw [HSL.out]; omega)
      rw [htk] at HR
      have hn := reg_not R hR
      have HS : Hid (FM.sum s.data.toList = 4294967295 - R) := by unfold FM.sum; rw [HR.out]; exact Lib.hid rfl
      go_wp2
      go_ret
      exact ⟨by rw [HS.out]; first | rfl | exact ret_int hn, rfl⟩
set_option maxRecDepth 100000 in
theorem rsum_any (s : ByteArray) (w : World) (hs : s.size ≤ 9223372036854775807) :
    Calls Tryz.prog 73 #[.string s] w fun e w' => e = .returned (.int .u32 (FM.sum s.data.toList : Nat)) ∧ w = w' := by
  have HSL := Lib.hid (size_list s)
  go_enter Tryz.func73, Tryz.ntmps73
  go_wp2
  go_loop [3, 4] (fun r i => ∃ (k R : Nat), k ≤ s.size ∧ i = .int .i64 k ∧ r = .int .u32 R ∧ R < 4294967296 ∧ Hid (FM.reg (s.data.toList.take k) = R)) (fun _ i => s.size - (intOf i).toNat)
  case atStart => exact ⟨0, 4294967295, by omega, rfl, rfl, by omega, Lib.hid rfl⟩
  case round =>
    obtain ⟨k, R, hk, rfl, rfl, hR, HR⟩ := hrel
    by_cases hlt : k < s.size
    · have hst := FM.reg_snoc s.data.toList k (by rw [HSL.out]; exact hlt)
      rw [byte_of s k hlt, HR.out] at hst
      obtain ⟨c, hc⟩ : ∃ c, s[k] = c := ⟨_, rfl⟩
      rw [hc] at hst
      have hcl := c.toNat_lt
      have hx := u32_xor_nat R c.toNat hR (by omega)
      have hxl := FM.xor_byte_lt hR c
      unfold FM.byte at hst
      obtain ⟨X, hX⟩ : ∃ X, R ^^^ c.toNat = X := ⟨_, rfl⟩
      rw [hX] at hx hxl hst
      have HST := Lib.hid hst
      have HC : Hid ((s[k].toNat : Int) % 4294967296 = (c.toNat : Int)) := by rw [hc]; exact Lib.hid (by omega)
      clear hst hX hc HR
      go_wp2
      go_loop [3, 5] (fun r i => ∃ (j Y : Nat), j ≤ 8 ∧ i = .int .i64 j ∧ r = .int .u32 Y ∧ Y < 4294967296 ∧ Hid (FM.turns j X = Y)) (fun _ i => 8 - (intOf i).toNat)
      case atStart => exact ⟨0, X, by omega, rfl, by rw [HC.out, hx], hxl, Lib.hid rfl⟩
      case round =>
        obtain ⟨j, Y, hj, rfl, rfl, hY, HY⟩ := hrel
        by_cases hj8 : j < 8
        · have ha := reg_and1 Y hY
          have hp := reg_poly Y hY
          have htl : FM.turns (j + 1) X = FM.turn Y := by rw [← HY.out]; rfl
          have htlt := FM.turn_lt hY
          by_cases hodd : Y % 2 = 1
          · have ht : FM.turn Y = Y / 2 ^^^ 3988292384 := by unfold FM.turn; rw [if_pos hodd]
            have t1 : ((Y : Int) % 2 == 1) = true := beq_iff_eq.2 (by omega)
            rw [ht] at htlt htl
            have HTL := Lib.hid htl
            clear htl ht
            go_wp2
            go_round
            case rel => exact ⟨j + 1, _, by omega, by go_num, by first | rfl | rw [hp], htlt, HTL⟩
            case measure => simp [intOf]; omega
          · have ht : FM.turn Y = Y / 2 := by unfold FM.turn; rw [if_neg hodd]
            have h0 : Y % 2 = 0 := by omega
            have t1 : ((Y : Int) % 2 == 1) = false := beq_eq_false_iff_ne.2 (by omega)
            rw [ht] at htlt htl
            have HTL := Lib.hid htl
            clear htl ht
            go_wp2
            go_round
            case rel => exact ⟨j + 1, _, by omega, by go_num, by rw [Int.natCast_ediv]; rfl, htlt, HTL⟩
            case measure => simp [intOf]; omega
        · obtain rfl : j = 8 := by omega
          have HR2 : Hid (FM.reg (s.data.toList.take (k + 1)) = Y) := by rw [HST.out]; exact HY
          go_wp2
          go_round
          case rel => exact ⟨k + 1, Y, by omega, by go_num, rfl, hY, HR2⟩
          case measure => simp [intOf]; omega
    · have htk : s.data.toList.take k = s.data.toList := List.take_of_length_le (by rw [HSL.out]; omega)
      rw [htk] at HR
      have hn : (4294967295 : Int) - (R : Int) = ((4294967295 - R : Nat) : Int) := by omega
      have HS : Hid (FM.sum s.data.toList = 4294967295 - R) := by unfold FM.sum; rw [HR.out]; exact Lib.hid rfl
      go_wp2
      go_ret
      exact ⟨by rw [HS.out]; first | rfl | exact ret_int hn, rfl⟩
end Go.Proofs.YtnglaolbfpdgoaaGreat.F3

/- The walks of head and Put, of the document's Put. -/
namespace Go.Proofs.YtnglaolbfpdgoaaGreat.F3
open Go.RowKit

set_option maxRecDepth 100000 in
theorem u8_not_fin : ∀ a : Fin 256, bits .xor .u8 IntKind.u8.max (a.val : Int) = ((255 - a.val : Nat) : Int) := by decide +kernel

theorem u8_not (a : Nat) (ha : a < 256) : bits .xor .u8 IntKind.u8.max (a : Int) = ((255 - a : Nat) : Int) := u8_not_fin ⟨a, ha⟩

def row8 (l : List UInt8) : Array Value := (Lib.byteCells (FM.head l)).toArray

/-- the head's bytes as the code computes them -/
theorem row8_of (l : List UInt8) (n c : Nat) (hn : l.length = n) (hc : FM.sum l = c) (hs : n ≤ 65535) (hcl : c < 4294967296) :
    row8 l = #[.int .u8 ((n : Int) / 256), .int .u8 ((n : Int) % 256), .int .u8 (255 - (n : Int) / 256), .int .u8 (255 - (n : Int) % 256),
      .int .u8 ((c : Int) / 16777216), .int .u8 ((c : Int) / 65536 % 256), .int .u8 ((c : Int) / 256 % 256), .int .u8 ((c : Int) % 256)] := by
  subst hn hc
  unfold row8 FM.head
  simp only [Lib.byteCells, List.map_cons, List.map_nil]
  rw [byte_toNat _ (by omega), byte_toNat _ (by omega), byte_toNat _ (by omega), byte_toNat _ (by omega), byte_toNat _ (by omega), byte_toNat _ (by omega), byte_toNat _ (by omega), byte_toNat _ (by omega)]
  have e1 : ((255 - l.length / 256 : Nat) : Int) = 255 - (l.length : Int) / 256 := by omega
  have e2 : ((255 - l.length % 256 : Nat) : Int) = 255 - (l.length : Int) % 256 := by omega
  rw [e1, e2]
  rfl

set_option maxRecDepth 100000 in
theorem head_any (s : ByteArray) (w : World) (hs : s.size ≤ 65535) :
    Calls Tryz.prog 85 #[.string s] w fun e w' => e = .returned (.agg (row8 s.data.toList)) ∧ Below w.heap.size w w' := by
  have hsl := FM.sum_lt s.data.toList
  have HS := Lib.hid (fun W => sum_any s W (by omega))
  have hrow := fun c hc hcl => row8_of s.data.toList s.size c (size_list s) hc hs hcl
  obtain ⟨c, hc⟩ : ∃ c, FM.sum s.data.toList = c := ⟨_, rfl⟩
  rw [hc] at hsl HS
  have HROW := Lib.hid (hrow c hc hsl)
  have e1 : (s.size : Int) / 256 = ((s.size / 256 : Nat) : Int) := by omega
  have e2 : (s.size : Int) % 256 = ((s.size % 256 : Nat) : Int) := by omega
  have n1 : bits .xor .u8 IntKind.u8.max ((s.size : Int) / 256) = 255 - (s.size : Int) / 256 := by rw [e1, u8_not _ (by omega)]; omega
  have n2 : bits .xor .u8 IntKind.u8.max ((s.size : Int) % 256) = 255 - (s.size : Int) % 256 := by rw [e2, u8_not _ (by omega)]; omega
  clear hrow hc e1 e2
  go_enter Tryz.func85, Tryz.ntmps85
  go_wp2_with fail
  refine (HS.out _).mono ?_
  rintro e w1 ⟨rfl, rfl⟩
  go_wp2
  rw [HROW.out]
  exact bodyPost_ret (v := .agg _) (by simp [results, Tryz.results85, go_sem]) rfl ⟨rfl, (Below.refl _ _).alloc (Nat.le_refl _) _⟩

theorem frame_str (s : ByteArray) : (⟨(FM.head s.data.toList).toArray⟩ : ByteArray) ++ s = ⟨(FM.frame s.data.toList).toArray⟩ := by
  apply str_ext
  simp [FM.frame]

/-- what Put comes to -/
def putOut (s : ByteArray) : Value := if 65535 < s.size then .tuple #[.string ⟨#[]⟩, .int .i64 5] else .tuple #[.string ⟨(FM.frame s.data.toList).toArray⟩, .int .i64 0]

theorem putOut_long {s : ByteArray} (h : 65535 < s.size) : putOut s = .tuple #[.string ⟨#[]⟩, .int .i64 5] := by unfold putOut; rw [if_pos h]
theorem putOut_good {s : ByteArray} (h : s.size ≤ 65535) : putOut s = .tuple #[.string ⟨(FM.frame s.data.toList).toArray⟩, .int .i64 0] := by unfold putOut; rw [if_neg (by omega)]

/-- a new array with a head's bytes -/
theorem row8_bytes (W : World) (g : Nat) (t : TypeId) (fr : Nat × Nat) (l : List UInt8) (h : W.heap[g]? = some (.cells (row8 l) t fr)) : Lib.Bytes W g 0 ⟨(FM.head l).toArray⟩ := by
  intro i hi
  have hi' : i < (FM.head l).length := by simpa [ByteArray.size] using hi
  rw [Nat.zero_add, cell_of_row _ _ _ _ _ _ h]
  unfold row8
  simp only [List.getElem?_toArray, Lib.byteCells, List.getElem?_map, List.getElem?_eq_getElem hi', Option.map_some]
  rfl

theorem arr_slice8 (W : World) (g : Nat) : (Instr.sliceAt 140 (.pointer (some ⟨g, 0, none⟩)) none none none).run Tryz.prog W = .ok (.slice (some ⟨g, 0, none⟩) 8 8) W := by
  have hal : Tryz.prog.arrayLen 140 = 8 := by kernel_rfl
  have hs : ∀ w, (sizeOf (Tryz.prog.elem 140)).run Tryz.prog w = .ok 1 w := fun w => by kernel_rfl
  rw [run_sliceAt_array_all W 140 ⟨g, 0, none⟩ (by kernel_rfl), hs, hal]
  simp [Result.andThen, slicedAt, Addr.add]

def zero8 : Array Value := #[.int .u8 0, .int .u8 0, .int .u8 0, .int .u8 0, .int .u8 0, .int .u8 0, .int .u8 0, .int .u8 0]

theorem row8_size (l : List UInt8) : (row8 l).size = 8 := rfl

theorem row8_one (l : List UInt8) : (row8 l).all (·.oneCell') = true := by
  unfold row8
  rw [Array.all_eq_true_iff_forall_mem]
  intro x hx
  simp only [Lib.byteCells, List.mem_toArray, List.mem_map] at hx
  obtain ⟨c, _, rfl⟩ := hx
  rfl

/-- a new array that a head's bytes were stored into -/
def rowWorld (w : World) (l : List UInt8) : World := (w.alloc (.cells zero8 140)).setRow w.heap.size (row8 l)

theorem run_store8 (w : World) (l : List UInt8) : (storeCells ⟨w.heap.size, 0, none⟩ (row8 l).toList).run Tryz.prog (w.alloc (.cells zero8 140)) = .ok () (rowWorld w l) := by
  have h := run_storeCells_from (P := Tryz.prog) w.heap.size 140 (row8 l).toList 0 zero8 _ (heap_alloc_new w _) (by simp [row8_size, zero8]) (fun v hv => (Array.all_eq_true_iff_forall_mem.1 (row8_one l)) v (by simpa using hv))
  have e : ((zero8.toList.take 0 ++ (row8 l).toList ++ zero8.toList.drop (0 + (row8 l).toList.length)).toArray) = row8 l := by
    simp [row8_size, zero8]
  simpa [rowWorld, row8_size, zero8] using h

theorem rowWorld_row (w : World) (l : List UInt8) : (rowWorld w l).heap[w.heap.size]? = some (.cells (row8 l) 140 (0, 0)) :=
  setRow_heap _ _ _ _ _ _ (heap_alloc_new w (.cells zero8 140))

theorem rowWorld_below (w : World) (l : List UInt8) : Below w.heap.size w (rowWorld w l) :=
  below_setRow ((Below.refl _ _).alloc (Nat.le_refl _) _) (Nat.le_refl _)

theorem row_string (W : World) (g : Nat) (t : TypeId) (fr : Nat × Nat) (l : List UInt8) (h : W.heap[g]? = some (.cells (row8 l) t fr)) :
    (convert 98 9 (.slice (some ⟨g, 0, none⟩) 8 8)).run Tryz.prog W = .ok (.string ⟨(FM.head l).toArray⟩) W :=
  Lib.run_convert_whole W 98 5 9 Tryz.underlying98 Tryz.underlying5 Tryz.underlying9 g 0 ⟨(FM.head l).toArray⟩ (row8_bytes _ _ _ _ _ h) 8

set_option maxRecDepth 100000 in
theorem put_any (s : ByteArray) (w : World) (hs : s.size ≤ 9223372036854775807) :
    Calls Tryz.prog 50 #[.string s] w fun e w' => e = .returned (putOut s) ∧ Below w.heap.size w w' := by
  by_cases hlong : 65535 < s.size
  · have HO := Lib.hid (putOut_long hlong)
    go_enter Tryz.func50, Tryz.ntmps50
    go_wp2
    go_ret2
    exact ⟨by rw [HO.out]; rfl, Below.refl _ _⟩
  · have HO := Lib.hid (putOut_good (s := s) (by omega))
    have HH := Lib.hid (fun W => head_any s W (by omega))
    have HF := Lib.hid (frame_str s)
    go_enter Tryz.func50, Tryz.ntmps50
    go_wp2_with fail
    refine (HH.out _).mono ?_
    rintro e w1 ⟨rfl, hB⟩
    have hst := run_store8 w1 s.data.toList
    unfold zero8 at hst
    have hsl := fun W => arr_slice8 W w1.heap.size
    have hcv := row_string (rowWorld w1 s.data.toList) _ _ _ s.data.toList (rowWorld_row w1 _)
    have hh8 : (FM.head s.data.toList).length = 8 := FM.head_len _
    have HB := Lib.hid (hB.trans ((rowWorld_below w1 s.data.toList).mono hB.size))
    obtain ⟨h8, hh⟩ : ∃ h8, (⟨(FM.head s.data.toList).toArray⟩ : ByteArray) = h8 := ⟨_, rfl⟩
    have hl8 : h8.size = 8 := by rw [← hh]; rfl
    rw [hh] at hcv HF
    have n1 : ¬ 9223372036854775807 < h8.size + s.size := by omega
    clear hh8 hB
    go_wp2
    go_ret2
    exact ⟨by rw [HO.out, ← HF.out]; rfl, HB.out⟩

set_option maxRecDepth 100000 in
theorem rput_any (s : ByteArray) (w : World) (hs : s.size ≤ 9223372036854775807) :
    Calls Tryz.prog 62 #[.string s] w fun e w' => e = .returned (putOut s) ∧ Below w.heap.size w w' := by
  by_cases hlong : 65535 < s.size
  · have HO := Lib.hid (putOut_long hlong)
    go_enter Tryz.func62, Tryz.ntmps62
    go_wp2
    go_ret2
    exact ⟨by rw [HO.out]; rfl, Below.refl _ _⟩
  · have HO := Lib.hid (putOut_good (s := s) (by omega))
    have hsl := FM.sum_lt s.data.toList
    have HS := Lib.hid (fun W => rsum_any s W (by omega))
    have hrow := fun c hc hcl => row8_of s.data.toList s.size c (size_list s) hc (by omega) hcl
    have HF := Lib.hid (frame_str s)
    obtain ⟨c, hc⟩ : ∃ c, FM.sum s.data.toList = c := ⟨_, rfl⟩
    rw [hc] at hsl HS
    have hcv := row_string (w.alloc (.cells (row8 s.data.toList) 5)) _ _ _ s.data.toList (heap_alloc_new w _)
    rw [hrow c hc hsl] at hcv
    obtain ⟨h8, hh⟩ : ∃ h8, (⟨(FM.head s.data.toList).toArray⟩ : ByteArray) = h8 := ⟨_, rfl⟩
    have hl8 : h8.size = 8 := by rw [← hh]; rfl
    rw [hh] at hcv HF
    have n1 : ¬ 9223372036854775807 < h8.size + s.size := by omega
    clear hrow hc hh
    go_enter Tryz.func62, Tryz.ntmps62
    go_wp2_with fail
    refine (HS.out _).mono ?_
    rintro e w1 ⟨rfl, rfl⟩
    go_wp2
    go_ret2
    exact ⟨by rw [HO.out, ← HF.out]; rfl, (Below.refl _ _).alloc (Nat.le_refl _) _⟩
end Go.Proofs.YtnglaolbfpdgoaaGreat.F3

/- The walk of measure. -/
namespace Go.Proofs.YtnglaolbfpdgoaaGreat.F3
open Go.RowKit

def measOut (s : ByteArray) : Value := .tuple #[.int .i64 ((FM.meas s.data.toList).1 : Nat), .int .i64 (FM.meas s.data.toList).2]

theorem measOut_of {s : ByteArray} {a : Nat} {b : Int} (h : FM.meas s.data.toList = (a, b)) : measOut s = .tuple #[.int .i64 (a : Int), .int .i64 b] := by
  unfold measOut; rw [h]

theorem at_of (s : ByteArray) (i : Nat) (h : i < s.size) : FM.at_ s.data.toList i = s[i].toNat := by
  unfold FM.at_
  rw [List.getD_eq_getElem?_getD, List.getElem?_eq_getElem (by rw [size_list]; exact h), Option.getD_some, byte_of s i h]

theorem meas_none {l : List UInt8} (h : l.length = 0) : FM.meas l = (0, 10) := by unfold FM.meas; rw [if_pos h]
theorem meas_few {l : List UInt8} (h0 : l.length ≠ 0) (h : l.length < 4) : FM.meas l = (0, 3) := by unfold FM.meas; rw [if_neg h0, if_pos h]
theorem meas_form {l : List UInt8} (h : 4 ≤ l.length) (hf : FM.at_ l 0 + FM.at_ l 2 ≠ 255 ∨ FM.at_ l 1 + FM.at_ l 3 ≠ 255) : FM.meas l = (0, 4) := by
  unfold FM.meas; rw [if_neg (by omega), if_neg (by omega), if_pos hf]
theorem meas_short {l : List UInt8} (h : 4 ≤ l.length) (h0 : FM.at_ l 0 + FM.at_ l 2 = 255) (h1 : FM.at_ l 1 + FM.at_ l 3 = 255) (hs : l.length < 8 + (256 * FM.at_ l 0 + FM.at_ l 1)) : FM.meas l = (0, 3) := by
  unfold FM.meas; rw [if_neg (by omega), if_neg (by omega), if_neg (by omega), if_pos hs]
theorem meas_good {l : List UInt8} (h : 4 ≤ l.length) (h0 : FM.at_ l 0 + FM.at_ l 2 = 255) (h1 : FM.at_ l 1 + FM.at_ l 3 = 255) (hs : 8 + (256 * FM.at_ l 0 + FM.at_ l 1) ≤ l.length) : FM.meas l = (8 + (256 * FM.at_ l 0 + FM.at_ l 1), 0) := by
  unfold FM.meas; rw [if_neg (by omega), if_neg (by omega), if_neg (by omega), if_neg (by omega)]

set_option maxRecDepth 100000 in
theorem measure_any (s : ByteArray) (w : World) (hs : s.size ≤ 9223372036854775807) :
    Calls Tryz.prog 105 #[.string s] w fun e w' => e = .returned (measOut s) ∧ Below w.heap.size w w' := by
  have HSL := Lib.hid (size_list s)
  by_cases h0 : s.size = 0
  · have hs0 : s = ⟨#[]⟩ := by
      apply ByteArray.ext
      exact Array.eq_empty_of_size_eq_zero h0
    subst hs0
    have HO := Lib.hid (measOut_of (s := ⟨#[]⟩) (meas_none rfl))
    clear h0 hs
    go_enter Tryz.func105, Tryz.ntmps105
    go_wp2
    go_ret2
    exact ⟨by rw [HO.out]; rfl, Below.refl _ _⟩
  have hne : s.toList.isEmpty = false := by
    rw [Lib.toList_data]
    cases hh : s.data.toList with
    | nil => have := size_list s; rw [hh] at this; simp at this; omega
    | cons a b => rfl
  by_cases h4 : s.size < 4
  · have HO := Lib.hid (measOut_of (s := s) (meas_few (by rw [HSL.out]; exact h0) (by rw [HSL.out]; exact h4)))
    clear h0
    go_enter Tryz.func105, Tryz.ntmps105
    go_wp2
    go_ret2
    exact ⟨by rw [HO.out]; rfl, Below.refl _ _⟩
  have a0 := at_of s 0 (by omega)
  have a1 := at_of s 1 (by omega)
  have a2 := at_of s 2 (by omega)
  have a3 := at_of s 3 (by omega)
  have i0 : (0 : Int) < (s.size : Int) := by omega
  have i1 : (1 : Int) < (s.size : Int) := by omega
  have i2 : (2 : Int) < (s.size : Int) := by omega
  have i3 : (3 : Int) < (s.size : Int) := by omega
  have j0 : 0 < s.size := by omega
  have l0 := s[0].toNat_lt
  have l1 := s[1].toNat_lt
  have l2 := s[2].toNat_lt
  have l3 := s[3].toNat_lt
  have x0 := u8_not s[0].toNat (by omega)
  have x1 := u8_not s[1].toNat (by omega)
  have y0 : bits .xor .u8 (if IntKind.u8.signed = true then -1 else IntKind.u8.max) (s[0].toNat : Int) = ((255 - s[0].toNat : Nat) : Int) := x0
  have y1 : bits .xor .u8 (if IntKind.u8.signed = true then -1 else IntKind.u8.max) (s[1].toNat : Int) = ((255 - s[1].toNat : Nat) : Int) := x1
  by_cases hf : FM.at_ s.data.toList 0 + FM.at_ s.data.toList 2 ≠ 255
  · have HO := Lib.hid (measOut_of (s := s) (meas_form (by rw [HSL.out]; omega) (.inl hf)))
    rw [a0, a2] at hf
    have t1 : ((s[2].toNat : Int) != ((255 - s[0].toNat : Nat) : Int)) = true := by rw [bne_iff_ne]; omega
    clear a0 a1 a2 a3 hf h0
    go_enter Tryz.func105, Tryz.ntmps105
    go_wp2_with fail
    go_quiet (fail)
    go_wp2
    go_ret2
    exact ⟨by rw [HO.out]; rfl, below_drewN (Below.refl _ _) _⟩
  by_cases hf1 : FM.at_ s.data.toList 1 + FM.at_ s.data.toList 3 ≠ 255
  · have HO := Lib.hid (measOut_of (s := s) (meas_form (by rw [HSL.out]; omega) (.inr hf1)))
    rw [a0, a2] at hf
    rw [a1, a3] at hf1
    have t1 : ((s[2].toNat : Int) != ((255 - s[0].toNat : Nat) : Int)) = false := by rw [bne_eq_false_iff_eq]; omega
    have t2 : ((s[3].toNat : Int) != ((255 - s[1].toNat : Nat) : Int)) = true := by rw [bne_iff_ne]; omega
    clear a0 a1 a2 a3 hf hf1 h0
    go_enter Tryz.func105, Tryz.ntmps105
    go_wp2_with fail
    go_quiet (fail)
    go_wp2
    go_ret2
    exact ⟨by rw [HO.out]; rfl, below_drewN (Below.refl _ _) _⟩
  by_cases hs8 : s.size < 8 + (256 * FM.at_ s.data.toList 0 + FM.at_ s.data.toList 1)
  · have HO := Lib.hid (measOut_of (s := s) (meas_short (by rw [HSL.out]; omega) (by omega) (by omega) (by rw [HSL.out]; exact hs8)))
    rw [a0, a2] at hf
    rw [a1, a3] at hf1
    rw [a0, a1] at hs8
    have t1 : ((s[2].toNat : Int) != ((255 - s[0].toNat : Nat) : Int)) = false := by rw [bne_eq_false_iff_eq]; omega
    have t2 : ((s[3].toNat : Int) != ((255 - s[1].toNat : Nat) : Int)) = false := by rw [bne_eq_false_iff_eq]; omega
    clear a0 a1 a2 a3 hf hf1 h0
    go_enter Tryz.func105, Tryz.ntmps105
    go_wp2_with fail
    go_quiet (fail)
    go_wp2_with fail
    go_quiet (fail)
    go_wp2
    go_ret2
    exact ⟨by rw [HO.out]; rfl, below_drewN (Below.refl _ _) _⟩
  · have HO := Lib.hid (measOut_of (s := s) (meas_good (by rw [HSL.out]; omega) (by omega) (by omega) (by rw [HSL.out]; omega)))
    rw [a0, a2] at hf
    rw [a1, a3] at hf1
    rw [a0, a1] at hs8 HO
    have hcast : ((8 + (256 * s[0].toNat + s[1].toNat) : Nat) : Int) = 8 + (s[0].toNat : Int) * 256 + (s[1].toNat : Int) := by omega
    rw [hcast] at HO
    have t1 : ((s[2].toNat : Int) != ((255 - s[0].toNat : Nat) : Int)) = false := by rw [bne_eq_false_iff_eq]; omega
    have t2 : ((s[3].toNat : Int) != ((255 - s[1].toNat : Nat) : Int)) = false := by rw [bne_eq_false_iff_eq]; omega
    clear a0 a1 a2 a3 hf hf1 h0
    go_enter Tryz.func105, Tryz.ntmps105
    go_wp2_with fail
    go_quiet (fail)
    go_wp2_with fail
    go_quiet (fail)
    go_wp2
    go_ret2
    exact ⟨by rw [HO.out]; rfl, below_drewN (Below.refl _ _) _⟩
end Go.Proofs.YtnglaolbfpdgoaaGreat.F3

