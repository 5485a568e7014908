/- Texts joined by bundle.py: YDFSum, YDFHead. -/
import Derived.Test.YtjkofciohehgfaaGreatDoorZae
import Derived.Test.YtjkofciohehgfaaGreatDoorZas
import Derived.Laws.BitsAllLaws

/- The walks of Sum: the code's, and the document's. -/
namespace Go.Proofs.YtjkofciohehgfaaGreatDoor.L8
open Go.RowKit

theorem reg_and1 (a : Nat) (ha : a < 4294967296) : bits .and .u32 (a : Int) 1 = ((a % 2 : Nat) : Int) := by
  have h := u32_and_nat a 1 ha (by decide)
  rw [Nat.and_one_is_mod] at h
  exact h

theorem reg_poly (a : Nat) (ha : a < 4294967296) : bits .xor .u32 ((a : Int) / 2) 3988292384 = ((a / 2 ^^^ 3988292384 : Nat) : Int) := by
  have h := u32_xor_nat (a / 2) 3988292384 (by omega) (by decide)
  rw [← h]
  rw [Int.natCast_ediv]
  rfl

theorem xor_ones32 (b : Nat) (hb : b < 2 ^ 32) : (2 ^ 32 - 1) ^^^ b = 2 ^ 32 - 1 - b := by
  apply Nat.eq_of_testBit_eq
  intro i
  rw [Nat.testBit_xor, Nat.testBit_two_pow_sub_one, show 2 ^ 32 - 1 - b = 2 ^ 32 - (b + 1) by omega, Nat.testBit_two_pow_sub_succ hb]
  by_cases hi : i < 32
  · simp [hi]
  · have : b.testBit i = false := Nat.testBit_lt_two_pow (Nat.lt_of_lt_of_le hb (Nat.pow_le_pow_right (by decide) (by omega)))
    simp [hi, this]

theorem reg_not (a : Nat) (ha : a < 4294967296) : bits .xor .u32 IntKind.u32.max (a : Int) = ((4294967295 - a : Nat) : Int) := by
  have e : IntKind.u32.max = ((4294967295 : Nat) : Int) := by decide
  rw [e, u32_xor_nat _ a (by decide) ha]
  exact congrArg (fun n : Nat => (n : Int)) (xor_ones32 a (by omega))

set_option maxRecDepth 100000 in
theorem fsum_any (s : ByteArray) (w : World) (hs : s.size ≤ 9223372036854775807) :
    Calls Tryz.prog 110 #[.string s] w fun e w' => e = .returned (.int .u32 (FM.sum s.data.toList : Nat)) ∧ w = w' := by
  have HSL := Lib.hid (size_list s)
  go_enter Tryz.func110, Tryz.ntmps110
  go_wp2
  go_loop [3, 8] (fun r i => ∃ (k R : Nat), k ≤ s.size ∧ i = .int .i64 k ∧ r = .int .u32 R ∧ R < 4294967296 ∧ Hid (FM.reg (s.data.toList.take k) = R)) (fun _ i => s.size - (intOf i).toNat)
  case atStart => exact ⟨0, 4294967295, by omega, rfl, rfl, by omega, Lib.hid rfl⟩
  case round =>
    obtain ⟨k, R, hk, rfl, rfl, hR, HR⟩ := hrel
    by_cases hlt : k < s.size
    · have hst := FM.reg_snoc s.data.toList k (by rw [HSL.out]; exact hlt)
      rw [byte_of s k hlt, HR.out] at hst
      obtain ⟨c, hc⟩ : ∃ c, s[k] = c := ⟨_, rfl⟩
      rw [hc] at hst
      have hcl := c.toNat_lt
      have hx := u32_xor_nat R c.toNat hR (by omega)
      have hxl := FM.xor_byte_lt hR c
      unfold FM.byte at hst
      obtain ⟨X, hX⟩ : ∃ X, R ^^^ c.toNat = X := ⟨_, rfl⟩
      rw [hX] at hx hxl hst
      have HST := Lib.hid hst
      have HC : Hid ((s[k].toNat : Int) % 4294967296 = (c.toNat : Int)) := by rw [hc]; exact Lib.hid (by omega)
      clear hst hX hc HR
      go_wp2
      go_loop [3, 17] (fun r i => ∃ (j Y : Nat), j ≤ 8 ∧ i = .int .i64 j ∧ r = .int .u32 Y ∧ Y < 4294967296 ∧ Hid (FM.turns j X = Y)) (fun _ i => 8 - (intOf i).toNat)
      case atStart => exact ⟨0, X, by omega, rfl, by rw [HC.out, hx], hxl, Lib.hid rfl⟩
      case round =>
        obtain ⟨j, Y, hj, rfl, rfl, hY, HY⟩ := hrel
        by_cases hj8 : j < 8
        · have ha := reg_and1 Y hY
          have hp := reg_poly Y hY
          have htl : FM.turns (j + 1) X = FM.turn Y := by rw [← HY.out]; rfl
          have htlt := FM.turn_lt hY
          by_cases hodd : Y % 2 = 1
          · have ht : FM.turn Y = Y / 2 ^^^ 3988292384 := by unfold FM.turn; rw [if_pos hodd]
            rw [hodd] at ha
            rw [ht] at htlt htl
            have HTL := Lib.hid htl
            clear htl ht
            go_wp2
            go_round
            case rel => exact ⟨j + 1, _, by omega, by go_num, by first | rfl | rw [hp], htlt, HTL⟩
            case measure => simp [intOf]; omega
          · have ht : FM.turn Y = Y / 2 := by unfold FM.turn; rw [if_neg hodd]
            have h0 : Y % 2 = 0 := by omega
            rw [h0] at ha
            rw [ht] at htlt htl
            have HTL := Lib.hid htl
            clear htl ht
            go_wp2
            go_round
            case rel => exact ⟨j + 1, _, by omega, by go_num, by rw [Int.natCast_ediv]; rfl, htlt, HTL⟩
            case measure => simp [intOf]; omega
        · obtain rfl : j = 8 := by omega
          have HR2 : Hid (FM.reg (s.data.toList.take (k + 1)) = Y) := by rw [HST.out]; exact HY
          go_wp2
          go_round
          case rel => exact ⟨k + 1, Y, by omega, by go_num, rfl, hY, HR2⟩
          case measure => simp [intOf]; omega
    · have htk : s.data.toList.take k = s.data.toList := List.take_of_length_le (by rw [HSL.out]; omega)
      rw [htk] at HR
      have hn := reg_not R hR
      have HS : Hid (FM.sum s.data.toList = 4294967295 - R) := by unfold FM.sum; rw [HR.out]; exact Lib.hid rfl
      go_wp2
      go_ret
      exact ⟨by rw [HS.out]; first | rfl | exact ret_int hn, rfl⟩
end Go.Proofs.YtjkofciohehgfaaGreatDoor.L8


/- The walks of head and Put, of the document's Put. -/
namespace Go.Proofs.YtjkofciohehgfaaGreatDoor.L8
open Go.RowKit

set_option maxRecDepth 100000 in
theorem u8_not_fin : ∀ a : Fin 256, bits .xor .u8 IntKind.u8.max (a.val : Int) = ((255 - a.val : Nat) : Int) := by decide +kernel

theorem u8_not (a : Nat) (ha : a < 256) : bits .xor .u8 IntKind.u8.max (a : Int) = ((255 - a : Nat) : Int) := u8_not_fin ⟨a, ha⟩

def row8 (l : List UInt8) : Array Value := (Lib.byteCells (FM.head l)).toArray

/-- the head's bytes as the code computes them -/
theorem row8_of (l : List UInt8) (n c : Nat) (hn : l.length = n) (hc : FM.sum l = c) (hs : n ≤ 65535) (hcl : c < 4294967296) :
    row8 l = #[.int .u8 ((n : Int) / 256), .int .u8 ((n : Int) % 256), .int .u8 (255 - (n : Int) / 256), .int .u8 (255 - (n : Int) % 256),
      .int .u8 ((c : Int) / 16777216), .int .u8 ((c : Int) / 65536 % 256), .int .u8 ((c : Int) / 256 % 256), .int .u8 ((c : Int) % 256)] := by
  subst hn hc
  unfold row8 FM.head
  simp only [Lib.byteCells, List.map_cons, List.map_nil]
  rw [byte_toNat _ (by omega), byte_toNat _ (by omega), byte_toNat _ (by omega), byte_toNat _ (by omega), byte_toNat _ (by omega), byte_toNat _ (by omega), byte_toNat _ (by omega), byte_toNat _ (by omega)]
  have e1 : ((255 - l.length / 256 : Nat) : Int) = 255 - (l.length : Int) / 256 := by omega
  have e2 : ((255 - l.length % 256 : Nat) : Int) = 255 - (l.length : Int) % 256 := by omega
  rw [e1, e2]
  rfl

set_option maxRecDepth 100000 in
theorem fhead_any (s : ByteArray) (w : World) (hs : s.size ≤ 65535) :
    Calls Tryz.prog 75 #[.string s] w fun e w' => e = .returned (.agg (row8 s.data.toList)) ∧ Below w.heap.size w w' := by
  have hsl := FM.sum_lt s.data.toList
  have HS := Lib.hid (fun W => fsum_any s W (by omega))
  have hrow := fun c hc hcl => row8_of s.data.toList s.size c (size_list s) hc hs hcl
  obtain ⟨c, hc⟩ : ∃ c, FM.sum s.data.toList = c := ⟨_, rfl⟩
  rw [hc] at hsl HS
  have HROW := Lib.hid (hrow c hc hsl)
  have e1 : (s.size : Int) / 256 = ((s.size / 256 : Nat) : Int) := by omega
  have e2 : (s.size : Int) % 256 = ((s.size % 256 : Nat) : Int) := by omega
  have n1 : bits .xor .u8 IntKind.u8.max ((s.size : Int) / 256) = 255 - (s.size : Int) / 256 := by rw [e1, u8_not _ (by omega)]; omega
  have n2 : bits .xor .u8 IntKind.u8.max ((s.size : Int) % 256) = 255 - (s.size : Int) % 256 := by rw [e2, u8_not _ (by omega)]; omega
  clear hrow hc e1 e2
  go_enter Tryz.func75, Tryz.ntmps75
  go_wp2_with fail
  refine (HS.out _).mono ?_
  rintro e w1 ⟨rfl, rfl⟩
  go_wp2
  rw [HROW.out]
  exact bodyPost_ret (v := .agg _) (by simp [results, Tryz.results75, go_sem]) rfl ⟨rfl, (Below.refl _ _).alloc (Nat.le_refl _) _⟩

theorem frame_str (s : ByteArray) : (⟨(FM.head s.data.toList).toArray⟩ : ByteArray) ++ s = ⟨(FM.frame s.data.toList).toArray⟩ := by
  apply str_ext
  simp [FM.frame]

/-- what Put comes to -/
def putOut (s : ByteArray) : Value := if 65535 < s.size then .tuple #[.string ⟨#[]⟩, .int .i64 5] else .tuple #[.string ⟨(FM.frame s.data.toList).toArray⟩, .int .i64 0]

theorem putOut_long {s : ByteArray} (h : 65535 < s.size) : putOut s = .tuple #[.string ⟨#[]⟩, .int .i64 5] := by unfold putOut; rw [if_pos h]

theorem putOut_good {s : ByteArray} (h : s.size ≤ 65535) : putOut s = .tuple #[.string ⟨(FM.frame s.data.toList).toArray⟩, .int .i64 0] := by unfold putOut; rw [if_neg (by omega)]

/-- a new array with a head's bytes -/
theorem row8_bytes (W : World) (g : Nat) (t : TypeId) (fr : Nat × Nat) (l : List UInt8) (h : W.heap[g]? = some (.cells (row8 l) t fr)) : Lib.Bytes W g 0 ⟨(FM.head l).toArray⟩ := by
  intro i hi
  have hi' : i < (FM.head l).length := by simpa [ByteArray.size] using hi
  rw [Nat.zero_add, cell_of_row _ _ _ _ _ _ h]
  unfold row8
  simp only [List.getElem?_toArray, Lib.byteCells, List.getElem?_map, List.getElem?_eq_getElem hi', Option.map_some]
  rfl

theorem arr_slice8 (W : World) (g : Nat) : (Instr.sliceAt 125 (.pointer (some ⟨g, 0, none⟩)) none none none).run Tryz.prog W = .ok (.slice (some ⟨g, 0, none⟩) 8 8) W := by
  have hal : Tryz.prog.arrayLen 125 = 8 := by kernel_rfl
  have hs : ∀ w, (sizeOf (Tryz.prog.elem 125)).run Tryz.prog w = .ok 1 w := fun w => by kernel_rfl
  rw [run_sliceAt_array_all W 125 ⟨g, 0, none⟩ (by kernel_rfl), hs, hal]
  simp [Result.andThen, slicedAt, Addr.add]

def zero8 : Array Value := #[.int .u8 0, .int .u8 0, .int .u8 0, .int .u8 0, .int .u8 0, .int .u8 0, .int .u8 0, .int .u8 0]

theorem row8_size (l : List UInt8) : (row8 l).size = 8 := rfl

theorem row8_one (l : List UInt8) : (row8 l).all (·.oneCell') = true := by
  unfold row8
  rw [Array.all_eq_true_iff_forall_mem]
  intro x hx
  simp only [Lib.byteCells, List.mem_toArray, List.mem_map] at hx
  obtain ⟨c, _, rfl⟩ := hx
  rfl

/-- a new array that a head's bytes were stored into -/
def rowWorld (w : World) (l : List UInt8) : World := (w.alloc (.cells zero8 125)).setRow w.heap.size (row8 l)

theorem run_store8 (w : World) (l : List UInt8) : (storeCells ⟨w.heap.size, 0, none⟩ (row8 l).toList).run Tryz.prog (w.alloc (.cells zero8 125)) = .ok () (rowWorld w l) := by
  have h := run_storeCells_from (P := Tryz.prog) w.heap.size 125 (row8 l).toList 0 zero8 _ (heap_alloc_new w _) (by simp [row8_size, zero8]) (fun v hv => (Array.all_eq_true_iff_forall_mem.1 (row8_one l)) v (by simpa using hv))
  have e : ((zero8.toList.take 0 ++ (row8 l).toList ++ zero8.toList.drop (0 + (row8 l).toList.length)).toArray) = row8 l := by
    simp [row8_size, zero8]
  simpa [rowWorld, row8_size, zero8] using h

theorem rowWorld_row (w : World) (l : List UInt8) : (rowWorld w l).heap[w.heap.size]? = some (.cells (row8 l) 125 (0, 0)) :=
  setRow_heap _ _ _ _ _ _ (heap_alloc_new w (.cells zero8 125))

theorem rowWorld_below (w : World) (l : List UInt8) : Below w.heap.size w (rowWorld w l) :=
  below_setRow ((Below.refl _ _).alloc (Nat.le_refl _) _) (Nat.le_refl _)

theorem frow_string (W : World) (g : Nat) (t : TypeId) (fr : Nat × Nat) (l : List UInt8) (h : W.heap[g]? = some (.cells (row8 l) t fr)) :
    (convert 68 9 (.slice (some ⟨g, 0, none⟩) 8 8)).run Tryz.prog W = .ok (.string ⟨(FM.head l).toArray⟩) W :=
  Lib.run_convert_whole W 68 5 9 Tryz.underlying68 Tryz.underlying5 Tryz.underlying9 g 0 ⟨(FM.head l).toArray⟩ (row8_bytes _ _ _ _ _ h) 8

set_option maxRecDepth 100000 in
theorem fput_any (s : ByteArray) (w : World) (hs : s.size ≤ 9223372036854775807) :
    Calls Tryz.prog 32 #[.string s] w fun e w' => e = .returned (putOut s) ∧ Below w.heap.size w w' := by
  by_cases hlong : 65535 < s.size
  · have HO := Lib.hid (putOut_long hlong)
    go_enter Tryz.func32, Tryz.ntmps32
    go_wp2
    go_ret2
    exact ⟨by rw [HO.out]; rfl, Below.refl _ _⟩
  · have HO := Lib.hid (putOut_good (s := s) (by omega))
    have HH := Lib.hid (fun W => fhead_any s W (by omega))
    have HF := Lib.hid (frame_str s)
    go_enter Tryz.func32, Tryz.ntmps32
    go_wp2_with fail
    refine (HH.out _).mono ?_
    rintro e w1 ⟨rfl, hB⟩
    have hst := run_store8 w1 s.data.toList
    unfold zero8 at hst
    have hsl := fun W => arr_slice8 W w1.heap.size
    have hcv := frow_string (rowWorld w1 s.data.toList) _ _ _ s.data.toList (rowWorld_row w1 _)
    have hh8 : (FM.head s.data.toList).length = 8 := FM.head_len _
    have HB := Lib.hid (hB.trans ((rowWorld_below w1 s.data.toList).mono hB.size))
    obtain ⟨h8, hh⟩ : ∃ h8, (⟨(FM.head s.data.toList).toArray⟩ : ByteArray) = h8 := ⟨_, rfl⟩
    have hl8 : h8.size = 8 := by rw [← hh]; rfl
    rw [hh] at hcv HF
    have n1 : ¬ 9223372036854775807 < h8.size + s.size := by omega
    clear hh8 hB
    go_wp2
    go_ret2
    exact ⟨by rw [HO.out, ← HF.out]; rfl, HB.out⟩
end Go.Proofs.YtjkofciohehgfaaGreatDoor.L8


