/- The walks of head and Put, of the document's Put. -/
import Derived.Test.YtgknkldhjejjmaaDoorFSum
namespace Go.Proofs.YtgknkldhjejjmaaDoor
open Go.RowKit

set_option maxRecDepth 100000 in
theorem u8_not_fin : ∀ a : Fin 256, bits .xor .u8 IntKind.u8.max (a.val : Int) = ((255 - a.val : Nat) : Int) := by decide +kernel

theorem u8_not (a : Nat) (ha : a < 256) : bits .xor .u8 IntKind.u8.max (a : Int) = ((255 - a : Nat) : Int) := u8_not_fin ⟨a, ha⟩

def row8 (l : List UInt8) : Array Value := (Lib.byteCells (FM.head l)).toArray

/-- the head's bytes as the code computes them -/
theorem row8_of (l : List UInt8) (n c : Nat) (hn : l.length = n) (hc : FM.sum l = c) (hs : n ≤ 65535) (hcl : c < 4294967296) :
    row8 l = #[.int .u8 ((n : Int) / 256), .int .u8 ((n : Int) % 256), .int .u8 (255 - (n : Int) / 256), .int .u8 (255 - (n : Int) % 256),
      .int .u8 ((c : Int) / 16777216), .int .u8 ((c : Int) / 65536 % 256), .int .u8 ((c : Int) / 256 % 256), .int .u8 ((c : Int) % 256)] := by
  subst hn hc
  unfold row8 FM.head
  simp only [Lib.byteCells, List.map_cons, List.map_nil]
  rw [byte_toNat _ (by omega), byte_toNat _ (by omega), byte_toNat _ (by omega), byte_toNat _ (by omega), byte_toNat _ (by omega), byte_toNat _ (by omega), byte_toNat _ (by omega), byte_toNat _ (by omega)]
  have e1 : ((255 - l.length / 256 : Nat) : Int) = 255 - (l.length : Int) / 256 := by omega
  have e2 : ((255 - l.length % 256 : Nat) : Int) = 255 - (l.length : Int) % 256 := by omega
  rw [e1, e2]
  rfl

set_option maxRecDepth 100000 in
theorem fhead_any (s : ByteArray) (w : World) (hs : s.size ≤ 65535) :
    Calls Tryd.prog 59 #[.string s] w fun e w' => e = .returned (.agg (row8 s.data.toList)) ∧ Below w.heap.size w w' := by
  have hsl := FM.sum_lt s.data.toList
  have HS := Lib.hid (fun W => fsum_any s W (by omega))
  have hrow := fun c hc hcl => row8_of s.data.toList s.size c (size_list s) hc hs hcl
  obtain ⟨c, hc⟩ : ∃ c, FM.sum s.data.toList = c := ⟨_, rfl⟩
  rw [hc] at hsl HS
  have HROW := Lib.hid (hrow c hc hsl)
  have e1 : (s.size : Int) / 256 = ((s.size / 256 : Nat) : Int) := by omega
  have e2 : (s.size : Int) % 256 = ((s.size % 256 : Nat) : Int) := by omega
  have n1 : bits .xor .u8 IntKind.u8.max ((s.size : Int) / 256) = 255 - (s.size : Int) / 256 := by rw [e1, u8_not _ (by omega)]; omega
  have n2 : bits .xor .u8 IntKind.u8.max ((s.size : Int) % 256) = 255 - (s.size : Int) % 256 := by rw [e2, u8_not _ (by omega)]; omega
  clear hrow hc e1 e2
  go_enter Tryd.func59, Tryd.ntmps59
  go_wp2_with fail
  refine (HS.out _).mono ?_
  rintro e w1 ⟨rfl, rfl⟩
  go_wp2
  rw [HROW.out]
  exact bodyPost_ret (v := .agg _) (by simp [results, Tryd.results59, go_sem]) rfl ⟨rfl, (Below.refl _ _).alloc (Nat.le_refl _) _⟩

theorem frame_str (s : ByteArray) : (⟨(FM.head s.data.toList).toArray⟩ : ByteArray) ++ s = ⟨(FM.frame s.data.toList).toArray⟩ := by
  apply str_ext
  simp [FM.frame]

/-- what Put comes to -/
def putOut (s : ByteArray) : Value := if 65535 < s.size then .tuple #[.string ⟨#[]⟩, .int .i64 5] else .tuple #[.string ⟨(FM.frame s.data.toList).toArray⟩, .int .i64 0]

theorem putOut_long {s : ByteArray} (h : 65535 < s.size) : putOut s = .tuple #[.string ⟨#[]⟩, .int .i64 5] := by unfold putOut; rw [if_pos h]

theorem putOut_good {s : ByteArray} (h : s.size ≤ 65535) : putOut s = .tuple #[.string ⟨(FM.frame s.data.toList).toArray⟩, .int .i64 0] := by unfold putOut; rw [if_neg (by omega)]

/-- a new array with a head's bytes -/
theorem row8_bytes (W : World) (g : Nat) (t : TypeId) (fr : Nat × Nat) (l : List UInt8) (h : W.heap[g]? = some (.cells (row8 l) t fr)) : Lib.Bytes W g 0 ⟨(FM.head l).toArray⟩ := by
  intro i hi
  have hi' : i < (FM.head l).length := by simpa [ByteArray.size] using hi
  rw [Nat.zero_add, cell_of_row _ _ _ _ _ _ h]
  unfold row8
  simp only [List.getElem?_toArray, Lib.byteCells, List.getElem?_map, List.getElem?_eq_getElem hi', Option.map_some]
  rfl

theorem arr_slice8 (W : World) (g : Nat) : (Instr.sliceAt 91 (.pointer (some ⟨g, 0, none⟩)) none none none).run Tryd.prog W = .ok (.slice (some ⟨g, 0, none⟩) 8 8) W := by
  have hal : Tryd.prog.arrayLen 91 = 8 := by kernel_rfl
  have hs : ∀ w, (sizeOf (Tryd.prog.elem 91)).run Tryd.prog w = .ok 1 w := fun w => by kernel_rfl
  rw [run_sliceAt_array_all W 91 ⟨g, 0, none⟩ (by kernel_rfl), hs, hal]
  simp [Result.andThen, slicedAt, Addr.add]

def zero8 : Array Value := #[.int .u8 0, .int .u8 0, .int .u8 0, .int .u8 0, .int .u8 0, .int .u8 0, .int .u8 0, .int .u8 0]

theorem row8_size (l : List UInt8) : (row8 l).size = 8 := rfl

theorem row8_one (l : List UInt8) : (row8 l).all (·.oneCell') = true := by
  unfold row8
  rw [Array.all_eq_true_iff_forall_mem]
  intro x hx
  simp only [Lib.byteCells, List.mem_toArray, List.mem_map] at hx
  obtain ⟨c, _, rfl⟩ := hx
  rfl

/-- a new array that a head's bytes were stored into -/
def rowWorld (w : World) (l : List UInt8) : World := (w.alloc (.cells zero8 91)).setRow w.heap.size (row8 l)

theorem run_store8 (w : World) (l : List UInt8) : (storeCells ⟨w.heap.size, 0, none⟩ (row8 l).toList).run Tryd.prog (w.alloc (.cells zero8 91)) = .ok () (rowWorld w l) := by
  have h := run_storeCells_from (P := Tryd.prog) w.heap.size 91 (row8 l).toList 0 zero8 _ (heap_alloc_new w _) (by simp [row8_size, zero8]) (fun v hv => (Array.all_eq_true_iff_forall_mem.1 (row8_one l)) v (by simpa using hv))
  have e : ((zero8.toList.take 0 ++ (row8 l).toList ++ zero8.toList.drop (0 + (row8 l).toList.length)).toArray) = row8 l := by
    simp [row8_size, zero8]
  simpa [rowWorld, row8_size, zero8] using h

theorem rowWorld_row (w : World) (l : List UInt8) : (rowWorld w l).heap[w.heap.size]? = some (.cells (row8 l) 91 (0, 0)) :=
  setRow_heap _ _ _ _ _ _ (heap_alloc_new w (.cells zero8 91))

theorem rowWorld_below (w : World) (l : List UInt8) : Below w.heap.size w (rowWorld w l) :=
  below_setRow ((Below.refl _ _).alloc (Nat.le_refl _) _) (Nat.le_refl _)

theorem frow_string (W : World) (g : Nat) (t : TypeId) (fr : Nat × Nat) (l : List UInt8) (h : W.heap[g]? = some (.cells (row8 l) t fr)) :
    (convert 51 9 (.slice (some ⟨g, 0, none⟩) 8 8)).run Tryd.prog W = .ok (.string ⟨(FM.head l).toArray⟩) W :=
  Lib.run_convert_whole W 51 5 9 Tryd.underlying51 Tryd.underlying5 Tryd.underlying9 g 0 ⟨(FM.head l).toArray⟩ (row8_bytes _ _ _ _ _ h) 8

set_option maxRecDepth 100000 in
theorem fput_any (s : ByteArray) (w : World) (hs : s.size ≤ 9223372036854775807) :
    Calls Tryd.prog 30 #[.string s] w fun e w' => e = .returned (putOut s) ∧ Below w.heap.size w w' := by
  by_cases hlong : 65535 < s.size
  · have HO := Lib.hid (putOut_long hlong)
    go_enter Tryd.func30, Tryd.ntmps30
    go_wp2
    go_ret2
    exact ⟨by rw [HO.out]; rfl, Below.refl _ _⟩
  · have HO := Lib.hid (putOut_good (s := s) (by omega))
    have HH := Lib.hid (fun W => fhead_any s W (by omega))
    have HF := Lib.hid (frame_str s)
    go_enter Tryd.func30, Tryd.ntmps30
    go_wp2_with fail
    refine (HH.out _).mono ?_
    rintro e w1 ⟨rfl, hB⟩
    have hst := run_store8 w1 s.data.toList
    unfold zero8 at hst
    have hsl := fun W => arr_slice8 W w1.heap.size
    have hcv := frow_string (rowWorld w1 s.data.toList) _ _ _ s.data.toList (rowWorld_row w1 _)
    have hh8 : (FM.head s.data.toList).length = 8 := FM.head_len _
    have HB := Lib.hid (hB.trans ((rowWorld_below w1 s.data.toList).mono hB.size))
    obtain ⟨h8, hh⟩ : ∃ h8, (⟨(FM.head s.data.toList).toArray⟩ : ByteArray) = h8 := ⟨_, rfl⟩
    have hl8 : h8.size = 8 := by rw [← hh]; rfl
    rw [hh] at hcv HF
    have n1 : ¬ 9223372036854775807 < h8.size + s.size := by omega
    clear hh8 hB
    go_wp2
    go_ret2
    exact ⟨by rw [HO.out, ← HF.out]; rfl, HB.out⟩
end Go.Proofs.YtgknkldhjejjmaaDoor
