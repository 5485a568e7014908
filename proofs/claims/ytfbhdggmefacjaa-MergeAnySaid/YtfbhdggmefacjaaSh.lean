/-
  DERIVED: THE SHELF's CONTRACTS AT THIS DUMP, IN PLAIN WORDS (tools/lay-plain.mjs out of 'TrySort.lean', which tools/lay-shelf.mjs wrote): THE SAME DECLARATIONS UNDER THE SAME NAMES: 'import', 'namespace', 'open', 'def', 'theorem' AND NOTHING ELSE: no command of the shelf's: FOR A HAND-IN. Each laying: the table of numbers ('.._ren') and one theorem, a field a fact of the dump's own or the kernel's comparison; each contract: ONE APPLICATION.
-/
import Derived.Shelf.SlGeneric
import Derived.Shelf.SortG.Plain
import Derived.Shelf.SortG.SortNone
import Derived.Test.YtfbhdggmefacjaaProg
namespace Go.Proofs
open Go.Shelf
def Try.sortI64_ren : Go.Shelf.Ren := ⟨fun | 53 => 32 | 64 => 41 | 63 => 40 | 78 => 55 | 79 => 56 | 70 => 46 | 71 => 47 | 72 => 48 | 73 => 49 | 74 => 50 | 75 => 51 | 59 => 52 | 76 => 53 | 77 => 54 | 88 => 58 | 89 => 59 | 90 => 60 | 91 => 61 | 92 => 62 | 68 => 63 | 96 => 64 | n => n, fun | 22 => 43 | 23 => 2 | 3 => 3 | 51 => 87 | 0 => 0 | 67 => 106 | 69 => 108 | 4 => 4 | 61 => 99 | 60 => 98 | 44 => 88 | 5 => 5 | 9 => 9 | 75 => 113 | 79 => 117 | 83 => 119 | 84 => 120 | n => n, fun | n => n⟩
theorem Try.sortI64 : Go.Proofs.SlLaysN.n53 Try.prog Try.sortI64_ren := {
  mixed := by kernel_rfl
  f53 := ⟨Try.f32.name, by decide, Try.func32.trans (congrArg some (by kernel_rfl))⟩
  f59 := ⟨Try.f52.name, by decide, Try.func52.trans (congrArg some (by kernel_rfl))⟩
  f63 := ⟨Try.f40.name, by decide, Try.func40.trans (congrArg some (by kernel_rfl))⟩
  f64 := Try.func41.trans (congrArg some (by kernel_rfl))
  f68 := ⟨Try.f63.name, by decide, Try.func63.trans (congrArg some (by kernel_rfl))⟩
  f70 := ⟨Try.f46.name, by decide, Try.func46.trans (congrArg some (by kernel_rfl))⟩
  f71 := ⟨Try.f47.name, by decide, Try.func47.trans (congrArg some (by kernel_rfl))⟩
  f72 := ⟨Try.f48.name, by decide, Try.func48.trans (congrArg some (by kernel_rfl))⟩
  f73 := ⟨Try.f49.name, by decide, Try.func49.trans (congrArg some (by kernel_rfl))⟩
  f74 := ⟨Try.f50.name, by decide, Try.func50.trans (congrArg some (by kernel_rfl))⟩
  f75 := ⟨Try.f51.name, by decide, Try.func51.trans (congrArg some (by kernel_rfl))⟩
  f76 := ⟨Try.f53.name, by decide, Try.func53.trans (congrArg some (by kernel_rfl))⟩
  f77 := ⟨Try.f54.name, by decide, Try.func54.trans (congrArg some (by kernel_rfl))⟩
  f78 := Try.func55.trans (congrArg some (by kernel_rfl))
  f79 := Try.func56.trans (congrArg some (by kernel_rfl))
  f88 := ⟨Try.f58.name, by decide, Try.func58.trans (congrArg some (by kernel_rfl))⟩
  f89 := Try.func59.trans (congrArg some (by kernel_rfl))
  f90 := Try.func60.trans (congrArg some (by kernel_rfl))
  f91 := ⟨Try.f61.name, by decide, Try.func61.trans (congrArg some (by kernel_rfl))⟩
  f92 := ⟨Try.f62.name, by decide, Try.func62.trans (congrArg some (by kernel_rfl))⟩
  f96 := ⟨Try.f64.name, by decide, Try.func64.trans (congrArg some (by kernel_rfl))⟩
  t0 := Try.underlying0
  a0 := Try.isAgg0
  z0 := Try.sizeOf0
  v0 := Try.zeroValue0
  t3 := Try.underlying3
  a3 := Try.isAgg3
  z3 := Try.sizeOf3
  v3 := Try.zeroValue3
  t4 := Try.underlying4
  a4 := Try.isAgg4
  z4 := Try.sizeOf4
  v4 := Try.zeroValue4
  t5 := Try.underlying5
  a5 := Try.isAgg5
  z5 := Try.sizeOf5
  v5 := Try.zeroValue5
  t9 := Try.underlying9
  a9 := Try.isAgg9
  z9 := Try.sizeOf9
  v9 := Try.zeroValue9
  t22 := Try.underlying43
  a22 := Try.isAgg43
  z22 := Try.sizeOf43
  v22 := Try.zeroValue43
  t23 := Try.underlying2
  a23 := Try.isAgg2
  z23 := Try.sizeOf2
  v23 := Try.zeroValue2
  t44 := Try.underlying88
  a44 := Try.isAgg88
  z44 := Try.sizeOf88
  v44 := Try.zeroValue88
  t51 := Try.underlying87
  a51 := Try.isAgg87
  z51 := Try.sizeOf87
  v51 := Try.zeroValue87
  t60 := Try.underlying98
  a60 := Try.isAgg98
  z60 := Try.sizeOf98
  v60 := Try.zeroValue98
  t61 := Try.underlying99
  a61 := Try.isAgg99
  z61 := Try.sizeOf99
  v61 := Try.zeroValue99
  t67 := Try.underlying106
  a67 := Try.isAgg106
  z67 := Try.sizeOf106
  v67 := Try.zeroValue106
  t69 := Try.underlying108
  a69 := Try.isAgg108
  z69 := Try.sizeOf108
  v69 := Try.zeroValue108
  t75 := Try.underlying113
  a75 := Try.isAgg113
  z75 := Try.sizeOf113
  v75 := Try.zeroValue113
  t79 := Try.underlying117
  a79 := Try.isAgg117
  z79 := Try.sizeOf117
  v79 := Try.zeroValue117
  t83 := Try.underlying119
  a83 := Try.isAgg119
  z83 := Try.sizeOf119
  v83 := Try.zeroValue119
  t84 := Try.underlying120
  a84 := Try.isAgg120
  z84 := Try.sizeOf120
  v84 := Try.zeroValue120 }
open Go.Sort Go.RowKit in
/-- slices.Sort at []int64 -/
theorem Try.slices_Sort_int64 (blk off cap : Nat) (zs : List Int) (w : World) (hH : Holds (Value.int .i64) w blk off zs.toArray) (hblk : blk < w.heap.size) (hsz : zs.length < 4611686018427387904) :
    Calls Try.prog 32 #[.slice (some ⟨blk, off, none⟩) zs.length cap] w fun e w' =>
      e = .returned (.tuple #[]) ∧ ∃ n os, w' = grow (putRow (Value.int .i64) (Sort.ahead w n) blk off (zs.mergeSort fun x y => decide (x ≤ y)).toArray) os :=
  AnyG.slices_Sort_int Try.sortI64 blk off cap zs w hH hblk hsz
open Go.Sort Go.RowKit in
/-- slices.Sort at []int64: of no element -/
theorem Try.slices_Sort_int64_none (p : Option Addr) (cap : Nat) (w : World) :
    Calls Try.prog 32 #[.slice p 0 cap] w fun e w' => e = .returned (.tuple #[]) ∧ w' = w := AnyG.slices_Sort_int_none Try.sortI64 p cap w
end Go.Proofs
