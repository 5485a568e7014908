/- Number, Size: the walks. -/
import Derived.Test.YtonoapgajgcjlaaRow
import Derived.Test.YtonoapgajgcjlaaClone
namespace Go.Proofs.Ytonoapgajgcjlaa
open Go.RowKit
open SK

/-- a store of what is there leaves the world -/
theorem set_same {w : World} {b j : Nat} {u : Value} (h : w.cell? ⟨b, j, none⟩ = some u) : w.setCell ⟨b, j, none⟩ u = w := by
  obtain ⟨cs, ty, fr, hb, hj⟩ : ∃ cs ty fr, w.heap[b]? = some (.cells cs ty fr) ∧ cs[j]? = some u := by
    unfold World.cell? at h
    cases hh : w.heap[b]? with
    | none => simp [hh] at h
    | some o =>
      cases o with
      | cells cs ty fr => exact ⟨cs, ty, fr, rfl, by simpa [hh] using h⟩
      | _ => simp [hh] at h
  obtain ⟨heap, tape, drawn, os, output⟩ := w
  simp only [World.setCell, World.mk.injEq, and_true]
  simp only at hb
  apply Array.ext_getElem?
  intro i
  rw [Array.getElem?_modify]
  split
  · rename_i hi
    subst hi
    rw [hb]
    simp only [Option.map_some, Option.isSome_none, Bool.false_eq_true, if_false, Option.some.injEq, Obj.cells.injEq, and_true]
    apply Array.ext_getElem?
    intro i
    rw [Array.getElem?_setIfInBounds]
    split
    · rename_i hi
      subst hi
      rw [hj]
      split
      · rfl
      · rename_i hlt
        rw [Array.getElem?_eq_some_iff] at hj
        exact absurd hj.1 hlt
    · rfl
  · rfl


namespace BK
/-- the j-th item, numbered -/
def nb (q : Int) (l : List E) : List E := l.mapIdx fun j e => { e with seq := q + j }
theorem nb_len (q : Int) (l : List E) : (nb q l).length = l.length := by simp [nb]
theorem nb_at (q : Int) (l : List E) (j : Nat) (h : j < l.length) : (nb q l)[j]'(by rw [nb_len]; exact h) = { l[j] with seq := q + j } := by simp [nb]
theorem nb_take (q : Int) (l : List E) (j : Nat) (h : j < l.length) : (nb q l).take (j + 1) = (nb q l).take j ++ [{ l[j] with seq := q + j }] := by
  rw [List.take_succ_eq_append_getElem (by rw [nb_len]; exact h), nb_at q l j h]
/-- the sum of sizes, as it wraps -/
def szStep (z : Int) (e : E) : Int := wrap64 (z + ((e.key.size : Int) + (e.value.size : Int)))
def sz (l : List E) : Int := l.foldl szStep 0
theorem sz_take (l : List E) (j : Nat) (h : j < l.length) : sz (l.take (j + 1)) = szStep (sz (l.take j)) l[j] := by
  unfold sz
  rw [List.take_succ_eq_append_getElem h, List.foldl_append]
  rfl
end BK

theorem set_nth (acc : List E) (j k : Nat) (h : acc.length = j) (e x : E) : (acc ++ x :: List.replicate k E.zero).set j e = acc ++ e :: List.replicate k E.zero := by
  rw [List.set_append_right _ _ (by omega), show j - acc.length = 0 by omega]
  rfl

set_option maxRecDepth 100000 in
set_option maxHeartbeats 1000000 in
theorem size_any (A : Option Addr) (n cap : Nat) (l : List E) (w : World) (hn : l.length = n) (hin : EntsIn w A l) (hb : n * 56 ≤ 140737488351232) :
    Calls Try.prog 15 #[.slice A n cap] w fun e w' => e = .returned (.int .i64 (BK.sz l)) ∧ Below w.heap.size w w' := by
  have HIN := Lib.hid hin
  have HLN := Lib.hid hn
  clear hin hn
  go_enter Try.func15, Try.ntmps15
  go_wp2_with fail
  go_loopw [3, 8] (fun z i wr => ∃ j : Nat, j ≤ n ∧ i = .int .i64 j ∧ z = .int .i64 (BK.sz (l.take j)) ∧ Below w.heap.size w wr ∧ w.heap.size ≤ wr.heap.size) (fun _ i _ => n - (intOf i).toNat)
  case atStart => exact ⟨0, by omega, rfl, rfl, Below.refl _ _, Nat.le_refl _⟩
  case round =>
    obtain ⟨j, hj, rfl, rfl, hbel, hsz⟩ := hrel
    by_cases hlt : j < n
    · have hjl : j < l.length := by rw [HLN.out]; omega
      obtain ⟨b, off, hA, hbl, hc⟩ := (HIN.out.below hbel).at_ (by omega)
      obtain ⟨z0, z1, z2, z3, z4⟩ := hc j hjl
      have hwf := HIN.out.wf _ (List.getElem_mem hjl)
      have hst := Lib.hid (BK.sz_take l j hjl)
      obtain ⟨e, he⟩ : ∃ e, l[j] = e := ⟨_, rfl⟩
      rw [he] at z0 z1 z2 z3 z4 hwf hst
      obtain ⟨Z, hZ⟩ : ∃ Z, BK.sz (l.take j) = Z := ⟨_, rfl⟩
      rw [hZ] at hst ⊢
      have hk := hwf.key
      have hv := hwf.value
      subst hA
      obtain ⟨k2, q2, g2, v2, t2⟩ := e
      simp only at z0 z1 z2 z3 z4 hk hv
      have hst2 : Hid (BK.sz (l.take (j + 1)) = wrap64 (Z + ((k2.size : Int) + (v2.size : Int)))) := Lib.hid hst.out
      have hwr : IntKind.i64.wrap ((k2.size : Int) + (v2.size : Int)) = (k2.size : Int) + (v2.size : Int) := IntWalk.i64_in _ ⟨by omega, by omega⟩
      have g0 : (0 : Int) ≤ (j : Int) := by omega
      have g1 : (j : Int) < (n : Int) := by omega
      have HBW : Hid (Below w.heap.size w (wr.alloc (.cells #[.string k2, .int .i64 q2, .bool g2, .string v2, .int .i64 t2] 40))) := Lib.hid (hbel.alloc hsz _)
      have HSZ : Hid (w.heap.size ≤ (wr.alloc (.cells #[.string k2, .int .i64 q2, .bool g2, .string v2, .int .i64 t2] 40)).heap.size) := Lib.hid (by simp; omega)
      clear hbel hsz hbl hc hwf hst he hZ
      go_wp2
      go_roundw
      case rel => exact ⟨j + 1, by omega, by go_num, by rw [hst2.out], HBW.out, HSZ.out⟩
      case measure => simp [intOf]; omega
    · have hjn : j = n := by omega
      have htk : l.take j = l := List.take_of_length_le (by rw [HLN.out]; omega)
      rw [htk]
      subst hjn
      have HB := Lib.hid hbel
      clear htk hbel hsz
      go_wp2
      go_ret
      exact ⟨rfl, HB.out⟩
end Go.Proofs.Ytonoapgajgcjlaa
