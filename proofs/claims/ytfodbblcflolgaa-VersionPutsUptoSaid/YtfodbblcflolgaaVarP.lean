/- The walk of PutAll. -/
import Derived.Test.YtfodbblcflolgaaVarE
import Derived.OwnWalk
import Derived.Deep.AppendLies
import Derived.Lib.BufferRead
namespace Go.Proofs.Ytfodbblcflolgaa
open Go.RowKit

/-- a slice of numbers that came in, and lies below block B: nil and empty ones too -/
def IntsIn (w : World) (B : Nat) (A : Option Addr) (zs : List Int) : Prop :=
  (∀ z ∈ zs, -9223372036854775808 ≤ z ∧ z ≤ 9223372036854775807) ∧
  (0 < zs.length → ∃ b off, A = some ⟨b, off, none⟩ ∧ b < B ∧ ∀ j, (h : j < zs.length) → w.cell? ⟨b, off + j, none⟩ = some (.int .i64 zs[j]))

theorem IntsIn.below {w w' : World} {B : Nat} {A : Option Addr} {zs : List Int} (h : IntsIn w B A zs) (hb : Below B w w') : IntsIn w' B A zs := by
  refine ⟨h.1, fun hn => ?_⟩
  obtain ⟨b, off, hA, hlt, hc⟩ := h.2 hn
  exact ⟨b, off, hA, hlt, fun j hj => (hb.cell (p := ⟨b, off + j, none⟩) hlt).trans (hc j hj)⟩

/-- the bytes of numbers, one behind the other -/
def encAll (zs : List Int) : List UInt8 := zs.flatMap VM.enc

theorem encAll_snoc (zs : List Int) (k : Nat) (h : k < zs.length) : encAll (zs.take (k + 1)) = encAll (zs.take k) ++ VM.enc zs[k] := by
  rw [List.take_succ_eq_append_getElem h]
  simp only [encAll, List.flatMap_append, List.flatMap_cons, List.flatMap_nil, List.append_nil]

theorem encAll_len (zs : List Int) (h : ∀ z ∈ zs, -9223372036854775808 ≤ z ∧ z ≤ 9223372036854775807) : (encAll zs).length ≤ 10 * zs.length := by
  induction zs with
  | nil => simp [encAll]
  | cons z r ih =>
    have h1 := (VM.enc_len (h z (by simp)).1 (h z (by simp)).2).2
    have h2 := ih fun y hy => h y (by simp [hy])
    have e : encAll (z :: r) = VM.enc z ++ encAll r := by simp [encAll]
    rw [e, List.length_append, List.length_cons]
    omega

def PutAllRel (n : Nat) (zs : List Int) (w : World) (A i : Value) (wr : World) : Prop :=
  ∃ k : Nat, k ≤ n ∧ i = .int .i64 k ∧ wr.ownsRow w.heap.size 5 1 A (encAll (zs.take k)).length (Lib.byteCells (encAll (zs.take k))) ∧ Below w.heap.size w wr

theorem row_cells (w : World) (l : List UInt8) : ∀ j u, (Lib.byteCells l)[j]? = some u → (rowWorld w l).cell? ((⟨w.heap.size, 0, none⟩ : Addr).add j) = some u := by
  intro j u hj
  have hadd : (⟨w.heap.size, 0, none⟩ : Addr).add j = ⟨w.heap.size, j, none⟩ := by unfold Addr.add; split <;> simp_all
  have hl : j < l.length := by
    have h := (List.getElem?_eq_some_iff.1 hj).1
    rwa [Lib.byteCells_length] at h
  rw [hadd, cell_of_row _ _ _ _ _ _ (rowWorld_row w l), rowOf_lo _ _ hl, ← hj]
  simp [Lib.byteCells, hl]

set_option maxRecDepth 100000 in
theorem putAll_any (A : Option Addr) (n cap : Nat) (zs : List Int) (w : World) (hn : zs.length = n) (hz : IntsIn w w.heap.size A zs) (hb : 10 * n ≤ 140737488355328) :
    Calls Try.prog 40 #[.slice A n cap] w fun e w' => e = .returned (.string ⟨(encAll zs).toArray⟩) ∧ Below w.heap.size w w' := by
  obtain ⟨i0, hi, hz0, hz1, hz2⟩ := info_parts info_u8
  have HZ := Lib.hid hz
  have HN := Lib.hid hn
  clear hz hn
  go_enter Try.func40, Try.ntmps40
  go_wp2
  go_loopw [3, 10] (fun a i wr => PutAllRel n zs w a i wr) (fun _ i _ => n - (intOf i).toNat)
  case atStart => exact ⟨0, Nat.zero_le _, rfl, World.ownsRow_nil _ _ _ _, Below.refl _ _⟩
  case round =>
    obtain ⟨k, hk, rfl, hown, hB⟩ := hrel
    by_cases hlt : k < n
    · have hkl : k < zs.length := by rw [HN.out]; exact hlt
      obtain ⟨b, off, hA, hbl, hc⟩ := (HZ.out.below hB).2 (by omega)
      obtain ⟨z, hzk⟩ : ∃ z, zs[k] = z := ⟨_, rfl⟩
      have hzr := HZ.out.1 z (by rw [← hzk]; exact List.getElem_mem hkl)
      have hcell := hc k hkl
      rw [hzk] at hcell
      have HS := Lib.hid (encAll_snoc zs k hkl)
      have HOWN := Lib.hid hown
      have hen := VM.enc_len hzr.1 hzr.2
      have HP := Lib.hid (pieces_any z wr hzr.1 hzr.2)
      have HK := Lib.hid hzk
      have hl10 := Lib.hid (encAll_len (zs.take k) (fun y hy => HZ.out.1 y (List.mem_of_mem_take hy)))
      clear hc hown hzk hzr
      subst hA
      go_wp2_with fail
      refine HP.out.mono ?_
      rintro e w1 ⟨rfl, hB1⟩
      have hst : (storeCells ⟨w1.heap.size, 0, none⟩ (rowOf (VM.enc z)).toList).run Try.prog (w1.alloc (.cells (rowOf []) 140)) = .ok () (rowWorld w1 (VM.enc z)) := run_storeCells_new (heap_alloc_new w1 (.cells (rowOf []) 140)) (rowOf_size _ hen.2)
      have hsz := rowOf_size _ hen.2
      have hsl := fun W => arr_slice W w1.heap.size (VM.enc z).length hen.2
      rw [rowOf_nil] at hst
      have hown2 := own_below (own_below HOWN.out hB1) (rowWorld_below w1 (VM.enc z))
      have HO2 := Lib.hid hown2
      clear hown2
      have hwb := rowWorld_below w1 (VM.enc z)
      go_wp2_with (at_builtin; refine wpList_append_own _ rfl _ _ 102 rfl w.heap.size 5 i0 (.int .u8 0) 1 1 Try.underlying102 hi hz0 hz1 hz2 rfl (by decide) _ _ _ rfl HO2.out ⟨w1.heap.size, 0, none⟩ (VM.enc z).length 10 (Lib.byteCells (VM.enc z)) rfl ?c1 ?c2 ?c3 ?c4 ?c5 ?c6 ?_)
      case c1 => simp [Lib.byteCells_length]
      case c2 => exact row_cells w1 (VM.enc z)
      case c3 => exact Lib.byteCells_one _
      case c4 =>
        have := hl10.out
        have hl : (zs.take k).length ≤ k := List.length_take_le _ _
        unfold maxLen; omega
      case c5 =>
        have := hl10.out
        have hl : (zs.take k).length ≤ k := List.length_take_le _ _
        omega
      case c6 => exact Nat.le_trans hB.size (Nat.le_trans hB1.size hwb.size)
      intro v' w2 hown3 hgrow hnil
      clear hnil
      have hB3 : Below w.heap.size w w2 := ((hB.trans (hB1.mono hB.size)).trans (hwb.mono (Nat.le_trans hB.size hB1.size))).grown hgrow (Nat.le_trans hB.size (Nat.le_trans hB1.size hwb.size)) (fun g hg => (HO2.out.lt g hg).1)
      have HR : Hid (PutAllRel n zs w v' (.int .i64 ((k : Int) + 1)) w2) := by
        refine ⟨k + 1, by omega, by go_num, ?_, hB3⟩
        rw [HS.out, HK.out, List.length_append, Lib.byteCells_append]
        exact hown3
      clear hown3 hgrow hB3 hwb hst hsl
      go_wp2
      go_roundw
      case rel => exact HR.out
      case measure => simp [intOf]; omega
    · have hkn : k = n := by omega
      have htk : zs.take k = zs := List.take_of_length_le (by rw [HN.out]; omega)
      rw [htk] at hown
      have hcv := own_string hown
      have HB := Lib.hid hB
      clear hown htk hB
      go_wp2
      go_ret
      exact ⟨rfl, HB.out⟩
end Go.Proofs.Ytfodbblcflolgaa
