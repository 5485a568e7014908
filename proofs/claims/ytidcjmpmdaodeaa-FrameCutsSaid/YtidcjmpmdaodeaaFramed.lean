/- The walk of framed. -/
import Derived.Test.YtidcjmpmdaodeaaAlls
import Derived.Test.YtidcjmpmdaodeaaTwo
import Derived.Test.YtidcjmpmdaodeaaFmB
namespace Go.Proofs.Ytidcjmpmdaodeaa
open Go.RowKit

theorem info_int : (Try.prog.info? 3).map (fun i => (i.zero, i.size, i.bytes)) = some (some (.int .i64 0), 1, 8) := by kernel_rfl

theorem add_zero' (a : Addr) : a.add 0 = a := by
  obtain ⟨b, o, sp⟩ := a
  unfold Addr.add
  split <;> simp_all

/-- 'l[:m]' of a slice -/
theorem slice_head (W : World) (A : Option Addr) (n cap m : Nat) (h : m ≤ cap) : (Instr.slice 35 (.slice A n cap) none (some (.int .i64 (m : Int))) none).run Try.prog W = .ok (.slice A m cap) W := by
  have hs : ∀ w, (sizeOf (Try.prog.elem 35)).run Try.prog w = .ok 1 w := fun w => by kernel_rfl
  rw [run_slice_h W 35 A n cap (by kernel_rfl) .i64 (m : Int) (by omega) (by omega), hs]
  simp only [Result.andThen, sliced, Int.toNat_natCast, Nat.sub_zero, Nat.zero_mul, add_zero', Option.map_id']
  split <;> rfl

theorem str_head (W : World) (s : ByteArray) (b : Nat) (h : b ≤ s.size) :
    (Instr.slice 9 (.string s) none (some (.int .i64 (b : Int))) none).run Try.prog W = .ok (.string (s.extract 0 b)) W := by
  have i1 : (0 : Int) ≤ (b : Int) := by omega
  have i4 : (b : Int) ≤ (s.size : Int) := by omega
  simp [Instr.slice, run_underlying Try.underlying9, Instr.sliceBounds, run_sliceBound, i1, i4]

/-- the bodies that framed takes -/
def bodiesOf (l : List ByteArray) : List (List UInt8) := (l.take 20).map fun t => t.data.toList.take 2000

theorem bodiesOf_length (l : List ByteArray) : (bodiesOf l).length = min l.length 20 := by simp [bodiesOf, Nat.min_comm]

theorem bodiesOf_small (l : List ByteArray) : ∀ b ∈ bodiesOf l, b.length ≤ 2000 := by
  intro b hb
  obtain ⟨t, -, rfl⟩ := List.mem_map.1 hb
  exact List.length_take_le _ _

theorem bodiesOf_at (l : List ByteArray) (k : Nat) (h : k < (bodiesOf l).length) (hl : k < l.length) : (bodiesOf l)[k] = l[k].data.toList.take 2000 := by
  simp [bodiesOf]

def endCells (bs : List (List UInt8)) (k : Nat) : List Value := (List.range k).map fun i => Value.int .i64 (FM.ends bs (i + 1) : Nat)

theorem endCells_snoc (bs : List (List UInt8)) (k : Nat) : endCells bs (k + 1) = endCells bs k ++ [.int .i64 (FM.ends bs (k + 1) : Nat)] := by
  simp [endCells, List.range_succ]

theorem strs_take (bs : List (List UInt8)) (k : Nat) (h : k < bs.length) : strs (bs.take (k + 1)) = strs (bs.take k) ++ [.string ⟨bs[k].toArray⟩] := by
  rw [List.take_succ_eq_append_getElem h, strs_snoc]

theorem frames_len_le (bs : List (List UInt8)) (hb : ∀ b ∈ bs, b.length ≤ 2000) : (FM.frames bs).length ≤ 2008 * bs.length := by
  induction bs with
  | nil => simp [FM.frames]
  | cons b r ih =>
    have h1 := hb b (by simp)
    have h2 := ih fun x hx => hb x (by simp [hx])
    rw [FM.frames_cons, List.length_append, FM.frame_len, List.length_cons]
    omega

def FramedOut (bs : List (List UInt8)) (w : World) (e : Ending) (w' : World) : Prop :=
  ∃ a b, e = .returned (.tuple #[.string ⟨(FM.frames bs).toArray⟩, a, b]) ∧ Two w.heap.size 3 1 a bs.length (endCells bs bs.length) 9 1 b bs.length (strs bs) w w'

set_option maxRecDepth 100000 in
set_option maxHeartbeats 1000000 in
theorem framed_any (A : Option Addr) (n cap : Nat) (l : List ByteArray) (w : World) (hn : l.length = n) (hz : StrsIn w w.heap.size A l) (hcap : n ≤ cap) (hb : n * 16 ≤ 140737488351232) (hs : ∀ q ∈ l, q.size ≤ 140737488355328) :
    Calls Try.prog 18 #[.slice A n cap] w fun e w' => FramedOut (bodiesOf l) w e w' := by
  obtain ⟨i0, hi, hz0, hz1, hz2⟩ := info_parts info_str
  obtain ⟨j0, hj, hy0, hy1, hy2⟩ := info_parts info_int
  have HZ := Lib.hid hz
  have HN := Lib.hid hn
  have HS := Lib.hid hs
  obtain ⟨N, hNN⟩ : ∃ N, min n 20 = N := ⟨_, rfl⟩
  have hBL : (bodiesOf l).length = N := by rw [bodiesOf_length, hn, hNN]
  have HBL := Lib.hid hBL
  have hmin : min (n : Int) 20 = (N : Int) := by omega
  have hNn : N ≤ n := by omega
  have hN20 : N ≤ 20 := by omega
  have hsl := fun W => slice_head W A n cap N (by omega)
  clear hz hn hs hBL hNN
  go_enter Try.func18, Try.ntmps18
  go_wp2_with fail
  go_loopw [5, 6, 7, 18] (fun s a b i wr => ∃ k : Nat, k ≤ N ∧ i = .int .i64 k ∧ s = .string ⟨(FM.frames ((bodiesOf l).take k)).toArray⟩ ∧
      Two w.heap.size 3 1 a k (endCells (bodiesOf l) k) 9 1 b k (strs ((bodiesOf l).take k)) w wr) (fun _ _ _ i _ => N - (intOf i).toNat)
  case atStart => exact ⟨0, by omega, rfl, rfl, World.ownsRow_nil _ _ _ _, World.ownsRow_nil _ _ _ _, Below.refl _ _, Nat.le_refl _⟩
  case round =>
    obtain ⟨k, hk, rfl, rfl, hT⟩ := hrel
    by_cases hlt : k < N
    · have hkl : k < l.length := by rw [HN.out]; omega
      have hkb : k < (bodiesOf l).length := by rw [HBL.out]; exact hlt
      obtain ⟨g, off, hA, hbl, hc⟩ := (HZ.out.below hT.below) (by omega)
      have hck := hc k hkl
      have hat := bodiesOf_at l k hkb hkl
      obtain ⟨t, ht⟩ : ∃ t, l[k] = t := ⟨_, rfl⟩
      have hts := HS.out t (by rw [← ht]; exact List.getElem_mem hkl)
      rw [ht] at hck hat
      obtain ⟨M, hM⟩ : ∃ M, min t.size 2000 = M := ⟨_, rfl⟩
      have hmin2 : min (t.size : Int) 2000 = (M : Int) := by omega
      have hM2 : M ≤ 2000 := by omega
      have hsl2 := fun W => str_head W t M (by omega)
      have hBd : (t.extract 0 M).data.toList = (bodiesOf l)[k] := by
        rw [hat, Lib.extract_data, List.drop_zero, Nat.sub_zero, ← hM]
        rcases Nat.le_total t.size 2000 with h | h
        · rw [Nat.min_eq_left h, List.take_of_length_le (by rw [size_list]; exact Nat.le_refl _), List.take_of_length_le (by rw [size_list]; exact h)]
        · rw [Nat.min_eq_right h]
      have hBs : (t.extract 0 M).size = M := by rw [ByteArray.size_extract]; omega
      obtain ⟨B, hB⟩ : ∃ B, t.extract 0 M = B := ⟨_, rfl⟩
      rw [hB] at hsl2 hBd hBs
      have HP := Lib.hid (fun W => put_any B W (by omega))
      rw [putOut_good (by omega), hBd] at HP
      have hsm := bodiesOf_small l
      have hfl : (FM.frames ((bodiesOf l).take k)).length ≤ 2008 * ((bodiesOf l).take k).length := frames_len_le _ fun b hb => hsm b (List.mem_of_mem_take hb)
      have hfk : ((bodiesOf l).take k).length ≤ k := List.length_take_le _ _
      have hfb := hsm (bodiesOf l)[k] (List.getElem_mem hkb)
      obtain ⟨S, hS⟩ : ∃ S : ByteArray, (⟨(FM.frames ((bodiesOf l).take k)).toArray⟩ : ByteArray) = S := ⟨_, rfl⟩
      obtain ⟨F, hF⟩ : ∃ F : ByteArray, (⟨(FM.frame (bodiesOf l)[k]).toArray⟩ : ByteArray) = F := ⟨_, rfl⟩
      have hSs : S.size = FM.ends (bodiesOf l) k := by rw [← hS]; rfl
      have hSs' : S.size ≤ 40160 := by
        have : S.size = (FM.frames ((bodiesOf l).take k)).length := by rw [← hS]; rfl
        omega
      have hFs : F.size = 8 + ((bodiesOf l)[k]).length := by rw [← hF, ← FM.frame_len]; rfl
      have hcat : S ++ F = ⟨(FM.frames ((bodiesOf l).take (k + 1))).toArray⟩ := by
        rw [← hS, ← hF, FM.frames_snoc _ _ hkb]
        apply str_ext
        simp
      rw [hF] at HP
      simp only [hS]
      have hsum : S.size + F.size = FM.ends (bodiesOf l) (k + 1) := by rw [hSs, hFs, FM.ends_succ _ _ hkb]
      obtain ⟨E, hE⟩ : ∃ E, FM.ends (bodiesOf l) (k + 1) = E := ⟨_, rfl⟩
      rw [hE] at hsum
      have hsumi : (S.size : Int) + (F.size : Int) = (E : Int) := by omega
      have hFs' : F.size ≤ 2008 := by omega
      have n1 : ¬ 9223372036854775807 < S.size + F.size := by omega
      have HCAT := Lib.hid hcat
      have HEC : Hid (endCells (bodiesOf l) (k + 1) = endCells (bodiesOf l) k ++ [.int .i64 (E : Nat)]) := by rw [endCells_snoc, hE]; exact Lib.hid rfl
      have HSC : Hid (strs ((bodiesOf l).take (k + 1)) = strs ((bodiesOf l).take k) ++ [.string B]) := by rw [strs_take _ _ hkb, ← hBd, str_mk]; exact Lib.hid rfl
      have HT := Lib.hid hT
      have hbs := hT.base_le
      clear hc hat ht hM hB hBd hsm hfl hfk hfb hS hF hSs hFs hcat hE hT
      subst hA
      go_wp2_with fail
      refine (HP.out _).mono ?_
      rintro e w1 ⟨rfl, hB1⟩
      have hs1 := hB1.size
      have HT1 : Hid (Two w.heap.size 3 1 u6 k (endCells (bodiesOf l) k) 9 1 u7 k (strs ((bodiesOf l).take k)) w w1) := by
        exact ⟨own_below HT.out.own1 hB1, own_below HT.out.own2 hB1, HT.out.below.trans (hB1.mono hbs), by omega⟩
      clear hB1
      go_wp2_with (at_builtin; refine wpList_append_own _ rfl _ _ 40 rfl w.heap.size 3 j0 _ 1 8 Try.underlying40 hj hy0 hy1 hy2 rfl (by decide) _ _ _ rfl (HT1.out.alloc _).own1 ⟨w1.heap.size, 0, none⟩ 1 1 [.int .i64 E] rfl ?c1 ?c2 ?c3 ?c4 ?c5 ?c6 ?_)
      case c1 => rfl
      case c2 => exact one_cell w1 _ _
      case c3 => intro u hu; simp at hu; subst hu; rfl
      case c4 => unfold maxLen; omega
      case c5 => omega
      case c6 => simp; omega
      intro v2 w2 hown2 hgrow2 hnil2
      have HT2 := Lib.hid ((HT1.out.alloc _).app1 (by decide) hown2 hgrow2)
      have hs2 := HT2.out.base_le
      clear hown2 hgrow2 hnil2
      go_wp2_with (at_builtin; refine wpList_append_own _ rfl _ _ 35 rfl w.heap.size 9 i0 _ 1 16 Try.underlying35 hi hz0 hz1 hz2 rfl (by decide) _ _ _ rfl (HT2.out.alloc _).own2 ⟨w2.heap.size, 0, none⟩ 1 1 [.string B] rfl ?d1 ?d2 ?d3 ?d4 ?d5 ?d6 ?_)
      case d1 => rfl
      case d2 => exact one_cell w2 _ _
      case d3 => intro u hu; simp at hu; subst hu; rfl
      case d4 => unfold maxLen; omega
      case d5 => omega
      case d6 => simp; omega
      intro v3 w3 hown3 hgrow3 hnil3
      have HT3 := Lib.hid ((HT2.out.alloc _).app2 (by decide) hown3 hgrow3)
      rw [← HEC.out, ← HSC.out] at HT3
      clear hown3 hgrow3 hnil3
      go_wp2
      go_roundw
      case rel => exact ⟨k + 1, by omega, by go_num, by rw [HCAT.out], HT3.out⟩
      case measure => simp [intOf]; omega
    · have hkn : k = N := by omega
      have htk : (bodiesOf l).take k = bodiesOf l := List.take_of_length_le (by rw [HBL.out]; omega)
      rw [htk] at hT ⊢
      subst hkn
      have HT := Lib.hid hT
      clear hT htk
      go_wp2
      go_ret3
      exact ⟨_, _, rfl, by rw [HBL.out]; exact HT.out⟩
end Go.Proofs.Ytidcjmpmdaodeaa
