/- lists: the entries of both sides. -/
import Derived.Test.YtcmnbfcceeljpaaOp
import Derived.Test.YtcmnbfcceeljpaaTwo
namespace Go.Proofs.Ytcmnbfcceeljpaa
open Go.RowKit
open SK
attribute [local go_sem ↓] Go.wp_at_zero Go.wp_at_succ

theorem info_ent : (Try.prog.info? 45).map (fun i => (i.zero, i.size, i.bytes)) = some (some (.agg #[.string ⟨#[]⟩, .int .i64 0, .bool false, .string ⟨#[]⟩, .int .i64 0]), 5, 56) := by kernel_rfl
theorem info_rent : (Try.prog.info? 44).map (fun i => (i.zero, i.size, i.bytes)) = some (some (.agg #[.string ⟨#[]⟩, .int .i64 0, .bool false, .string ⟨#[]⟩, .int .i64 0]), 5, 56) := by kernel_rfl

theorem ecs_take (l : List E) (k : Nat) (h : k < l.length) : ecs (l.take (k + 1)) = ecs (l.take k) ++ E.cells l[k] := by
  rw [List.take_succ_eq_append_getElem h, ecs_snoc]

def ListsRel (n base : Nat) (l : List E) (w : World) (a b i : Value) (wr : World) : Prop :=
  ∃ k : Nat, k ≤ n ∧ i = .int .i64 k ∧ Two base 45 5 a k (ecs (l.take k)) 44 5 b k (ecs (l.take k)) w wr

set_option maxRecDepth 100000 in
set_option maxHeartbeats 1000000 in
theorem lists_any (A : Option Addr) (n cap : Nat) (l : List E) (w : World) (hn : l.length = n) (hz : EntsIn w A l) (hb : n * 56 ≤ 140737488351232) :
    Calls Try.prog 10 #[.slice A n cap] w fun e w' => ∃ a b, e = .returned (.tuple #[a, b]) ∧ Two w.heap.size 45 5 a n (ecs l) 44 5 b n (ecs l) w w' := by
  obtain ⟨i0, hi, hz0, hz1, hz2⟩ := info_parts info_ent
  obtain ⟨j0, hj, hy0, hy1, hy2⟩ := info_parts info_rent
  have HZ := Lib.hid hz
  have HN := Lib.hid hn
  clear hz hn
  go_enter Try.func10, Try.ntmps10
  go_wp2
  go_loopw [4, 5, 10] (fun a b i wr => ListsRel n w.heap.size l w a b i wr) (fun _ _ i _ => n - (intOf i).toNat)
  case atStart => exact ⟨0, by omega, rfl, World.ownsRow_nil _ _ _ _, World.ownsRow_nil _ _ _ _, Below.refl _ _, Nat.le_refl _⟩
  case round =>
    obtain ⟨k, hk, rfl, hT⟩ := hrel
    by_cases hlt : k < n
    · have hkl : k < l.length := by rw [HN.out]; exact hlt
      obtain ⟨b, off, hA, hbl, hc⟩ := (HZ.out.below hT.below).at_ (by omega)
      obtain ⟨hc0, hc1, hc2, hc3, hc4⟩ := hc k hkl
      have HSN := Lib.hid (ecs_take l k hkl)
      obtain ⟨p, hp⟩ : ∃ p, l[k] = p := ⟨_, rfl⟩
      rw [hp] at hc0 hc1 hc2 hc3 hc4 HSN
      obtain ⟨X, hX⟩ : ∃ X, ecs (l.take k) = X := ⟨_, rfl⟩
      rw [hX] at hT HSN
      have HT := Lib.hid hT
      have hBs := hT.below.size
      have hTo1 := hT.own1
      have hTo2 := hT.own2
      have HN1 := Lib.hid (fun B => @own_new _ _ _ _ _ _ _ hTo1 B)
      have HN2 := Lib.hid (fun B => @own_new _ _ _ _ _ _ _ hTo2 B)
      have hm1 : k + 1 ≤ maxLen := by unfold maxLen; omega
      have hm2 : (k + 1) * 56 ≤ 140737488355328 := by omega
      clear hT hTo1 hTo2 hc hp hX
      subst hA
      have HT1 := HT
      have HT2 := HT
      have hgrow1 : wr.grownBy wr none := World.grownBy.refl _ _
      have hgrow2 : wr.grownBy wr none := World.grownBy.refl _ _
      go_wp2_with fail
      go_region_held3 (fun w' => w'.cell? ⟨wr.heap.size, 0, none⟩ = some (.string p.key) ∧ w'.cell? ⟨wr.heap.size, 1, none⟩ = some (.int .i64 p.seq) ∧ w'.cell? ⟨wr.heap.size, 2, none⟩ = some (.bool p.gone) ∧ w'.cell? ⟨wr.heap.size, 3, none⟩ = some (.string p.value) ∧ w'.cell? ⟨wr.heap.size, 4, none⟩ = some (.int .i64 p.til))
        (first
          | go_keep
          | (go_split_ands; refine ⟨?_, ?_, ?_, ?_, ?_⟩ <;> (first | (rw [hgrow1.cell_far _ (by simp; omega) (HN1.out _ (by simp))]; assumption) | (rw [hgrow2.cell_far _ (by simp; omega) (HN2.out _ (by simp))]; assumption))))
        (first
          | (refine step_append_lies _ (by rfl) _ _ 23 (by rfl) w.heap.size 45 i0 _ 5 56 Try.underlying23 hi hz0 hz1 hz2 rfl (by omega) u4 k X (by rfl) ?_ _ 1 1 (E.cells p) (by rfl) (by rfl) ?_ (by simp [E.cells, Value.oneCell']) (by omega) hm1 hm2 ?_ _ (by rfl) ?_
             · repeat (first | exact HT.out.own1 | exact HT2.out.own1 | refine World.ownsRow.alloc ?_ _ | refine own_drew ?_ | fail)
             · refine World.news_of_block (cs := (E.cells p).toArray) (t := 45) (fr := (0, 0)) ?_
               first | exact drew_at _ _ _ (alloc_at _ _ _ (by simp)) | exact drew_at _ _ _ (alloc_old _ _ _ _ (alloc_at _ _ _ (by simp))) | exact alloc_at _ _ _ (by simp) | (refine (hgrow2.block _ (by simp <;> omega) (HN2.out _ (by omega))).trans ?_; first | exact drew_at _ _ _ (alloc_at _ _ _ (by simp)) | exact drew_at _ _ _ (alloc_old _ _ _ _ (alloc_at _ _ _ (by simp))) | fail) | fail
             · first | (simp; omega) | omega | fail
             intro g1 c1 w1 hown1 hgrow1 hat1 hlt1
             have hs1 : wr.heap.size < w1.heap.size := by
               have hgs := hgrow1.size
               first | omega | (simp at hgs; omega) | fail
             first | have HT1 := Lib.hid (Two.app1 ((HT.out.alloc _).alloc _).drew (by decide) hown1 hgrow1) | have HT1 := Lib.hid (Two.app1 (((HT.out.alloc _).alloc _).alloc _).drew (by decide) hown1 hgrow1) | have HT1 := Lib.hid (Two.app1 HT2.out (by decide) hown1 hgrow1) | have HT1 := Lib.hid (Two.app1 (HT2.out.alloc _) (by decide) hown1 hgrow1) | fail
             clear hat1 hlt1)
          | (refine step_append_lies _ (by rfl) _ _ 24 (by rfl) w.heap.size 44 j0 _ 5 56 Try.underlying24 hj hy0 hy1 hy2 rfl (by omega) u5 k X (by rfl) ?_ _ 1 1 (E.cells p) (by rfl) (by rfl) ?_ (by simp [E.cells, Value.oneCell']) (by omega) hm1 hm2 ?_ _ (by rfl) ?_
             · repeat (first | exact HT.out.own2 | exact HT1.out.own2 | refine World.ownsRow.alloc ?_ _ | refine own_drew ?_ | fail)
             · refine World.news_of_block (cs := (E.cells p).toArray) (t := 44) (fr := (0, 0)) ?_
               first | exact drew_at _ _ _ (alloc_at _ _ _ (by simp)) | exact drew_at _ _ _ (alloc_old _ _ _ _ (alloc_at _ _ _ (by simp))) | exact alloc_at _ _ _ (by simp) | (refine (hgrow1.block _ (by simp <;> omega) (HN1.out _ (by omega))).trans ?_; first | exact drew_at _ _ _ (alloc_at _ _ _ (by simp)) | exact drew_at _ _ _ (alloc_old _ _ _ _ (alloc_at _ _ _ (by simp))) | fail) | fail
             · first | (simp; omega) | omega | fail
             intro g2 c2 w2 hown2 hgrow2 hat2 hlt2
             have hs2 : wr.heap.size < w2.heap.size := by
               have hgs := hgrow2.size
               first | omega | (simp at hgs; omega) | fail
             first | have HT2 := Lib.hid (Two.app2 ((HT.out.alloc _).alloc _).drew (by decide) hown2 hgrow2) | have HT2 := Lib.hid (Two.app2 (((HT.out.alloc _).alloc _).alloc _).drew (by decide) hown2 hgrow2) | have HT2 := Lib.hid (Two.app2 HT1.out (by decide) hown2 hgrow2) | have HT2 := Lib.hid (Two.app2 (HT1.out.alloc _) (by decide) hown2 hgrow2) | fail
             clear hat2 hlt2)
          | fail)
      all_goals
        have HR := Lib.hid HT2.out
        rw [← HSN.out] at HR
        go_wp2
        go_roundw
        case rel => exact ⟨k + 1, by omega, by go_num, HR.out⟩
        case measure => simp [intOf]; omega
    · have hkn : k = n := by omega
      have htk : l.take k = l := List.take_of_length_le (by rw [HN.out]; omega)
      rw [htk] at hT
      subst hkn
      have HT := Lib.hid hT
      clear hT htk
      go_wp2
      go_ret2
      exact ⟨_, _, rfl, HT.out⟩
end Go.Proofs.Ytcmnbfcceeljpaa
