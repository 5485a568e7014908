/- Texts joined by bundle.py: YQa, YQb, YQc, YQd, YQe. -/
import Derived.Test.YtjkofciohehgfaaGreatDoorZad
import Derived.Test.YtjkofciohehgfaaGreatDoorZax
import Derived.Test.YtjkofciohehgfaaGreatDoorZbg
import Derived.Test.YtjkofciohehgfaaGreatDoorZbj
import Derived.Test.YtjkofciohehgfaaGreatDoorZbo
import Derived.Test.YtjkofciohehgfaaGreatDoorZac
import Derived.Test.YtjkofciohehgfaaGreatDoorZbh
import Derived.Test.YtjkofciohehgfaaGreatDoorZab
import Derived.Deep.Slices
import Derived.Lib.SmallJoins
import Derived.Deep.QuietTactic

/- Through the layers: a batch, a log, a table, entries in memory, a merge (what 'stirs' asks). -/
namespace Go.Proofs.YtjkofciohehgfaaGreatDoor
open Go.RowKit

namespace Q
/-- the entries -/
def kb : L7.SK.E := ⟨⟨#[97]⟩, 0, false, ⟨#[120]⟩, 0⟩
def kt : L11.SK.E := ⟨⟨#[97]⟩, 1, false, ⟨#[]⟩, 0⟩
def ks : L6.SK.E := ⟨⟨#[97]⟩, 1, false, ⟨#[]⟩, 0⟩
def km : L13.SK.E := ⟨⟨#[97]⟩, 0, false, ⟨#[]⟩, 0⟩
theorem kb_wf : kb.wf := by constructor <;> decide
theorem kt_wf : kt.wf := by constructor <;> decide
theorem ks_wf : ks.wf := by constructor <;> decide
theorem km_wf : km.wf := by constructor <;> decide
def bytes : List UInt8 := (L7.BK.putOut [kb]).1
theorem put_ok : (L7.BK.putOut [kb]).2 = 0 := by decide +kernel
theorem tab_ok : (L11.TB.tabOut [kt] 9 9).2 = 0 := by decide +kernel
theorem tab_len : 24 < (L11.TB.tabOut [kt] 9 9).1.length := by decide +kernel
theorem step_ok : (L6.SK.St.step [1] L6.SK.St.new ks).1 = 0 := by decide +kernel
theorem step_len : (L6.SK.St.step [1] L6.SK.St.new ks).2.l.length = 1 := by decide +kernel
theorem mrg_ok : (L13.HP.mrg [[km]].flatten).length = 1 := by decide +kernel
def s1 : L8.DM.St := (L8.WL.create 1 (L8.DM.new 1000)).2
theorem create_ok : (L8.WL.create 1 (L8.DM.new 1000)).1 = 0 := by decide +kernel
theorem append_ok : (L8.WL.append 1 bytes s1).1 = 0 := by decide +kernel
theorem pair_of {α β : Type} (x : α × β) {a : α} (h : x.1 = a) : x = (a, x.2) := by
  cases x
  simp only at h
  subst h
  rfl
theorem log_ok : ∃ a b, L8.WL.create 1 (L8.DM.new 1000) = (0, a) ∧ L8.WL.append 1 bytes a = (0, b) := ⟨s1, _, pair_of _ create_ok, pair_of _ append_ok⟩
theorem skip_ok : ∃ s, L6.SK.St.step [1] L6.SK.St.new ks = (0, s) ∧ s.l.length = 1 := ⟨_, pair_of _ step_ok, step_len⟩
end Q

theorem func_equalIn (W : World) (d : Nat) (f : Fn) (a b : Array Value) : (Op.equalIn (d + 1) 56 (.func f a b) .nilFunc).run Tryz.prog W = .ok false W := by
  have h := Tryz.underlying56
  simp [Op.equalIn, run_underlying h]
theorem func_neq (W : World) (f : Fn) (a b : Array Value) : (binOp .neq 56 (.func f a b) .nilFunc).run Tryz.prog W = .ok (.bool true) W := by
  have h := func_equalIn W 9999 f a b
  simp only [binOp]
  simp [Op.equal, Op.maxDepth, h, Result.andThen]

set_option maxRecDepth 100000 in
set_option maxHeartbeats 1000000 in
theorem stirs_any (w : World) (ht : L8.Tab w) : Calls Tryz.prog 5 #[] w fun e w' => e = .returned (.bool true) ∧ Below w.heap.size w w' := by
  have HT := Lib.hid ht
  obtain ⟨sa, sb, hsa, hsb⟩ := Q.log_ok
  obtain ⟨sk, hsk, hskl⟩ := Q.skip_ok
  have HSA := Lib.hid hsa
  have HSB := Lib.hid hsb
  have HSK := Lib.hid hsk
  have HSL := Lib.hid hskl
  obtain ⟨s0, hs0⟩ : ∃ s0, L8.DM.new 1000 = s0 := ⟨_, rfl⟩
  rw [hs0] at HSA
  have HS0 := Lib.hid hs0
  clear ht hsa hsb hsk hskl hs0
  go_enter Tryz.func5, Tryz.ntmps5
  go_wp2_with fail
  have hr0 := heap_alloc_new w (.cells #[.string ⟨#[97]⟩, .int .i64 0, .bool false, .string ⟨#[120]⟩, .int .i64 0] 45)
  have hb0 := (Below.refl w.heap.size w).alloc (Nat.le_refl _) (.cells #[.string ⟨#[97]⟩, .int .i64 0, .bool false, .string ⟨#[120]⟩, .int .i64 0] 45)
  generalize w.alloc (.cells #[.string ⟨#[97]⟩, .int .i64 0, .bool false, .string ⟨#[120]⟩, .int .i64 0] 45) = w1 at hr0 hb0 ⊢
  refine (L7.bput_any (some ⟨w.heap.size, 0, none⟩) 1 1 [Q.kb] w1 rfl ⟨fun x hx => by rw [List.mem_singleton.1 hx]; exact Q.kb_wf, fun _ => ⟨_, _, rfl, (Array.getElem?_eq_some_iff.1 hr0).1, fun j hj => by
    obtain rfl : j = 0 := by simpa using hj
    simp [World.cell?, hr0, Q.kb]⟩⟩).mono ?_
  rintro e w2 ⟨rfl, hb2⟩
  rw [Q.put_ok]
  have HB2 := Lib.hid (hb0.trans (hb2.mono hb0.size))
  have HBY : Hid ((⟨(L7.BK.putOut [Q.kb]).1.toArray⟩ : ByteArray).data.toList = Q.bytes) := Lib.hid (by simp [Q.bytes])
  have HBS : Hid ((⟨(L7.BK.putOut [Q.kb]).1.toArray⟩ : ByteArray).size ≤ 140737488355328) := Lib.hid (by decide +kernel)
  obtain ⟨bt, hbt⟩ : ∃ bt, (⟨(L7.BK.putOut [Q.kb]).1.toArray⟩ : ByteArray) = bt := ⟨_, rfl⟩
  rw [hbt] at HBY HBS ⊢
  clear hb2 hr0 hb0 hbt
  go_wp2_with fail
  refine (L8.live_new 1000 w2 w2 w2.heap.size (L8.Moves.refl _ _) (Nat.le_refl _) (by unfold L8.DM.fits; omega) 0 0 (by omega)).mono ?_
  rintro e w3 ⟨rfl, hl3⟩
  rw [HS0.out] at hl3
  have HL3 := Lib.hid hl3
  have HB3 := Lib.hid hl3.moves.below
  have hs23 := hl3.moves.below.size
  clear hl3
  go_wp2_with fail
  have hr4 := heap_alloc_new w3 (.cells #[.string ⟨#[97]⟩, .int .i64 1, .bool false, .string ⟨#[]⟩, .int .i64 0] 45)
  have hb4 := (Below.refl w3.heap.size w3).alloc (Nat.le_refl _) (.cells #[.string ⟨#[97]⟩, .int .i64 1, .bool false, .string ⟨#[]⟩, .int .i64 0] 45)
  generalize w3.alloc (.cells #[.string ⟨#[97]⟩, .int .i64 1, .bool false, .string ⟨#[]⟩, .int .i64 0] 45) = w4 at hr4 hb4 ⊢
  refine (L11.tbuild_any (some ⟨w3.heap.size, 0, none⟩) 1 1 [Q.kt] 9 9 w4 rfl (Nat.le_refl _) ⟨fun x hx => by rw [List.mem_singleton.1 hx]; exact Q.kt_wf, fun _ => ⟨_, _, rfl, (Array.getElem?_eq_some_iff.1 hr4).1, fun j hj => by
    obtain rfl : j = 0 := by simpa using hj
    simp [World.cell?, hr4, Q.kt]⟩⟩ (by decide) (by decide) (by decide) (by decide) (by decide)).mono ?_
  rintro e w5 ⟨rfl, hb5⟩
  unfold L11.buildV
  rw [Q.tab_ok]
  have HTL : Hid (24 < (⟨(L11.TB.tabOut [Q.kt] 9 9).1.toArray⟩ : ByteArray).size) := Lib.hid (by have := Q.tab_len; simpa [ByteArray.size] using this)
  obtain ⟨tt, htt⟩ : ∃ tt, (⟨(L11.TB.tabOut [Q.kt] 9 9).1.toArray⟩ : ByteArray) = tt := ⟨_, rfl⟩
  rw [htt] at HTL ⊢
  have h35 := hb4.trans (hb5.mono hb4.size)
  have HB5 := Lib.hid h35
  clear htt hb4 hb5 hr4
  go_wp2_with fail
  have hr6 := heap_alloc_new w5 (.cells #[.int .i64 1] 3)
  have hb6 := (Below.refl w5.heap.size w5).alloc (Nat.le_refl _) (.cells #[.int .i64 1] 3)
  generalize w5.alloc (.cells #[.int .i64 1] 3) = w6 at hr6 hb6 ⊢
  refine (L6.new_any (some ⟨w5.heap.size, 0, none⟩) 1 1 [1] w6 rfl ⟨fun x hx => by rw [List.mem_singleton.1 hx]; omega, fun _ => ⟨_, _, rfl, (Array.getElem?_eq_some_iff.1 hr6).1, fun j hj => by
    obtain rfl : j = 0 := by simpa using hj
    simp [World.cell?, hr6]⟩⟩ (by decide)).mono ?_
  rintro e w7 ⟨rfl, hrep7, hb7, hs7⟩
  obtain ⟨hb, hhb⟩ : ∃ hb, w6.heap.size = hb := ⟨_, rfl⟩
  have h37 := h35.trans ((hb6.trans (hb7.mono hb6.size)).mono h35.size)
  have h3hb : w3.heap.size ≤ hb := by rw [← hhb]; exact Nat.le_trans h35.size hb6.size
  rw [hhb] at hrep7 hs7 ⊢
  clear hb6 hb7 hr6 hhb h35
  go_wp2_with fail
  refine (L6.from_any (some ⟨hb + 1, 0, none⟩) ⟨#[]⟩ w7 (by decide)).mono ?_
  rintro e w8 ⟨rfl, hb8, -, -, -⟩
  have hrep8 := hrep7.below hb8
  have hs8 := hb8.size
  have h38 := h37.trans (hb8.mono h37.size)
  have hneq := fun W f a b => func_neq W f a b
  have hput := L6.put_any (w := w8) hrep8 L6.SK.ok_new (by omega) Q.ks Q.ks_wf (by decide)
  rw [HSK.out] at hput
  have HPUT := Lib.hid hput
  clear hput
  clear hrep7 hb8 h37 hrep8
  go_wp2_with fail
  refine HPUT.out.mono ?_
  rintro e w9 ⟨rfl, l', hrep9, hkeep, -, -⟩
  have h39 : Below w3.heap.size w3 w9 := h38.trans ⟨hkeep.os, hkeep.tape, hkeep.output, hkeep.size, fun k hk => hkeep.block k (by have := h38.size; omega) (by simp [L6.blks]; omega)⟩
  have hlen := L6.len_any hrep9
  rw [HSL.out] at hlen
  have HLEN := Lib.hid hlen
  clear hlen
  have HB9 := Lib.hid h39
  clear hrep9 hkeep h38 HPUT h39 hs7 hs8 h3hb
  go_wp2_with fail
  refine HLEN.out.mono ?_
  rintro e w10 ⟨rfl, rfl⟩
  have hl9 := HL3.out.still HB9.out
  have HTW := Lib.hid (HT.out.below (HB2.out.trans ((HB3.out.trans (HB9.out.mono hs23)).mono HB2.out.size)))
  have HCR := Lib.hid (hl9.wcreate (by omega) 1 (by omega) HTW.out HSA.out)
  clear HLEN hl9
  go_wp2_with fail
  refine HCR.out.mono ?_
  rintro e w11 ⟨rfl, hl11⟩
  have HT11 := Lib.hid (HT.out.below (HB2.out.trans (hl11.moves.below.mono HB2.out.size)))
  have HAP := Lib.hid (hl11.wappend (by omega) 1 (by omega) HT11.out bt HBS.out (r := (0, sb)) (by rw [HBY.out]; exact HSB.out))
  clear HCR hl11
  go_wp2_with fail
  refine HAP.out.mono ?_
  rintro e w12 ⟨rfl, hl12⟩
  have HB12 := Lib.hid (HB2.out.trans (hl12.moves.below.mono HB2.out.size))
  have htl := HTL.out
  have htl2 : (24 : Int) < (tt.size : Int) := by omega
  clear HAP hl12
  go_wp2_with fail
  have hr13 := heap_alloc_new w12 (.cells #[.string ⟨#[97]⟩, .int .i64 0, .bool false, .string ⟨#[]⟩, .int .i64 0] 45)
  have hb13 := (Below.refl w12.heap.size w12).alloc (Nat.le_refl _) (.cells #[.string ⟨#[97]⟩, .int .i64 0, .bool false, .string ⟨#[]⟩, .int .i64 0] 45)
  have hs13 : (w12.alloc (.cells #[.string ⟨#[97]⟩, .int .i64 0, .bool false, .string ⟨#[]⟩, .int .i64 0] 45)).heap.size = w12.heap.size + 1 := by simp
  generalize w12.alloc (.cells #[.string ⟨#[97]⟩, .int .i64 0, .bool false, .string ⟨#[]⟩, .int .i64 0] 45) = w13 at hr13 hb13 hs13 ⊢
  have hr14 := heap_alloc_new w13 (.cells #[.slice (some ⟨w12.heap.size, 0, none⟩) 1 1] 33)
  have hb14 := (Below.refl w13.heap.size w13).alloc (Nat.le_refl _) (.cells #[.slice (some ⟨w12.heap.size, 0, none⟩) 1 1] 33)
  generalize w13.alloc (.cells #[.slice (some ⟨w12.heap.size, 0, none⟩) 1 1] 33) = w14 at hr14 hb14 ⊢
  rw [hs13] at hr14
  have hr13' := (hb14.block w12.heap.size (Array.getElem?_eq_some_iff.1 hr13).1).trans hr13
  refine (L13.merge_any (some ⟨w12.heap.size + 1, 0, none⟩) 1 1 [⟨some ⟨w12.heap.size, 0, none⟩, 1, [Q.km]⟩] w14 rfl ⟨fun x hx => by
      rw [List.mem_singleton.1 hx]
      exact ⟨⟨fun e he => by rw [List.mem_singleton.1 he]; exact Q.km_wf, fun _ => ⟨_, _, rfl, (Array.getElem?_eq_some_iff.1 hr13').1, fun j hj => by
        obtain rfl : j = 0 := by simpa using hj
        simp [World.cell?, hr13', Q.km]⟩⟩, Nat.le_refl _⟩, fun _ => ⟨_, _, rfl, (Array.getElem?_eq_some_iff.1 hr14).1, fun j hj => by
    obtain rfl : j = 0 := by simpa using hj
    simp [World.cell?, hr14]⟩⟩ (by decide) (fun x hx => by rw [List.mem_singleton.1 hx]; exact List.pairwise_singleton _ _) (by simp)).mono ?_
  rintro e w15 ⟨v, rfl, ho, hb15⟩
  simp only [List.map_cons, List.map_nil, Q.mrg_ok] at ho
  obtain ⟨B, c, rfl⟩ : ∃ B c, v = .slice B 1 c := by
    rcases ho.2 with ⟨e, h0⟩ | ⟨gg, cap, cur, e, _⟩
    · omega
    · exact ⟨_, _, e⟩
  have HE := Lib.hid (HB12.out.trans (((hb13.trans (hb14.mono hb13.size)).trans (hb15.mono (hb13.trans (hb14.mono hb13.size)).size)).mono HB12.out.size))
  clear ho hb13 hb14 hb15 hr13 hr14 hr13'
  go_wp2
  go_ret
  exact ⟨rfl, HE.out⟩
end Go.Proofs.YtjkofciohehgfaaGreatDoor


/- Those of entries that a batch may have (what 'items' answers). -/
namespace Go.Proofs.YtjkofciohehgfaaGreatDoor
open Go.RowKit
open L7 L7.SK

namespace Q
def one (e : E) : E := ⟨e.key, 1, e.gone, e.value, e.til⟩
def e6 (e : E) : L6.SK.E := ⟨e.key, e.seq, e.gone, e.value, e.til⟩
theorem e6_wf {e : E} (h : e.wf) : (e6 e).wf := ⟨h.key, h.value, h.seq, h.til⟩
theorem one_wf {e : E} (h : e.wf) : (one e).wf := ⟨h.key, h.value, ⟨by show (-9223372036854775808 : Int) ≤ 1; decide, by show (1 : Int) ≤ 9223372036854775807; decide⟩, h.til⟩
def ok (e : E) : Bool := decide (L6.SK.good (e6 (one e)) = 0) && decide (e.til < 4611686018427387904)
def itm (l : List E) : List E := l.flatMap fun e => if ok e = true then [one e] else []
theorem itm_snoc (l : List E) (e : E) : itm (l ++ [e]) = itm l ++ if ok e = true then [one e] else [] := by simp [itm]
theorem itm_len (l : List E) : (itm l).length ≤ l.length := by
  induction l with
  | nil => simp [itm]
  | cons e l ih =>
    simp only [itm, List.flatMap_cons, List.length_append, List.length_cons] at *
    split
    · rw [List.length_singleton]; omega
    · rw [List.length_nil]; omega
theorem itm_mem {l : List E} {x : E} (h : x ∈ itm l) : ∃ e ∈ l, ok e = true ∧ x = one e := by
  unfold itm at h
  obtain ⟨e, he, hx⟩ := List.mem_flatMap.1 h
  split at hx
  · rename_i ho
    exact ⟨e, he, ho, List.mem_singleton.1 hx⟩
  · cases hx
theorem itm_wf {l : List E} (hw : ∀ e ∈ l, e.wf) : ∀ x ∈ itm l, x.wf := fun x hx => by
  obtain ⟨e, he, -, rfl⟩ := itm_mem hx
  exact one_wf (hw e he)
end Q

theorem tents_head (W : World) (A : Option Addr) (n cap m : Nat) (h : m ≤ cap) : (Instr.slice 32 (.slice A n cap) none (some (.int .i64 (m : Int))) none).run Tryz.prog W = .ok (.slice A m cap) W := by
  have hs : ∀ w, (sizeOf (Tryz.prog.elem 32)).run Tryz.prog w = .ok 5 w := fun w => by kernel_rfl
  have ha0 : ∀ a : Addr, a.add 0 = a := fun a => by obtain ⟨b, o, x⟩ := a; simp [Addr.add]
  rw [run_slice_h W 32 A n cap (by kernel_rfl) .i64 (m : Int) (by omega) (by omega), hs]
  simp only [Result.andThen, sliced, Int.toNat_natCast, Nat.sub_zero, Nat.zero_mul, ha0, Option.map_id']
  split <;> rfl

set_option maxRecDepth 100000 in
set_option maxHeartbeats 4000000 in
theorem items_any (A : Option Addr) (n cap most : Nat) (l : List E) (w : World) (hn : l.length = n) (hin : EntsIn w A l) (hcap : n ≤ cap) (hb : n ≤ 140737488351232) (hm : most ≤ 1000000) :
    Calls Tryz.prog 8 #[.slice A n cap, .int .i64 (most : Int)] w fun e w' => ∃ v, e = .returned v ∧ w'.ownsRow w.heap.size 45 5 v (Q.itm (l.take most)).length (ecs (Q.itm (l.take most))) ∧ Below w.heap.size w w' := by
  obtain ⟨i0, hi, hz0, hz1, hz2⟩ := info_parts info_ent
  obtain ⟨M, hM⟩ : ∃ M, min n most = M := ⟨_, rfl⟩
  have hmin : min (n : Int) (most : Int) = (M : Int) := by omega
  have hsl := fun W => tents_head W A n cap M (by omega)
  have hMm : M ≤ 1000000 := by omega
  have hMn : M ≤ n := by omega
  have htl : l.take most = l.take M := by
    by_cases h : most ≤ n
    · rw [show M = most by omega]
    · rw [List.take_of_length_le (by omega), List.take_of_length_le (by omega)]
  rw [htl]
  have HIN := Lib.hid hin
  have HN := Lib.hid hn
  clear hin hn htl hM hm
  go_enter Tryz.func8, Tryz.ntmps8
  go_wp2_with fail
  go_loopw [5, 16] (fun v i wr => ∃ j : Nat, j ≤ M ∧ i = .int .i64 j ∧ Below w.heap.size w wr ∧ wr.ownsRow w.heap.size 45 5 v (Q.itm (l.take j)).length (ecs (Q.itm (l.take j)))) (fun _ i _ => M - (intOf i).toNat)
  case atStart => exact ⟨0, by omega, rfl, Below.refl _ _, by simpa [Q.itm, ecs] using World.ownsRow_nil _ _ _ _⟩
  case round =>
    obtain ⟨j, hj, rfl, hbel, hown⟩ := hrel
    have HB := Lib.hid hbel
    by_cases hlt : j < M
    · have hjl : j < l.length := by rw [HN.out]; omega
      obtain ⟨b, off, hA, hbl, hc⟩ := (HIN.out.below hbel).at_ (by omega)
      obtain ⟨z0, z1, z2, z3, z4⟩ := hc j hjl
      have hwf := HIN.out.wf _ (List.getElem_mem hjl)
      have hsn := Q.itm_snoc (l.take j) l[j]
      rw [← List.take_succ_eq_append_getElem hjl] at hsn
      have hln := Q.itm_len (l.take j)
      rw [List.length_take] at hln
      obtain ⟨e, he⟩ : ∃ e, l[j] = e := ⟨_, rfl⟩
      rw [he] at z0 z1 z2 z3 z4 hsn hwf
      have hec := ecs_snoc (Q.itm (l.take j)) (Q.one e)
      obtain ⟨X, hX⟩ : ∃ X, Q.itm (l.take j) = X := ⟨_, rfl⟩
      rw [hX] at hown hsn hec hln
      have HGD := Lib.hid (fun W => L6.good_any (Q.e6 (Q.one e)) W (Q.e6_wf (Q.one_wf hwf)))
      obtain ⟨gd, hgd⟩ : ∃ gd, L6.SK.good (Q.e6 (Q.one e)) = gd := ⟨_, rfl⟩
      have hok : Q.ok e = (decide (gd = 0) && decide (e.til < 4611686018427387904)) := by unfold Q.ok; rw [hgd]
      rw [hgd] at HGD
      rw [hok] at hsn
      obtain ⟨k2, q2, g2, v2, t2⟩ := e
      simp only [Q.one, Q.e6, L6.SK.E.val, L7.SK.E.cells] at z0 z1 z2 z3 z4 hsn hec HGD
      have HSN := Lib.hid hsn
      have HEC := Lib.hid hec
      have g0 : (0 : Int) ≤ (j : Int) := by omega
      have g1 : (j : Int) < (M : Int) := by omega
      subst hA
      clear hc he hX hsn hec hok hgd
      go_wp2_with fail
      have hbx : Below wr.heap.size wr ((wr.alloc (.cells #[.string k2, .int .i64 q2, .bool g2, .string v2, .int .i64 t2] 66)).alloc (.cells #[.string k2, .int .i64 1, .bool g2, .string v2, .int .i64 t2] 45)) := ((Below.refl _ wr).alloc (Nat.le_refl _) _).alloc (by simp) _
      have hrx : ((wr.alloc (.cells #[.string k2, .int .i64 q2, .bool g2, .string v2, .int .i64 t2] 66)).alloc (.cells #[.string k2, .int .i64 1, .bool g2, .string v2, .int .i64 t2] 45)).heap[wr.heap.size + 1]? = some (.cells #[.string k2, .int .i64 1, .bool g2, .string v2, .int .i64 t2] 45 (0, 0)) := by
        have := heap_alloc_new (wr.alloc (.cells #[.string k2, .int .i64 q2, .bool g2, .string v2, .int .i64 t2] 66)) (.cells #[.string k2, .int .i64 1, .bool g2, .string v2, .int .i64 t2] 45)
        simpa using this
      generalize (wr.alloc (.cells #[.string k2, .int .i64 q2, .bool g2, .string v2, .int .i64 t2] 66)).alloc (.cells #[.string k2, .int .i64 1, .bool g2, .string v2, .int .i64 t2] 45) = wx at hbx hrx ⊢
      refine (HGD.out wx).mono ?_
      rintro e w1 ⟨rfl, hb1⟩
      obtain ⟨p, hp⟩ : ∃ p, wr.heap.size + 1 = p := ⟨_, rfl⟩
      rw [hp] at hrx ⊢
      have hr1 := (hb1.block p (Array.getElem?_eq_some_iff.1 hrx).1).trans hrx
      have y0 : w1.cell? ⟨p, 0, none⟩ = some (.string k2) := cell_of_row _ _ _ _ _ _ hr1
      have y1 : w1.cell? ⟨p, 1, none⟩ = some (.int .i64 1) := cell_of_row _ _ _ _ _ _ hr1
      have y2 : w1.cell? ⟨p, 2, none⟩ = some (.bool g2) := cell_of_row _ _ _ _ _ _ hr1
      have y3 : w1.cell? ⟨p, 3, none⟩ = some (.string v2) := cell_of_row _ _ _ _ _ _ hr1
      have y4 : w1.cell? ⟨p, 4, none⟩ = some (.int .i64 t2) := cell_of_row _ _ _ _ _ _ hr1
      have hw1 := hbx.trans (hb1.mono hbx.size)
      have HO1 := Lib.hid (own_below hown hw1)
      have HB1 := Lib.hid (hbel.trans (hw1.mono hbel.size))
      have hs1 := HB1.out.size
      have hpl : p < w1.heap.size := (Array.getElem?_eq_some_iff.1 hr1).1
      clear hbx hrx hb1 hp hr1 hw1 hown hbel hbl z0 z1 z2 z3 z4
      have hsplit : ((gd == 0) = true ∧ decide (t2 < 4611686018427387904) = true) ∨ ((gd == 0) = true ∧ decide (t2 < 4611686018427387904) = false) ∨ ((gd == 0) = false) := by
        cases h : (gd == 0) <;> cases h2 : decide (t2 < 4611686018427387904) <;> simp
      rcases hsplit with ⟨h1, h2⟩ | ⟨h1, h2⟩ | h1
      · have hd : decide (gd = 0) = true := by simpa using h1
        have HNX : Hid (Q.itm (l.take (j + 1)) = X ++ [⟨k2, 1, g2, v2, t2⟩]) := Lib.hid (by rw [HSN.out, hd, h2]; simp)
        clear hd HSN
        go_wp2_with (at_builtin; refine wpList_append_own _ rfl _ _ 33 rfl (w.heap.size) 45 i0 _ 5 56 Tryz.underlying33 hi hz0 hz1 hz2 rfl (by decide) _ _ _ rfl (own_below HO1.out ((Below.refl _ _).alloc (Nat.le_refl _) _)) ⟨w1.heap.size, 0, none⟩ 1 1 [.string k2, .int .i64 1, .bool g2, .string v2, .int .i64 t2] rfl ?c1 ?c2 ?c3 ?c4 ?c5 ?c6 ?_)
        case c1 => rfl
        case c2 =>
          intro q u hq
          have hq5 : q < 5 := (List.getElem?_eq_some_iff.1 hq).1
          have hadd : (⟨w1.heap.size, 0, none⟩ : Addr).add q = ⟨w1.heap.size, q, none⟩ := by unfold Addr.add; split <;> simp_all
          rw [hadd, cell_of_row _ _ _ _ _ _ (heap_alloc_new w1 _)]
          simpa using hq
        case c3 => intro u hu; simp at hu; rcases hu with rfl | rfl | rfl | rfl | rfl <;> rfl
        case c4 => unfold maxLen; omega
        case c5 => omega
        case c6 =>
          simp
          try omega
        intro v' w3 hown3 hgrow hnil
        clear hnil
        have HR : Hid (w3.ownsRow w.heap.size 45 5 v' (Q.itm (l.take (j + 1))).length (ecs (Q.itm (l.take (j + 1))))) := Lib.hid (by
          rw [HNX.out, HEC.out, List.length_append]
          exact hown3)
        have HB3 : Hid (Below w.heap.size w w3) := Lib.hid ((HB1.out.alloc hs1 _).grown hgrow (by simp; omega) (fun g hg => (HO1.out.lt g hg).1))
        clear hown3 hgrow y0 y1 y2 y3 y4
        go_wp2
        go_roundw
        case rel => exact ⟨j + 1, by omega, by go_num, HB3.out, HR.out⟩
        case measure => simp [intOf]; omega
      · have HR : Hid (w1.ownsRow w.heap.size 45 5 u5 (Q.itm (l.take (j + 1))).length (ecs (Q.itm (l.take (j + 1))))) := Lib.hid (by
          rw [HSN.out, h2, Bool.and_false, if_neg (by decide), List.append_nil]
          exact HO1.out)
        clear HSN
        go_wp2
        go_roundw
        case rel => exact ⟨j + 1, by omega, by go_num, HB1.out, HR.out⟩
        case measure => simp [intOf]; omega
      · have hd : decide (gd = 0) = false := by simpa using h1
        have HR : Hid (w1.ownsRow w.heap.size 45 5 u5 (Q.itm (l.take (j + 1))).length (ecs (Q.itm (l.take (j + 1))))) := Lib.hid (by
          rw [HSN.out, hd, Bool.false_and, if_neg (by decide), List.append_nil]
          exact HO1.out)
        clear HSN hd
        go_wp2
        go_roundw
        case rel => exact ⟨j + 1, by omega, by go_num, HB1.out, HR.out⟩
        case measure => simp [intOf]; omega
    · have hjM : j = M := by omega
      subst hjM
      have HO := Lib.hid hown
      clear hown hbel
      go_wp2
      go_ret
      exact ⟨_, rfl, HO.out, HB.out⟩
end Go.Proofs.YtjkofciohehgfaaGreatDoor


/- Lists of entries that come in, opened. Made by gen_qc.py. -/
namespace Go.Proofs.YtjkofciohehgfaaGreatDoor
open Go.ChangeShapes Go.WideShapes Go.ChangeAt Go.RowKit Go.Deep
open L7 L7.SK
section
variable {H : Type} {enc : TypeId × Value → H} {w : World}

set_option maxRecDepth 100000 in
theorem open_ents1 {fuel : Nat} {cs : List Value} {d : DataW H} {p : List MemPlace} (hf : DataW.trod enc Tryz.prog w 0 (fun _ => true) true fuel 32 cs = some (d, p))
    (hw : ∀ m ∈ d.weights Tryz.prog 32, m ≤ reachBytes) :
    ∃ A n cap l, cs = [.slice A n cap] ∧ l.length = n ∧ EntsIn w A l ∧ n * 56 ≤ reachBytes ∧ n ≤ cap := by
  rcases open_slice_fields Tryz.underlying32 Tryz.underlying66 (by kernel_rfl) (by kernel_rfl) hf with ⟨hcs, hx⟩ | ⟨a, len', cap', m, D, Pl, hcs, -, hl, hm, hmm, hx, hi⟩
  · subst hcs
    exact ⟨none, 0, 0, [], rfl, rfl, ⟨by simp, by simp⟩, by decide, by decide⟩
  · subst hcs
    simp only [if_true] at hmm
    simp only [Prod.mk.injEq] at hx
    obtain ⟨rfl, -⟩ := hx
    have hpart : ∀ i, i < len' → ∃ q : E, q.wf ∧
        w.cell? (a.add (i * 5)) = some (.string q.key) ∧ w.cell? (a.add (i * 5 + 1)) = some (.int .i64 q.seq) ∧ w.cell? (a.add (i * 5 + 2)) = some (.bool q.gone) ∧ w.cell? (a.add (i * 5 + 3)) = some (.string q.value) ∧ w.cell? (a.add (i * 5 + 4)) = some (.int .i64 q.til) := by
      intro i hil
      obtain ⟨ys, n, hD, -, hyl, hfs⟩ := hi i (by omega)
      obtain ⟨v0, y0, c0, hy0, h0⟩ := hfs 0 _ rfl
      obtain ⟨v1, y1, c1, hy1, h1⟩ := hfs 1 _ rfl
      obtain ⟨v2, y2, c2, hy2, h2⟩ := hfs 2 _ rfl
      obtain ⟨v3, y3, c3, hy3, h3⟩ := hfs 3 _ rfl
      obtain ⟨v4, y4, c4, hy4, h4⟩ := hfs 4 _ rfl
      obtain ⟨s0, hs0, hz0, -⟩ := DataW.trod_string Tryz.underlying9 h0
      obtain ⟨z1, hs1, -, hw1⟩ := DataW.trod_int Tryz.underlying2 h1
      obtain ⟨b2, hs2, -⟩ := DataW.trod_bool Tryz.underlying4 h2
      obtain ⟨s3, hs3, hz3, -⟩ := DataW.trod_string Tryz.underlying9 h3
      obtain ⟨z4, hs4, -, hw4⟩ := DataW.trod_int Tryz.underlying2 h4
      simp only [List.cons.injEq, and_true] at hs0 hs1 hs2 hs3 hs4
      subst hs0; subst hs1; subst hs2; subst hs3; subst hs4
      have hk0 : s0.size ≤ reachBytes := by
        refine hw _ ?_
        simp only [DataW.weights, Tryz.underlying32, List.mem_cons, List.mem_append]
        refine Or.inr (Or.inl (weights_all (List.mem_map.2 ⟨i, List.mem_range.2 hil, rfl⟩) _ ?_))
        rw [hD]
        simp only [DataW.weights, Tryz.underlying66]
        refine DataW.weights_mem_each (j := 0) (t := 9) (d := .lit (.string s0.data.toList)) rfl ?_ _ (by simp [DataW.weights])
        rw [List.getElem?_map, hy0, hz0]; rfl
      have hk3 : s3.size ≤ reachBytes := by
        refine hw _ ?_
        simp only [DataW.weights, Tryz.underlying32, List.mem_cons, List.mem_append]
        refine Or.inr (Or.inl (weights_all (List.mem_map.2 ⟨i, List.mem_range.2 hil, rfl⟩) _ ?_))
        rw [hD]
        simp only [DataW.weights, Tryz.underlying66]
        refine DataW.weights_mem_each (j := 3) (t := 9) (d := .lit (.string s3.data.toList)) rfl ?_ _ (by simp [DataW.weights])
        rw [List.getElem?_map, hy3, hz3]; rfl
      exact ⟨⟨s0, z1, b2, s3, z4⟩, ⟨hk0, hk3, lit_range hw1, lit_range hw4⟩, c0, c1, c2, c3, c4⟩
    obtain ⟨f, hf2⟩ := choose_lt hpart
    refine ⟨some a, len', cap', (List.range len').map f, rfl, by simp, ⟨fun q hq => ?_, fun hn => ?_⟩, ?_, hl⟩
    · obtain ⟨i, hi', rfl⟩ := List.mem_map.1 hq
      exact (hf2 i (List.mem_range.1 hi')).1
    · simp only [List.length_map, List.length_range] at hn
      obtain ⟨b, off, rfl⟩ := plain_addr (hf2 0 hn).2.1
      refine ⟨b, off, rfl, block_lt_of_cell (hf2 0 hn).2.1, fun j hj => ?_⟩
      simp only [List.length_map, List.length_range] at hj
      obtain ⟨-, c0, c1, c2, c3, c4⟩ := hf2 j hj
      rw [add_off] at c0 c1 c2 c3 c4
      simp only [List.getElem_map, List.getElem_range]
      exact ⟨c0, c1, c2, c3, c4⟩
    · have h1 := hw ((len' + (cap' - len')) * 56) (by
        simp only [DataW.weights, Tryz.underlying32, List.mem_cons, List.length_map, List.length_range]
        left
        rw [show Tryz.prog.bytesOf 66 = 56 by kernel_rfl, hmm])
      exact Nat.le_trans (Nat.mul_le_mul_right 56 (Nat.le_add_right len' (cap' - len'))) h1

/-- a list where it lies -/
structure LE where
  A : Option Addr
  c : Nat
  l : List E
instance : Inhabited LE := ⟨⟨none, 0, []⟩⟩

/-- lists of entries that come in -/
structure ListsIn (w : World) (A : Option Addr) (ls : List LE) : Prop where
  ents : ∀ x ∈ ls, EntsIn w x.A x.l ∧ x.l.length * 56 ≤ reachBytes ∧ x.l.length ≤ x.c
  at_ : 0 < ls.length → ∃ b off, A = some ⟨b, off, none⟩ ∧ b < w.heap.size ∧ ∀ j, (h : j < ls.length) → w.cell? ⟨b, off + j, none⟩ = some (.slice ls[j].A ls[j].l.length ls[j].c)
theorem ListsIn.below {w w' : World} {A : Option Addr} {ls : List LE} (h : ListsIn w A ls) (hb : Below w.heap.size w w') : ListsIn w' A ls :=
  ⟨fun x hx => ⟨(h.ents x hx).1.below hb, (h.ents x hx).2⟩, fun hn => by
    obtain ⟨b, off, hA, hlt, hc⟩ := h.at_ hn
    exact ⟨b, off, hA, Nat.lt_of_lt_of_le hlt hb.size, fun j hj => (hb.cell (p := ⟨b, off + j, none⟩) hlt).trans (hc j hj)⟩⟩

set_option maxRecDepth 100000 in
theorem open_lists {r : Reach} {b0 : Nat} {v : Value} {d : DataW H} {p : List MemPlace} (hval : Value.okWide Tryz.prog w r b0 22 v) (h : DataW.Trod enc Tryz.prog w 0 (fun _ => true) true 22 v d p)
    (hw : ∀ m ∈ d.weights Tryz.prog 22, m ≤ reachBytes) :
    ∃ A n cap ls, v = .slice A n cap ∧ ls.length = n ∧ ListsIn w A ls ∧ n * 24 ≤ reachBytes ∧ n ≤ cap := by
  obtain ⟨a0, len, cap, rfl⟩ := okWide_slice Tryz.underlying22 hval
  obtain ⟨fuel, hf⟩ := h
  rcases open_slice Tryz.underlying22 hf with ⟨hcs, hx⟩ | ⟨a, len', cap', m, n, D, Pl, hcs, -, hl, hm, hmm, hx, hi⟩
  · simp [Value.cells] at hcs
    obtain ⟨rfl, rfl, rfl⟩ := hcs
    exact ⟨none, 0, 0, [], rfl, rfl, ⟨by simp, by simp⟩, by decide, by decide⟩
  · simp [Value.cells] at hcs
    obtain ⟨rfl, rfl, rfl⟩ := hcs
    simp only [if_true] at hmm
    simp only [Prod.mk.injEq] at hx
    obtain ⟨rfl, -⟩ := hx
    have hC : Tryz.prog.cellsOf 32 = 1 := by kernel_rfl
    rw [hC] at hi
    have hpart : ∀ i, i < len → ∃ q : LE, (EntsIn w q.A q.l ∧ q.l.length * 56 ≤ reachBytes ∧ q.l.length ≤ q.c) ∧ w.cell? (a.add (i * 1)) = some (.slice q.A q.l.length q.c) := by
      intro i hil
      obtain ⟨cs', hc, ht⟩ := hi i (by omega)
      have hwi : ∀ m ∈ (D i).weights Tryz.prog 32, m ≤ reachBytes := fun m hm => by
        refine hw m ?_
        simp only [DataW.weights, Tryz.underlying22, List.mem_cons, List.mem_append]
        exact Or.inr (Or.inl (weights_all (List.mem_map.2 ⟨i, List.mem_range.2 hil, rfl⟩) _ hm))
      obtain ⟨A', n', c', l', rfl, hn', he', hb', hc'⟩ := open_ents1 ht hwi
      subst hn'
      obtain ⟨_, _, hat⟩ := World.cells?_some hc
      have := hat 0 (by decide)
      rw [Go.Deep.add_add] at this
      exact ⟨⟨A', c', l'⟩, ⟨he', hb', hc'⟩, by simpa using this⟩
    obtain ⟨f, hf2⟩ := choose_lt hpart
    refine ⟨some a, len, cap, (List.range len).map f, rfl, by simp, ⟨fun q hq => ?_, fun hn => ?_⟩, ?_, hl⟩
    · obtain ⟨i, hi', rfl⟩ := List.mem_map.1 hq
      exact (hf2 i (List.mem_range.1 hi')).1
    · simp only [List.length_map, List.length_range] at hn
      obtain ⟨b, off, rfl⟩ := plain_addr (hf2 0 hn).2
      refine ⟨b, off, rfl, block_lt_of_cell (hf2 0 hn).2, fun j hj => ?_⟩
      simp only [List.length_map, List.length_range] at hj
      have h1 := (hf2 j hj).2
      rw [add_off, Nat.mul_one] at h1
      simp only [List.getElem_map, List.getElem_range]
      exact h1
    · have h1 := hw ((len + (cap - len)) * 24) (by
        simp only [DataW.weights, Tryz.underlying22, List.mem_cons, List.length_map, List.length_range]
        left
        rw [show Tryz.prog.bytesOf 32 = 24 by kernel_rfl, hmm])
      exact Nat.le_trans (Nat.mul_le_mul_right 24 (Nat.le_add_right len (cap - len))) h1
end
end Go.Proofs.YtjkofciohehgfaaGreatDoor


/- Through the layers: bodies that are batches; what is kept beside a disk. -/
namespace Go.Proofs.YtjkofciohehgfaaGreatDoor
open Go.RowKit
open L7 L7.SK

namespace Q
/-! ### bodies -/
def body (b : List E) : List UInt8 := L7.BK.putB b
theorem ok_good {e : E} (h : ok e = true) : L7.SK.good (one e) = 0 ∧ e.til < 4611686018427387904 := by
  unfold ok at h
  simp only [Bool.and_eq_true, decide_eq_true_eq] at h
  exact ⟨h.1, h.2⟩
theorem bad_itm (l : List E) : L7.BK.bad (itm l) = 0 := by
  have key : ∀ m : List E, (∀ x ∈ m, ∃ e, ok e = true ∧ x = one e) → L7.BK.bad m = 0 := by
    intro m
    induction m with
    | nil => intro _; rfl
    | cons x m ih =>
      intro h
      obtain ⟨e, ho, rfl⟩ := h x (by simp)
      have hg := ok_good ho
      unfold L7.BK.bad
      have hb : L7.BK.bad1 (one e) = 0 := L7.BK.bad1_of hg.1 (by show e.til ≠ 9223372036854775807; omega)
      rw [hb, if_neg (by simp)]
      exact ih fun y hy => h y (by simp [hy])
  exact key _ fun x hx => by
    obtain ⟨e, _, h1, h2⟩ := itm_mem hx
    exact ⟨e, h1, h2⟩
theorem put_itm (l : List E) (hl : l.length ≤ 20) : L7.BK.putOut (itm l) = (body (itm l), 0) := by
  have := itm_len l
  unfold L7.BK.putOut
  rw [if_neg (by omega), if_neg (by rw [bad_itm]; simp)]
  rfl
theorem textB_len (s : ByteArray) (h : s.size ≤ 512) : (L7.BK.textB s).length ≤ 522 := by
  unfold L7.BK.textB
  have h1 := (L7.VM.enc_len (n := (s.size : Int)) (by omega) (by omega)).2
  have h2 : s.data.toList.length = s.size := by simp
  rw [List.length_append]
  omega
theorem itemB_len {e : E} (ho : ok e = true) : (L7.BK.itemB (one e)).length ≤ 1100 := by
  have hg := L7.SK.good_zero (ok_good ho).1
  have ht := (ok_good ho).2
  have hk : (one e).key.size ≤ 64 := hg.2.1
  have hv : (one e).value.size ≤ 512 := hg.2.2.1
  have htil : 0 ≤ (one e).til := hg.2.2.2.2
  have ht2 : (one e).til < 4611686018427387904 := ht
  have h1 := textB_len (one e).key (by omega)
  have h2 := textB_len (one e).value hv
  have h3 := (L7.VM.enc_len (n := (0 : Int)) (by omega) (by omega)).2
  have h4 := (L7.VM.enc_len (n := (one e).til + 1) (by omega) (by omega)).2
  unfold L7.BK.itemB
  split <;> simp only [List.length_append] <;> omega
theorem body_len (l : List E) (hl : l.length ≤ 20) : (body (itm l)).length ≤ 22100 := by
  have hn := itm_len l
  have key : ∀ m : List E, (∀ x ∈ m, ∃ e, ok e = true ∧ x = one e) → (L7.BK.allB m).length ≤ m.length * 1100 := by
    intro m
    induction m with
    | nil => intro _; simp [L7.BK.allB]
    | cons x m ih =>
      intro h
      obtain ⟨e, ho, rfl⟩ := h x (by simp)
      have h1 := itemB_len ho
      have h2 := ih fun y hy => h y (by simp [hy])
      simp only [L7.BK.allB, List.flatMap_cons, List.length_append, List.length_cons, Nat.add_mul, Nat.one_mul] at *
      omega
  have h1 := key (itm l) fun x hx => by
    obtain ⟨e, _, h1, h2⟩ := itm_mem hx
    exact ⟨e, h1, h2⟩
  have h2 := (L7.VM.enc_len (n := ((itm l).length : Int)) (by omega) (by omega)).2
  unfold body L7.BK.putB
  rw [List.length_append]
  have h3 : (itm l).length * 1100 ≤ 20 * 1100 := Nat.mul_le_mul_right _ (by omega)
  omega
theorem get_itm (l : List E) (hl : l.length ≤ 20) : L7.BK.getOut (body (itm l)) = .ok ((itm l).map L7.BK.z) := by
  have hn := itm_len l
  have := L7.BK.get_put (es := itm l) (by omega) (bad_itm l) (fun e he => by
    obtain ⟨e', _, ho, rfl⟩ := itm_mem he
    have := (ok_good ho).2
    show e'.til ≤ _
    omega) []
  rw [List.append_nil, if_pos rfl] at this
  exact this
theorem getL_itm (l : List E) (hl : l.length ≤ 20) : L7.BK.getL (body (itm l)) = (itm l).map L7.BK.z ∧ L7.BK.getC (body (itm l)) = 0 := by
  have := get_itm l hl
  unfold L7.BK.getL L7.BK.getC
  rw [this]
  exact ⟨rfl, rfl⟩

/-! ### a log of bodies -/
def held (bs : List L8.DM.Bs) (c : Nat) (n : Int) (l : List Int) : L8.DM.St := L8.WL.lg (L8.FM.frames bs) (L8.FM.frames bs).length c n l
theorem held_append (bs : List L8.DM.Bs) (k : Nat) (h : k < bs.length) (hs : ∀ b ∈ bs, b.length ≤ 22100) (hn : bs.length ≤ 15) (c : Nat) (n : Int) (l : List Int) :
    L8.WL.append 1 bs[k] (held (bs.take k) c n l) = if c = 1 ∨ c = 2 then (13, L8.DM.dark (L8.WL.lg (L8.FM.frames (bs.take k) ++ L8.FM.frame bs[k]) (L8.FM.frames (bs.take k)).length 0 n l) n l) else (0, held (bs.take (k + 1)) (c - 2) n l) := by
  have h1 := hs bs[k] (List.getElem_mem h)
  have h2 := L8.WL.frames_len_le (bs.take k) 22100 fun b hb => hs b (List.mem_of_mem_take hb)
  have h3 : (bs.take k).length ≤ 15 := by rw [List.length_take]; omega
  have h4 : (bs.take k).length * (8 + 22100) ≤ 15 * (8 + 22100) := Nat.mul_le_mul_right _ h3
  unfold held
  rw [L8.WL.lg_append _ _ _ _ _ (by omega) (by omega), ← L8.FM.frames_snoc bs k h]
theorem read_bounds {s : L8.DM.St} {bs : List L8.DM.Bs} (hb : ∀ b ∈ bs, b.length ≤ 65535) (n : Int) (l : List Int) {p : L8.DM.Bs → Prop} (h : L8.WL.Reads p s) (k : Nat) (hk : k ≤ bs.length) (hp : (k = bs.length ∧ p = fun x => x = L8.FM.frames bs) ∨ ∃ h : k < bs.length, p = L8.WL.some_ (L8.FM.frames (bs.take k)) (L8.FM.frame bs[k])) :
    ∃ j tr, L8.WL.read 1 (L8.DM.crash n l s) = (bs.take j, tr, 0) ∧ k ≤ j ∧ j ≤ bs.length ∧ j ≤ k + 1 := by
  obtain ⟨x, hx, hpx⟩ := h n l
  rcases hp with ⟨rfl, rfl⟩ | ⟨hlt, rfl⟩
  · subst hpx
    exact ⟨bs.length, false, by rw [List.take_of_length_le (Nat.le_refl _)]; exact L8.WL.read_whole L8.WL.n1 bs hb hx, by omega, by omega, by omega⟩
  · have htk : (bs.take k).length = k := by rw [List.length_take]; omega
    have hsn : bs.take k ++ [bs[k]] = bs.take (k + 1) := (List.take_succ_eq_append_getElem hlt).symm
    obtain ⟨j, tr, hr, h1, h2, h3⟩ := L8.WL.read_some (bs.take k) bs[k] (by rw [hsn]; exact fun b hm => hb b (List.mem_of_mem_take hm)) hpx hx
    rw [htk] at h1 h2 h3
    rw [hsn, List.take_take, Nat.min_eq_left h2] at hr
    exact ⟨j, tr, hr, h1, by omega, h2⟩
end Q

/-! ### what is kept beside a disk -/
theorem own_keep {w w' : World} {B : Nat} {e : TypeId} {s : Nat} {v : Value} {n : Nat} {xs : List Value} (h : w.ownsRow B e s v n xs) (hk : ∀ (b : Nat) (c : Array Value) (fr : Nat × Nat), w.heap[b]? = some (Obj.cells c e fr) → w'.heap[b]? = some (Obj.cells c e fr)) : w'.ownsRow B e s v n xs := by
  refine ⟨h.1, ?_⟩
  rcases h.2 with h2 | ⟨g, cap, cur, h1, h2, h3, h4⟩
  · exact .inl h2
  · exact .inr ⟨g, cap, cur, h1, h2, hk _ _ _ h3, h4⟩
theorem row_keep {B : Nat} {w w' : World} {v : Value} {l : L8.DM.Bs} (h : L8.Row B w v l) (hk : ∀ (b : Nat) (c : Array Value) (fr : Nat × Nat), w.heap[b]? = some (.cells c 5 fr) → w'.heap[b]? = some (.cells c 5 fr)) : L8.Row B w' v l := by
  rcases h with h | ⟨r, cap, cur, h1, h2, h3, h4⟩
  · exact .inl h
  · exact .inr ⟨r, cap, cur, h1, h2, hk _ _ _ h3, h4⟩
theorem map_keep {w w' : World} {b n : Nat} {D : DataW Unit} (h : L8.OwnM w b n D) (hk : ∀ (b : Nat) (es : Array MapEntry) (k : Nat), w.heap[b]? = some (.map es k) → w'.heap[b]? = some (.map es k)) : L8.OwnM w' b n D := by
  obtain ⟨es, clock, hb, hr⟩ := h
  exact ⟨es, clock, hk _ _ _ hb, hr⟩
theorem rep_rows {B : Nat} {w w' : World} {d : Nat} {s : L8.DM.St} {g : L8.Gh} (h : L8.Rep B w d s g) (hk : ∀ (b : Nat) (o : Obj), w.heap[b]? = some o → (∀ (c : Array Value) (fr : Nat × Nat), o ≠ .cells c 33 fr) → w'.heap[b]? = some o) : L8.Rep B w' d s g := by
  have hc : ∀ (b : Nat) (c : Array Value) (t : TypeId) (fr : Nat × Nat), w.heap[b]? = some (.cells c t fr) → t ≠ 33 → w'.heap[b]? = some (.cells c t fr) := fun b c t fr h1 h2 => hk b _ h1 (fun c' fr' e => by
    injection e with _ e
    exact h2 e)
  have hmap : ∀ (b : Nat) (es : Array MapEntry) (k : Nat), w.heap[b]? = some (.map es k) → w'.heap[b]? = some (.map es k) := fun b es k h1 => hk b _ h1 (fun c' fr' e => by cases e)
  refine ⟨⟨?_, own_keep h.body.queue (fun b c fr hb => hc b c _ fr hb (by decide)), fun n hn => ?_, h.body.apart, own_keep h.body.cut (fun b c fr hb => hc b c _ fr hb (by decide)), h.body.bk⟩, hc _ _ _ _ h.at_ (by decide), h.le⟩
  · rcases h.body.maps with h1 | ⟨b1, b2, e1, e2, hne, l1, l2, o1, o2⟩
    · exact .inl h1
    · exact .inr ⟨b1, b2, e1, e2, hne, l1, l2, map_keep o1 hmap, map_keep o2 hmap⟩
  · obtain ⟨h1, h2, h3⟩ := h.body.files n hn
    exact ⟨h1, hc _ _ _ _ h2 (by decide), row_keep h3 (fun b c fr hb => hc b c _ fr hb (by decide))⟩
theorem grownRow {B : Nat} {w0 w w' : World} {d : Nat} {s : L8.DM.St} {N M : Nat} (h : L8.Live B w0 w d s N M) {base n : Nat} {v : Value} {xs : List Value} (ho : w.ownsRow base 33 1 v n xs) (hg : w.grownBy w' v.ownBlock) : L8.Live B w' w' d s N M := by
  obtain ⟨g, hr⟩ := h.rep
  refine ⟨L8.Moves.refl _ _, h.ok, h.lim, ⟨g, rep_rows hr fun b o h1 h2 => ?_⟩, Nat.le_trans h.le' hg.size, h.few⟩
  rw [hg.block b (Array.getElem?_eq_some_iff.1 h1).1 (fun e => ?_)]
  · exact h1
  · rcases ho.2 with ⟨rfl, _⟩ | ⟨g', cap, cur, rfl, _, hg', _⟩
    · simp [Value.ownBlock] at e
    · simp [Value.ownBlock] at e
      subst e
      rw [hg'] at h1
      exact h2 cur (0, 0) (Option.some.inj h1).symm

/-- all that the loop carries: the disk, the row of the lists, the lists -/
structure Car (B : Nat) (W w : World) (d : Nat) (s : L8.DM.St) (N M : Nat) (v : Value) (a : Nat) (vs : List Value) (X : List (List E)) : Prop where
  live : L8.Live B w w d s N M
  below : Below B W w
  row : w.ownsRow B 33 1 v a vs
  len : vs.length = X.length
  own : ∀ i (h : i < vs.length) (h' : i < X.length), w.ownsRow B 45 5 vs[i] X[i].length (ecs X[i])
theorem Car.still {B : Nat} {W w w' : World} {d : Nat} {s : L8.DM.St} {N M : Nat} {v : Value} {a : Nat} {vs : List Value} {X : List (List E)} (h : Car B W w d s N M v a vs X) (hb : Below w.heap.size w w') : Car B W w' d s N M v a vs X :=
  ⟨(h.live.still hb).here, h.below.trans (hb.mono h.live.le'), own_below h.row hb, h.len, fun i h1 h2 => own_below (h.own i h1 h2) hb⟩
theorem Car.moved {B : Nat} {W w w' : World} {d : Nat} {s s' : L8.DM.St} {N N' M : Nat} {v : Value} {a : Nat} {vs : List Value} {X : List (List E)} (h : Car B W w d s N M v a vs X) (hl : L8.Live B w w' d s' N' M) : Car B W w' d s' N' M v a vs X :=
  ⟨hl.here, h.below.trans hl.moves.below, own_keep h.row fun _ _ _ hx => hl.moves.kept _ _ _ _ hx (by decide), h.len, fun i h1 h2 => own_keep (h.own i h1 h2) fun _ _ _ hx => hl.moves.kept _ _ _ _ hx (by decide)⟩
theorem Car.app {B : Nat} {W w w' : World} {d : Nat} {s : L8.DM.St} {N M : Nat} {v v' : Value} {a a' : Nat} {vs : List Value} {X : List (List E)} (h : Car B W w d s N M v a vs X) {u : Value} {b : List E} (hu : w.ownsRow B 45 5 u b.length (ecs b)) (ho : w'.ownsRow B 33 1 v' a' (vs ++ [u])) (hg : w.grownBy w' v.ownBlock) : Car B W w' d s N M v' a' (vs ++ [u]) (X ++ [b]) := by
  have hkeep : ∀ (q : Nat) (c : Array Value) (fr : Nat × Nat), w.heap[q]? = some (.cells c 45 fr) → w'.heap[q]? = some (.cells c 45 fr) := fun q c fr hq => by
    rw [hg.block q (Array.getElem?_eq_some_iff.1 hq).1 (fun e => ?_)]
    · exact hq
    · rcases h.row.2 with ⟨e1, _⟩ | ⟨g', cap, cur, e1, _, hg', _⟩
      · rw [e1] at e; simp [Value.ownBlock] at e
      · rw [e1] at e
        simp [Value.ownBlock] at e
        subst e
        rw [hg'] at hq
        injection hq with hq
        injection hq with _ hq
        revert hq
        decide
  refine ⟨grownRow h.live h.row hg, h.below.trans ⟨hg.os, hg.tape, hg.output, hg.size, fun b hb => hg.block b (by have := h.live.le'; omega) (fun e => by have := (h.row.lt b e.symm).1; omega)⟩, ho, by simp [h.len], fun i h1 h2 => ?_⟩
  by_cases hi : i < vs.length
  · have e1 : (vs ++ [u])[i] = vs[i] := List.getElem_append_left hi
    have e2 : (X ++ [b])[i] = X[i]'(by rw [← h.len]; exact hi) := List.getElem_append_left (by rw [← h.len]; exact hi)
    rw [e1, e2]
    exact own_keep (h.own i hi (by rw [← h.len]; exact hi)) hkeep
  · have hiv : i = vs.length := by simp at h1; omega
    have e1 : (vs ++ [u])[i] = u := by subst hiv; simp
    have e2 : (X ++ [b])[i] = b := by
      have : i = X.length := by rw [← h.len]; exact hiv
      subst this; simp
    rw [e1, e2]
    exact own_keep hu hkeep
end Go.Proofs.YtjkofciohehgfaaGreatDoor


/- TopRecords: changes that are told as put into a log come back out of it behind any loss of power. For every lists of entries, every cut, every list of numbers. Made by gen_qe.py. -/
namespace Go.Proofs.YtjkofciohehgfaaGreatDoor
open Go.ChangeShapes Go.WideShapes Go.ChangeAt Go.RowKit Go.Maps
open L7 L7.SK

theorem info_lst : (Tryz.prog.info? 33).map (fun i => (i.zero, i.size, i.bytes)) = some (some (.slice none 0 0), 1, 24) := by kernel_rfl
theorem lists_head (W : World) (A : Option Addr) (n cap m : Nat) (h : m ≤ cap) : (Instr.slice 22 (.slice A n cap) none (some (.int .i64 (m : Int))) none).run Tryz.prog W = .ok (.slice A m cap) W := by
  have hs : ∀ w, (sizeOf (Tryz.prog.elem 22)).run Tryz.prog w = .ok 1 w := fun w => by kernel_rfl
  have ha0 : ∀ a : Addr, a.add 0 = a := fun a => by obtain ⟨b, o, x⟩ := a; simp [Addr.add]
  rw [run_slice_h W 22 A n cap (by kernel_rfl) .i64 (m : Int) (by omega) (by omega), hs]
  simp only [Result.andThen, sliced, Int.toNat_natCast, Nat.sub_zero, Nat.zero_mul, ha0, Option.map_id']
  split <;> rfl
theorem own_mono {w : World} {b b' : Nat} {e : TypeId} {z : Nat} {v : Value} {n : Nat} {xs : List Value} (h : w.ownsRow b e z v n xs) (hb : b' ≤ b) : w.ownsRow b' e z v n xs := by
  refine ⟨h.1, ?_⟩
  rcases h.2 with h1 | ⟨g, cap, cur, h1, h2, h3⟩
  · exact .inl h1
  · exact .inr ⟨g, cap, cur, h1, Nat.le_trans hb h2, h3⟩

/-- the cut, in a box -/
structure Arr (w W : World) (c n : Int) (A : Option Addr) (l : List Int) : Prop where
  below : Below w.heap.size w W
  lt : w.heap.size < W.heap.size
  at0 : W.cell? ⟨w.heap.size, 0, none⟩ = some (.int .i64 c)
  at1 : W.cell? ⟨w.heap.size, 1, none⟩ = some (.int .i64 n)
  nums : ∀ w', Below W.heap.size W w' → L8.Stays W.heap.size w' A l
theorem arr_of (w : World) (c n : Int) (A : Option Addr) (l : List Int) (h : L8.NumsAt w A l) : Arr w (w.alloc (.cells #[.int .i64 c, .int .i64 n] 23)) c n A l := by
  have hb := (Below.refl w.heap.size w).alloc (Nat.le_refl _) (.cells #[.int .i64 c, .int .i64 n] 23)
  refine ⟨hb, by simp, ?_, ?_, ?_⟩
  · rw [cell_of_row _ _ _ _ _ _ (heap_alloc_new _ _)]; rfl
  · rw [cell_of_row _ _ _ _ _ _ (heap_alloc_new _ _)]; rfl
  · intro w' hw' hn
    obtain ⟨b, off, rfl, hlt, hc⟩ := h hn
    exact ⟨b, off, rfl, fun w2 hm j hj => (((hw'.trans hm.below).cell (p := ⟨b, off + j, none⟩) (Nat.lt_of_lt_of_le hlt hb.size)).trans (hb.cell (p := ⟨b, off + j, none⟩) hlt)).trans (hc j hj)⟩

namespace lawRecords
set_option maxRecDepth 100000 in
set_option maxHeartbeats 8000000 in
theorem walk (A : Option Addr) (n cap : Nat) (ls : List LE) (c0 c1 : Int) (A2 : Option Addr) (m cap2 : Nat) (l : List Int) (w : World) (hn : ls.length = n) (hz : ListsIn w A ls) (hcap : n ≤ cap) (hb : n * 24 ≤ reachBytes)
    (hm : l.length = m) (hl : L8.NumsAt w A2 l) (hlf : ∀ z ∈ l, L8.DM.fits z) (hl8 : m * 8 ≤ reachBytes) (hc0 : L8.DM.fits c0) (hc1 : L8.DM.fits c1) (ht : L8.Tab w) :
    Calls Tryz.prog 3 #[.slice A n cap, .agg #[.int .i64 c0, .int .i64 c1], .slice A2 m cap2] w fun e w' => e = .returned (.bool true) ∧ Below w.heap.size w w' := by
  unfold reachBytes at hb hl8
  have HA := Lib.hid (arr_of w c0 c1 A2 l hl)
  subst hm
  obtain ⟨N, hN⟩ : ∃ N, min n 15 = N := ⟨_, rfl⟩
  have hmin : min (n : Int) 15 = (N : Int) := by omega
  have hN15 : N ≤ 15 := by omega
  have hNn : N ≤ n := by omega
  have hsl := fun W => lists_head W A n cap N (by omega)
  obtain ⟨bx, hbx⟩ : ∃ bx, (ls.take N).map (fun x => Q.itm (x.l.take 20)) = bx := ⟨_, rfl⟩
  obtain ⟨bs, hbs⟩ : ∃ bs, bx.map Q.body = bs := ⟨_, rfl⟩
  have hxl : bx.length = N := by rw [← hbx, List.length_map, List.length_take, hn]; omega
  have hbl : bs.length = N := by rw [← hbs, List.length_map, hxl]
  have HBX := Lib.hid hxl
  have HBS := Lib.hid hbl
  have HXK : Hid (∀ k (h : k < bx.length) (h' : k < ls.length), bx[k] = Q.itm (ls[k].l.take 20)) := Lib.hid fun k h h' => by subst hbx; simp
  have HBK : Hid (∀ k (h : k < bs.length) (h' : k < bx.length), bs[k] = Q.body bx[k]) := Lib.hid fun k h h' => by subst hbs; simp
  have HXQ : Hid (∀ k (h : k < bx.length), ∃ q : List E, q.length ≤ 20 ∧ (∀ e ∈ q, e.wf) ∧ bx[k] = Q.itm q) := Lib.hid fun k h => by
    have hk : k < ls.length := by rw [hn]; omega
    exact ⟨ls[k].l.take 20, by rw [List.length_take]; omega, fun y hy => (hz.ents _ (List.getElem_mem hk)).1.wf y (List.mem_of_mem_take hy), HXK.out k h hk⟩
  have HSM : Hid (∀ b ∈ bs, b.length ≤ 22100) := Lib.hid fun b hb' => by
    obtain ⟨k, hk, rfl⟩ := List.getElem_of_mem hb'
    have hk2 : k < bx.length := by rw [hxl, ← hbl]; exact hk
    rw [HBK.out k hk hk2]
    obtain ⟨q, hq, -, he⟩ := HXQ.out k hk2
    rw [he]
    exact Q.body_len q hq
  have HSM2 : Hid (∀ b ∈ bs, b.length ≤ 65535) := Lib.hid fun b hb' => Nat.le_trans (HSM.out b hb') (by decide)
  have HN := Lib.hid hn
  obtain ⟨i0, hi, hz0, hz1, hz2⟩ := info_parts info_lst
  obtain ⟨W, hW⟩ : ∃ W, w.alloc (.cells #[.int .i64 c0, .int .i64 c1] 23) = W := ⟨_, rfl⟩
  rw [hW] at HA
  obtain ⟨B, hB⟩ : ∃ B, W.heap.size = B := ⟨_, rfl⟩
  have HZ : Hid (∀ w', Below B W w' → ListsIn w' A ls) := Lib.hid fun w' h => ((hz.below HA.out.below).below (by rw [hB]; exact h))
  have HT : Hid (∀ w', Below B W w' → L8.Tab w') := Lib.hid fun w' h => (ht.below HA.out.below).below (by rw [hB]; exact h)
  have HC0 : Hid (∀ w', Below B W w' → w'.cell? ⟨w.heap.size, 0, none⟩ = some (.int .i64 c0)) := Lib.hid fun w' h => (h.cell (p := ⟨w.heap.size, 0, none⟩) (by rw [← hB]; exact HA.out.lt)).trans HA.out.at0
  have HC1 : Hid (∀ w', Below B W w' → w'.cell? ⟨w.heap.size, 1, none⟩ = some (.int .i64 c1)) := Lib.hid fun w' h => (h.cell (p := ⟨w.heap.size, 1, none⟩) (by rw [← hB]; exact HA.out.lt)).trans HA.out.at1
  have HNUM : Hid (∀ w', Below B W w' → L8.Stays B w' A2 l) := by rw [← hB]; exact Lib.hid HA.out.nums
  have HFIN : Hid (∀ w', Below B W w' → Below w.heap.size w w') := Lib.hid fun w' h => HA.out.below.trans (h.mono (by rw [← hB]; exact Nat.le_of_lt HA.out.lt))
  have HNEW : Hid (Calls Tryz.prog 4 #[.int .i64 1099511627776] W fun e w' => ∃ d, e = .returned (.pointer (some ⟨d, 0, none⟩)) ∧ L8.Live B W w' d (L8.DM.new 1099511627776) 0 l.length) := Lib.hid (by
    subst hB
    exact (L8.live_new 1099511627776 W W W.heap.size (L8.Moves.refl _ _) (Nat.le_refl _) (by unfold L8.DM.fits; omega) 0 l.length (by omega)).mono fun _ _ ⟨he, hl⟩ => ⟨_, he, hl⟩)
  have HCR := Lib.hid (fun w' d (h : L8.Live B W w' d (L8.DM.new 1099511627776) 0 l.length) => h.wcreate (by omega) 1 (by omega) (HT.out _ h.moves.below) (L8.WL.lg_create.trans (show ((0 : Int), L8.WL.lg [] 0 0 0 []) = (0, Q.held [] 0 0 []) from rfl)))
  have HCUT := Lib.hid (fun w' d (h : L8.Live B W w' d (Q.held [] 0 0 []) 2 l.length) => h.cut c0 c1 hc0 hc1 A2 cap2 l (Nat.le_refl _) (by omega) (HNUM.out _ h.moves.below) hlf)
  have HCRA := Lib.hid (fun w' d s N' (hb : Below B W w') (h : L8.Live B w' w' d s N' l.length) => h.crash c1 hc1 A2 cap2 l (Nat.le_refl _) (HNUM.out _ hb) hlf)
  clear hn hz hcap hb hbs hbx hxl hbl ht hB hl hlf hc0 hc1 hN
  obtain ⟨ln, hln⟩ : ∃ ln, l.length = ln := ⟨_, rfl⟩
  rw [hln] at HNEW HCR HCUT HCRA ⊢
  obtain ⟨ab, hab⟩ : ∃ ab, w.heap.size = ab := ⟨_, rfl⟩
  rw [hab] at HC0 HC1 HFIN ⊢
  clear hln
  go_enter Tryz.func3, Tryz.ntmps3
  go_wp2_with fail
  clear hW HA
  refine HNEW.out.mono ?_
  rintro e w1 ⟨d, rfl, hl⟩
  have HL := Lib.hid hl
  clear hl HNEW
  go_wp2_with fail
  refine (stirs_any _ (HT.out _ HL.out.moves.below)).mono ?_
  rintro e w2 ⟨rfl, hB⟩
  have HL2 := Lib.hid (HL.out.still hB)
  clear hB HL
  go_wp2_with fail
  refine (HCR.out _ _ HL2.out).mono ?_
  rintro e w3 ⟨rfl, hl⟩
  have HL3 := Lib.hid hl
  have e0 := HC0.out _ hl.moves.below
  have e1 := HC1.out _ hl.moves.below
  clear hl HL2 HCR
  go_wp2_with fail
  refine (HCUT.out _ _ HL3.out).mono ?_
  rintro e w4 ⟨rfl, hl⟩
  obtain ⟨c, hc⟩ : ∃ c, L8.DM.cut c0 c1 l (Q.held [] 0 0 []) = Q.held [] c c1 l := ⟨_, rfl⟩
  rw [hc] at hl
  have HCAR : Hid (Car B W w4 d (Q.held [] c c1 l) 2 ln (.slice none 0 0) 0 [] []) := Lib.hid ⟨hl.here, hl.moves.below, World.ownsRow_nil _ _ _ _, rfl, fun i h => by simp at h⟩
  clear hl HL3 HCUT hc e0 e1 HC0
  go_wp2_with fail
  go_loopw [8, 9, 46] (fun av tv iv wr => ∃ (k c : Nat) (vs : List Value), k ≤ N ∧ iv = .int .i64 k ∧ tv = .int .i64 k ∧ Car B W wr d (Q.held (bs.take k) c c1 l) (2 + 2 * k) ln av k vs (bx.take k)) (fun _ _ i _ => N - (intOf i).toNat)
  case atStart => exact ⟨0, c, [], by omega, rfl, rfl, HCAR.out⟩
  case round =>
    obtain ⟨k, c, vs, hk, rfl, rfl, hcar⟩ := hrel
    have HK := Lib.hid hcar
    have hbs := hcar.live.le'
    clear hcar
    by_cases hlt : k < N
    · have hkl : k < ls.length := by rw [HN.out]; omega
      have hkx : k < bx.length := by rw [HBX.out]; exact hlt
      have hkb : k < bs.length := by rw [HBS.out]; exact hlt
      obtain ⟨g, off, hA, hgl, hc⟩ := (HZ.out _ HK.out.below).at_ (by omega)
      have hck := hc k hkl
      have hent := (HZ.out _ HK.out.below).ents _ (List.getElem_mem hkl)
      have hxk := HXK.out k hkx hkl
      obtain ⟨x, hx⟩ : ∃ x, ls[k] = x := ⟨_, rfl⟩
      rw [hx] at hck hent hxk
      have hxb : x.l.length ≤ 140737488351232 := by have := hent.2.1; unfold reachBytes at this; omega
      have HIT := Lib.hid (items_any x.A x.l.length x.c 20 x.l _ rfl hent.1 hent.2.2 hxb (by decide))
      have hiw : ∀ y ∈ Q.itm (x.l.take 20), y.wf := Q.itm_wf fun y hy => hent.1.wf y (List.mem_of_mem_take hy)
      have hq20 : (x.l.take 20).length ≤ 20 := by rw [List.length_take]; omega
      have hpo := Q.put_itm (x.l.take 20) hq20
      rw [← hxk] at HIT hiw hpo
      have hbk := HBK.out k hkb hkx
      have htk := List.take_succ_eq_append_getElem hkx
      obtain ⟨b, hb⟩ : ∃ b, bx[k] = b := ⟨_, rfl⟩
      rw [hb] at HIT hiw hpo hbk htk
      have HIW := Lib.hid hiw
      have HPO := Lib.hid hpo
      have HBKE := Lib.hid hbk
      have HTK := Lib.hid htk
      have hbl : b.length ≤ 20 := by
        obtain ⟨q, hq, -, he⟩ := HXQ.out k hkx
        rw [hb] at he
        rw [he]
        exact Nat.le_trans (Q.itm_len q) hq
      have g0 : (0 : Int) ≤ (k : Int) := by omega
      have g1 : (k : Int) < (N : Int) := by omega
      subst hA
      clear hc hent hxk hx hb hpo hbk htk hiw hxb hq20 hgl
      go_wp2_with fail
      refine HIT.out.mono ?_
      rintro e w5 ⟨vb, rfl, hown5, hb5⟩
      have HK5 := Lib.hid (HK.out.still hb5)
      have hownB := own_mono hown5 hbs
      obtain ⟨Ab, cb, rfl, hent5, -⟩ := own_ents HIW.out rfl hown5
      have HPUT := Lib.hid (bput_any Ab b.length cb b w5 rfl hent5)
      have HOWN5 := Lib.hid hownB
      clear hown5 hb5 hownB hent5 HIT HK hck
      rw [HPO.out] at HPUT
      go_wp2_with fail
      refine HPUT.out.mono ?_
      rintro e w6 ⟨rfl, hb6⟩
      have HK6 := Lib.hid (HK5.out.still hb6)
      have HOWN6 := Lib.hid (own_below HOWN5.out hb6)
      have hbs6 := HK6.out.live.le'
      clear hb6 HPUT HK5 HOWN5 hbs
      obtain ⟨nb, hnb⟩ : ∃ nb, b.length = nb := ⟨_, rfl⟩
      have HNB := Lib.hid hnb
      rw [hnb] at HOWN6 hbl ⊢
      clear hnb
      go_wp2_with (at_builtin; refine wpList_append_own _ rfl _ _ 31 rfl B 33 i0 _ 1 24 Tryz.underlying31 hi hz0 hz1 hz2 rfl (by decide) _ _ _ rfl (HK6.out.still ((Below.refl _ _).alloc (Nat.le_refl _) _)).row ⟨w6.heap.size, 0, none⟩ 1 1 [.slice Ab nb cb] rfl ?c1 ?c2 ?c3 ?c4 ?c5 ?c6 ?_)
      case c1 => rfl
      case c2 =>
        intro q u hq
        obtain rfl : q = 0 := by
          have := (List.getElem?_eq_some_iff.1 hq).1
          simpa using this
        rw [add_off, cell_of_row _ _ _ _ _ _ (heap_alloc_new w6 _)]
        simpa using hq
      case c3 => intro u hu; simp at hu; subst hu; rfl
      case c4 => unfold maxLen; omega
      case c5 => omega
      case c6 => simp; omega
      intro v2 w7 hown2 hgrow2 hnil2
      have HK7 : Hid (Car B W w7 d (Q.held (bs.take k) c c1 l) (2 + 2 * k) ln v2 (k + 1) (vs ++ [.slice Ab nb cb]) (bx.take (k + 1))) := Lib.hid (by
        rw [HTK.out]
        exact (HK6.out.still ((Below.refl _ _).alloc (Nat.le_refl _) _)).app (by rw [HNB.out]; exact own_below HOWN6.out ((Below.refl _ _).alloc (Nat.le_refl _) _)) hown2 hgrow2)
      clear hown2 hgrow2 hnil2 HK6 HOWN6 HTK hbs6
      have hbody : (⟨(Q.body b).toArray⟩ : ByteArray).data.toList = bs[k] := by rw [HBKE.out]
      have hbsz : (⟨(Q.body b).toArray⟩ : ByteArray).size ≤ 140737488355328 := by
        have h1 := HSM.out _ (List.getElem_mem hkb)
        rw [HBKE.out] at h1
        have h2 : (⟨(Q.body b).toArray⟩ : ByteArray).size = (Q.body b).length := by simp [ByteArray.size]
        omega
      obtain ⟨bt, hbt⟩ : ∃ bt, (⟨(Q.body b).toArray⟩ : ByteArray) = bt := ⟨_, rfl⟩
      rw [hbt] at hbody hbsz ⊢
      have HBD := Lib.hid hbody
      clear hbody hbt HPO HBKE
      by_cases hcc : c = 1 ∨ c = 2
      · have HAP := Lib.hid (HK7.out.live.wappend (r := (13, L8.DM.dark (L8.WL.lg (L8.FM.frames (bs.take k) ++ L8.FM.frame bs[k]) (L8.FM.frames (bs.take k)).length 0 c1 l) c1 l)) (by omega) 1 (by omega) (HT.out _ HK7.out.below) bt hbsz (by rw [HBD.out]; exact (Q.held_append bs k hkb HSM.out (by rw [HBS.out]; omega) c c1 l).trans (if_pos hcc)))
        go_wp2_with fail
        refine HAP.out.mono ?_
        rintro e w8 ⟨rfl, hl⟩
        obtain ⟨a, ha⟩ : ∃ a, k + 1 = a := ⟨_, rfl⟩
        have HCF := Lib.hid (HK7.out.moved hl)
        have HRB := Lib.hid (Q.read_bounds HSM2.out c1 l (L8.WL.reads_dark (L8.FM.frames (bs.take k)) (L8.FM.frame bs[k]) c1 l) k (by omega) (.inr ⟨hkb, rfl⟩))
        rw [ha] at HCF
        obtain ⟨vF, hvF0⟩ : ∃ vF, v2 = vF := ⟨_, rfl⟩
        obtain ⟨vsF, hvsF⟩ : ∃ vsF, vs ++ [Value.slice Ab nb cb] = vsF := ⟨_, rfl⟩
        rw [hvF0] at HCF ⊢
        rw [hvsF] at HCF
        clear hl HAP HK7 hvF0 hvsF HBD hbsz
        have g1' := HC1.out _ HCF.out.below
        go_wp2_with fail
        refine (HCRA.out _ _ _ _ HCF.out.below HCF.out.live).mono ?_
        rintro e wc ⟨rfl, hl⟩
        have HCC := Lib.hid (HCF.out.moved hl)
        clear hl HCRA g1'
        obtain ⟨j, tr, hrd, hj1, hj2, hj3⟩ := HRB.out
        have HRR := Lib.hid (HCC.out.live.wread 1 (by omega) (HT.out _ HCC.out.below) hrd)
        clear hrd HRB
        go_wp2_with fail
        refine HRR.out.mono ?_
        rintro e wz ⟨v, rfl, hown, hl⟩
        have HCZ := Lib.hid (HCC.out.moved hl)
        have htj : (bs.take j).length = j := by rw [List.length_take]; omega
        have hta : (bx.take (a)).length = a := by rw [List.length_take, HBX.out]; omega
        have hown2 : wz.ownsRow wc.heap.size 9 1 v (bs.take j).length (L8.strs (bs.take j)) := hown
        rw [htj] at hown2
        obtain ⟨AJ, CJ, rfl, hzj⟩ := L8.strs_of_own htj hown2
        have HZJ := Lib.hid hzj
        rw [HBS.out] at hj2
        have HTJ : Hid ((L8.texts (bs.take j)).length = j) := Lib.hid (by rw [L8.texts_length, htj])
        have HTA := Lib.hid hta
        obtain ⟨AF, CF, hvF⟩ : ∃ AF CF, vF = .slice AF (a) CF := by
          rcases HCZ.out.row.2 with ⟨e1, h0⟩ | ⟨g', cap', cur', e1, _⟩
          · exact ⟨none, 0, by rw [e1, h0]⟩
          · exact ⟨_, _, e1⟩
        subst hvF
        have HVL : Hid (vsF.length = a) := Lib.hid (by rw [HCZ.out.len, HTA.out])
        clear hown hown2 hl hzj htj hta HRR HCC HCF
        have HFB := Lib.hid (HFIN.out _ HCZ.out.below)
        have n1 : ¬ (j : Int) < (k : Int) := by omega
        have n2 : ¬ (((a) : Nat) : Int) < (j : Int) := by omega
        go_wp2_with fail
        have hdf : decide ((a : Nat) < j) = false := decide_eq_false (by omega)
        rw [hdf]
        clear hdf
        go_loopw [101] (fun i wr => ∃ q : Nat, q ≤ j ∧ i = .int .i64 q ∧ Below wz.heap.size wz wr) (fun i _ => j - (intOf i).toNat)
        case atStart => exact ⟨0, by omega, rfl, Below.refl _ _⟩
        case round =>
          obtain ⟨q, hq, rfl, hbq⟩ := hrel
          have HBQ := Lib.hid hbq
          by_cases hqj : q < j
          · have hqa : q < a := by omega
            have hqx : q < bx.length := by rw [HBX.out]; omega
            have hqb : q < bs.length := by rw [HBS.out]; omega
            obtain ⟨g1, o1, hA1, -, hx1⟩ := HZJ.out.below HBQ.out (by rw [HTJ.out]; omega)
            have e1 := hx1 q (by rw [HTJ.out]; exact hqj)
            have hte : (L8.texts (bs.take j))[q]'(by rw [HTJ.out]; exact hqj) = ⟨(bs[q]).toArray⟩ := by simp [L8.texts]
            rw [hte] at e1
            have HCQ := Lib.hid (HCZ.out.still hbq)
            have hvl : q < vsF.length := by rw [HVL.out]; exact hqa
            obtain ⟨gF, hgF⟩ : ∃ gF : Nat, AF = some ⟨gF, 0, none⟩ := by
              rcases HCQ.out.row.2 with ⟨e1, h0⟩ | ⟨g', cap', cur', e1, _⟩
              · exact absurd h0 (by omega)
              · injection e1 with e1 e2 e3
                exact ⟨g', e1⟩
            subst hgF
            have howq := HCQ.out.own q hvl (by rw [HTA.out]; exact hqa)
            have htq : (bx.take (a))[q]'(by rw [HTA.out]; exact hqa) = bx[q] := List.getElem_take
            rw [htq] at howq
            obtain ⟨qq, hq20, hqw, hqe⟩ := HXQ.out q hqx
            have hbk := HBK.out q hqb hqx
            have hget := Q.getL_itm qq hq20
            have hwfb := Q.itm_wf hqw
            have hblq := Q.itm_len qq
            have hszq := HSM.out _ (List.getElem_mem hqb)
            rw [← hqe] at hget hwfb hblq
            rw [← hbk] at hget
            obtain ⟨b, hb⟩ : ∃ b, bx[q] = b := ⟨_, rfl⟩
            rw [hb] at howq hget hwfb hblq
            obtain ⟨Aq, cq, hvq, hentq, -⟩ := own_ents hwfb rfl howq
            obtain ⟨bq, hbq'⟩ : ∃ bq, bs[q] = bq := ⟨_, rfl⟩
            rw [hbq'] at hget hszq e1
            obtain ⟨T, hT⟩ : ∃ T : ByteArray, (⟨bq.toArray⟩ : ByteArray) = T := ⟨_, rfl⟩
            have hTd : T.data.toList = bq := by rw [← hT]
            have hTs : T.size ≤ 281474976710656 := by rw [← size_list T, hTd]; omega
            rw [hT] at e1
            have HG1 := Lib.hid (bget_any T wr hTs)
            rw [hTd, hget.1, hget.2, List.length_map] at HG1
            have HLN : Hid (b.length ≤ 20) := Lib.hid (Nat.le_trans hblq hq20)
            obtain ⟨nb, hnb⟩ : ∃ nb, b.length = nb := ⟨_, rfl⟩
            have HNB2 := Lib.hid hnb
            rw [hnb] at hvq HG1 HLN
            have HCELL : Hid (∀ w', Below wr.heap.size wr w' → w'.cell? ⟨gF, q, none⟩ = some (.slice Aq nb cq)) := Lib.hid fun w' hw' => by
              rw [(HCQ.out.still hw').row.cellAt q (by omega), List.getElem?_eq_getElem hvl, hvq]
            have HEQ : Hid (∀ w', Below wr.heap.size wr w' → EntsIn w' Aq b) := Lib.hid fun w' hw' => hentq.below hw'
            have g0 : (0 : Int) ≤ (q : Int) := by omega
            have g1 : (q : Int) < (j : Int) := by omega
            have g2 : (q : Int) < ((a : Nat) : Int) := by omega
            subst hA1
            clear hx1 hte hvl howq htq hqe hbk hget hwfb hblq hszq hb hvq hentq hbq' hT hTd hTs hnb hbq hqw hqa hqx
            go_wp2_with fail
            refine HG1.out.mono ?_
            rintro r w3 ⟨A3, c3, rfl, h3, -, hb3⟩
            have H33 := Lib.hid h3
            have HB3 := Lib.hid hb3
            have HBF : Hid (Below wz.heap.size wz w3) := Lib.hid (HBQ.out.trans (hb3.mono HBQ.out.size))
            have e2 := HCELL.out _ hb3
            have hnn : ((nb : Int) == (nb : Int)) = true := beq_self_eq_true _
            clear hb3 h3 HG1 e1
            go_wp2_with fail
            go_loopw [125] (fun i wr => ∃ p : Nat, p ≤ nb ∧ i = .int .i64 p ∧ Below w3.heap.size w3 wr) (fun i _ => nb - (intOf i).toNat)
            case atStart => exact ⟨0, by omega, rfl, Below.refl _ _⟩
            case round =>
              obtain ⟨p, hp, rfl, hb3⟩ := hrel
              by_cases hpl : p < nb
              · have hpb : p < b.length := by rw [HNB2.out]; exact hpl
                have hpm : p < (b.map BK.z).length := by rw [List.length_map]; exact hpb
                have e3 := HCELL.out _ (HB3.out.trans (hb3.mono HB3.out.size))
                obtain ⟨b1, off1, hA, hbl, hc⟩ := (HEQ.out _ (HB3.out.trans (hb3.mono HB3.out.size))).at_ (by omega)
                obtain ⟨z0, z1, z2, z3, z4⟩ := hc p hpb
                obtain ⟨b', off', hA', hbl', hc'⟩ := (H33.out.below hb3).at_ (by omega)
                obtain ⟨y0, y1, y2, y3, y4⟩ := hc' p hpm
                have hzz : (b.map BK.z)[p] = BK.z b[p] := by rw [List.getElem_map]
                rw [hzz] at y0 y1 y2 y3 y4
                obtain ⟨e, he⟩ : ∃ e, b[p] = e := ⟨_, rfl⟩
                rw [he] at z0 z1 z2 z3 z4 y0 y1 y2 y3 y4
                subst hA hA'
                obtain ⟨k2, q2, g2', v2', t2⟩ := e
                simp only [BK.z] at z0 z1 z2 z3 z4 y0 y1 y2 y3 y4
                have hee := fun W => ent_any W k2 k2 0 0 g2' g2' v2' v2' t2 t2
                have heq : eqB ⟨k2, 0, g2', v2', t2⟩ ⟨k2, 0, g2', v2', t2⟩ = true := (eqB_iff _ _).2 rfl
                simp only [heq, Bool.not_true] at hee
                have f0 : (0 : Int) ≤ (p : Int) := by omega
                have f1 : (p : Int) < (nb : Int) := by omega
                have hm20 : nb ≤ 20 := HLN.out
                obtain ⟨xb, hxb⟩ : ∃ xb, wr.heap.size = xb := ⟨_, rfl⟩
                have HB3W : Hid (Below w3.heap.size w3 (wr.alloc (.cells #[.string k2, .int .i64 0, .bool g2', .string v2', .int .i64 t2] 45))) := Lib.hid (hb3.alloc hb3.size _)
                have hal := fun (a : Addr) (h : a.block < wr.heap.size) => ((Below.refl wr.heap.size wr).alloc (Nat.le_refl _) (.cells #[.string k2, .int .i64 0, .bool g2', .string v2', .int .i64 t2] 45)).cell (p := a) h
                have r0 := (hal ⟨b', off' + p * 5, none⟩ hbl').trans y0
                have r1 := (hal ⟨b', off' + p * 5 + 1, none⟩ hbl').trans y1
                have r2 := (hal ⟨b', off' + p * 5 + 2, none⟩ hbl').trans y2
                have r3 := (hal ⟨b', off' + p * 5 + 3, none⟩ hbl').trans y3
                have r4 := (hal ⟨b', off' + p * 5 + 4, none⟩ hbl').trans y4
                have hrow := heap_alloc_new wr (.cells #[.string k2, .int .i64 0, .bool g2', .string v2', .int .i64 t2] 45)
                have s0 := cell_of_row _ _ 0 _ _ _ hrow
                have s1 := cell_of_row _ _ 1 _ _ _ hrow
                have s2 := cell_of_row _ _ 2 _ _ _ hrow
                have s3 := cell_of_row _ _ 3 _ _ _ hrow
                have s4 := cell_of_row _ _ 4 _ _ _ hrow
                clear hb3 hc hc' hbl hbl' hzz he heq hal hrow e2
                go_wp2_with fail
                generalize wr.alloc _ = w5 at HB3W r0 r1 r2 r3 r4 s0 s1 s2 s3 s4 ⊢
                rw [hxb] at s0 s1 s2 s3 s4
                clear hxb
                go_quiet (fail)
                go_wp2
                go_roundw
                case rel => exact ⟨p + 1, by omega, by go_num, below_drewN HB3W.out _⟩
                case measure => simp [intOf]; omega
              · have HBE : Hid (Below wz.heap.size wz wr) := Lib.hid (HBF.out.trans (hb3.mono HBF.out.size))
                clear hb3 e2
                go_wp2
                go_roundw
                case rel => exact ⟨q + 1, by omega, by go_num, HBE.out⟩
                case measure => simp [intOf]; omega
          · have HE := Lib.hid (HFIN.out _ (HCZ.out.below.trans (HBQ.out.mono HCZ.out.live.le')))
            clear hbq
            go_wp2
            go_ret
            exact ⟨rfl, HE.out⟩
      · have HAP := Lib.hid (HK7.out.live.wappend (r := (0, Q.held (bs.take (k + 1)) (c - 2) c1 l)) (by omega) 1 (by omega) (HT.out _ HK7.out.below) bt hbsz (by rw [HBD.out]; exact (Q.held_append bs k hkb HSM.out (by rw [HBS.out]; omega) c c1 l).trans (if_neg hcc)))
        go_wp2_with fail
        refine HAP.out.mono ?_
        rintro e w8 ⟨rfl, hl⟩
        have HK8 := Lib.hid (HK7.out.moved hl)
        clear hl HAP HK7 HBD hbsz
        go_wp2
        go_roundw
        case rel => exact ⟨k + 1, c - 2, _, by omega, by go_num, by go_num, HK8.out⟩
        case measure => simp [intOf]; omega
    · obtain rfl : k = N := by omega
      have htk : bs.take k = bs := List.take_of_length_le (by rw [HBS.out]; omega)
      have HRB : Hid (∃ j tr, L8.WL.read 1 (L8.DM.crash c1 l (Q.held (bs.take k) c c1 l)) = (bs.take j, tr, 0) ∧ k ≤ j ∧ j ≤ bs.length ∧ j ≤ k + 1) := by
        rw [htk]
        exact Lib.hid (Q.read_bounds HSM2.out c1 l (L8.WL.reads_lg (L8.FM.frames bs) c c1 l) k (by rw [HBS.out]; omega) (.inl ⟨HBS.out.symm, rfl⟩))
      have HCF := HK
      obtain ⟨vF, hvF0⟩ : ∃ vF, u8 = vF := ⟨_, rfl⟩
      obtain ⟨vsF, hvsF⟩ : ∃ vsF, vs = vsF := ⟨_, rfl⟩
      rw [hvF0] at HCF ⊢
      rw [hvsF] at HCF
      clear HK htk hvF0 hvsF hbs
      have g1' := HC1.out _ HCF.out.below
      go_wp2_with fail
      refine (HCRA.out _ _ _ _ HCF.out.below HCF.out.live).mono ?_
      rintro e wc ⟨rfl, hl⟩
      have HCC := Lib.hid (HCF.out.moved hl)
      clear hl HCRA g1'
      obtain ⟨j, tr, hrd, hj1, hj2, hj3⟩ := HRB.out
      have HRR := Lib.hid (HCC.out.live.wread 1 (by omega) (HT.out _ HCC.out.below) hrd)
      clear hrd HRB
      go_wp2_with fail
      refine HRR.out.mono ?_
      rintro e wz ⟨v, rfl, hown, hl⟩
      have HCZ := Lib.hid (HCC.out.moved hl)
      have htj : (bs.take j).length = j := by rw [List.length_take]; omega
      have hta : (bx.take (k)).length = k := by rw [List.length_take, HBX.out]; omega
      have hown2 : wz.ownsRow wc.heap.size 9 1 v (bs.take j).length (L8.strs (bs.take j)) := hown
      rw [htj] at hown2
      obtain ⟨AJ, CJ, rfl, hzj⟩ := L8.strs_of_own htj hown2
      have HZJ := Lib.hid hzj
      rw [HBS.out] at hj2
      have HTJ : Hid ((L8.texts (bs.take j)).length = j) := Lib.hid (by rw [L8.texts_length, htj])
      have HTA := Lib.hid hta
      obtain ⟨AF, CF, hvF⟩ : ∃ AF CF, vF = .slice AF (k) CF := by
        rcases HCZ.out.row.2 with ⟨e1, h0⟩ | ⟨g', cap', cur', e1, _⟩
        · exact ⟨none, 0, by rw [e1, h0]⟩
        · exact ⟨_, _, e1⟩
      subst hvF
      have HVL : Hid (vsF.length = k) := Lib.hid (by rw [HCZ.out.len, HTA.out])
      clear hown hown2 hl hzj htj hta HRR HCC HCF
      have HFB := Lib.hid (HFIN.out _ HCZ.out.below)
      have n1 : ¬ (j : Int) < (k : Int) := by omega
      have n2 : ¬ (((k) : Nat) : Int) < (j : Int) := by omega
      go_wp2_with fail
      have hdf : decide ((k : Nat) < j) = false := decide_eq_false (by omega)
      rw [hdf]
      clear hdf
      go_loopw [101] (fun i wr => ∃ q : Nat, q ≤ j ∧ i = .int .i64 q ∧ Below wz.heap.size wz wr) (fun i _ => j - (intOf i).toNat)
      case atStart => exact ⟨0, by omega, rfl, Below.refl _ _⟩
      case round =>
        obtain ⟨q, hq, rfl, hbq⟩ := hrel
        have HBQ := Lib.hid hbq
        by_cases hqj : q < j
        · have hqa : q < k := by omega
          have hqx : q < bx.length := by rw [HBX.out]; omega
          have hqb : q < bs.length := by rw [HBS.out]; omega
          obtain ⟨g1, o1, hA1, -, hx1⟩ := HZJ.out.below HBQ.out (by rw [HTJ.out]; omega)
          have e1 := hx1 q (by rw [HTJ.out]; exact hqj)
          have hte : (L8.texts (bs.take j))[q]'(by rw [HTJ.out]; exact hqj) = ⟨(bs[q]).toArray⟩ := by simp [L8.texts]
          rw [hte] at e1
          have HCQ := Lib.hid (HCZ.out.still hbq)
          have hvl : q < vsF.length := by rw [HVL.out]; exact hqa
          obtain ⟨gF, hgF⟩ : ∃ gF : Nat, AF = some ⟨gF, 0, none⟩ := by
            rcases HCQ.out.row.2 with ⟨e1, h0⟩ | ⟨g', cap', cur', e1, _⟩
            · exact absurd h0 (by omega)
            · injection e1 with e1 e2 e3
              exact ⟨g', e1⟩
          subst hgF
          have howq := HCQ.out.own q hvl (by rw [HTA.out]; exact hqa)
          have htq : (bx.take (k))[q]'(by rw [HTA.out]; exact hqa) = bx[q] := List.getElem_take
          rw [htq] at howq
          obtain ⟨qq, hq20, hqw, hqe⟩ := HXQ.out q hqx
          have hbk := HBK.out q hqb hqx
          have hget := Q.getL_itm qq hq20
          have hwfb := Q.itm_wf hqw
          have hblq := Q.itm_len qq
          have hszq := HSM.out _ (List.getElem_mem hqb)
          rw [← hqe] at hget hwfb hblq
          rw [← hbk] at hget
          obtain ⟨b, hb⟩ : ∃ b, bx[q] = b := ⟨_, rfl⟩
          rw [hb] at howq hget hwfb hblq
          obtain ⟨Aq, cq, hvq, hentq, -⟩ := own_ents hwfb rfl howq
          obtain ⟨bq, hbq'⟩ : ∃ bq, bs[q] = bq := ⟨_, rfl⟩
          rw [hbq'] at hget hszq e1
          obtain ⟨T, hT⟩ : ∃ T : ByteArray, (⟨bq.toArray⟩ : ByteArray) = T := ⟨_, rfl⟩
          have hTd : T.data.toList = bq := by rw [← hT]
          have hTs : T.size ≤ 281474976710656 := by rw [← size_list T, hTd]; omega
          rw [hT] at e1
          have HG1 := Lib.hid (bget_any T wr hTs)
          rw [hTd, hget.1, hget.2, List.length_map] at HG1
          have HLN : Hid (b.length ≤ 20) := Lib.hid (Nat.le_trans hblq hq20)
          obtain ⟨nb, hnb⟩ : ∃ nb, b.length = nb := ⟨_, rfl⟩
          have HNB2 := Lib.hid hnb
          rw [hnb] at hvq HG1 HLN
          have HCELL : Hid (∀ w', Below wr.heap.size wr w' → w'.cell? ⟨gF, q, none⟩ = some (.slice Aq nb cq)) := Lib.hid fun w' hw' => by
            rw [(HCQ.out.still hw').row.cellAt q (by omega), List.getElem?_eq_getElem hvl, hvq]
          have HEQ : Hid (∀ w', Below wr.heap.size wr w' → EntsIn w' Aq b) := Lib.hid fun w' hw' => hentq.below hw'
          have g0 : (0 : Int) ≤ (q : Int) := by omega
          have g1 : (q : Int) < (j : Int) := by omega
          have g2 : (q : Int) < ((k : Nat) : Int) := by omega
          subst hA1
          clear hx1 hte hvl howq htq hqe hbk hget hwfb hblq hszq hb hvq hentq hbq' hT hTd hTs hnb hbq hqw hqa hqx
          go_wp2_with fail
          refine HG1.out.mono ?_
          rintro r w3 ⟨A3, c3, rfl, h3, -, hb3⟩
          have H33 := Lib.hid h3
          have HB3 := Lib.hid hb3
          have HBF : Hid (Below wz.heap.size wz w3) := Lib.hid (HBQ.out.trans (hb3.mono HBQ.out.size))
          have e2 := HCELL.out _ hb3
          have hnn : ((nb : Int) == (nb : Int)) = true := beq_self_eq_true _
          clear hb3 h3 HG1 e1
          go_wp2_with fail
          go_loopw [125] (fun i wr => ∃ p : Nat, p ≤ nb ∧ i = .int .i64 p ∧ Below w3.heap.size w3 wr) (fun i _ => nb - (intOf i).toNat)
          case atStart => exact ⟨0, by omega, rfl, Below.refl _ _⟩
          case round =>
            obtain ⟨p, hp, rfl, hb3⟩ := hrel
            by_cases hpl : p < nb
            · have hpb : p < b.length := by rw [HNB2.out]; exact hpl
              have hpm : p < (b.map BK.z).length := by rw [List.length_map]; exact hpb
              have e3 := HCELL.out _ (HB3.out.trans (hb3.mono HB3.out.size))
              obtain ⟨b1, off1, hA, hbl, hc⟩ := (HEQ.out _ (HB3.out.trans (hb3.mono HB3.out.size))).at_ (by omega)
              obtain ⟨z0, z1, z2, z3, z4⟩ := hc p hpb
              obtain ⟨b', off', hA', hbl', hc'⟩ := (H33.out.below hb3).at_ (by omega)
              obtain ⟨y0, y1, y2, y3, y4⟩ := hc' p hpm
              have hzz : (b.map BK.z)[p] = BK.z b[p] := by rw [List.getElem_map]
              rw [hzz] at y0 y1 y2 y3 y4
              obtain ⟨e, he⟩ : ∃ e, b[p] = e := ⟨_, rfl⟩
              rw [he] at z0 z1 z2 z3 z4 y0 y1 y2 y3 y4
              subst hA hA'
              obtain ⟨k2, q2, g2', v2', t2⟩ := e
              simp only [BK.z] at z0 z1 z2 z3 z4 y0 y1 y2 y3 y4
              have hee := fun W => ent_any W k2 k2 0 0 g2' g2' v2' v2' t2 t2
              have heq : eqB ⟨k2, 0, g2', v2', t2⟩ ⟨k2, 0, g2', v2', t2⟩ = true := (eqB_iff _ _).2 rfl
              simp only [heq, Bool.not_true] at hee
              have f0 : (0 : Int) ≤ (p : Int) := by omega
              have f1 : (p : Int) < (nb : Int) := by omega
              have hm20 : nb ≤ 20 := HLN.out
              obtain ⟨xb, hxb⟩ : ∃ xb, wr.heap.size = xb := ⟨_, rfl⟩
              have HB3W : Hid (Below w3.heap.size w3 (wr.alloc (.cells #[.string k2, .int .i64 0, .bool g2', .string v2', .int .i64 t2] 45))) := Lib.hid (hb3.alloc hb3.size _)
              have hal := fun (a : Addr) (h : a.block < wr.heap.size) => ((Below.refl wr.heap.size wr).alloc (Nat.le_refl _) (.cells #[.string k2, .int .i64 0, .bool g2', .string v2', .int .i64 t2] 45)).cell (p := a) h
              have r0 := (hal ⟨b', off' + p * 5, none⟩ hbl').trans y0
              have r1 := (hal ⟨b', off' + p * 5 + 1, none⟩ hbl').trans y1
              have r2 := (hal ⟨b', off' + p * 5 + 2, none⟩ hbl').trans y2
              have r3 := (hal ⟨b', off' + p * 5 + 3, none⟩ hbl').trans y3
              have r4 := (hal ⟨b', off' + p * 5 + 4, none⟩ hbl').trans y4
              have hrow := heap_alloc_new wr (.cells #[.string k2, .int .i64 0, .bool g2', .string v2', .int .i64 t2] 45)
              have s0 := cell_of_row _ _ 0 _ _ _ hrow
              have s1 := cell_of_row _ _ 1 _ _ _ hrow
              have s2 := cell_of_row _ _ 2 _ _ _ hrow
              have s3 := cell_of_row _ _ 3 _ _ _ hrow
              have s4 := cell_of_row _ _ 4 _ _ _ hrow
              clear hb3 hc hc' hbl hbl' hzz he heq hal hrow e2
              go_wp2_with fail
              generalize wr.alloc _ = w5 at HB3W r0 r1 r2 r3 r4 s0 s1 s2 s3 s4 ⊢
              rw [hxb] at s0 s1 s2 s3 s4
              clear hxb
              go_quiet (fail)
              go_wp2
              go_roundw
              case rel => exact ⟨p + 1, by omega, by go_num, below_drewN HB3W.out _⟩
              case measure => simp [intOf]; omega
            · have HBE : Hid (Below wz.heap.size wz wr) := Lib.hid (HBF.out.trans (hb3.mono HBF.out.size))
              clear hb3 e2
              go_wp2
              go_roundw
              case rel => exact ⟨q + 1, by omega, by go_num, HBE.out⟩
              case measure => simp [intOf]; omega
        · have HE := Lib.hid (HFIN.out _ (HCZ.out.below.trans (HBQ.out.mono HCZ.out.live.le')))
          clear hbq
          go_wp2
          go_ret
          exact ⟨rfl, HE.out⟩
end lawRecords
end Go.Proofs.YtjkofciohehgfaaGreatDoor


