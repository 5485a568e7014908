/- SkipPuts: whatever is put, with whatever coins, each put is answered, and costs, what the document says; so do all together. For every coins and every puts. -/
import Derived.Test.YtgbpnicijllmoaaLi
namespace Go.Proofs.Ytgbpnicijllmoaa
open Go.ChangeShapes Go.WideShapes Go.ChangeAt Go.RowKit
open SK
namespace lawPuts

set_option maxRecDepth 100000 in
set_option maxHeartbeats 4000000 in
theorem walk (cA : Option Addr) (cN cC : Nat) (cs : List Int) (pA : Option Addr) (pN pC : Nat) (ps : List E) (w : World) (hcn : cs.length = cN) (hci : CoinsIn w cA cs) (hcb : cN * 8 ≤ reachBytes) (hpn : ps.length = pN) (hpi : EntsIn w pA ps) (hpb : pN * 56 ≤ reachBytes) (hpc : pN ≤ pC) :
    Calls Try.prog 3 #[.slice cA cN cC, .slice pA pN pC] w fun e w' => e = .returned (.bool true) ∧ Below w.heap.size w w' := by
  have HL := Lib.hid (lists_any cA cN cC cs pA pN pC ps w hcn hci hcb hpn hpi hpc hpb)
  clear hcn hci hcb hpn hpi hpc hpb
  go_enter Try.func3, Try.ntmps3
  go_wp2_with fail
  refine HL.out.mono ?_
  rintro v w1 ⟨a, hb, l, r, CA, cc, LA, lc, rfl, hd⟩
  have HW : Hid (∀ W, Calls Try.prog 10 #[] W fun r w' => r = .returned (.bool true) ∧ Below W.heap.size W w') := fun W => wakes_any W
  have HLEN : Hid (∀ W, Below w1.heap.size w1 W → Calls Try.prog 11 #[.pointer (some ⟨a, 0, none⟩)] W fun e w' => e = .returned (.int .i64 (after cs (ps.take 100)).l.length) ∧ W = w') := fun W hb => len_any (hd.rep.below hb)
  have HSZ : Hid (∀ W, Below w1.heap.size w1 W → Calls Try.prog 12 #[.pointer (some ⟨a, 0, none⟩)] W fun e w' => e = .returned (.int .i64 (after cs (ps.take 100)).size) ∧ W = w') := fun W hb => size_any (hd.rep.below hb)
  have z1 : w1.cell? ⟨r, 1, none⟩ = some (.slice LA (after cs (ps.take 100)).l.length lc) := cell_of_row _ _ _ _ _ _ hd.rrep.head
  have z2 : w1.cell? ⟨r, 2, none⟩ = some (.int .i64 (after cs (ps.take 100)).size) := cell_of_row _ _ _ _ _ _ hd.rrep.head
  have hrl := hd.rrep.lt
  have HB := Lib.hid hd.below
  have hle := hd.le
  obtain ⟨n, hn⟩ : ∃ n, (after cs (ps.take 100)).l.length = n := ⟨_, rfl⟩
  obtain ⟨z, hz⟩ : ∃ z, (after cs (ps.take 100)).size = z := ⟨_, rfl⟩
  rw [hn] at z1 HLEN
  rw [hz] at z2 HSZ
  clear hd hn hz HL
  go_wp2_with fail
  go_region_held3 (fun w' => w'.cell? ⟨r, 1, none⟩ = some (.slice LA n lc) ∧ w'.cell? ⟨r, 2, none⟩ = some (.int .i64 z))
    (first | go_keep | exact HS2.out | fail)
    (first
      | (go_at_call 10; refine (HW.out _).mono ?_; rintro v w2 ⟨rfl, hb2⟩
         have HB2 : Hid (Below w1.heap.size w1 w2) := Lib.hid ((Below.refl _ w1).drew.trans hb2)
         have HS2 : Hid (w2.cell? ⟨r, 1, none⟩ = some (.slice LA n lc) ∧ w2.cell? ⟨r, 2, none⟩ = some (.int .i64 z)) := Lib.hid ⟨(HB2.out.cell (p := ⟨r, 1, none⟩) hrl).trans z1, (HB2.out.cell (p := ⟨r, 2, none⟩) hrl).trans z2⟩
         clear hb2)
      | (go_at_call 11; refine (HLEN.out _ HB2.out).mono ?_; rintro v wx ⟨rfl, rfl⟩)
      | (go_at_call 12; refine (HSZ.out _ HB2.out).mono ?_; rintro v wx ⟨rfl, rfl⟩)
      | fail)
  all_goals
    have HE : Hid (Below w.heap.size w w2) := Lib.hid (HB.out.trans (HB2.out.mono hle))
    clear HS2 z1 z2
    go_wp2
    go_ret
    exact ⟨rfl, HE.out⟩

set_option maxRecDepth 100000 in
theorem contract (H : Type) (enc : TypeId × Value → H) (W : World) (base : Nat) (args : Array Value) (ds gs : List (DataW H)) (before : List MemPlace)
    (hval : ∀ (j : Nat) t v, Try.f3.params[j]? = some t → args[j]? = some v → Value.okWide Try.prog W .any base t v)
    (hW : DataW.Whole enc Try.prog Try.f3.params.toList Rows.skipPutsSpec.vars false W args.toList ds gs before)
    (hz : (DataW.weightsEach Try.prog Try.f3.params.toList (ds ++ gs)).all (· ≤ reachBytes) = true) :
    Calls Try.prog 3 args W fun e W' => ∃ v, e = .returned v ∧ Rows.skipPutsSpec.post enc Try.prog Try.f3 false true false false W args v W' := by
  have hW' := hW
  obtain ⟨p, q, hA0, hV, rfl, hfz, hnd⟩ := hW
  have hA : DataW.TrodAll enc Try.prog W 0 (fun _ => true) true Try.f3.params.toList args.toList ds p := hA0
  rw [Try.params3] at hA hval hz
  obtain ⟨v0, vs0, d0, ds0, p0, q0, hargs, rfl, rfl, h0, r0⟩ := trodAll_cons hA
  obtain ⟨v1, vs1, d1, ds1, p1, q1, rfl, rfl, rfl, h1, r1⟩ := trodAll_cons r0
  obtain ⟨rfl, rfl, rfl⟩ := trodAll_nil r1
  obtain rfl : args = #[v0, v1] := by cases args; simp_all
  obtain ⟨rfl, rfl⟩ := trodVars_none hV
  obtain ⟨cA, cN, cC, c, rfl, hlenc, hinc, hbc⟩ := open_coins Try.underlying22 Try.underlying3 (by kernel_rfl) (by kernel_rfl) (hval 0 22 v0 rfl rfl) h0 (parts_sized hz (j := 0) rfl rfl)
  obtain ⟨pA, pN, pC, p, rfl, hlenp, hinp, hbp, hcapp⟩ := open_ents (hval 1 23 v1 rfl rfl) h1 (parts_sized hz (j := 1) rfl rfl)
  refine (walk cA cN cC c pA pN pC p W hlenc hinc hbc hlenp hinp hbp hcapp).mono fun e W' ⟨he, hB⟩ => ?_
  subst he
  exact ⟨_, rfl, law_post Try.laidOut (by kernel_rfl) rfl rfl Try.underlying4 hW' rfl hB⟩

set_option maxRecDepth 100000 in
theorem lifted (os : Os) (started : os.Started) (H : Type) (enc : TypeId × Value → H) :
    ReturnsInHanded {} Try.checked os 3 .any (Rows.skipPutsSpec.pre6 enc Try.prog Try.f3 Rows.skipPutsRow.domain false) (Rows.skipPutsSpec.post enc Try.prog Try.f3 false true false false) := by
  refine returnsInHanded_of_change_sized (C := Try.checked) Try.own started (by kernel_rfl) Try.func3
    (ChangeSpec.witness6 (enc := enc) (C := Try.checked) false ⟨#[], #[.slice none 0 0, .slice none 0 0], []⟩ 8 (by kernel_rfl) (by kernel_rfl) (by kernel_rfl) (by kernel_rfl)) ?_
  intro W base args ds gs before hval hW _ hz _
  exact contract H enc W base args ds gs before hval hW hz

theorem proved : Rows.SkipPutsSaid :=
  OpenClaim.holds_of_wide 3 Try.f3 rfl rfl rfl rfl rfl rfl rfl ⟨rfl, rfl, rfl, rfl, rfl⟩ rfl rfl rfl rfl rfl (by kernel_rfl) Try.func3 (by kernel_rfl)
    (of_decide_eq_true (by kernel_rfl)) (by unfold Func.isWrapper; first | (rw [if_pos (by decide +kernel)]; kernel_rfl) | (rw [if_neg (by decide +kernel)]; exact ⟨rfl, rfl⟩))
    (fun os started H enc _ => lifted os started H enc)
end lawPuts
end Go.Proofs.Ytgbpnicijllmoaa
