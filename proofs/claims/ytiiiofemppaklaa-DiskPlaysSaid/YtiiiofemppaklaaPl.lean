/- DiskPlays: behind every calls, crashes, cuts and spoilt bits the disk answers, and has, what the document says, step by step. For every room and every script. -/
import Derived.Test.YtiiiofemppaklaaAcH
import Derived.Outline
namespace Go.Proofs.Ytiiiofemppaklaa
open Go.ChangeShapes Go.WideShapes Go.ChangeAt Go.RowKit Go.Maps
open DM

theorem run_slice_acts (W : World) (A : Option Addr) (n cap m : Nat) (h : m ≤ cap) : (Instr.slice 22 (.slice A n cap) none (some (.int .i64 (m : Int))) none).run Try.prog W = .ok (.slice A m cap) W := by
  have hs : ∀ w, (sizeOf (Try.prog.elem 22)).run Try.prog w = .ok 6 w := fun w => by kernel_rfl
  rw [run_slice_h W 22 A n cap (by kernel_rfl) .i64 (m : Int) (by omega) (by omega), hs]
  simp only [Result.andThen, sliced, Int.toNat_natCast, Nat.sub_zero, Nat.zero_mul, add_zero', Option.map_id']
  split <;> rfl

theorem same_new (room : Int) : Same (RS.new room) (DM.new room) := ⟨rfl, rfl, rfl, rfl, rfl, rfl, rfl, fun _ => rfl, fun _ => rfl, rfl, fun e he => by simp [DM.new] at he⟩

theorem duo_new1 (room : Int) (w : World) (hr : fits room) {B : Nat} (hB : w.heap.size = B) :
    Calls Try.prog 5 #[.int .i64 room] w fun e w' => ∃ d, e = .returned (.pointer (some ⟨d, 0, none⟩)) ∧ Live B w w' d (DM.new room) 0 140737488355328 := by
  subst hB
  exact (live_new room w w w.heap.size (Moves.refl _ _) (Nat.le_refl _) hr 0 140737488355328 (by omega)).mono fun _ _ ⟨he, hl⟩ => ⟨_, he, hl⟩
theorem duo_new2 (room : Int) {w w1 : World} {d B : Nat} (h : Live B w w1 d (DM.new room) 0 140737488355328) :
    Calls Try.prog 6 #[.int .i64 room] w1 fun e w' => ∃ r, e = .returned (.pointer (some ⟨r, 0, none⟩)) ∧ Duo none B w w' d r (DM.new room) 0 140737488355328 :=
  (rnew_any room w1 B h.le').mono fun _ _ ⟨r, he, ⟨g, hg⟩, hb⟩ => ⟨r, he, h.moves.below.trans (hb.mono h.le'), (h.still hb).rebase, ⟨_, g, hg, same_new room⟩, fun x C e => by cases e⟩

namespace lawPlays
set_option maxRecDepth 100000 in
set_option maxHeartbeats 4000000 in
theorem walk (room : Int) (A : Option Addr) (n cap : Nat) (sc : List AD) (w : World) (hlen : sc.length = n) (hin : ActsIn w w.heap.size A sc) (hb : n * 80 ≤ reachBytes ∧ n ≤ cap) (hroom : fits room) :
    Calls Try.prog 3 #[.int .i64 room, .slice A n cap] w fun e w' => e = .returned (.bool true) ∧ Below w.heap.size w w' := by
  have hn : n ≤ 9223372036854775807 := by have := hb.1; unfold reachBytes at this; omega
  obtain ⟨B, hB⟩ : ∃ B, w.heap.size = B := ⟨_, rfl⟩
  have HNEW := Lib.hid (duo_new1 room w hroom hB)
  have HIN : Hid (∀ wr, Below w.heap.size w wr → ActsIn wr w.heap.size A sc) := Lib.hid fun wr hb => hin.below hb
  rw [hB] at HIN ⊢
  have HLEN := Lib.hid hlen
  obtain ⟨N, hN⟩ : ∃ N, min n 100 = N := ⟨_, rfl⟩
  have hmin : min (n : Int) 100 = (N : Int) := by omega
  have hsl := fun W => run_slice_acts W A n cap N (by omega)
  have hNn : N ≤ n := by omega
  have hN1 : N ≤ 100 := by omega
  clear hin hb hlen hN hB
  go_enter Try.func3, Try.ntmps3
  go_wp2_with fail
  refine HNEW.out.mono ?_
  rintro e w1 ⟨d, rfl, h1⟩
  have H1 := Lib.hid h1
  clear h1 HNEW
  go_wp2_with fail
  refine (duo_new2 room H1.out).mono ?_
  rintro e w2 ⟨r, rfl, h2⟩
  have H2 := Lib.hid h2
  clear h2 H1
  go_wp2_with fail
  refine (wakes_any _).mono ?_
  rintro e w3 ⟨rfl, hB⟩
  have H3 := Lib.hid (H2.out.still hB)
  clear hB H2
  go_wp2_with fail
  refine (same_any H3.out).mono ?_
  rintro e w4 ⟨rfl, h4⟩
  have H4 := Lib.hid h4
  clear h4 H3
  go_wp2_with fail
  go_loopw [27] (fun i wr => ∃ (k : Nat) (s : St), k ≤ N ∧ i = .int .i64 k ∧ Duo none B w wr d r s k 140737488355328) (fun i _ => N - (intOf i).toNat)
  case atStart => exact ⟨0, _, by omega, rfl, H4.out⟩
  case round =>
    obtain ⟨k, s, hk, rfl, hbo⟩ := hrel
    have HBO := Lib.hid hbo
    clear hbo
    by_cases hlt : k < N
    · have hkl : k < sc.length := by rw [HLEN.out]; omega
      have hIn := HIN.out wr HBO.out.below
      obtain ⟨q, off, hA, hql, hc⟩ := hIn.2 (by omega)
      obtain ⟨cc, hnm⟩ := hc k hkl
      obtain ⟨a, ha⟩ : ∃ a, sc[k] = a := ⟨_, rfl⟩
      have hwf : a.wf := hIn.1 a (by rw [← ha]; exact List.getElem_mem hkl)
      rw [ha] at cc hnm
      have hal := (Below.refl wr.heap.size wr).alloc (Nat.le_refl _) (.cells a.cells 31)
      have HAC : Hid (Calls Try.prog 9 #[.pointer (some ⟨d, 0, none⟩), .pointer (some ⟨r, 0, none⟩), .agg a.cells] (wr.alloc (.cells a.cells 31)) (ActOut B w d r k 140737488355328)) := act_any (HBO.out.still hal) (by omega) a hwf (by have := hwf.l8; omega) (hnm.below hal)
      obtain ⟨D, kk, to, nn, mm, A', c', l'⟩ := a
      unfold AD.cells at HAC
      simp only at HAC
      have c0 : wr.cell? ⟨q, off + k * 6, none⟩ = some (.int .i64 D) := cc 0 _ rfl
      have c1 : wr.cell? ⟨q, off + k * 6 + 1, none⟩ = some (.string kk) := cc 1 _ rfl
      have c2 : wr.cell? ⟨q, off + k * 6 + 2, none⟩ = some (.string to) := cc 2 _ rfl
      have c3 : wr.cell? ⟨q, off + k * 6 + 3, none⟩ = some (.int .i64 nn) := cc 3 _ rfl
      have c4 : wr.cell? ⟨q, off + k * 6 + 4, none⟩ = some (.int .i64 mm) := cc 4 _ rfl
      have c5 : wr.cell? ⟨q, off + k * 6 + 5, none⟩ = some (.slice A' l'.length c') := cc 5 _ rfl
      obtain ⟨ln, hln⟩ : ∃ ln, l'.length = ln := ⟨_, rfl⟩
      rw [hln] at c5 HAC
      subst hA
      clear hc ha hwf hal hIn cc hnm hln
      go_wp2_with fail
      refine HAC.out.mono ?_
      rintro e w5 ⟨rfl, s', h5⟩
      have H5 := Lib.hid h5
      clear h5 HAC
      go_wp2_with fail
      refine (same_any H5.out).mono ?_
      rintro e w6 ⟨rfl, h6⟩
      have H6 := Lib.hid h6
      clear h6 H5
      go_wp2
      go_roundw
      case rel => exact ⟨k + 1, s', by omega, by go_num, H6.out⟩
      case measure => simp [intOf]; omega
    · go_wp2
      go_ret
      exact ⟨rfl, HBO.out.below⟩

set_option maxRecDepth 100000 in
set_option maxHeartbeats 1000000 in
theorem contract (H : Type) (enc : TypeId × Value → H) (W : World) (base : Nat) (args : Array Value) (ds gs : List (DataW H)) (before : List MemPlace)
    (hval : ∀ (j : Nat) t v, Try.f3.params[j]? = some t → args[j]? = some v → Value.okWide Try.prog W .any base t v)
    (hW : DataW.Whole enc Try.prog Try.f3.params.toList Rows.diskPlaysSpec.vars false W args.toList ds gs before)
    (hz : (DataW.weightsEach Try.prog Try.f3.params.toList (ds ++ gs)).all (· ≤ reachBytes) = true) :
    Calls Try.prog 3 args W fun e W' => ∃ v, e = .returned v ∧ Rows.diskPlaysSpec.post enc Try.prog Try.f3 false true false false W args v W' := by
  have hW' := hW
  obtain ⟨p, q, hA0, hV, rfl, hfz, hnd⟩ := hW
  have hA : DataW.TrodAll enc Try.prog W 0 (fun _ => true) true Try.f3.params.toList args.toList ds p := hA0
  rw [Try.params3] at hA hval hz
  obtain ⟨v0, vs0, d0, ds0, p0, q0, hargs, rfl, rfl, h0, r0⟩ := trodAll_cons hA
  obtain ⟨v1, vs1, d1, ds1, p1, q1, rfl, rfl, rfl, h1, r1⟩ := trodAll_cons r0
  obtain ⟨rfl, rfl, rfl⟩ := trodAll_nil r1
  obtain rfl : args = #[v0, v1] := by cases args; simp_all
  obtain ⟨rfl, rfl⟩ := trodVars_none hV
  obtain ⟨room, rfl, rfl, rfl, wroom⟩ := open_int Try.underlying3 (hval 0 3 v0 rfl rfl) h0
  have hroom : -9223372036854775808 ≤ room ∧ room ≤ 9223372036854775807 := by simpa [Lit.wf, IntKind.min, IntKind.max, IntKind.signed, IntKind.bits] using wroom
  obtain ⟨scA, scN, scC, sc, rfl, hlensc, hinsc, hbsc⟩ := open_acts (hval 1 22 v1 rfl rfl) h1 (parts_sized hz (j := 1) rfl rfl)
  refine (walk room scA scN scC sc W hlensc hinsc hbsc hroom).mono fun e W' ⟨he, hB⟩ => ?_
  subst he
  exact ⟨_, rfl, law_post Try.laidOut (by kernel_rfl) rfl rfl Try.underlying4 hW' rfl hB⟩

set_option maxRecDepth 100000 in
theorem lifted (os : Os) (started : os.Started) (H : Type) (enc : TypeId × Value → H) :
    ReturnsInHanded {} Try.checked os 3 .any (Rows.diskPlaysSpec.pre6 enc Try.prog Try.f3 Rows.diskPlaysRow.domain false) (Rows.diskPlaysSpec.post enc Try.prog Try.f3 false true false false) := by
  refine returnsInHanded_of_change_sized (C := Try.checked) Try.own started (by kernel_rfl) Try.func3
    (ChangeSpec.witness6 (enc := enc) (C := Try.checked) false ⟨#[], #[.int .i64 0, .slice none 0 0], []⟩ 8 (by kernel_rfl) (by kernel_rfl) (by kernel_rfl) (by kernel_rfl)) ?_
  intro W base args ds gs before hval hW _ hz _
  exact contract H enc W base args ds gs before hval hW hz

theorem proved : Rows.DiskPlaysSaid :=
  OpenClaim.holds_of_wide 3 Try.f3 rfl rfl rfl rfl rfl rfl rfl ⟨rfl, rfl, rfl, rfl, rfl⟩ rfl rfl rfl rfl rfl (by kernel_rfl) Try.func3 (by kernel_rfl)
    (of_decide_eq_true (by kernel_rfl)) (by unfold Func.isWrapper; first | (rw [if_pos (by decide +kernel)]; kernel_rfl) | (rw [if_neg (by decide +kernel)]; exact ⟨rfl, rfl⟩))
    (fun os started H enc _ => lifted os started H enc)
end lawPlays
end Go.Proofs.Ytiiiofemppaklaa
