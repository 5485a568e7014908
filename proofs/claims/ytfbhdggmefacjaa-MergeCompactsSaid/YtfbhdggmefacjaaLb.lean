/- MergeVisible: of every entries in order what is there, for whom, and when, is the document's answer. For every entries and numbers. -/
import Derived.Test.YtfbhdggmefacjaaWk
import Derived.Test.YtfbhdggmefacjaaRe
import Derived.Test.YtfbhdggmefacjaaOq
import Derived.Test.YtfbhdggmefacjaaLaw
namespace Go.Proofs.Ytfbhdggmefacjaa
open Go.ChangeShapes Go.WideShapes Go.ChangeAt Go.RowKit Go.Shelf
open SK HP VB

section
variable {F : Fence} {n : Nat} {P : Program}
/-- a region that draws its order, whose callees only make memory, outside of rounds -/
theorem wpIn_region_quiet_bw0 {id : Nat} {Q : Exit → Act → World → Prop} {a : Act} {w : World} {L : List Oper} (h0 : F.round = none) (hm : P.follows .mixedOrders = true) (hB : Region.lexB .any L.toArray = true)
    (h : wpQuietIn F n P L.toArray (fun w' => ∃ s : Bw w, w' = s.w) (fun a' => ∀ w', (∃ s : Bw w, w' = s.w) → Q .normal a' w') L a) : (Code.region id L.toArray true).wpIn F n P Q a w := by
  simp only [Region.lexB, Bool.and_eq_true] at hB
  have hl := wpAnyQIn_lex (F := F) (n := n) (C := fun w' => ∃ s : Bw w, w' = s.w) (md := .any) hB.1 L 0 (Array.replicate L.toArray.size false) a (by simp) (by simpa using hB.2) h
  refine wpIn_region_any hm (wpAnyIn_of_quiet (Q := fun a' => ∀ w', (∃ s : Bw w, w' = s.w) → Q .normal a' w') h0 (fun _ w' hw' h => h w' hw') _ _ _ _ ⟨⟨w.drew, (Below.refl _ _).drew⟩, rfl⟩ ?_)
  simpa using hl
end

namespace lawVisible

set_option maxRecDepth 100000 in
set_option maxHeartbeats 4000000 in
theorem walk (A : Option Addr) (n cap : Nat) (l : List E) (q now : Int) (w : World) (hn : l.length = n) (hin : EntsIn w A l) (hb : n * 56 ≤ reachBytes) (hc : n ≤ cap) :
    Calls Try.prog 4 #[.slice A n cap, .int .i64 q, .int .i64 now] w fun e w' => e = .returned (.bool true) ∧ Below w.heap.size w w' := by
  have HO1 := Lib.hid (ordered_any A n cap l w hn hin hc (by unfold reachBytes at hb; omega))
  have hso := od_sorted l
  have hol := od_len l
  obtain ⟨o, ho⟩ : ∃ o, od l = o := ⟨_, rfl⟩
  rw [ho] at HO1 hso hol
  have hvr := vis_rv q now o.length o [] (Nat.le_refl _) hso (by simp)
  have hvl := rv_len q now [] o
  have hvs := rv_sub q now [] o
  rw [hvr] at hvl hvs
  obtain ⟨N, hN⟩ : ∃ N, o.length = N := ⟨_, rfl⟩
  obtain ⟨R, hR⟩ : ∃ R, vis q now o = R := ⟨_, rfl⟩
  have hRV : rv q now [] o = R := by rw [hvr, hR]
  rw [hR] at hvl hvs
  have hRl : R.length ≤ 1000000 := by omega
  have HV : Hid (∀ W B c, EntsIn W B o → N ≤ c → Calls Try.prog 16 #[.slice B N c, .int .i64 q, .int .i64 now] W fun e w' => ∃ B' c', e = .returned (.slice B' R.length c') ∧ EntsIn w' B' R ∧ Below W.heap.size W w') := Lib.hid fun W B c he hc => (visible_any B N c o q now W hN hc (by omega) he).mono fun e w' ⟨v, h1, h2, h3⟩ => by
    rw [hR] at h2
    obtain ⟨B', c', rfl, h4, -, -⟩ := own_ents (fun x hx => he.wf x (hvs x hx)) rfl h2
    exact ⟨B', c', h1, h4, h3⟩
  have HRV : Hid (∀ W B c, EntsIn W B o → Calls Try.prog 17 #[.slice B N c, .int .i64 q, .int .i64 now] W fun e w' => ∃ B' c', e = .returned (.slice B' R.length c') ∧ EntsIn w' B' R ∧ Below W.heap.size W w') := Lib.hid fun W B c he => (rvisible_any B N c o q now W hN (by omega) he).mono fun e w' ⟨v, h1, h2, h3⟩ => by
    rw [hRV] at h2
    obtain ⟨B', c', rfl, h4, -, -⟩ := own_ents (fun x hx => he.wf x (hvs x hx)) rfl h2
    exact ⟨B', c', h1, h4, h3⟩
  have HSM : Hid (∀ W B c B' c', EntsIn W B R → EntsIn W B' R → Calls Try.prog 11 #[.slice B R.length c, .slice B' R.length c'] W fun e w' => e = .returned (.bool true) ∧ Below W.heap.size W w') := Lib.hid fun W B c B' c' h1 h2 => same_any B B' R.length c c' R W rfl h1 h2 hRl
  have HAL := Lib.hid (fun (e : SK.E) W => alive_any e now W)
  have HRA := Lib.hid (fun (e : SK.E) W => ralive_any e now W)
  have HW := Lib.hid wakes_any
  have HN := Lib.hid hN
  rw [hN] at HO1 hol
  have hmx : Try.prog.follows .mixedOrders = true := by kernel_rfl
  have hfA : Fence.wide.fn 14 := trivial
  have hfR : Fence.wide.fn 15 := trivial
  clear hn hin hb hc hso ho hvr hvl hvs hR hRV hRl hN
  obtain ⟨M, hM⟩ : ∃ M, R.length = M := ⟨_, rfl⟩
  rw [hM] at HV HRV HSM
  clear hM
  go_enter Try.func4, Try.ntmps4
  go_wp2_with fail
  refine HO1.out.mono ?_
  rintro e w1 ⟨A1, c1, D1, d1, rfl, h1, q1, r1, t1, hb1⟩
  have HB1 := Lib.hid hb1
  have H1 := Lib.hid h1
  have R1 := Lib.hid r1
  clear HO1 h1 r1 hb1
  go_wp2_with fail
  go_loopw [17] (fun i wr => ∃ j : Nat, j ≤ N ∧ i = .int .i64 j ∧ Below w1.heap.size w1 wr) (fun i _ => N - (intOf i).toNat)
  case atStart => exact ⟨0, by omega, rfl, Below.refl _ _⟩
  case round =>
    obtain ⟨j, hj, rfl, hbr⟩ := hrel
    have HBR := Lib.hid hbr
    by_cases hlt : j < N
    · have hjl : j < o.length := by rw [HN.out]; exact hlt
      obtain ⟨b, off, hA, hbl, hcc⟩ := (H1.out.below hbr).at_ (by omega)
      obtain ⟨b', off', hA', hbl', hcc'⟩ := (R1.out.below hbr).at_ (by omega)
      have s : ∀ s : Bw wr, s.w.cell? ⟨b, off + j * 5, none⟩ = some (.string o[j].key) ∧ s.w.cell? ⟨b, off + j * 5 + 1, none⟩ = some (.int .i64 o[j].seq) ∧ s.w.cell? ⟨b, off + j * 5 + 2, none⟩ = some (.bool o[j].gone) ∧ s.w.cell? ⟨b, off + j * 5 + 3, none⟩ = some (.string o[j].value) ∧ s.w.cell? ⟨b, off + j * 5 + 4, none⟩ = some (.int .i64 o[j].til) := fun s => by
        obtain ⟨z0, z1, z2, z3, z4⟩ := hcc j hjl
        exact ⟨(s.h.cell (p := ⟨b, _, none⟩) hbl).trans z0, (s.h.cell (p := ⟨b, _, none⟩) hbl).trans z1, (s.h.cell (p := ⟨b, _, none⟩) hbl).trans z2, (s.h.cell (p := ⟨b, _, none⟩) hbl).trans z3, (s.h.cell (p := ⟨b, _, none⟩) hbl).trans z4⟩
      have r : ∀ s : Bw wr, s.w.cell? ⟨b', off' + j * 5, none⟩ = some (.string o[j].key) ∧ s.w.cell? ⟨b', off' + j * 5 + 1, none⟩ = some (.int .i64 o[j].seq) ∧ s.w.cell? ⟨b', off' + j * 5 + 2, none⟩ = some (.bool o[j].gone) ∧ s.w.cell? ⟨b', off' + j * 5 + 3, none⟩ = some (.string o[j].value) ∧ s.w.cell? ⟨b', off' + j * 5 + 4, none⟩ = some (.int .i64 o[j].til) := fun s => by
        obtain ⟨z0, z1, z2, z3, z4⟩ := hcc' j hjl
        exact ⟨(s.h.cell (p := ⟨b', _, none⟩) hbl').trans z0, (s.h.cell (p := ⟨b', _, none⟩) hbl').trans z1, (s.h.cell (p := ⟨b', _, none⟩) hbl').trans z2, (s.h.cell (p := ⟨b', _, none⟩) hbl').trans z3, (s.h.cell (p := ⟨b', _, none⟩) hbl').trans z4⟩
      obtain ⟨e, he⟩ : ∃ e, o[j] = e := ⟨_, rfl⟩
      rw [he] at s r
      have HAQ : Hid (∀ s : Bw wr, Calls Try.prog 14 #[e.val, .int .i64 now] s.w fun x w' => x = .returned (.bool (alive e now)) ∧ ∃ s' : Bw wr, w' = s'.w) := Lib.hid fun s => (HAL.out e s.w).mono fun _ w' ⟨h1, h2⟩ => ⟨h1, ⟨w', s.h.trans (h2.mono s.h.size)⟩, rfl⟩
      have HRQ : Hid (∀ s : Bw wr, Calls Try.prog 15 #[e.val, .int .i64 now] s.w fun x w' => x = .returned (.bool (alive e now)) ∧ ∃ s' : Bw wr, w' = s'.w) := Lib.hid fun s => (HRA.out e s.w).mono fun _ w' ⟨h1, h2⟩ => ⟨h1, ⟨w', s.h.trans (h2.mono s.h.size)⟩, rfl⟩
      obtain ⟨AL, hAL⟩ : ∃ b, alive e now = b := ⟨_, rfl⟩
      rw [hAL] at HAQ HRQ
      obtain ⟨k2, q2, g2, v2, t2⟩ := e
      simp only [SK.E.val] at HAQ HRQ
      have s0 := fun x => (s x).1
      have s1 := fun x => (s x).2.1
      have s2 := fun x => (s x).2.2.1
      have s3 := fun x => (s x).2.2.2.1
      have s4 := fun x => (s x).2.2.2.2
      have r0 := fun x => (r x).1
      have r1 := fun x => (r x).2.1
      have r2 := fun x => (r x).2.2.1
      have r3 := fun x => (r x).2.2.2.1
      have r4 := fun x => (r x).2.2.2.2
      have hxx : (AL != AL) = false := by simp
      have g0 : (0 : Int) ≤ (j : Int) := by omega
      have g1 : (j : Int) < (N : Int) := by omega
      subst hA hA'
      clear hcc hcc' hbr he hAL s r hbl hbl'
      go_wp2_with fail
      refine (wpIn_wide (n := 4)).1 ?_
      refine wpIn_region_quiet_bw0 rfl (by assumption) (by kernel_rfl) ?_
      repeat (gi_big_quiet_step (first | (gi_at_call 14; exact callsIn_wide.2 (HAQ.out _)) | (gi_at_call 15; exact callsIn_wide.2 (HRQ.out _)) | fail))
      refine wpQuietIn_nil ?_
      intro _ hw'
      obtain ⟨sq, hw''⟩ := hw'
      subst hw''
      obtain ⟨W2, hb2⟩ := sq
      have HB2 := Lib.hid (HBR.out.trans (hb2.mono HBR.out.size))
      simp only
      clear s0 s1 s2 s3 s4 r0 r1 r2 r3 r4 hb2
      go_wp2
      go_roundw
      case rel => exact ⟨j + 1, by omega, by go_num, HB2.out⟩
      case measure => simp [intOf]; omega
    · have hjn : j = N := by omega
      subst hjn
      clear hbr
      go_wp2_with fail
      refine (HW.out _).mono ?_
      rintro e w2 ⟨rfl, hb2⟩
      have HB2 := Lib.hid (HBR.out.trans (hb2.mono HBR.out.size))
      clear hb2
      go_wp2_with fail
      refine (HV.out _ _ _ (H1.out.below HB2.out) q1).mono ?_
      rintro e w3 ⟨B3, c3, rfl, he3, hb3⟩
      have HB3 := Lib.hid (HB2.out.trans (hb3.mono HB2.out.size))
      have HE3 := Lib.hid he3
      clear hb3 he3
      go_wp2_with fail
      refine (HRV.out _ _ _ (R1.out.below HB3.out)).mono ?_
      rintro e w4 ⟨B4, c4, rfl, he4, hb4⟩
      have HB4 := Lib.hid (HB3.out.trans (hb4.mono HB3.out.size))
      have HE3 := Lib.hid (HE3.out.below hb4)
      have HE4 := Lib.hid he4
      clear hb4 he4
      go_wp2_with fail
      refine (HSM.out _ _ _ _ _ HE3.out HE4.out).mono ?_
      rintro e w5 ⟨rfl, hb5⟩
      have HB5 := Lib.hid (HB1.out.trans ((HB4.out.trans (hb5.mono HB4.out.size)).mono HB1.out.size))
      clear hb5
      go_wp2
      go_ret
      exact ⟨rfl, HB5.out⟩

set_option maxRecDepth 100000 in
theorem contract (H : Type) (enc : TypeId × Value → H) (W : World) (base : Nat) (args : Array Value) (ds gs : List (DataW H)) (before : List MemPlace)
    (hval : ∀ (j : Nat) t v, Try.f4.params[j]? = some t → args[j]? = some v → Value.okWide Try.prog W .any base t v)
    (hW : DataW.Whole enc Try.prog Try.f4.params.toList Rows.mergeVisibleSpec.vars false W args.toList ds gs before)
    (hz : (DataW.weightsEach Try.prog Try.f4.params.toList (ds ++ gs)).all (· ≤ reachBytes) = true) :
    Calls Try.prog 4 args W fun e W' => ∃ v, e = .returned v ∧ Rows.mergeVisibleSpec.post enc Try.prog Try.f4 false true false false W args v W' := by
  have hW' := hW
  obtain ⟨p, q, hA0, hV, rfl, hfz, hnd⟩ := hW
  have hA : DataW.TrodAll enc Try.prog W 0 (fun _ => true) true Try.f4.params.toList args.toList ds p := hA0
  rw [Try.params4] at hA hval hz
  obtain ⟨v0, vs0, d0, ds0, p0, q0, hargs, rfl, rfl, h0, r0⟩ := trodAll_cons hA
  obtain ⟨v1, vs1, d1, ds1, p1, q1, rfl, rfl, rfl, h1, r1⟩ := trodAll_cons r0
  obtain ⟨v2, vs2, d2, ds2, p2, q2, rfl, rfl, rfl, h2, r2⟩ := trodAll_cons r1
  obtain ⟨rfl, rfl, rfl⟩ := trodAll_nil r2
  obtain rfl : args = #[v0, v1, v2] := by cases args; simp_all
  obtain ⟨rfl, rfl⟩ := trodVars_none hV
  obtain ⟨lA, lN, lC, l, rfl, hlenl, hinl, hbl, hcapl⟩ := open_ents (hval 0 22 v0 rfl rfl) h0 (parts_sized hz (j := 0) rfl rfl)
  obtain ⟨q, rfl, rfl, rfl, wq⟩ := open_int Try.underlying2 (hval 1 2 v1 rfl rfl) h1
  have hq : -9223372036854775808 ≤ q ∧ q ≤ 9223372036854775807 := by simpa [Lit.wf, IntKind.min, IntKind.max, IntKind.signed, IntKind.bits] using wq
  obtain ⟨t, rfl, rfl, rfl, wt⟩ := open_int Try.underlying2 (hval 2 2 v2 rfl rfl) h2
  have ht : -9223372036854775808 ≤ t ∧ t ≤ 9223372036854775807 := by simpa [Lit.wf, IntKind.min, IntKind.max, IntKind.signed, IntKind.bits] using wt
  refine (walk lA lN lC l q t W hlenl hinl hbl hcapl).mono fun e W' ⟨he, hB⟩ => ?_
  subst he
  exact ⟨_, rfl, law_post Try.laidOut (by kernel_rfl) rfl rfl Try.underlying4 hW' rfl hB⟩

set_option maxRecDepth 100000 in
theorem lifted (os : Os) (started : os.Started) (H : Type) (enc : TypeId × Value → H) :
    ReturnsInHanded {} Try.checked os 4 .any (Rows.mergeVisibleSpec.pre6 enc Try.prog Try.f4 Rows.mergeVisibleRow.domain false) (Rows.mergeVisibleSpec.post enc Try.prog Try.f4 false true false false) := by
  refine returnsInHanded_of_change_sized (C := Try.checked) Try.own started (by kernel_rfl) Try.func4
    (ChangeSpec.witness6 (enc := enc) (C := Try.checked) false ⟨#[], #[.slice none 0 0, .int .i64 0, .int .i64 0], []⟩ 8 (by kernel_rfl) (by kernel_rfl) (by kernel_rfl) (by kernel_rfl)) ?_
  intro W base args ds gs before hval hW _ hz _
  exact contract H enc W base args ds gs before hval hW hz

theorem proved : Rows.MergeVisibleSaid :=
  OpenClaim.holds_of_wide 4 Try.f4 rfl rfl rfl rfl rfl rfl rfl ⟨rfl, rfl, rfl, rfl, rfl⟩ rfl rfl rfl rfl rfl (by kernel_rfl) Try.func4 (by kernel_rfl)
    (of_decide_eq_true (by kernel_rfl)) (by unfold Func.isWrapper; first | (rw [if_pos (by decide +kernel)]; kernel_rfl) | (rw [if_neg (by decide +kernel)]; exact ⟨rfl, rfl⟩))
    (fun os started H enc _ => lifted os started H enc)
end lawVisible
end Go.Proofs.Ytfbhdggmefacjaa
