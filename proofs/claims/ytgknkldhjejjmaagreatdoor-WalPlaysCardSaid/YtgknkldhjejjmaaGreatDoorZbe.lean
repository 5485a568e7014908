/- Texts joined by bundle.py: RfB, RfC. -/
import Derived.Test.YtgknkldhjejjmaaGreatDoorZar
import Derived.Test.YtgknkldhjejjmaaGreatDoorZbd
import Derived.Outline

/- The reference: with. -/
namespace Go.Proofs.YtgknkldhjejjmaaGreatDoor
open Go.RowKit Go.Maps
open DM

theorem info_name : (Tryz.prog.info? 88).map (fun i => (i.zero, i.size, i.bytes)) = some (some (.agg #[.string ⟨#[]⟩, .int .i64 0]), 2, 24) := by kernel_rfl

/-- where the loop stands -/
structure WithRel (w W : World) (l : RN) (cc : Bs × Int) (j : Nat) (put : Bool) (out : RN) (v : Value) (wr : World) : Prop where
  le : j ≤ l.length
  here : out ++ rw' cc put (l.drop j) = rwith l cc
  row : wr.ownsRow (w.heap.size + 1) 88 2 v out.length (pc out)
  below : Below (w.heap.size + 1) W wr
  few : out.length ≤ j + put.toNat

theorem own_less {w : World} {b b' : Nat} {e : TypeId} {s : Nat} {v : Value} {n : Nat} {xs : List Value} (h : w.ownsRow b e s v n xs) (hb : b' ≤ b) : w.ownsRow b' e s v n xs := by
  refine ⟨h.1, ?_⟩
  rcases h.2 with h2 | ⟨g, cap, cur, h1, h2, h3⟩
  · exact .inl h2
  · exact .inr ⟨g, cap, cur, h1, Nat.le_trans hb h2, h3⟩

theorem less_before : ∀ (a b : Bs), Op.bytesLess a b = bytesBefore a b
  | [], [] => by simp [Op.bytesLess, bytesBefore]
  | [], _ :: _ => by simp [Op.bytesLess, bytesBefore]
  | _ :: _, [] => by simp [Op.bytesLess, bytesBefore]
  | x :: r, y :: t => by simp [Op.bytesLess, bytesBefore, less_before r t]

theorem two_cells (w : World) (a b : Value) (t : TypeId) : ∀ j u, [a, b][j]? = some u → (w.alloc (.cells #[a, b] t)).cell? ((⟨w.heap.size, 0, none⟩ : Addr).add j) = some u := by
  intro j u hj
  rw [addr_add0, cell_of_row _ _ _ _ _ _ (heap_alloc_new w _)]
  match j, hj with
  | 0, hj => simpa using hj
  | 1, hj => simpa using hj
  | j + 2, hj => simp at hj

theorem rw_at {cc : Bs × Int} {put : Bool} {l : RN} {j : Nat} (h : j < l.length) : rw' cc put (l.drop j) = if l[j].1 = cc.1 then rw' cc put (l.drop (j + 1)) else if !put && bytesBefore cc.1 l[j].1 then cc :: l[j] :: rw' cc true (l.drop (j + 1)) else l[j] :: rw' cc put (l.drop (j + 1)) := by
  rw [List.drop_eq_getElem_cons h, rw']

set_option maxRecDepth 100000 in
set_option maxHeartbeats 1000000 in
theorem with_any {B : Nat} (v : Value) (l : RN) (k : ByteArray) (f : Int) (w : World) (hv : Prs B w v l) (hl : l.length ≤ 1099511627776) :
    Calls Tryz.prog 96 #[v, .agg #[.string k, .int .i64 f]] w fun e w' => ∃ v', e = .returned v' ∧ Prs w.heap.size w' v' (rwith l (k.data.toList, f)) ∧ Below w.heap.size w w' := by
  obtain ⟨i0, hi, hz0, hz1, hz2⟩ := info_parts info_name
  obtain ⟨A, c, rfl, hz⟩ := hv.slice
  have HZ := Lib.hid hz
  obtain ⟨n, hn⟩ : ∃ n, l.length = n := ⟨_, rfl⟩
  rw [hn] at hl ⊢
  have HN := Lib.hid hn
  have HB0 : Hid (Below w.heap.size w (w.alloc (.cells #[.string k, .int .i64 f] 88)) ∧ (w.alloc (.cells #[.string k, .int .i64 f] 88)).heap[w.heap.size]? = some (.cells #[.string k, .int .i64 f] 88 (0, 0)) ∧ (w.alloc (.cells #[.string k, .int .i64 f] 88)).heap.size = w.heap.size + 1) := ⟨(Below.refl _ w).alloc (Nat.le_refl _) _, heap_alloc_new w _, by simp⟩
  clear hv hz hn

  go_enter Tryz.func96, Tryz.ntmps96
  go_wp2_with fail
  obtain ⟨W, hW⟩ : ∃ W, w.alloc (.cells #[.string k, .int .i64 f] 88) = W := ⟨_, rfl⟩
  rw [hW] at HB0 ⊢
  clear hW
  obtain ⟨pt, hpt⟩ : ∃ pt, decide (f < 0) = pt := ⟨_, rfl⟩
  have HSTART : Hid (WithRel w W l (k.data.toList, f) 0 pt [] (.slice none 0 0) W) := ⟨by omega, by rw [← hpt]; rfl, World.ownsRow_nil _ _ _ _, Below.refl _ _, by simp⟩
  rw [hpt]
  clear hpt
  go_loopw [5, 6, 7] (fun o pu i wr => ∃ (j : Nat) (put : Bool) (out : RN), i = .int .i64 j ∧ pu = .bool put ∧ j ≤ n ∧ WithRel w W l (k.data.toList, f) j put out o wr) (fun _ _ i _ => n - (intOf i).toNat)
  case atStart => exact ⟨0, pt, [], rfl, rfl, by omega, HSTART.out⟩
  case round =>
    obtain ⟨j, put, out, rfl, rfl, hj, hrel⟩ := hrel
    have HR := Lib.hid hrel
    have z3 : wr.cell? ⟨w.heap.size, 0, none⟩ = some (.string k) := (hrel.below.cell (p := ⟨w.heap.size, 0, none⟩) (Nat.lt_succ_self _)).trans (cell_of_row _ _ _ _ _ _ HB0.out.2.1)
    have z4 : wr.cell? ⟨w.heap.size, 1, none⟩ = some (.int .i64 f) := (hrel.below.cell (p := ⟨w.heap.size, 1, none⟩) (Nat.lt_succ_self _)).trans (cell_of_row _ _ _ _ _ _ HB0.out.2.1)
    clear hrel HSTART
    by_cases hlt : j < n
    · have hjl : j < l.length := by rw [HN.out]; exact hlt
      obtain ⟨b, rfl, hbB, hbw, hc⟩ := HZ.out (by omega)
      obtain ⟨z1, z2⟩ := hc wr ((HR.out.below.block b (by omega)).trans (HB0.out.1.block b hbw)) j hjl
      have hat := @rw_at (k.data.toList, f) put l j hjl
      obtain ⟨p, hp⟩ : ∃ p, l[j] = p := ⟨_, rfl⟩
      rw [hp] at z1 z2 hat
      obtain ⟨t, ht, htl⟩ : ∃ t : ByteArray, encS p.1 = .string t ∧ t.data.toList = p.1 := ⟨⟨p.1.toArray⟩, rfl, by simp⟩
      rw [ht] at z1
      have g0 : (0 : Int) ≤ (j : Int) := by omega
      have g1 : (j : Int) < (n : Int) := by omega
      have HT := Lib.hid (And.intro ht htl)
      have HAT := Lib.hid hat
      by_cases he : p.1 = k.data.toList
      · have htk : t = k := str_ext (htl.trans he)
        have hkk : (k.toList == k.toList) = true := by simp
        have HREL : Hid (∀ q, WithRel w W l (k.data.toList, f) (j + 1) put out u5 (wr.drewN q)) := fun q =>
          ⟨hjl, by
            have h1 := HR.out.here
            rw [HAT.out, if_pos he] at h1
            exact h1, own_below HR.out.row (below_drewN (Below.refl _ _) q), below_drewN HR.out.below q, by have := HR.out.few; omega⟩
        subst htk
        clear hat hp ht htl he hc z2 z4
        go_wp2_with fail
        go_quiet (fail)
        have HQ := Lib.hid (HREL.out nq)
        clear HREL
        go_wp2
        go_roundw
        case rel => exact ⟨j + 1, put, out, by go_num, rfl, by omega, HQ.out⟩
        case measure => simp [intOf]; omega
      · have hne : (t.toList == k.toList) = false := by
          rw [beq_eq_false_iff_ne]
          intro hx
          rw [ByteArray.toList_eq, ByteArray.toList_eq] at hx
          exact he (htl.symm.trans hx)
        rw [if_neg he] at hat
        have hless : Op.bytesLess k.toList t.toList = bytesBefore k.data.toList p.1 := by rw [ByteArray.toList_eq, ByteArray.toList_eq, less_before, htl]
        clear HAT ht htl hc
        go_wp2_with fail
        go_quiet (fail)
        have HRA : Hid (WithRel w W l (k.data.toList, f) j put out u5 (wr.drewN nq)) := Lib.hid ⟨HR.out.le, HR.out.here, own_below HR.out.row (below_drewN (Below.refl _ _) _), below_drewN HR.out.below _, HR.out.few⟩
        have y1 : (wr.drewN nq).cell? ⟨b, j * 2, none⟩ = some (.string t) := by simpa using z1
        have y2 : (wr.drewN nq).cell? ⟨b, j * 2 + 1, none⟩ = some (.int .i64 p.2) := by simpa using z2
        have y3 : (wr.drewN nq).cell? ⟨w.heap.size, 0, none⟩ = some (.string k) := by simpa using z3
        have y4 : (wr.drewN nq).cell? ⟨w.heap.size, 1, none⟩ = some (.int .i64 f) := by simpa using z4
        have hms : wr.heap.size = wr.heap.size := rfl
        generalize wr.drewN nq = wa at HRA y1 y2 y3 y4 ⊢
        clear z1 z2 z3 z4 HR hms
        go_wp2_with fail
        cases put with
        | true =>
          have HAT2 : Hid (rw' (k.data.toList, f) true (l.drop j) = p :: rw' (k.data.toList, f) true (l.drop (j + 1))) := Lib.hid (by simpa using hat)
          clear hat hless
          go_quiet (fail)
          have HRB : Hid (WithRel w W l (k.data.toList, f) j true out u5 (wa.drewN nq)) := Lib.hid ⟨HRA.out.le, HRA.out.here, own_below HRA.out.row (below_drewN (Below.refl _ _) _), below_drewN HRA.out.below _, HRA.out.few⟩
          have x1 : (wa.drewN nq).cell? ⟨b, j * 2, none⟩ = some (.string t) := by simpa using y1
          have x2 : (wa.drewN nq).cell? ⟨b, j * 2 + 1, none⟩ = some (.int .i64 p.2) := by simpa using y2
          have x3 : (wa.drewN nq).cell? ⟨w.heap.size, 0, none⟩ = some (.string k) := by simpa using y3
          have x4 : (wa.drewN nq).cell? ⟨w.heap.size, 1, none⟩ = some (.int .i64 f) := by simpa using y4
          generalize wa.drewN nq = wb at HRB x1 x2 x3 x4 ⊢
          clear y1 y2 y3 y4 HRA
          have hfew : out.length ≤ j + 1 := by have := HRB.out.few; simpa using this
          have hsz := HRB.out.below.size
          have hW1 := HB0.out.2.2
          go_wp2_with (at_builtin; refine wpList_append_own _ rfl _ _ 53 rfl (w.heap.size + 1) 88 i0 _ 2 24 Tryz.underlying53 hi hz0 hz1 hz2 rfl (by decide) _ _ _ rfl (own_below HRB.out.row ((Below.refl _ _).alloc (Nat.le_refl _) _)) ⟨wb.heap.size, 0, none⟩ 1 1 [.string t, .int .i64 p.2] rfl ?c1 ?c2 ?c3 ?c4 ?c5 ?c6 ?_)
          case c1 => rfl
          case c2 => exact two_cells wb _ _ _
          case c3 => intro u hu; simp at hu; rcases hu with rfl | rfl <;> rfl
          case c4 => unfold maxLen; omega
          case c5 => omega
          case c6 =>
            simp
            try omega
          intro v' w3 hown3 hgrow hnil
          clear hnil
          have HREL : Hid (WithRel w W l (k.data.toList, f) (j + 1) true (out ++ [p]) v' w3) := by
            refine ⟨hjl, ?_, ?_, (HRB.out.below.alloc (by omega) _).grown hgrow (by simp; omega) (fun g hg => (HRB.out.row.lt g hg).1), by simp; omega⟩
            · have h1 := HRB.out.here
              rw [HAT2.out] at h1
              simpa using h1
            · rw [pc_snoc, List.length_append, HT.out.1]
              exact hown3
          clear hown3 hgrow
          go_wp2
          go_roundw
          case rel => exact ⟨j + 1, true, out ++ [p], by go_num, rfl, by omega, HREL.out⟩
          case measure => simp [intOf]; omega
        | false =>
          by_cases hb : bytesBefore k.data.toList p.1 = true
          · have HAT2 : Hid (rw' (k.data.toList, f) false (l.drop j) = (k.data.toList, f) :: p :: rw' (k.data.toList, f) true (l.drop (j + 1))) := Lib.hid (by
              rw [hat]
              simp [hb])
            rw [hb] at hless
            clear hat hb
            go_quiet (fail)
            have HRB : Hid (WithRel w W l (k.data.toList, f) j false out u5 (wa.drewN nq)) := Lib.hid ⟨HRA.out.le, HRA.out.here, own_below HRA.out.row (below_drewN (Below.refl _ _) _), below_drewN HRA.out.below _, HRA.out.few⟩
            have x1 : (wa.drewN nq).cell? ⟨b, j * 2, none⟩ = some (.string t) := by simpa using y1
            have x2 : (wa.drewN nq).cell? ⟨b, j * 2 + 1, none⟩ = some (.int .i64 p.2) := by simpa using y2
            have x3 : (wa.drewN nq).cell? ⟨w.heap.size, 0, none⟩ = some (.string k) := by simpa using y3
            have x4 : (wa.drewN nq).cell? ⟨w.heap.size, 1, none⟩ = some (.int .i64 f) := by simpa using y4
            generalize wa.drewN nq = wb at HRB x1 x2 x3 x4 ⊢
            clear y1 y2 y3 y4 HRA
            have hfew : out.length ≤ j := by have := HRB.out.few; simpa using this
            have hsz := HRB.out.below.size
            have hW1 := HB0.out.2.2
            go_wp2_with (at_builtin; refine wpList_append_own _ rfl _ _ 53 rfl (w.heap.size + 1) 88 i0 _ 2 24 Tryz.underlying53 hi hz0 hz1 hz2 rfl (by decide) _ _ _ rfl (own_below HRB.out.row ((Below.refl _ _).alloc (Nat.le_refl _) _)) ⟨wb.heap.size, 0, none⟩ 1 1 [.string k, .int .i64 f] rfl ?c1 ?c2 ?c3 ?c4 ?c5 ?c6 ?_)
            case c1 => rfl
            case c2 => exact two_cells wb _ _ _
            case c3 => intro u hu; simp at hu; rcases hu with rfl | rfl <;> rfl
            case c4 => unfold maxLen; omega
            case c5 => omega
            case c6 =>
              simp
              try omega
            intro v' w3 hown3 hgrow hnil
            clear hnil
            have hgs := hgrow.size
            have HBX : Hid (Below (w.heap.size + 1) W w3) := (HRB.out.below.alloc (by omega) _).grown hgrow (by simp; omega) (fun g hg => (HRB.out.row.lt g hg).1)
            have HRX : Hid (w3.ownsRow (w.heap.size + 1) 88 2 v' (out ++ [(k.data.toList, f)]).length (pc (out ++ [(k.data.toList, f)]))) := by
              rw [pc_snoc, List.length_append, show encS (k.data.toList, f).1 = .string k from by unfold encS; rw [str_mk]]
              exact hown3
            have hlen3 : (out ++ [(k.data.toList, f)]).length = out.length + 1 := by simp
            obtain ⟨out2, hout2⟩ : ∃ o, out ++ [(k.data.toList, f)] = o := ⟨_, rfl⟩
            rw [hout2] at HRX hlen3
            have HOUT2 := Lib.hid hout2
            have HLEN3 := Lib.hid hlen3
            have hfew2 : out2.length ≤ j + 1 := by omega
            have q1 : w3.cell? ⟨b, j * 2, none⟩ = some (.string t) := (HBX.out.cell (p := ⟨b, j * 2, none⟩) (Nat.lt_succ_of_lt hbw)).trans ((HRB.out.below.cell (p := ⟨b, j * 2, none⟩) (Nat.lt_succ_of_lt hbw)).symm.trans x1)
            have q2 : w3.cell? ⟨b, j * 2 + 1, none⟩ = some (.int .i64 p.2) := (HBX.out.cell (p := ⟨b, j * 2 + 1, none⟩) (Nat.lt_succ_of_lt hbw)).trans ((HRB.out.below.cell (p := ⟨b, j * 2 + 1, none⟩) (Nat.lt_succ_of_lt hbw)).symm.trans x2)
            have hsz3 := HBX.out.size
            clear hown3 hgrow hout2 x1 x2 x3 x4 hlen3
            go_wp2_with (at_builtin; refine wpList_append_own _ rfl _ _ 53 rfl (w.heap.size + 1) 88 i0 _ 2 24 Tryz.underlying53 hi hz0 hz1 hz2 rfl (by decide) _ _ _ rfl (own_below HRX.out ((Below.refl _ _).alloc (Nat.le_refl _) _)) ⟨w3.heap.size, 0, none⟩ 1 1 [.string t, .int .i64 p.2] rfl ?c1 ?c2 ?c3 ?c4 ?c5 ?c6 ?_)
            case c1 => rfl
            case c2 => exact two_cells w3 _ _ _
            case c3 => intro u hu; simp at hu; rcases hu with rfl | rfl <;> rfl
            case c4 => unfold maxLen; omega
            case c5 => omega
            case c6 =>
              simp
              try omega
            intro v'' w4 hown4 hgrow4 hnil
            clear hnil
            have HREL : Hid (WithRel w W l (k.data.toList, f) (j + 1) true (out2 ++ [p]) v'' w4) := by
              refine ⟨hjl, ?_, ?_, (HBX.out.alloc (by omega) _).grown hgrow4 (by simp; omega) (fun g hg => (HRX.out.lt g hg).1), by simp; omega⟩
              · have h1 := HRB.out.here
                rw [HAT2.out] at h1
                rw [← HOUT2.out]
                simpa using h1
              · rw [pc_snoc, List.length_append, HT.out.1]
                exact hown4
            clear hown4 hgrow4
            go_wp2
            go_roundw
            case rel => exact ⟨j + 1, true, out2 ++ [p], by go_num, rfl, by omega, HREL.out⟩
            case measure => simp [intOf]; omega
          · have hb' : bytesBefore k.data.toList p.1 = false := by simpa using hb
            have HAT2 : Hid (rw' (k.data.toList, f) false (l.drop j) = p :: rw' (k.data.toList, f) false (l.drop (j + 1))) := Lib.hid (by
              rw [hat]
              simp [hb'])
            rw [hb'] at hless
            clear hat hb hb'
            go_quiet (fail)
            have HRB : Hid (WithRel w W l (k.data.toList, f) j false out u5 (wa.drewN nq)) := Lib.hid ⟨HRA.out.le, HRA.out.here, own_below HRA.out.row (below_drewN (Below.refl _ _) _), below_drewN HRA.out.below _, HRA.out.few⟩
            have x1 : (wa.drewN nq).cell? ⟨b, j * 2, none⟩ = some (.string t) := by simpa using y1
            have x2 : (wa.drewN nq).cell? ⟨b, j * 2 + 1, none⟩ = some (.int .i64 p.2) := by simpa using y2
            have x3 : (wa.drewN nq).cell? ⟨w.heap.size, 0, none⟩ = some (.string k) := by simpa using y3
            have x4 : (wa.drewN nq).cell? ⟨w.heap.size, 1, none⟩ = some (.int .i64 f) := by simpa using y4
            generalize wa.drewN nq = wb at HRB x1 x2 x3 x4 ⊢
            clear y1 y2 y3 y4 HRA
            have hfew : out.length ≤ j := by have := HRB.out.few; simpa using this
            have hsz := HRB.out.below.size
            have hW1 := HB0.out.2.2
            go_wp2_with (at_builtin; refine wpList_append_own _ rfl _ _ 53 rfl (w.heap.size + 1) 88 i0 _ 2 24 Tryz.underlying53 hi hz0 hz1 hz2 rfl (by decide) _ _ _ rfl (own_below HRB.out.row ((Below.refl _ _).alloc (Nat.le_refl _) _)) ⟨wb.heap.size, 0, none⟩ 1 1 [.string t, .int .i64 p.2] rfl ?c1 ?c2 ?c3 ?c4 ?c5 ?c6 ?_)
            case c1 => rfl
            case c2 => exact two_cells wb _ _ _
            case c3 => intro u hu; simp at hu; rcases hu with rfl | rfl <;> rfl
            case c4 => unfold maxLen; omega
            case c5 => omega
            case c6 =>
              simp
              try omega
            intro v' w3 hown3 hgrow hnil
            clear hnil
            have HREL : Hid (WithRel w W l (k.data.toList, f) (j + 1) false (out ++ [p]) v' w3) := by
              refine ⟨hjl, ?_, ?_, (HRB.out.below.alloc (by omega) _).grown hgrow (by simp; omega) (fun g hg => (HRB.out.row.lt g hg).1), by simp; omega⟩
              · have h1 := HRB.out.here
                rw [HAT2.out] at h1
                simpa using h1
              · rw [pc_snoc, List.length_append, HT.out.1]
                exact hown3
            clear hown3 hgrow
            go_wp2
            go_roundw
            case rel => exact ⟨j + 1, false, out ++ [p], by go_num, rfl, by omega, HREL.out⟩
            case measure => simp [intOf]; omega
    · have hjn : j = n := by omega
      subst hjn
      have hfew : out.length ≤ j + 1 := by have := HR.out.few; have := Bool.toNat_le put; omega
      have hsz := HR.out.below.size
      have hW1 := HB0.out.2.2
      have hdrop : l.drop j = [] := List.drop_eq_nil_of_le (by rw [HN.out]; omega)
      cases put with
      | true =>
        have HOUT : Hid (out = rwith l (k.data.toList, f)) := Lib.hid (by
          have h1 := HR.out.here
          rw [hdrop] at h1
          simpa [rw'] using h1)
        clear hdrop
        go_wp2
        go_ret
        exact ⟨_, rfl, by rw [← HOUT.out]; exact own_less HR.out.row (Nat.le_succ _), HB0.out.1.trans (HR.out.below.mono (by omega))⟩
      | false =>
        have HOUT : Hid (out ++ [(k.data.toList, f)] = rwith l (k.data.toList, f)) := Lib.hid (by
          have h1 := HR.out.here
          rw [hdrop] at h1
          simpa [rw'] using h1)
        clear hdrop
        go_wp2_with (at_builtin; refine wpList_append_own _ rfl _ _ 53 rfl (w.heap.size + 1) 88 i0 _ 2 24 Tryz.underlying53 hi hz0 hz1 hz2 rfl (by decide) _ _ _ rfl (own_below HR.out.row ((Below.refl _ _).alloc (Nat.le_refl _) _)) ⟨wr.heap.size, 0, none⟩ 1 1 [.string k, .int .i64 f] rfl ?c1 ?c2 ?c3 ?c4 ?c5 ?c6 ?_)
        case c1 => rfl
        case c2 => exact two_cells wr _ _ _
        case c3 => intro u hu; simp at hu; rcases hu with rfl | rfl <;> rfl
        case c4 => unfold maxLen; omega
        case c5 => omega
        case c6 =>
          simp
          try omega
        intro v' w3 hown3 hgrow hnil
        clear hnil
        have HBX : Hid (Below (w.heap.size + 1) W w3) := (HR.out.below.alloc (by omega) _).grown hgrow (by simp; omega) (fun g hg => (HR.out.row.lt g hg).1)
        have HRX : Hid (w3.ownsRow (w.heap.size + 1) 88 2 v' (out ++ [(k.data.toList, f)]).length (pc (out ++ [(k.data.toList, f)]))) := by
          rw [pc_snoc, List.length_append, show encS (k.data.toList, f).1 = .string k from by unfold encS; rw [str_mk]]
          exact hown3
        clear hown3 hgrow
        go_wp2
        go_ret
        exact ⟨_, rfl, by rw [← HOUT.out]; exact own_less HRX.out (Nat.le_succ _), HB0.out.1.trans (HBX.out.mono (by omega))⟩
end Go.Proofs.YtgknkldhjejjmaaGreatDoor

/- The reference: all. -/
namespace Go.Proofs.YtgknkldhjejjmaaGreatDoor
open Go.RowKit Go.Maps
open DM

theorem rw_len (c : Bs × Int) : ∀ (b : Bool) (l : RN), (rw' c b l).length ≤ l.length + 1
  | true, [] => by simp [rw']
  | false, [] => by simp [rw']
  | true, p :: r => by
    have := rw_len c true r
    rw [rw']; split
    · simp; omega
    · rw [if_neg (by simp)]; simp; omega
  | false, p :: r => by
    have h1 := rw_len c true r
    have h2 := rw_len c false r
    have h3 : (rw' c true r).length ≤ r.length := by
      clear h1 h2
      induction r with
      | nil => simp [rw']
      | cons q t ih =>
        rw [rw']; split
        · simp; omega
        · rw [if_neg (by simp)]; simp; omega
    rw [rw']; split
    · simp; omega
    · split
      · simp; omega
      · simp; omega
theorem rwith_len (l : RN) (c : Bs × Int) : (rwith l c).length ≤ l.length + 1 := rw_len _ _ _
theorem rall_len (l x : RN) : (rall l x).length ≤ l.length + x.length := by
  unfold rall
  induction x generalizing l with
  | nil => simp
  | cons c r ih =>
    have h1 := ih (rwith l c)
    have h2 := rwith_len l c
    simp only [List.foldl_cons, List.length_cons]
    omega
theorem rall_step {l x : RN} {j : Nat} (h : j < x.length) : rall l (x.take (j + 1)) = rwith (rall l (x.take j)) x[j] := by
  unfold rall
  rw [List.take_succ_eq_append_getElem h, List.foldl_append]
  rfl

set_option maxRecDepth 100000 in
set_option maxHeartbeats 1000000 in
theorem rall_any {B : Nat} (v xv : Value) (l x : RN) (w : World) (hv : Prs B w v l) (hx : Prs B w xv x) (_hB : B ≤ w.heap.size) (hl : l.length + x.length ≤ 1099511627776) :
    Calls Tryz.prog 81 #[v, .agg #[xv]] w fun e w' => ∃ v', e = .returned v' ∧ Prs B w' v' (rall l x) ∧ Below w.heap.size w w' := by
  obtain ⟨A, c, rfl, hz⟩ := hx.slice
  have HZ := Lib.hid hz
  obtain ⟨n, hn⟩ : ∃ n, x.length = n := ⟨_, rfl⟩
  rw [hn] at hl ⊢
  have HN := Lib.hid hn
  have HV := Lib.hid hv
  have HB0 : Hid (Below w.heap.size w (w.alloc (.cells #[.slice A n c] 105)) ∧ (w.alloc (.cells #[.slice A n c] 105)).heap[w.heap.size]? = some (.cells #[.slice A n c] 105 (0, 0)) ∧ (w.alloc (.cells #[.slice A n c] 105)).heap.size = w.heap.size + 1) := ⟨(Below.refl _ w).alloc (Nat.le_refl _) _, heap_alloc_new w _, by simp⟩
  clear hv hx hz hn
  go_enter Tryz.func81, Tryz.ntmps81
  go_wp2_with fail
  obtain ⟨W, hW⟩ : ∃ W, w.alloc (.cells #[.slice A n c] 105) = W := ⟨_, rfl⟩
  rw [hW] at HB0 ⊢
  have HST : Hid (Prs B W v (rall l (x.take 0))) := own_below HV.out HB0.out.1
  clear hW
  go_loopw [0, 5] (fun o i wr => ∃ j : Nat, i = .int .i64 j ∧ j ≤ n ∧ Prs B wr o (rall l (x.take j)) ∧ Below (w.heap.size + 1) W wr) (fun _ i _ => n - (intOf i).toNat)
  case atStart => exact ⟨0, rfl, by omega, HST.out, Below.refl _ _⟩
  case round =>
    obtain ⟨j, rfl, hj, hrow, hB'⟩ := hrel
    have HR := Lib.hid hrow
    have HBW := Lib.hid hB'
    have z3 : wr.cell? ⟨w.heap.size, 0, none⟩ = some (.slice A n c) := (hB'.cell (p := ⟨w.heap.size, 0, none⟩) (Nat.lt_succ_self _)).trans (cell_of_row _ _ _ _ _ _ HB0.out.2.1)
    clear hrow hB' HST
    have HSZ : Hid (w.heap.size ≤ wr.heap.size) := by have := HBW.out.size; have := HB0.out.2.2; exact Lib.hid (by omega)
    by_cases hlt : j < n
    · have hjl : j < x.length := by rw [HN.out]; exact hlt
      obtain ⟨b, rfl, hbB, hbw, hc⟩ := HZ.out (by omega)
      obtain ⟨z1, z2⟩ := hc wr ((HBW.out.block b (by omega)).trans (HB0.out.1.block b hbw)) j hjl
      have hst := rall_step (l := l) hjl
      have hlen := rall_len l (x.take j)
      have htk : (x.take j).length ≤ j := List.length_take_le _ _
      obtain ⟨p, hp⟩ : ∃ p, x[j] = p := ⟨_, rfl⟩
      rw [hp] at z1 z2 hst
      obtain ⟨t, ht, htl⟩ : ∃ t : ByteArray, encS p.1 = .string t ∧ t.data.toList = p.1 := ⟨⟨p.1.toArray⟩, rfl, by simp⟩
      rw [ht] at z1
      obtain ⟨L, hL⟩ : ∃ L, rall l (x.take j) = L := ⟨_, rfl⟩
      rw [hL] at HR hst hlen
      have HWI : Hid (Calls Tryz.prog 96 #[u0, .agg #[.string t, .int .i64 p.2]] wr fun e w' => ∃ v', e = .returned v' ∧ Prs wr.heap.size w' v' (rwith L p) ∧ Below wr.heap.size wr w') := by
        have := with_any u0 L t p.2 wr HR.out (by omega)
        rw [htl] at this
        exact Lib.hid this
      rw [← hst] at HWI
      have g0 : (0 : Int) ≤ (j : Int) := by omega
      have g1 : (j : Int) < (n : Int) := by omega
      clear hc hp hst hlen htk ht htl hL
      go_wp2_with fail
      refine HWI.out.mono ?_
      rintro e w2 ⟨v', rfl, hr2, hB2⟩
      have HR2 : Hid (Prs B w2 v' (rall l (x.take (j + 1)))) := own_less hr2 (by have := HSZ.out; omega)
      have HB2 : Hid (Below (w.heap.size + 1) W w2) := HBW.out.trans (hB2.mono (by have := HBW.out.size; have := HB0.out.2.2; omega))
      clear hr2 hB2 HWI
      go_wp2
      go_roundw
      case rel => exact ⟨j + 1, by go_num, by omega, HR2.out, HB2.out⟩
      case measure => simp [intOf]; omega
    · have HE : Hid (x.take j = x) := Lib.hid (List.take_of_length_le (by rw [HN.out]; omega))
      go_wp2
      go_ret
      exact ⟨_, rfl, by rw [← HE.out]; rw [HE.out]; have := HR.out; rw [HE.out] at this; exact this, HB0.out.1.trans (HBW.out.mono (by omega))⟩
end Go.Proofs.YtgknkldhjejjmaaGreatDoor

