/- Reading: all entries. -/
import Derived.Test.YtcmnbfcceeljpaaEn
import Derived.Test.YtcmnbfcceeljpaaLs
namespace Go.Proofs.Ytcmnbfcceeljpaa
open Go.RowKit
open SK

/-- what reading all entries comes to -/
def EntriesOut (w : World) (r : Nat) (x : Except Int (List E)) (e : Ending) (w' : World) : Prop :=
  w.grownBy w' (some r) ∧ match x with
    | .ok es => ∃ A c, e = .returned (.slice A es.length c) ∧ EntsIn w' A es ∧ ∀ x ∈ fb A, w.heap.size ≤ x ∧ x < w'.heap.size
    | .error c => e = .panicked (fault c)

theorem own_r {w w' : World} {base r : Nat} {e : TypeId} {size : Nat} {v : Value} {n : Nat} {xs : List Value} (h : w.ownsRow base e size v n xs) (hg : w.grownBy w' (some r)) (hr : r < base) : w'.ownsRow base e size v n xs :=
  h.kept (row := some r) hg (by
    cases hv : v.ownBlock with
    | none => exact Or.inl rfl
    | some g => right; intro he; have := (h.lt g hv).1; simp at he; omega)

set_option maxRecDepth 100000 in
set_option maxHeartbeats 4000000 in
theorem entries_any (w : World) (r : Nat) (s : ByteArray) (h : RdAt w r s 0) (hs : s.size ≤ 281474976710656) :
    Calls Try.prog 31 #[.pointer (some ⟨r, 0, none⟩)] w fun e w' => EntriesOut w r (BK.getOut s.data.toList) e w' := by
  obtain ⟨i0, hi, hz0, hz1, hz2⟩ := info_parts info_ent
  have HC := Lib.hid (count_any w r 0 s h hs (Nat.zero_le _))
  have hlt := h.lt
  have HGC : Hid (BK.getOut s.data.toList = match BK.rCount s.data.toList 0 with | .error c => .error c | .ok (n, p) => BK.rEnd s.data.toList (BK.rEnts s.data.toList n.toNat p [])) := Lib.hid (BK.get_count _)
  obtain ⟨X, hX⟩ : ∃ X, BK.getOut s.data.toList = X := ⟨_, rfl⟩
  rw [hX] at HGC ⊢
  have HLT := Lib.hid hlt
  clear hX h hlt
  cases hc : BK.rCount s.data.toList 0 with
  | error c =>
    have HF : Hid (X = .error c) := Lib.hid (by rw [HGC.out, hc])
    rw [hc] at HC
    clear hc HGC
    go_enter Try.func31, Try.ntmps31
    go_wp2_with fail
    refine HC.out.mono ?_
    rintro e w1 ⟨hg, rfl⟩
    exact ⟨rfl, hg, by rw [HF.out]⟩
  | ok z =>
    obtain ⟨n, p⟩ := z
    obtain ⟨hn0, hn1, hpl⟩ := BK.count_ok hc
    have HXX : Hid (X = BK.rEnd s.data.toList (BK.rEnts s.data.toList n.toNat p [])) := Lib.hid (by rw [HGC.out, hc])
    rw [hc] at HC
    clear hc HGC
    rw [size_list] at hpl
    obtain ⟨m, rfl⟩ := Int.eq_ofNat_of_zero_le hn0
    rw [Int.toNat_natCast] at HXX
    have HM : Hid (m ≤ 4096) := Lib.hid (by omega)
    have HPL := Lib.hid hpl
    clear hn0 hn1 hpl
    go_enter Try.func31, Try.ntmps31
    go_wp2_with fail
    refine HC.out.mono ?_
    rintro e w1 ⟨hg, rfl, hr⟩
    have HG1 := Lib.hid hg
    have HR1 := Lib.hid hr
    clear hg hr HC
    simp only [numV]
    go_wp2_with fail
    go_loopw [3, 6] (fun v i wr => ∃ j : Nat, j ≤ m ∧ i = .int .i64 j ∧ ∃ (acc : List E) (q : Nat), acc.length = j ∧ BK.rEnts s.data.toList m p [] = BK.rEnts s.data.toList (m - j) q acc ∧ q ≤ s.size ∧ RdAt wr r s q ∧ wr.ownsRow w.heap.size 45 5 v j (ecs acc) ∧ w.grownBy wr (some r) ∧ ∀ x ∈ acc, x.wf ∧ good x = 0) (fun _ i _ => m - (intOf i).toNat)
    case atStart => exact ⟨0, by omega, rfl, [], p, rfl, by simp, HPL.out, HR1.out, World.ownsRow_nil _ _ _ _, HG1.out, by simp⟩
    case round =>
      obtain ⟨j, hj, rfl, acc, q, hal, hit, hq, hr, hown, hg, hwf⟩ := hrel
      obtain ⟨A, cap, rfl, hen, hfb, -⟩ := own_ents (fun x hx => (hwf x hx).1) hal hown
      by_cases hlt : j < m
      · have HIT := Lib.hid (entry_any wr r q s A j cap acc hr hs hq hal hen (fun x hx => by have := (hfb x hx).1; have := HLT.out; omega) (by have := HM.out; omega) (BK.lastKey_le fun x hx => (hwf x hx).2))
        have hjm : m - j = (m - (j + 1)) + 1 := by omega
        rw [hjm] at hit
        simp only [BK.rEnts] at hit
        cases hi2 : BK.rEnt s.data.toList q acc with
        | error c =>
          rw [hi2] at hit HIT
          have HF : Hid (X = .error c) := Lib.hid (by rw [HXX.out, hit]; rfl)
          have HG := Lib.hid hg
          clear hi2 hit hown hr hq hal hwf hg hjm hen hfb
          go_wp2_with fail
          refine HIT.out.mono ?_
          rintro e w3 ⟨hg3, rfl⟩
          exact ⟨rfl, grown_trans HG.out hg3, by rw [HF.out]⟩
        | ok z =>
          obtain ⟨e, q'⟩ := z
          obtain ⟨ho1, ho2⟩ := BK.ent_ok hi2
          obtain ⟨hew, hq'⟩ := BK.one_wf ho1 (by have := BK.lastKey_le fun x hx => (hwf x hx).2; omega)
          rw [size_list] at hq'
          rw [hi2] at hit HIT
          simp only at hit
          have HIT2 := Lib.hid hit
          have HG := Lib.hid hg
          have HOWN := Lib.hid hown
          have HAL := Lib.hid hal
          have HQ := Lib.hid hq'
          have HWF : Hid (∀ x ∈ acc ++ [e], x.wf ∧ good x = 0) := Lib.hid (fun x hx => by
            rcases List.mem_append.1 hx with h | h
            · exact hwf x h
            · simp at h; rw [h]; exact ⟨hew, (BK.nb_zero ho2).1⟩)
          have HSN : Hid (ecs (acc ++ [e]) = ecs acc ++ E.cells e) := Lib.hid (ecs_snoc _ _)
          clear hi2 hit hown hr hq hal hwf hg hjm hew hq' ho1 ho2 hen hfb
          go_wp2_with fail
          refine HIT.out.mono ?_
          rintro e3 w3 ⟨hg3, rfl, hr3⟩
          have HO3 := Lib.hid (own_r HOWN.out hg3 HLT.out)
          have HG3 := Lib.hid (grown_trans HG.out hg3)
          have HR3 := Lib.hid hr3
          have HS3 : Hid (w.heap.size ≤ w3.heap.size) := Lib.hid HG3.out.size
          obtain ⟨Y, hY⟩ : ∃ Y, ecs acc = Y := ⟨_, rfl⟩
          rw [hY] at HO3 HSN
          have HE : Hid (∃ e', e' = e) := Lib.hid ⟨e, rfl⟩
          clear hg3 hr3 HIT HG HOWN hY
          obtain ⟨k2, q2, g2, v2, t2⟩ := e
          simp only [entV, E.val]
          have hm4 : m ≤ 4096 := HM.out
          go_wp2_with (at_builtin; refine wpList_append_own _ rfl _ _ 23 rfl w.heap.size 45 i0 _ 5 56 Try.underlying23 hi hz0 hz1 hz2 rfl (by decide) _ _ _ rfl (own_below HO3.out ((Below.refl _ _).alloc (Nat.le_refl _) _)) ⟨w3.heap.size, 0, none⟩ 1 1 (E.cells ⟨k2, q2, g2, v2, t2⟩) rfl ?c1 ?c2 ?c3 ?c4 ?c5 ?c6 ?_)
          case c1 => rfl
          case c2 =>
            refine World.news_of_block (cs := (E.cells ⟨k2, q2, g2, v2, t2⟩).toArray) (t := 45) (fr := (0, 0)) ?_
            exact heap_alloc_new w3 _
          case c3 => simp [E.cells, Value.oneCell']
          case c4 => unfold maxLen; omega
          case c5 => omega
          case c6 => have := HS3.out; simp; omega
          intro v' w6 hown6 hgrow6 hnil6
          have hob : ∀ g, (Value.slice A j cap).ownBlock = some g → w.heap.size ≤ g := fun g hg => (HO3.out.lt g hg).1
          have HR6 : Hid (w6.ownsRow w.heap.size 45 5 v' (j + 1) (ecs (acc ++ [⟨k2, q2, g2, v2, t2⟩]))) := Lib.hid (by rw [HSN.out]; exact hown6)
          have HRD6 : Hid (RdAt w6 r s q') := Lib.hid ((hgrow6.block r (by have := HR3.out.lt; simp; omega) (by intro he; have := hob r he.symm; have := HLT.out; omega)).trans ((Below.heap_alloc _ _ _ HR3.out.lt).trans HR3.out))
          have HG6 : Hid (w.grownBy w6 (some r)) := Lib.hid ⟨hgrow6.os.trans HG3.out.os, hgrow6.tape.trans HG3.out.tape, hgrow6.output.trans HG3.out.output, by have := hgrow6.size; have := HS3.out; simp at *; omega, fun x hx hxr =>
            (hgrow6.block x (by have := HS3.out; simp; omega) (by intro he; have := hob x he.symm; omega)).trans ((Below.heap_alloc _ _ _ (by have := HS3.out; omega)).trans (HG3.out.block x hx hxr))⟩
          clear hown6 hgrow6 hnil6 hob
          go_wp2
          go_roundw
          case rel => exact ⟨j + 1, by omega, by go_num, acc ++ [⟨k2, q2, g2, v2, t2⟩], q', by rw [List.length_append, HAL.out]; rfl, HIT2.out, HQ.out, HRD6.out, HR6.out, HG6.out, HWF.out⟩
          case measure => simp [intOf]; omega
      · have hjm : j = m := by omega
        have hz : m - j = 0 := by omega
        rw [hz] at hit
        simp only [BK.rEnts] at hit
        have HX2 : Hid (X = if q < s.size then .error 4 else .ok acc) := Lib.hid (by rw [HXX.out, hit]; unfold BK.rEnd; rw [size_list])
        have HG := Lib.hid hg
        have HEN := Lib.hid hen
        have HFB := Lib.hid hfb
        have c0 := hr.c0
        have c1 := hr.c1
        have hne : ∀ i j : Nat, j < i → ¬ i ≤ j := fun _ _ h => by omega
        subst hjm
        clear hz hit hown hg hwf hr HXX hen hfb
        by_cases hql : q < s.size
        · have HF : Hid (X = .error 4) := Lib.hid (by rw [HX2.out, if_pos hql])
          have hqi : (q : Int) < (s.size : Int) := by omega
          go_wp2_with fail
          go_quiet (fail)
          go_wp2_with fail
          refine (leave_bad 4 _ (by decide)).mono ?_
          rintro e w3 ⟨rfl, rfl⟩
          exact ⟨rfl, grown_drewN HG.out _, by rw [HF.out]⟩
        · have HF : Hid (X = .ok acc) := Lib.hid (by rw [HX2.out, if_neg hql])
          have hqi : ¬ (q : Int) < (s.size : Int) := by omega
          go_wp2_with fail
          go_quiet (fail)
          go_wp2
          go_ret
          refine ⟨grown_drewN HG.out _, ?_⟩
          rw [HF.out]
          exact ⟨A, cap, by rw [hal]; rfl, HEN.out.below ⟨rfl, rfl, rfl, Nat.le_refl _, fun _ _ => rfl⟩, HFB.out⟩
end Go.Proofs.Ytcmnbfcceeljpaa
