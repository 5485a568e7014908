/- BudgetBack: what is reserved and released again leaves all but the greatest sum as it was; what is refused leaves that too. For every limit, every calls ahead, and every call. -/
import Derived.Test.YtapncnbildampaaOpen
import Derived.Test.YtapncnbildampaaAcl
namespace Go.Proofs.Ytapncnbildampaa
open Go.ChangeShapes Go.WideShapes Go.ChangeAt Go.RowKit
open BM
namespace lawBack

theorem of_put (s : S) {k : Int} (hk : known k) (v : Int) : (s.put k v).of k = v := by
  rcases known_cases hk with rfl | rfl | rfl | rfl <;> simp [S.put, S.set, S.of]
theorem known_of {k n : Int} (h : ¬ bad k n) : known k ∧ 0 ≤ n := by
  unfold bad at h
  by_cases hk : known k
  · exact ⟨hk, by by_cases hn : n < 0 <;> simp_all⟩
  · simp_all
theorem high_two (s : S) {k n : Int} (hk : known k) (hn : 0 ≤ n) (hu : s.used ≤ s.high) : ((s.put k (s.of k + n)).put k (s.of k)).high = max s.high (s.used + n) := by
  have h1 : (s.put k (s.of k + n)).high = max s.high (s.used + n) := by
    show max s.high (s.set k (s.of k + n)).used = _
    rw [set_used s hk]; omega
  have h2 : ((s.put k (s.of k + n)).set k (s.of k)).used = s.used := by
    rw [set_used _ hk, put_used s hk, of_put s hk]; omega
  show max (s.put k (s.of k + n)).high ((s.put k (s.of k + n)).set k (s.of k)).used = _
  rw [h1, h2]; omega
theorem used_two (s : S) {k n : Int} (hk : known k) : ((s.put k (s.of k + n)).put k (s.of k)).used = s.used := by
  rw [put_used _ hk, put_used s hk, of_put s hk]; omega

set_option maxRecDepth 100000 in
set_option maxHeartbeats 8000000 in
theorem walk (l : Int) (A : Option Addr) (n cap : Nat) (sc : List AC) (a : AC) (w : World) (hlen : sc.length = n) (hin : ActsIn w w.heap.size A sc) (hb : n * 24 ≤ reachBytes) (hwa : a.wf) :
    Calls Try.prog 5 #[.int .i64 l, .slice A n cap, a.val] w fun e w' => e = .returned (.bool true) ∧ Below w.heap.size w w' := by
  have hn : n ≤ 9223372036854775807 := by unfold reachBytes at hb; omega
  obtain ⟨ad, ak, an⟩ := a
  obtain ⟨-, hak, han⟩ := hwa
  unfold AC.val
  simp only at hak han ⊢
  have hBW : Below w.heap.size w (w.alloc (.cells #[.int .i64 ad, .int .i64 ak, .int .i64 an] 30)) := (Below.refl _ _).alloc (Nat.le_refl _) _
  have hxx := heap_alloc_new w (.cells #[.int .i64 ad, .int .i64 ak, .int .i64 an] 30)
  have hin2 := hin.below hBW
  have hlt0 : w.heap.size < (w.alloc (.cells #[.int .i64 ad, .int .i64 ak, .int .i64 an] 30)).heap.size := by simp
  have HBW := Lib.hid hBW
  have HXX := Lib.hid hxx
  have HIN := Lib.hid hin2
  have HLT := Lib.hid hlt0
  have HLEN := Lib.hid hlen
  clear hin hb hlen hBW hxx hin2 hlt0
  go_enter Try.func5, Try.ntmps5
  go_wp2_with fail
  have HFIN : Hid (∀ w', Below (w.alloc (.cells #[.int .i64 ad, .int .i64 ak, .int .i64 an] 30)).heap.size (w.alloc (.cells #[.int .i64 ad, .int .i64 ak, .int .i64 an] 30)) w' → Below w.heap.size w w') := fun w' hw' => HBW.out.trans (hw'.mono (Nat.le_of_lt HLT.out))
  clear HBW
  generalize w.alloc (.cells #[.int .i64 ad, .int .i64 ak, .int .i64 an] 30) = W at HFIN HXX HIN HLT ⊢
  obtain ⟨X, hX⟩ : ∃ X, w.heap.size = X := ⟨_, rfl⟩
  rw [hX] at HFIN HXX HIN HLT ⊢
  have HBOX : Hid (∀ w', Below W.heap.size W w' → w'.cell? ⟨X, 1, none⟩ = some (.int .i64 ak) ∧ w'.cell? ⟨X, 2, none⟩ = some (.int .i64 an)) := fun w' hw' =>
    ⟨(hw'.cell (p := ⟨X, 1, none⟩) HLT.out).trans (cell_of_row _ _ _ _ _ _ HXX.out), (hw'.cell (p := ⟨X, 2, none⟩) HLT.out).trans (cell_of_row _ _ _ _ _ _ HXX.out)⟩
  refine (lv_made (Below.refl _ W) l).mono ?_
  rintro e w1 ⟨b, rfl, h1, -, -⟩
  have H1 := Lib.hid h1
  have HWX := Lib.hid hX
  clear h1 hX
  go_wp2_with fail
  go_loopw [19] (fun i wr => ∃ (k : Nat) (s : S), k ≤ n ∧ i = .int .i64 k ∧ Lv W wr b s) (fun i _ => n - (intOf i).toNat)
  case atStart => exact ⟨0, _, by omega, rfl, H1.out⟩
  case round =>
    obtain ⟨k, s, hk, rfl, hbo⟩ := hrel
    have HBO := Lib.hid hbo
    clear hbo H1
    by_cases hlt : k < n
    · have hkl : k < sc.length := by rw [HLEN.out]; exact hlt
      obtain ⟨q, off, hA, hql, hc⟩ := (HIN.out.below (HBO.out.below.mono (Nat.le_of_lt HLT.out))).2 (by omega)
      obtain ⟨c0, c1, c2⟩ := hc k hkl
      obtain ⟨a, ha⟩ : ∃ a, sc[k] = a := ⟨_, rfl⟩
      have hwf : a.wf := HIN.out.1 a (by rw [← ha]; exact List.getElem_mem hkl)
      rw [ha] at c0 c1 c2
      obtain ⟨d, kk, nn⟩ := a
      simp only at c0 c1 c2
      have HAC : Hid (∀ w' r, Bo W w' b r s (new 0) → Calls Try.prog 12 #[.pointer (some ⟨b, 0, none⟩), .pointer (some ⟨r, 0, none⟩), .agg #[.int .i64 d, .int .i64 kk, .int .i64 nn]] w' fun e w'' => (∃ v, e = .returned (.bool v)) ∧ (∃ s', Lv W w'' b s') ∧ Kp w' w'' b r) := fun w' r hbo => (acl_any hbo ⟨d, kk, nn⟩ hwf).mono fun _ _ h => ⟨h.1, ⟨_, h.2.1.lv⟩, h.2.2⟩
      have HAL : Hid (Lv W (wr.alloc (.cells #[.int .i64 d, .int .i64 kk, .int .i64 nn] 30)) b s) := HBO.out.trans ((Below.refl _ _).alloc (Nat.le_refl _) _)
      have hyy := heap_alloc_new wr (.cells #[.int .i64 d, .int .i64 kk, .int .i64 nn] 30)
      have HYS : wr.heap.size < (wr.alloc (.cells #[.int .i64 d, .int .i64 kk, .int .i64 nn] 30)).heap.size := by simp
      have HYH := Lib.hid HYS
      have HYY := Lib.hid hyy
      subst hA
      clear hc ha hwf hyy HYS
      go_wp2_with fail
      generalize wr.alloc (.cells #[.int .i64 d, .int .i64 kk, .int .i64 nn] 30) = w1 at HAL HYH HYY ⊢
      obtain ⟨Y, hY⟩ : ∃ Y, wr.heap.size = Y := ⟨_, rfl⟩
      rw [hY] at HYH HYY ⊢
      have HYB : Hid (Y ≠ b) := by rw [← hY]; exact Nat.ne_of_gt HBO.out.at_.lt
      have d0 : w1.drew.cell? ⟨Y, 0, none⟩ = some (.int .i64 d) := cell_of_row _ _ _ _ _ _ HYY.out
      have d1 : w1.drew.cell? ⟨Y, 1, none⟩ = some (.int .i64 kk) := cell_of_row _ _ _ _ _ _ HYY.out
      have d2 : w1.drew.cell? ⟨Y, 2, none⟩ = some (.int .i64 nn) := cell_of_row _ _ _ _ _ _ HYY.out
      have HAD : Hid (Lv W w1.drew b s) := HAL.out.trans (Below.refl _ _).drew
      have HNR := Lib.hid (rnew_any 0 w1.drew)
      clear c0 c1 c2
      go_region_held3 (fun w' => w'.cell? ⟨Y, 0, none⟩ = some (.int .i64 d) ∧ w'.cell? ⟨Y, 1, none⟩ = some (.int .i64 kk) ∧ w'.cell? ⟨Y, 2, none⟩ = some (.int .i64 nn))
        (first | go_keep | exact ⟨z0, z1, z2⟩ | exact ⟨d0, d1, d2⟩ | exact ⟨y0, y1, y2⟩ | fail)
        (first
          | (go_at_call 9
             refine HNR.out.mono ?_
             rintro e w2 ⟨rfl, hr, hB⟩
             have z0 : w2.cell? ⟨Y, 0, none⟩ = some (.int .i64 d) := (hB.cell (p := ⟨Y, 0, none⟩) HYH.out).trans d0
             have z1 : w2.cell? ⟨Y, 1, none⟩ = some (.int .i64 kk) := (hB.cell (p := ⟨Y, 1, none⟩) HYH.out).trans d1
             have z2 : w2.cell? ⟨Y, 2, none⟩ = some (.int .i64 nn) := (hB.cell (p := ⟨Y, 2, none⟩) HYH.out).trans d2
             have HB2 : Hid (Bo W w2 b w1.drew.heap.size s (new 0)) := ⟨HAD.out.trans hB, hr, HAD.out.below.size, ok_new 0⟩
             have HYZ : Hid (Y < w2.heap.size) := Nat.lt_of_lt_of_le HYH.out hB.size
             clear hr hB)
          | (go_at_call 12
             refine (HAC.out _ _ HB2.out).mono ?_
             rintro e w3 ⟨⟨v, rfl⟩, ⟨s', hl⟩, hkp⟩
             have hy := hkp Y HYZ.out HYB.out (Nat.ne_of_lt HYH.out)
             have y0 : w3.cell? ⟨Y, 0, none⟩ = some (.int .i64 d) := (World.cell?_of_block hy).trans z0
             have y1 : w3.cell? ⟨Y, 1, none⟩ = some (.int .i64 kk) := (World.cell?_of_block hy).trans z1
             have y2 : w3.cell? ⟨Y, 2, none⟩ = some (.int .i64 nn) := (World.cell?_of_block hy).trans z2
             have HL3 := Lib.hid hl
             clear hl hkp hy))
      go_wp2
      go_roundw
      case rel => exact ⟨k + 1, s', by omega, by go_num, HL3.out⟩
      case measure => simp [intOf]; omega
    · have hkn : k = n := by omega
      subst hkn
      obtain ⟨-, bx2⟩ := HBOX.out wr HBO.out.below
      obtain ⟨bx1, -⟩ := HBOX.out wr HBO.out.below
      have okk := HBO.out.ok
      have p0 := of_nonneg okk ak
      have p1 := of_le okk ak
      have p2 := okk.uh
      have p3 := okk.hl
      have p4 := okk.lt
      have HO := Lib.hid (fun W' (hW : BAt W' b 0 s) => of_q hW ak (s.of ak) rfl)
      have HU := Lib.hid (fun W' (hW : BAt W' b 0 s) => used_q hW s.used rfl)
      have HH := Lib.hid (fun W' (hW : BAt W' b 0 s) => high_q hW s.high rfl)
      have HRS := Lib.hid (fun r (hr : BM.reserve ak an s = r) => HBO.out.reserve ak an han.2 hr)
      have hout : (∃ c : Int, (c = 2 ∨ c = 14) ∧ BM.reserve ak an s = (c, s)) ∨ (¬ bad ak an ∧ ¬ an > s.lim - s.used ∧ BM.reserve ak an s = (0, s.put ak (s.of ak + an))) := by
        by_cases hb : bad ak an
        · exact Or.inl ⟨2, Or.inl rfl, by unfold BM.reserve; rw [if_pos hb]⟩
        · by_cases hf : an > s.lim - s.used
          · exact Or.inl ⟨14, Or.inr rfl, by unfold BM.reserve; rw [if_neg hb, if_pos hf]⟩
          · exact Or.inr ⟨hb, hf, by unfold BM.reserve; rw [if_neg hb, if_neg hf]⟩
      rcases hout with ⟨c, hcc, hr⟩ | ⟨hb, hf, hr⟩
      · have HR := Lib.hid (HRS.out _ hr)
        have hce : (c != 0) = true := by rcases hcc with rfl | rfl <;> rfl
        obtain ⟨o, ho⟩ : ∃ o, s.of ak = o := ⟨_, rfl⟩
        obtain ⟨u, hu⟩ : ∃ u, s.used = u := ⟨_, rfl⟩
        obtain ⟨g, hg⟩ : ∃ u, s.high = u := ⟨_, rfl⟩
        rw [ho] at HO
        rw [hu] at HU
        rw [hg] at HH
        clear hr hcc okk p0 p1 p2 p3 p4 ho hu hg HRS
        go_wp2_with fail
        refine (HO.out _ HBO.out.at_).mono ?_
        rintro e w5 ⟨rfl, rfl⟩
        go_wp2_with fail
        refine (HU.out _ HBO.out.at_).mono ?_
        rintro e w5 ⟨rfl, rfl⟩
        go_wp2_with fail
        refine (HH.out _ HBO.out.at_).mono ?_
        rintro e w5 ⟨rfl, rfl⟩
        go_wp2_with fail
        refine HR.out.mono ?_
        rintro e w5 ⟨rfl, h5⟩
        have H5 := Lib.hid h5
        clear h5
        go_wp2_with fail
        refine (wakes_any _).mono ?_
        rintro e w6 ⟨rfl, hB⟩
        have H6 := Lib.hid (H5.out.trans hB)
        clear hB H5
        go_wp2_with fail
        refine (wakes_any _).mono ?_
        rintro e w7 ⟨rfl, hB⟩
        have H7 := Lib.hid (H6.out.trans hB)
        clear hB H6
        go_wp2_with fail
        refine (HO.out _ H7.out.at_).mono ?_
        rintro e w8 ⟨rfl, rfl⟩
        go_wp2_with fail
        refine (HU.out _ H7.out.at_).mono ?_
        rintro e w8 ⟨rfl, rfl⟩
        go_wp2_with fail
        refine (HH.out _ H7.out.at_).mono ?_
        rintro e w8 ⟨rfl, rfl⟩
        go_wp2
        go_ret
        exact ⟨rfl, by rw [HWX.out]; exact HFIN.out _ H7.out.below⟩
      · have HR := Lib.hid (HRS.out _ hr)
        obtain ⟨hkn, hn0⟩ := known_of hb
        have okp : Ok (s.put ak (s.of ak + an)) := by have := ok_reserve okk ak an; rw [hr] at this; exact this
        have hrel : BM.release ak an (s.put ak (s.of ak + an)) = (0, (s.put ak (s.of ak + an)).put ak (s.of ak)) := by
          unfold BM.release
          rw [if_neg hb, of_put s hkn, if_neg (by omega), show s.of ak + an - an = s.of ak from by omega]
        have hO2 : (s.put ak (s.of ak + an)).of ak = s.of ak + an := of_put s hkn _
        have hO3 : ((s.put ak (s.of ak + an)).put ak (s.of ak)).of ak = s.of ak := of_put _ hkn _
        have hU3 := used_two s hkn (n := an)
        have hH3 := high_two s hkn hn0 p2
        obtain ⟨s2, hs2⟩ : ∃ s2, s.put ak (s.of ak + an) = s2 := ⟨_, rfl⟩
        rw [hs2] at HR hrel hO2 hO3 hU3 hH3 okp
        obtain ⟨s3, hs3⟩ : ∃ s3, s2.put ak (s.of ak) = s3 := ⟨_, rfl⟩
        rw [hs3] at hrel hO3 hU3 hH3
        obtain ⟨o, ho⟩ : ∃ o, s.of ak = o := ⟨_, rfl⟩
        obtain ⟨u, hu⟩ : ∃ u, s.used = u := ⟨_, rfl⟩
        obtain ⟨g, hg⟩ : ∃ u, s.high = u := ⟨_, rfl⟩
        rw [ho] at HO hO2 hO3 p0 p1
        rw [hu] at HU hU3 hH3 p1 p2 hf
        rw [hg] at HH hH3 p2 p3
        have HO2 := Lib.hid (fun W' (hW : BAt W' b 0 s2) => of_q hW ak (o + an) hO2)
        have HO3 := Lib.hid (fun W' (hW : BAt W' b 0 s3) => of_q hW ak o hO3)
        have HU3 := Lib.hid (fun W' (hW : BAt W' b 0 s3) => used_q hW u hU3)
        have HH3 := Lib.hid (fun M (hM : max g (u + an) = M) W' (hW : BAt W' b 0 s3) => high_q hW M (hH3.trans hM))
        have HRL := Lib.hid (fun w' (hl : Lv W w' b s2) => hl.release ak an han.2 hrel)
        obtain ⟨lim, hlim⟩ : ∃ x, s.lim = x := ⟨_, rfl⟩
        rw [hlim] at p3 p4 hf
        obtain ⟨P, hP⟩ : ∃ P, o + an = P := ⟨_, rfl⟩
        obtain ⟨Q, hQ⟩ : ∃ Q, u + an = Q := ⟨_, rfl⟩
        rw [hP] at HO2
        rw [hQ] at HH3
        clear hr okk HRS hb hrel hO2 hO3 hU3 hH3 ho hu hg hlim hs2 hs3 okp
        go_wp2_with fail
        refine (HO.out _ HBO.out.at_).mono ?_
        rintro e w5 ⟨rfl, rfl⟩
        go_wp2_with fail
        refine (HU.out _ HBO.out.at_).mono ?_
        rintro e w5 ⟨rfl, rfl⟩
        go_wp2_with fail
        refine (HH.out _ HBO.out.at_).mono ?_
        rintro e w5 ⟨rfl, rfl⟩
        go_wp2_with fail
        refine HR.out.mono ?_
        rintro e w5 ⟨rfl, h5⟩
        have H5 := Lib.hid h5
        clear h5
        go_wp2_with fail
        refine (wakes_any _).mono ?_
        rintro e w6 ⟨rfl, hB⟩
        have H6 := Lib.hid (H5.out.trans hB)
        clear hB H5
        go_wp2_with fail
        have H6D : Hid (Lv W w6.drew b s2) := H6.out.trans (Below.refl _ _).drew
        obtain ⟨-, d2⟩ := HBOX.out _ H6D.out.below
        have HC1 := Lib.hid (HO2.out _ H6D.out.at_)
        have HC2 := Lib.hid (HRL.out _ H6D.out)
        have wP : IntKind.i64.wrap P = P := by rw [IntKind.wrap_i64]; omega
        have wQ : IntKind.i64.wrap Q = Q := by rw [IntKind.wrap_i64]; omega
        by_cases hmx : Q ≤ g
        · have HHM := Lib.hid (HH3.out g (by omega))
          clear HH3
          go_region_held3 (fun w' => w'.cell? ⟨X, 2, none⟩ = some (.int .i64 an))
            (first | go_keep | exact d2 | exact z2 | fail)
            (first
              | (go_at_call 13
                 first
                   | (with_reducible refine HC1.out.mono ?_
                      rintro e w7 ⟨rfl, rfl⟩)
                   | (with_reducible refine (HO3.out _ H7.out.at_).mono ?_
                      rintro e w8 ⟨rfl, rfl⟩)
                   | fail)
              | (go_at_call 15
                 with_reducible refine HC2.out.mono ?_
                 rintro e w7 ⟨rfl, h7⟩
                 have H7 := Lib.hid h7
                 have z2 := (HBOX.out _ h7.below).2
                 clear h7)
              | (go_at_call 17
                 with_reducible refine (HU3.out _ H7.out.at_).mono ?_
                 rintro e w8 ⟨rfl, rfl⟩)
              | (go_at_call 18
                 with_reducible refine (HHM.out _ H7.out.at_).mono ?_
                 rintro e w8 ⟨rfl, rfl⟩))
          all_goals
            go_wp2
            all_goals
              go_ret
              exact ⟨rfl, by rw [HWX.out]; exact HFIN.out _ H7.out.below⟩
        · have HHM := Lib.hid (HH3.out Q (by omega))
          clear HH3
          go_region_held3 (fun w' => w'.cell? ⟨X, 2, none⟩ = some (.int .i64 an))
            (first | go_keep | exact d2 | exact z2 | fail)
            (first
              | (go_at_call 13
                 first
                   | (with_reducible refine HC1.out.mono ?_
                      rintro e w7 ⟨rfl, rfl⟩)
                   | (with_reducible refine (HO3.out _ H7.out.at_).mono ?_
                      rintro e w8 ⟨rfl, rfl⟩)
                   | fail)
              | (go_at_call 15
                 with_reducible refine HC2.out.mono ?_
                 rintro e w7 ⟨rfl, h7⟩
                 have H7 := Lib.hid h7
                 have z2 := (HBOX.out _ h7.below).2
                 clear h7)
              | (go_at_call 17
                 with_reducible refine (HU3.out _ H7.out.at_).mono ?_
                 rintro e w8 ⟨rfl, rfl⟩)
              | (go_at_call 18
                 with_reducible refine (HHM.out _ H7.out.at_).mono ?_
                 rintro e w8 ⟨rfl, rfl⟩))
          all_goals
            go_wp2
            all_goals
              go_ret
              exact ⟨rfl, by rw [HWX.out]; exact HFIN.out _ H7.out.below⟩

set_option maxRecDepth 100000 in
theorem contract (H : Type) (enc : TypeId × Value → H) (W : World) (base : Nat) (args : Array Value) (ds gs : List (DataW H)) (before : List MemPlace)
    (hval : ∀ (j : Nat) t v, Try.f5.params[j]? = some t → args[j]? = some v → Value.okWide Try.prog W .any base t v)
    (hW : DataW.Whole enc Try.prog Try.f5.params.toList Rows.budgetBackSpec.vars false W args.toList ds gs before)
    (hz : (DataW.weightsEach Try.prog Try.f5.params.toList (ds ++ gs)).all (· ≤ reachBytes) = true) :
    Calls Try.prog 5 args W fun e W' => ∃ v, e = .returned v ∧ Rows.budgetBackSpec.post enc Try.prog Try.f5 false true false false W args v W' := by
  have hW' := hW
  obtain ⟨p, q, hA0, hV, rfl, hfz, hnd⟩ := hW
  have hA : DataW.TrodAll enc Try.prog W 0 (fun _ => true) true Try.f5.params.toList args.toList ds p := hA0
  rw [Try.params5] at hA hval hz
  obtain ⟨v0, vs0, d0, ds0, p0, q0, hargs, rfl, rfl, h0, r0⟩ := trodAll_cons hA
  obtain ⟨v1, vs1, d1, ds1, p1, q1, rfl, rfl, rfl, h1, r1⟩ := trodAll_cons r0
  obtain ⟨v2, vs2, d2, ds2, p2, q2, rfl, rfl, rfl, h2, r2⟩ := trodAll_cons r1
  obtain ⟨rfl, rfl, rfl⟩ := trodAll_nil r2
  obtain rfl : args = #[v0, v1, v2] := by cases args; simp_all
  obtain ⟨rfl, rfl⟩ := trodVars_none hV
  obtain ⟨l, rfl, rfl, rfl, wl⟩ := open_int Try.underlying2 (hval 0 2 v0 rfl rfl) h0
  have hl : -9223372036854775808 ≤ l ∧ l ≤ 9223372036854775807 := by simpa [Lit.wf, IntKind.min, IntKind.max, IntKind.signed, IntKind.bits] using wl
  obtain ⟨scA, scN, scC, sc, rfl, hlensc, hinsc, hbsc⟩ := open_acts (hval 1 22 v1 rfl rfl) h1 (parts_sized hz (j := 1) rfl rfl)
  obtain ⟨a, rfl, rfl, hwa⟩ := open_act (hval 2 30 v2 rfl rfl) h2
  refine (walk l scA scN scC sc a W hlensc hinsc hbsc hwa).mono fun e W' ⟨he, hB⟩ => ?_
  subst he
  exact ⟨_, rfl, law_post Try.laidOut (by kernel_rfl) rfl rfl Try.underlying4 hW' rfl hB⟩

set_option maxRecDepth 100000 in
theorem lifted (os : Os) (started : os.Started) (H : Type) (enc : TypeId × Value → H) :
    ReturnsInHanded {} Try.checked os 5 .any (Rows.budgetBackSpec.pre6 enc Try.prog Try.f5 Rows.budgetBackRow.domain false) (Rows.budgetBackSpec.post enc Try.prog Try.f5 false true false false) := by
  refine returnsInHanded_of_change_sized (C := Try.checked) Try.own started (by kernel_rfl) Try.func5
    (ChangeSpec.witness6 (enc := enc) (C := Try.checked) false ⟨#[], #[.int .i64 0, .slice none 0 0, .agg #[.int .i64 0, .int .i64 0, .int .i64 0]], []⟩ 8 (by kernel_rfl) (by kernel_rfl) (by kernel_rfl) (by kernel_rfl)) ?_
  intro W base args ds gs before hval hW _ hz _
  exact contract H enc W base args ds gs before hval hW hz

theorem proved : Rows.BudgetBackSaid :=
  OpenClaim.holds_of_wide 5 Try.f5 rfl rfl rfl rfl rfl rfl rfl ⟨rfl, rfl, rfl, rfl, rfl⟩ rfl rfl rfl rfl rfl (by kernel_rfl) Try.func5 (by kernel_rfl)
    (of_decide_eq_true (by kernel_rfl)) (by unfold Func.isWrapper; first | (rw [if_pos (by decide +kernel)]; kernel_rfl) | (rw [if_neg (by decide +kernel)]; exact ⟨rfl, rfl⟩))
    (fun os started H enc _ => lifted os started H enc)
end lawBack
end Go.Proofs.Ytapncnbildampaa
