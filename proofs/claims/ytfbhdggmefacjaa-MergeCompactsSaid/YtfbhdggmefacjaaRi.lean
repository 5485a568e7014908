/- The document's Compact. Made by gen_ri.py. -/
import Derived.Test.YtfbhdggmefacjaaRh
import Derived.Test.YtfbhdggmefacjaaLb
import Derived.Test.YtfbhdggmefacjaaCa
import Derived.Deep.QuietTactic
namespace Go.Proofs.Ytfbhdggmefacjaa
open Go.RowKit Go.Shelf
open SK HP VB

set_option maxRecDepth 100000 in
set_option maxHeartbeats 8000000 in
theorem rcompact_any (A B : Option Addr) (n c m d : Nat) (l : List SK.E) (xs : List Int) (now : Int) (bot : Bool) (w : World) (hn : l.length = n) (hb : n ≤ 100000) (hm : xs.length = m) (hm6 : m ≤ 1000000) (hs : Sorted l) (hz : EntsIn w A l) (hx : I64In w B xs) :
    Calls Try.prog 19 #[.slice A n c, .slice B m d, .int .i64 now, .bool bot] w fun e w' => ∃ A' c', e = .returned (.slice A' (if bot = true then rl now (rk xs [] l) else rk xs [] l).length c') ∧ EntsIn w' A' (if bot = true then rl now (rk xs [] l) else rk xs [] l) ∧ Below w.heap.size w w' := by
  obtain ⟨i0, hi, hz0, hz1, hz2⟩ := info_parts info_rent
  have HZ := Lib.hid hz
  have HX := Lib.hid hx
  have HN := Lib.hid hn
  have HM := Lib.hid hm
  have HF : Hid (∀ W k q, Below w.heap.size w W → Calls Try.prog 30 #[.slice A n c, .string k, .int .i64 q] W fun e w' => e = .returned (.int .i64 (idx (pk k q) l)) ∧ Below W.heap.size W w') := Lib.hid fun W k q hb' => rfirst_any A n c l W hn (hz.below hb') (by omega) k q
  have HA : Hid (∀ (e : SK.E) W, Calls Try.prog 15 #[e.val, .int .i64 now] W fun r w' => r = .returned (.bool (alive e now)) ∧ Below W.heap.size W w') := Lib.hid fun e W => ralive_any e now W
  have HKE : Hid (∀ j (h : j < l.length), keepsE xs (l.take j) l[j] = (head l j || xs.any (fun s => decide (idx (pk l[j].key s) l = (j : Int))))) := Lib.hid fun j h => keepsE_doc hs h
  have hmx : Try.prog.follows .mixedOrders = true := by kernel_rfl
  have hfF : Fence.wide.fn 30 := trivial
  have hsubK := rk_sub xs [] l
  obtain ⟨K, hK⟩ : ∃ K, rk xs [] l = K := ⟨_, rfl⟩
  rw [hK] at hsubK ⊢
  have HKD := Lib.hid hK
  have HSUBK := Lib.hid hsubK
  clear hz hx hn hm hs hK hsubK
  go_enter Try.func19, Try.ntmps19
  go_wp2_with fail
  go_loopw [9, 10] (fun o i wr => ∃ j : Nat, j ≤ n ∧ i = .int .i64 j ∧ Below w.heap.size w wr ∧ wr.ownsRow w.heap.size 39 5 o (rk xs [] (l.take j)).length (ecs (rk xs [] (l.take j)))) (fun _ i _ => n - (intOf i).toNat)
  case atStart => exact ⟨0, by omega, rfl, Below.refl _ _, by simpa [rk, ecs] using World.ownsRow_nil _ _ _ _⟩
  case round =>
    obtain ⟨j, hj, rfl, hbel, hown⟩ := hrel
    have HB := Lib.hid hbel
    have HO := Lib.hid hown
    by_cases hlt : j < n
    · have hjl : j < l.length := by rw [HN.out]; exact hlt
      have hcells : Hid (∀ W, Below w.heap.size w W → ∃ b off, A = some ⟨b, off, none⟩ ∧ b < W.heap.size ∧ W.cell? ⟨b, off + j * 5, none⟩ = some (.string l[j].key) ∧ W.cell? ⟨b, off + j * 5 + 1, none⟩ = some (.int .i64 l[j].seq) ∧ W.cell? ⟨b, off + j * 5 + 2, none⟩ = some (.bool l[j].gone) ∧ W.cell? ⟨b, off + j * 5 + 3, none⟩ = some (.string l[j].value) ∧ W.cell? ⟨b, off + j * 5 + 4, none⟩ = some (.int .i64 l[j].til)) := Lib.hid fun W hb => by
        obtain ⟨b, off, hA, hbl, hc⟩ := (HZ.out.below hb).at_ (by omega)
        exact ⟨b, off, hA, hbl, hc j hjl⟩
      have hprev : Hid (0 < j → ∀ W, Below w.heap.size w W → ∀ b off, A = some ⟨b, off, none⟩ → W.cell? ⟨b, off + (j - 1) * 5, none⟩ = some (.string (l.getD (j - 1) SK.E.zero).key)) := Lib.hid fun h0 W hb b off hA => by
        obtain ⟨b', off', hA', hbl, hc⟩ := (HZ.out.below hb).at_ (by omega)
        rw [hA] at hA'
        cases hA'
        rw [getD_at _ _ (by omega)]
        exact (hc (j - 1) (by omega)).1
      have hke := HKE.out j hjl
      have hsn := rk_snoc xs [] (l.take j) l[j]
      rw [List.nil_append, ← List.take_succ_eq_append_getElem hjl, hke] at hsn
      have hrl := rk_len xs [] (l.take j)
      rw [List.length_take] at hrl
      have hhd : head l j = (decide (j = 0) || !decide ((l.getD (j - 1) SK.E.zero).key = l[j].key)) := by unfold head; rw [getD_at l _ hjl]
      obtain ⟨e, he⟩ : ∃ e, l[j] = e := ⟨_, rfl⟩
      rw [he] at hcells hsn hhd
      obtain ⟨pk1, hpk1⟩ : ∃ k, (l.getD (j - 1) SK.E.zero).key = k := ⟨_, rfl⟩
      rw [hpk1] at hprev hhd
      obtain ⟨K0, hK0⟩ : ∃ b, head l j = b := ⟨_, rfl⟩
      rw [hK0] at hsn hhd
      have HFE := Lib.hid (fun W q hW => HF.out W e.key q hW)
      obtain ⟨F, hF⟩ : ∃ F : Int → Int, (fun s => idx (pk e.key s) l) = F := ⟨_, rfl⟩
      have hFs : ∀ s, idx (pk e.key s) l = F s := fun s => by rw [← hF]
      simp only [hFs] at hsn HFE
      obtain ⟨KK, hKK⟩ : ∃ b, (K0 || xs.any (fun s => decide (F s = (j : Int)))) = b := ⟨_, rfl⟩
      rw [hKK] at hsn
      have HKK := Lib.hid hKK
      have hec := ecs_snoc (rk xs [] (l.take j)) e
      obtain ⟨X, hX⟩ : ∃ X, rk xs [] (l.take j) = X := ⟨_, rfl⟩
      rw [hX] at HO hsn hec hrl
      have HHD := Lib.hid hhd
      obtain ⟨k2, q2, g2, v2, t2⟩ := e
      simp only [SK.E.cells] at hcells hsn hec HFE HHD
      have HSN := Lib.hid hsn
      have HEC := Lib.hid hec
      have g0 : (0 : Int) ≤ (j : Int) := by omega
      have g1 : (j : Int) < (n : Int) := by omega
      have hXn : X.length ≤ j := by omega
      clear hown he hX hsn hec hrl hke hhd hpk1 hK0 hF hFs hKK
      obtain ⟨b, off, hA, hbl, z0, z1, z2, z3, z4⟩ := hcells.out wr hbel
      subst hA
      clear hbel
      by_cases h0 : j = 0
      · have hK0 : K0 = true := by rw [HHD.out, decide_eq_true h0, Bool.true_or]
        subst hK0
        have hz0' : ((j : Int) == 0) = true := by simp [h0]
        have hz1' : ¬ (0 : Int) < (j : Int) := by omega
        have hz2' : decide ((0 : Int) < (j : Int)) = false := decide_eq_false (by omega)
        clear z1 z2 z3 z4 h0
        go_wp2_with fail
        have HBI := HB
        have HOI := HO
        clear HB HO z0
        go_loopw [11, 12] (fun kp k ws => ∃ (t : Nat) (u : Bool), t ≤ m ∧ k = .int .i64 t ∧ kp = .bool u ∧ Hid (u = (true || (xs.take t).any (fun s => decide (F s = (j : Int))))) ∧ Below w.heap.size w ws ∧ ws.ownsRow w.heap.size 39 5 u9 X.length (ecs X)) (fun _ k _ => m - (intOf k).toNat)
        case atStart => exact ⟨0, true, by omega, rfl, rfl, Lib.hid (by simp), HBI.out, HOI.out⟩
        case round =>
          obtain ⟨t, u, ht, rfl, rfl, hu, hbs, hos⟩ := hrel
          have HBS := Lib.hid hbs
          have HOS := Lib.hid hos
          by_cases hlt2 : t < m
          · have htl : t < xs.length := by rw [HM.out]; exact hlt2
            obtain ⟨b3, off3, hB, hbl3, hc3⟩ := (HX.out.below hbs).at_ (by omega)
            have y0 := hc3 t htl
            have hst : (xs.take (t + 1)).any (fun s => decide (F s = (j : Int))) = ((xs.take t).any (fun s => decide (F s = (j : Int))) || decide (F xs[t] = (j : Int))) := by
              rw [List.take_succ_eq_append_getElem htl, List.any_append]
              simp
            obtain ⟨sv, hsv⟩ : ∃ s, xs[t] = s := ⟨_, rfl⟩
            rw [hsv] at y0 hst
            obtain ⟨b', off', hA', hbl, z0, -, -, -, -⟩ := hcells.out _ hbs
            cases hA'
            have HFQ : Hid (∀ s : Bw wr, Calls Try.prog 30 #[.slice (some ⟨b, off, none⟩) n c, .string k2, .int .i64 sv] s.w fun x w' => x = .returned (.int .i64 (F sv)) ∧ ∃ s' : Bw wr, w' = s'.w) := Lib.hid fun s => (HFE.out s.w sv (HBS.out.trans (s.h.mono HBS.out.size))).mono fun _ w' ⟨h1, h2⟩ => ⟨h1, ⟨w', s.h.trans (h2.mono s.h.size)⟩, rfl⟩
            have s0 : ∀ s : Bw wr, s.w.cell? ⟨b, off + j * 5, none⟩ = some (.string k2) := fun s => (s.h.cell (p := ⟨b, _, none⟩) hbl).trans z0
            have s1 : ∀ s : Bw wr, s.w.cell? ⟨b3, off3 + t, none⟩ = some (.int .i64 sv) := fun s => (s.h.cell (p := ⟨b3, _, none⟩) hbl3).trans y0
            have gt0 : (0 : Int) ≤ (t : Int) := by omega
            have gt1 : (t : Int) < (m : Int) := by omega
            have HUT : Hid (decide (F sv = (j : Int)) = true → Hid (true = (true || (xs.take (t + 1)).any (fun s => decide (F s = (j : Int)))))) := Lib.hid fun h => Lib.hid (by rw [hst, h]; simp)
            have HUF : Hid (decide (F sv = (j : Int)) = false → Hid (u = (true || (xs.take (t + 1)).any (fun s => decide (F s = (j : Int)))))) := Lib.hid fun h => Lib.hid (by rw [hst, h, Bool.or_false]; exact hu.out)
            obtain ⟨fv, hfv⟩ : ∃ fv, F sv = fv := ⟨_, rfl⟩
            rw [hfv] at HFQ HUT HUF
            subst hB
            clear hbs hos hc3 hsv hst hu z0 y0 hbl hbl3 hfv
            go_wp2_with fail
            refine (wpIn_wide (n := 4)).1 ?_
            refine wpIn_region_quiet_bw0 rfl (by assumption) (by kernel_rfl) ?_
            repeat (gi_big_quiet_step (first | (gi_at_call 30; exact callsIn_wide.2 (HFQ.out _)) | fail))
            refine wpQuietIn_nil ?_
            intro _ hw'
            obtain ⟨sq, hw''⟩ := hw'
            subst hw''
            obtain ⟨W2, hb2⟩ := sq
            have HB2 := Lib.hid (HBS.out.trans (hb2.mono HBS.out.size))
            have HO2 := Lib.hid (own_below HOS.out hb2)
            simp only
            clear s0 s1 hb2
            cases hq : (fv == (j : Int))
            · have hd : decide (fv = (j : Int)) = false := decide_eq_false (by simpa using hq)
              have HU2 := HUF.out hd
              clear hd
              go_wp2
              go_roundw
              case rel => exact ⟨t + 1, u, by omega, by go_num, rfl, HU2, HB2.out, HO2.out⟩
              case measure => simp [intOf]; omega
            · have hd : decide (fv = (j : Int)) = true := decide_eq_true (by simpa using hq)
              have HU2 := HUT.out hd
              clear hd
              go_wp2
              go_roundw
              case rel => exact ⟨t + 1, true, by omega, by go_num, rfl, HU2, HB2.out, HO2.out⟩
              case measure => simp [intOf]; omega
          · have htm : t = m := by omega
            have hKK : u = KK := by rw [hu.out, List.take_of_length_le (by rw [HM.out]; omega), HKK.out]
            subst hKK
            subst htm
            have hBS := hbs
            clear hu
            obtain ⟨b', off', hA', hbl, z0, z1, z2, z3, z4⟩ := hcells.out _ hbs
            cases hA'
            have hs2 := hbs.size
            clear hbs hos hBS
            cases u
            · have HR : Hid (wr.ownsRow w.heap.size 39 5 u9 (rk xs [] (l.take (j + 1))).length (ecs (rk xs [] (l.take (j + 1))))) := Lib.hid (by
                rw [HSN.out, if_neg (by decide), List.append_nil]
                exact HOS.out)
              clear HSN z0 z1 z2 z3 z4
              go_wp2
              go_roundw
              case rel => exact ⟨j + 1, by omega, by go_num, HBS.out, HR.out⟩
              case measure => simp [intOf]; omega
            · have HNX : Hid (rk xs [] (l.take (j + 1)) = X ++ [⟨k2, q2, g2, v2, t2⟩]) := Lib.hid (by rw [HSN.out, if_pos rfl])
              clear HSN
              go_wp2_with (at_builtin; refine wpList_append_own _ rfl _ _ 24 rfl (w.heap.size) 39 i0 _ 5 56 Try.underlying24 hi hz0 hz1 hz2 rfl (by decide) _ _ _ rfl (own_below HOS.out ((Below.refl _ _).alloc (Nat.le_refl _) _)) ⟨wr.heap.size, 0, none⟩ 1 1 [.string k2, .int .i64 q2, .bool g2, .string v2, .int .i64 t2] rfl ?c1 ?c2 ?c3 ?c4 ?c5 ?c6 ?_)
              case c1 => rfl
              case c2 => exact five_cells wr _ _ _ _ _ _
              case c3 => intro u hu; simp at hu; rcases hu with rfl | rfl | rfl | rfl | rfl <;> rfl
              case c4 => unfold maxLen; omega
              case c5 => omega
              case c6 =>
                simp
                try omega
              intro v' w3 hown3 hgrow hnil
              clear hnil
              have HR : Hid (w3.ownsRow w.heap.size 39 5 v' (rk xs [] (l.take (j + 1))).length (ecs (rk xs [] (l.take (j + 1))))) := Lib.hid (by
                rw [HNX.out, HEC.out, List.length_append]
                exact hown3)
              have HB3 : Hid (Below w.heap.size w w3) := Lib.hid ((HBS.out.alloc hs2 _).grown hgrow (by simp; omega) (fun g hg => (HOS.out.lt g hg).1))
              clear hown3 hgrow z0 z1 z2 z3 z4
              go_wp2
              go_roundw
              case rel => exact ⟨j + 1, by omega, by go_num, HB3.out, HR.out⟩
              case measure => simp [intOf]; omega
      · have hp0 := hprev.out (by omega) wr HB.out b off rfl
        have hK0 : K0 = !(decide (pk1 = k2)) := by rw [HHD.out, decide_eq_false h0, Bool.false_or]
        have hte := text_eq pk1 k2
        have hz0' : ((j : Int) == 0) = false := by simp [h0]
        have hz1' : (0 : Int) < (j : Int) := by omega
        have hz2' : decide ((0 : Int) < (j : Int)) = true := decide_eq_true (by omega)
        have hneq : (!(pk1.toList == k2.toList)) = K0 := by rw [hte, hK0]
        have hneq2 : (pk1.toList != k2.toList) = K0 := hneq
        have hjm : (j : Int) - 1 = ((j - 1 : Nat) : Int) := by omega
        have hjm0 : (0 : Int) ≤ ((j - 1 : Nat) : Int) := by omega
        have hjm1 : ((j - 1 : Nat) : Int) < (n : Int) := by omega
        clear z1 z2 z3 z4 hK0 hte h0
        go_wp2_with fail
        go_quiet (fail)
        have hbI := below_drewN HB.out nq
        have hoI := own_below HO.out (below_drewN (Below.refl wr.heap.size wr) nq)
        generalize wr.drewN nq = wi at hbI hoI ⊢
        have HBI := Lib.hid hbI
        have HOI := Lib.hid hoI
        clear hbI hoI hp0 z0 HB HO
        go_wp2_with fail
        go_loopw [11, 12] (fun kp k ws => ∃ (t : Nat) (u : Bool), t ≤ m ∧ k = .int .i64 t ∧ kp = .bool u ∧ Hid (u = (K0 || (xs.take t).any (fun s => decide (F s = (j : Int))))) ∧ Below w.heap.size w ws ∧ ws.ownsRow w.heap.size 39 5 u9 X.length (ecs X)) (fun _ k _ => m - (intOf k).toNat)
        case atStart => exact ⟨0, K0, by omega, rfl, rfl, Lib.hid (by simp), HBI.out, HOI.out⟩
        case round =>
          obtain ⟨t, u, ht, rfl, rfl, hu, hbs, hos⟩ := hrel
          have HBS := Lib.hid hbs
          have HOS := Lib.hid hos
          by_cases hlt2 : t < m
          · have htl : t < xs.length := by rw [HM.out]; exact hlt2
            obtain ⟨b3, off3, hB, hbl3, hc3⟩ := (HX.out.below hbs).at_ (by omega)
            have y0 := hc3 t htl
            have hst : (xs.take (t + 1)).any (fun s => decide (F s = (j : Int))) = ((xs.take t).any (fun s => decide (F s = (j : Int))) || decide (F xs[t] = (j : Int))) := by
              rw [List.take_succ_eq_append_getElem htl, List.any_append]
              simp
            obtain ⟨sv, hsv⟩ : ∃ s, xs[t] = s := ⟨_, rfl⟩
            rw [hsv] at y0 hst
            obtain ⟨b', off', hA', hbl, z0, -, -, -, -⟩ := hcells.out _ hbs
            cases hA'
            have HFQ : Hid (∀ s : Bw wr, Calls Try.prog 30 #[.slice (some ⟨b, off, none⟩) n c, .string k2, .int .i64 sv] s.w fun x w' => x = .returned (.int .i64 (F sv)) ∧ ∃ s' : Bw wr, w' = s'.w) := Lib.hid fun s => (HFE.out s.w sv (HBS.out.trans (s.h.mono HBS.out.size))).mono fun _ w' ⟨h1, h2⟩ => ⟨h1, ⟨w', s.h.trans (h2.mono s.h.size)⟩, rfl⟩
            have s0 : ∀ s : Bw wr, s.w.cell? ⟨b, off + j * 5, none⟩ = some (.string k2) := fun s => (s.h.cell (p := ⟨b, _, none⟩) hbl).trans z0
            have s1 : ∀ s : Bw wr, s.w.cell? ⟨b3, off3 + t, none⟩ = some (.int .i64 sv) := fun s => (s.h.cell (p := ⟨b3, _, none⟩) hbl3).trans y0
            have gt0 : (0 : Int) ≤ (t : Int) := by omega
            have gt1 : (t : Int) < (m : Int) := by omega
            have HUT : Hid (decide (F sv = (j : Int)) = true → Hid (true = (K0 || (xs.take (t + 1)).any (fun s => decide (F s = (j : Int)))))) := Lib.hid fun h => Lib.hid (by rw [hst, h]; simp)
            have HUF : Hid (decide (F sv = (j : Int)) = false → Hid (u = (K0 || (xs.take (t + 1)).any (fun s => decide (F s = (j : Int)))))) := Lib.hid fun h => Lib.hid (by rw [hst, h, Bool.or_false]; exact hu.out)
            obtain ⟨fv, hfv⟩ : ∃ fv, F sv = fv := ⟨_, rfl⟩
            rw [hfv] at HFQ HUT HUF
            subst hB
            clear hbs hos hc3 hsv hst hu z0 y0 hbl hbl3 hfv
            go_wp2_with fail
            refine (wpIn_wide (n := 4)).1 ?_
            refine wpIn_region_quiet_bw0 rfl (by assumption) (by kernel_rfl) ?_
            repeat (gi_big_quiet_step (first | (gi_at_call 30; exact callsIn_wide.2 (HFQ.out _)) | fail))
            refine wpQuietIn_nil ?_
            intro _ hw'
            obtain ⟨sq, hw''⟩ := hw'
            subst hw''
            obtain ⟨W2, hb2⟩ := sq
            have HB2 := Lib.hid (HBS.out.trans (hb2.mono HBS.out.size))
            have HO2 := Lib.hid (own_below HOS.out hb2)
            simp only
            clear s0 s1 hb2
            cases hq : (fv == (j : Int))
            · have hd : decide (fv = (j : Int)) = false := decide_eq_false (by simpa using hq)
              have HU2 := HUF.out hd
              clear hd
              go_wp2
              go_roundw
              case rel => exact ⟨t + 1, u, by omega, by go_num, rfl, HU2, HB2.out, HO2.out⟩
              case measure => simp [intOf]; omega
            · have hd : decide (fv = (j : Int)) = true := decide_eq_true (by simpa using hq)
              have HU2 := HUT.out hd
              clear hd
              go_wp2
              go_roundw
              case rel => exact ⟨t + 1, true, by omega, by go_num, rfl, HU2, HB2.out, HO2.out⟩
              case measure => simp [intOf]; omega
          · have htm : t = m := by omega
            have hKK : u = KK := by rw [hu.out, List.take_of_length_le (by rw [HM.out]; omega), HKK.out]
            subst hKK
            subst htm
            have hBS := hbs
            clear hu
            obtain ⟨b', off', hA', hbl, z0, z1, z2, z3, z4⟩ := hcells.out _ hbs
            cases hA'
            have hs2 := hbs.size
            clear hbs hos hBS
            cases u
            · have HR : Hid (wr.ownsRow w.heap.size 39 5 u9 (rk xs [] (l.take (j + 1))).length (ecs (rk xs [] (l.take (j + 1))))) := Lib.hid (by
                rw [HSN.out, if_neg (by decide), List.append_nil]
                exact HOS.out)
              clear HSN z0 z1 z2 z3 z4
              go_wp2
              go_roundw
              case rel => exact ⟨j + 1, by omega, by go_num, HBS.out, HR.out⟩
              case measure => simp [intOf]; omega
            · have HNX : Hid (rk xs [] (l.take (j + 1)) = X ++ [⟨k2, q2, g2, v2, t2⟩]) := Lib.hid (by rw [HSN.out, if_pos rfl])
              clear HSN
              go_wp2_with (at_builtin; refine wpList_append_own _ rfl _ _ 24 rfl (w.heap.size) 39 i0 _ 5 56 Try.underlying24 hi hz0 hz1 hz2 rfl (by decide) _ _ _ rfl (own_below HOS.out ((Below.refl _ _).alloc (Nat.le_refl _) _)) ⟨wr.heap.size, 0, none⟩ 1 1 [.string k2, .int .i64 q2, .bool g2, .string v2, .int .i64 t2] rfl ?c1 ?c2 ?c3 ?c4 ?c5 ?c6 ?_)
              case c1 => rfl
              case c2 => exact five_cells wr _ _ _ _ _ _
              case c3 => intro u hu; simp at hu; rcases hu with rfl | rfl | rfl | rfl | rfl <;> rfl
              case c4 => unfold maxLen; omega
              case c5 => omega
              case c6 =>
                simp
                try omega
              intro v' w3 hown3 hgrow hnil
              clear hnil
              have HR : Hid (w3.ownsRow w.heap.size 39 5 v' (rk xs [] (l.take (j + 1))).length (ecs (rk xs [] (l.take (j + 1))))) := Lib.hid (by
                rw [HNX.out, HEC.out, List.length_append]
                exact hown3)
              have HB3 : Hid (Below w.heap.size w w3) := Lib.hid ((HBS.out.alloc hs2 _).grown hgrow (by simp; omega) (fun g hg => (HOS.out.lt g hg).1))
              clear hown3 hgrow z0 z1 z2 z3 z4
              go_wp2
              go_roundw
              case rel => exact ⟨j + 1, by omega, by go_num, HB3.out, HR.out⟩
              case measure => simp [intOf]; omega
    · have hjn : j = n := by omega
      have htk : l.take j = l := List.take_of_length_le (by rw [HN.out]; omega)
      rw [htk, HKD.out] at hown
      have hKn : K.length ≤ n := by rw [← HN.out]; exact HSUBK.out.length_le
      have HWF : Hid (∀ x ∈ K, x.wf) := Lib.hid fun x hx => HZ.out.wf x (HSUBK.out.subset hx)
      obtain ⟨A9, c9, rfl, he9, -, -⟩ := own_ents HWF.out rfl hown
      have HE9 := Lib.hid he9
      subst hjn
      clear hown hbel htk HO he9
      obtain ⟨kn, hkn⟩ : ∃ kn, K.length = kn := ⟨_, rfl⟩
      have HKN := Lib.hid hkn
      rw [hkn] at hKn ⊢
      clear hkn
      cases bot with
      | false =>
        go_wp2
        go_ret
        exact ⟨A9, ⟨c9, by rw [HKN.out]; rfl⟩, HE9.out, HB.out⟩
      | true =>
        have hrlw : Hid (∀ x ∈ rl now K, x.wf) := Lib.hid fun x hx => HWF.out x ((rl_sub now K).subset hx)
        obtain ⟨W3, hW3⟩ : ∃ W3, wr = W3 := ⟨_, rfl⟩
        rw [hW3] at HE9 HB ⊢
        clear hW3
        go_wp2_with fail
        go_loopw [14, 15] (fun v i ws => ∃ (q : Nat) (out : List SK.E), q ≤ kn ∧ i = .int .i64 q ∧ Hid (out ++ rl now (K.drop q) = rl now K) ∧ Hid (out.length ≤ q) ∧ Below W3.heap.size W3 ws ∧ ws.ownsRow W3.heap.size 39 5 v out.length (ecs out)) (fun _ i _ => kn - (intOf i).toNat)
        case atStart => exact ⟨0, [], by omega, rfl, Lib.hid (by simp), Lib.hid (by simp), Below.refl _ _, by simpa [ecs] using World.ownsRow_nil _ _ _ _⟩
        case round =>
          obtain ⟨q, out, hq, rfl, hout, houtl, hbq, hoq⟩ := hrel
          have HBQ := Lib.hid hbq
          have HOQ := Lib.hid hoq
          by_cases hlt3 : q < kn
          · have hql : q < K.length := by rw [HKN.out]; exact hlt3
            have hrd := rl_drop (now := now) hql
            have HCE : Hid (∀ W, Below W3.heap.size W3 W → ∃ b off, A9 = some ⟨b, off, none⟩ ∧ b < W.heap.size ∧ ∀ t (h : t < K.length), W.cell? ⟨b, off + t * 5, none⟩ = some (.string K[t].key) ∧ W.cell? ⟨b, off + t * 5 + 1, none⟩ = some (.int .i64 K[t].seq) ∧ W.cell? ⟨b, off + t * 5 + 2, none⟩ = some (.bool K[t].gone) ∧ W.cell? ⟨b, off + t * 5 + 3, none⟩ = some (.string K[t].value) ∧ W.cell? ⟨b, off + t * 5 + 4, none⟩ = some (.int .i64 K[t].til)) := Lib.hid fun W hb => (HE9.out.below hb).at_ (by omega)
            obtain ⟨e, he⟩ : ∃ e, K[q] = e := ⟨_, rfl⟩
            rw [he] at hrd
            have HEQ := Lib.hid he
            have hec := ecs_snoc out e
            obtain ⟨ke, qe, ge, ve, te⟩ := e
            simp only at hrd
            have HRD := Lib.hid hrd
            simp only [SK.E.cells] at hec
            have HEC := Lib.hid hec
            have g0 : (0 : Int) ≤ (q : Int) := by omega
            have g1 : (q : Int) < (kn : Int) := by omega
            obtain ⟨b9, off9, hA9, -, -⟩ := HCE.out _ hbq
            subst hA9
            clear hrd hec he hbq hoq
            go_wp2_with fail
            go_loopw [16, 17] (fun sm k ws => ∃ (t : Nat) (u : Bool), q ≤ t ∧ t ≤ kn ∧ k = .int .i64 t ∧ sm = .bool u ∧ Hid (u = ((K.take t).drop q).any (fun x => decide (x.key = ke) && alive x now)) ∧ Below W3.heap.size W3 ws ∧ ws.ownsRow W3.heap.size 39 5 u14 out.length (ecs out)) (fun _ k _ => kn - (intOf k).toNat)
            case atStart => exact ⟨q, false, by omega, by omega, rfl, rfl, Lib.hid (by rw [List.drop_of_length_le (by rw [List.length_take]; omega)]; rfl), HBQ.out, HOQ.out⟩
            case round =>
              obtain ⟨t, u, hqt, ht, rfl, rfl, hu, hbs, hos⟩ := hrel
              have HBS := Lib.hid hbs
              have HOS := Lib.hid hos
              by_cases hlt4 : t < kn
              · have htl : t < K.length := by rw [HKN.out]; exact hlt4
                have hst : ((K.take (t + 1)).drop q).any (fun x => decide (x.key = ke) && alive x now) = (u || (decide (K[t].key = ke) && alive K[t] now)) := by
                  rw [mid_snoc hqt htl, List.any_append, ← hu.out]
                  simp
                obtain ⟨b', off', hA', hbl, hcc⟩ := HCE.out _ hbs
                cases hA'
                obtain ⟨z0, z1, z2, z3, z4⟩ := hcc t htl
                have y0 := (hcc q hql).1
                rw [HEQ.out] at y0
                simp only at y0
                obtain ⟨y, hy⟩ : ∃ y, K[t] = y := ⟨_, rfl⟩
                rw [hy] at z0 z1 z2 z3 z4 hst
                have HAY := Lib.hid (fun W => HA.out y W)
                obtain ⟨AL, hAL⟩ : ∃ a, alive y now = a := ⟨_, rfl⟩
                rw [hAL] at HAY hst
                obtain ⟨ky, qy, gy, vy, ty⟩ := y
                simp only at z0 z1 z2 z3 z4 hst
                simp only [SK.E.val] at HAY
                have HST := Lib.hid hst
                have h0t : (0 : Int) ≤ (t : Int) := by omega
                have h1t : (t : Int) < (kn : Int) := by omega
                have hte := text_eq ky ke
                clear hbs hos hcc hy hst hAL hu
                go_wp2_with fail
                refine (HAY.out _).mono ?_
                rintro e4 w4 ⟨rfl, hb4⟩
                have HB4 := Lib.hid (HBS.out.trans (hb4.mono HBS.out.size))
                have HO4 := Lib.hid (own_below HOS.out hb4)
                have x0 := (hb4.cell (p := ⟨b9, off9 + t * 5, none⟩) hbl).trans z0
                have x1 := (hb4.cell (p := ⟨b9, off9 + q * 5, none⟩) hbl).trans y0
                clear hb4 z0 z1 z2 z3 z4 y0 hbl
                cases hk : (ky.toList == ke.toList)
                · have hd : decide (ky = ke) = false := by rw [← hte]; exact hk
                  have HU2 : Hid (u = ((K.take (t + 1)).drop q).any (fun x => decide (x.key = ke) && alive x now)) := Lib.hid (by rw [HST.out, hd]; simp)
                  clear hd hte
                  go_wp2_with fail
                  go_quiet (fail)
                  have hb5 := below_drewN HB4.out nq
                  have ho5 := own_below HO4.out (below_drewN (Below.refl w4.heap.size w4) nq)
                  generalize w4.drewN nq = w5 at hb5 ho5 ⊢
                  have HB5 := Lib.hid hb5
                  have HO5 := Lib.hid ho5
                  clear hb5 ho5 x0 x1
                  go_wp2
                  go_roundw
                  case rel => exact ⟨t + 1, u, by omega, by omega, by go_num, rfl, HU2, HB5.out, HO5.out⟩
                  case measure => simp [intOf]; omega
                · have hd : decide (ky = ke) = true := by rw [← hte]; exact hk
                  have HU2 : Hid ((u || AL) = ((K.take (t + 1)).drop q).any (fun x => decide (x.key = ke) && alive x now)) := Lib.hid (by rw [HST.out, hd]; simp)
                  clear hd hte
                  go_wp2_with fail
                  go_quiet (fail)
                  have hb5 := below_drewN HB4.out nq
                  have ho5 := own_below HO4.out (below_drewN (Below.refl w4.heap.size w4) nq)
                  generalize w4.drewN nq = w5 at hb5 ho5 ⊢
                  have HB5 := Lib.hid hb5
                  have HO5 := Lib.hid ho5
                  clear hb5 ho5 x0 x1
                  cases AL
                  · rw [Bool.or_false] at HU2
                    go_wp2
                    go_roundw
                    case rel => exact ⟨t + 1, u, by omega, by omega, by go_num, rfl, HU2, HB5.out, HO5.out⟩
                    case measure => simp [intOf]; omega
                  · rw [Bool.or_true] at HU2
                    go_wp2
                    go_roundw
                    case rel => exact ⟨t + 1, true, by omega, by omega, by go_num, rfl, HU2, HB5.out, HO5.out⟩
                    case measure => simp [intOf]; omega
              · have htk4 : t = kn := by omega
                have hu' : u = (K.drop q).any (fun x => decide (x.key = ke) && alive x now) := by rw [hu.out, List.take_of_length_le (by rw [HKN.out]; omega)]
                have HU3 := Lib.hid hu'
                obtain ⟨b', off', hA', hbl, hcc⟩ := HCE.out _ hbs
                cases hA'
                obtain ⟨z0, z1, z2, z3, z4⟩ := hcc q hql
                rw [HEQ.out] at z0 z1 z2 z3 z4
                simp only at z0 z1 z2 z3 z4
                have hs2 := hbs.size
                subst htk4
                clear hbs hos hcc hu hu'
                cases u
                · have HO2 : Hid (out ++ rl now (K.drop (q + 1)) = rl now K) := Lib.hid (by rw [← hout.out, HRD.out, ← HU3.out, if_neg (by decide), List.nil_append])
                  have HL2 : Hid (out.length ≤ q + 1) := Lib.hid (Nat.le_succ_of_le houtl.out)
                  clear z0 z1 z2 z3 z4
                  go_wp2
                  go_roundw
                  case rel => exact ⟨q + 1, out, by omega, by go_num, HO2, HL2, HBS.out, HOS.out⟩
                  case measure => simp [intOf]; omega
                · have HO2 : Hid ((out ++ [⟨ke, qe, ge, ve, te⟩]) ++ rl now (K.drop (q + 1)) = rl now K) := Lib.hid (by rw [← hout.out, HRD.out, ← HU3.out, if_pos rfl, List.append_assoc])
                  have HL2 : Hid ((out ++ [(⟨ke, qe, ge, ve, te⟩ : SK.E)]).length ≤ q + 1) := Lib.hid (by have := houtl.out; rw [List.length_append]; simpa using this)
                  have hol := houtl.out
                  go_wp2_with (at_builtin; refine wpList_append_own _ rfl _ _ 24 rfl (W3.heap.size) 39 i0 _ 5 56 Try.underlying24 hi hz0 hz1 hz2 rfl (by decide) _ _ _ rfl (own_below HOS.out ((Below.refl _ _).alloc (Nat.le_refl _) _)) ⟨wr.heap.size, 0, none⟩ 1 1 [.string ke, .int .i64 qe, .bool ge, .string ve, .int .i64 te] rfl ?c1 ?c2 ?c3 ?c4 ?c5 ?c6 ?_)
                  case c1 => rfl
                  case c2 => exact five_cells wr _ _ _ _ _ _
                  case c3 => intro u hu; simp at hu; rcases hu with rfl | rfl | rfl | rfl | rfl <;> rfl
                  case c4 => unfold maxLen; omega
                  case c5 => omega
                  case c6 =>
                    simp
                    try omega
                  intro v' w3 hown3 hgrow hnil
                  clear hnil
                  have HR : Hid (w3.ownsRow W3.heap.size 39 5 v' (out ++ [(⟨ke, qe, ge, ve, te⟩ : SK.E)]).length (ecs (out ++ [⟨ke, qe, ge, ve, te⟩]))) := Lib.hid (by
                    rw [HEC.out, List.length_append]
                    exact hown3)
                  have HB3 : Hid (Below W3.heap.size W3 w3) := Lib.hid ((HBS.out.alloc hs2 _).grown hgrow (by simp; omega) (fun g hg => (HOS.out.lt g hg).1))
                  clear hown3 hgrow z0 z1 z2 z3 z4
                  go_wp2
                  go_roundw
                  case rel => exact ⟨q + 1, _, by omega, by go_num, HO2, HL2, HB3.out, HR.out⟩
                  case measure => simp [intOf]; omega
          · have hqk : q = kn := by omega
            have hout2 : out = rl now K := by
              have := hout.out
              rwa [List.drop_of_length_le (by rw [HKN.out]; omega), show rl now [] = [] from rfl, List.append_nil] at this
            subst hout2
            obtain ⟨A8, c8, rfl, he8, -, -⟩ := own_ents hrlw.out rfl hoq
            have HE8 := Lib.hid he8
            have HBE := Lib.hid (HB.out.trans (hbq.mono HB.out.size))
            subst hqk
            clear hoq hbq he8 hout houtl
            go_wp2
            go_ret
            exact ⟨A8, ⟨c8, rfl⟩, HE8.out, HBE.out⟩
end Go.Proofs.Ytfbhdggmefacjaa
