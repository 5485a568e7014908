/- eachKey: the iterator's contract. -/
import Derived.Test.YtfbhdggmefacjaaQr
import Derived.Test.YtfbhdggmefacjaaVm
namespace Go.Proofs.Ytfbhdggmefacjaa
open Go.RowKit Go.Shelf
open SK VB
attribute [local go_sem] Oper.semAt_some

/-- a run as a slice of the entries -/
def encG (A : Option Addr) (c : Nat) (g : G) : Array Value := #[.slice (A.map fun a => ⟨a.block, a.off + g.at_ * 5, none⟩) g.l.length (c - g.at_)]

theorem gs_prefix {l : List E} {done : List G} {i : Nat} (h : gs l = done ++ placed i (runs (l.drop i))) (hi : i < l.length) : gs l = (done ++ [⟨i, runAt l i⟩]) ++ placed (i + (runAt l i).length) (runs (l.drop (i + (runAt l i).length))) := by
  rw [h, runs_at hi]
  simp [placed]

/-- 'l[a:b]' of a slice of entries -/
theorem slice_mid (W : World) (q f n c a b : Nat) (h1 : a < b) (h2 : b ≤ c) : (Instr.slice 23 (.slice (some ⟨q, f, none⟩) n c) (some (.int .i64 (a : Int))) (some (.int .i64 (b : Int))) none).run Try.prog W = .ok (.slice (some ⟨q, f + a * 5, none⟩) (b - a) (c - a)) W := by
  have hs : ∀ w, (sizeOf (Try.prog.elem 23)).run Try.prog w = .ok 5 w := fun w => by kernel_rfl
  rw [run_slice_lh W 23 (some ⟨q, f, none⟩) n c (by kernel_rfl) .i64 .i64 (a : Int) (b : Int) (by omega) (by omega) (by omega), hs]
  simp only [Result.andThen, sliced, Int.toNat_natCast]
  rw [if_neg (by omega), Option.map_some, add_off]

set_option maxRecDepth 100000 in
set_option maxHeartbeats 4000000 in
theorem each_iter {W : World} {q f n c : Nat} {l : List E} (hn : l.length = n) (hnc : n ≤ c) (hb : n ≤ 140737488351232) (hin : EntsIn W (some ⟨q, f, none⟩) l) (S0 : List Nat) (n₀ b0 : Nat) (hb0 : b0 < n₀ ∧ b0 ∉ S0) (hq : q < n₀ ∧ q ∉ S0) (hn₀ : n₀ ≤ W.heap.size)
    (nn : Nat) (id : Nat) (J Jx : List G → World → Prop) (hJ : AbidesFrom W.heap.size J)
    (hY : ∀ pre x W1, J pre W1 → (pre ++ [x]) <+: gs l → YieldAt Fence.wide (nn - 1) Try.prog id (encG (some ⟨q, f, none⟩) c x) W1 fun e W' =>
      (e = .returned (.bool true) ∧ J (pre ++ [x]) W' ∧ Kept S0 n₀ W1 W') ∨ (e = .returned (.bool false) ∧ Jx (pre ++ [x]) W'))
    (c0 : W.cell? ⟨b0, 0, none⟩ = some (.slice (some ⟨q, f, none⟩) n c)) (h0 : J [] W) :
    CallsIn Fence.wide nn Try.prog 39 #[.func (.yield id) #[] #[], .pointer (some ⟨b0, 0, none⟩)] W fun e W' => (∃ v, e = .returned v) ∧
      ((∃ ys, ys = gs l ∧ J ys W') ∨ (∃ pre, pre <+: gs l ∧ Jx pre W')) := by
  have HY := Lib.hid hY
  have HJ0 := Lib.hid h0
  have HIN := Lib.hid hin
  have HN := Lib.hid hn
  have hmx : Try.prog.follows .mixedOrders = true := by kernel_rfl
  have HJ := Lib.hid hJ
  clear hY h0 hin hn hJ
  refine callsIn_of_wp Try.func39 rfl trivial ?_ rfl
  simp only [Try.ntmps39, List.size_toArray, List.length_cons, List.length_nil, Nat.reduceAdd, Nat.reduceSub, Array.replicate_succ, Array.replicate_zero, List.push_toArray, List.append_toArray, List.nil_append, List.cons_append]
  refine wpIn_wide.2 ?_
  go_wp2_with fail
  refine (wpIn_wide (n := nn)).1 ?_
  gi_loopw [3, 4] (fun e i wr => ∃ (k : Nat) (done : List G), k ≤ n ∧ e = .int .i64 k ∧ i = .int .i64 k ∧ gs l = done ++ placed k (runs (l.drop k)) ∧ Kept S0 n₀ W wr ∧ W.heap.size ≤ wr.heap.size ∧ J done wr) (fun e _ _ => n - (intOf e).toNat)
  case atStart => exact ⟨0, [], by omega, rfl, rfl, by simp [gs], Kept.refl _ _ _, Nat.le_refl _, HJ0.out⟩
  case round =>
    obtain ⟨k, done, hk, rfl, rfl, hdone, hbw, hsz, hjs⟩ := hrel
    have HDONE := Lib.hid hdone
    have HBW := Lib.hid hbw
    have HSZ := Lib.hid hsz
    have HJS := Lib.hid hjs
    have c0' : wr.cell? ⟨b0, 0, none⟩ = some (.slice (some ⟨q, f, none⟩) n c) := (hbw.cell hb0.1 hb0.2).trans c0
    clear hdone hbw hsz hjs
    by_cases hlt : k < n
    · have hkl : k < l.length := by rw [HN.out]; exact hlt
      obtain ⟨R, hR⟩ : ∃ R, (runAt l k).length = R := ⟨_, rfl⟩
      have hRp : 0 < R := by rw [← hR]; exact runAt_pos hkl
      have hRn : k + R ≤ n := by rw [← hR, ← HN.out]; exact runAt_le (by omega)
      have HR := Lib.hid hR
      have HENT : Hid (EntsIn wr (some ⟨q, f, none⟩) l) := Lib.hid (HIN.out.kept HBW.out (by intro b hb; simp [fb] at hb; subst hb; exact hq))
      have HC : Hid (∀ W', Below wr.heap.size wr W' → ∀ j (h : j < l.length), W'.cell? ⟨q, f + j * 5, none⟩ = some (.string l[j].key)) := Lib.hid fun W' hW j hj => by
        obtain ⟨b, off, hA, hlt, hc⟩ := (HENT.out.below hW).at_ (by omega)
        injection hA with hA
        injection hA with h1 h2
        subst h1; subst h2
        exact (hc j hj).1
      have HB0 : Hid (∀ W', Below wr.heap.size wr W' → W'.cell? ⟨b0, 0, none⟩ = some (.slice (some ⟨q, f, none⟩) n c)) := Lib.hid fun W' hW => (hW.cell (p := ⟨b0, 0, none⟩) (by have := HSZ.out; show b0 < _; omega)).trans c0'
      have HJW : Hid (∀ W', Below wr.heap.size wr W' → J done W') := Lib.hid fun W' hW => HJ.out done wr W' none HJS.out (grown_below hW) (fun r e => by cases e)
      have HPRE := Lib.hid (gs_prefix HDONE.out hkl)
      have HYD : Hid (∀ W1, J done W1 → YieldAt Fence.wide (nn - 1) Try.prog id #[.slice (some ⟨q, f + k * 5, none⟩) R (c - k)] W1 fun e W' => (e = .returned (.bool true) ∧ J (done ++ [⟨k, runAt l k⟩]) W' ∧ Kept S0 n₀ W1 W') ∨ (e = .returned (.bool false) ∧ Jx (done ++ [⟨k, runAt l k⟩]) W')) := Lib.hid fun W1 h1 => by
        have := HY.out done ⟨k, runAt l k⟩ W1 h1 (by rw [HPRE.out]; exact List.prefix_append _ _)
        simp only [encG, Option.map_some, hR] at this
        exact this
      have HPFX : Hid ((done ++ [(⟨k, runAt l k⟩ : G)]) <+: gs l) := Lib.hid (by rw [HPRE.out]; exact List.prefix_append _ _)
      have HMORE : Hid (∀ t, 0 < t → (h : k + t < l.length) → t ≤ R → l[k + t].key = l[k].key → t + 1 ≤ R) := Lib.hid fun t h0 h1 h2 h3 => by rw [← hR] at h2 ⊢; exact runAt_more hkl h0 h1 h2 h3
      have HENDR : Hid (∀ t, 0 < t → (h : k + t < l.length) → t ≤ R → l[k + t].key ≠ l[k].key → t = R) := Lib.hid fun t h0 h1 h2 h3 => by rw [← hR] at h2 ⊢; exact runAt_end hkl h0 h1 h2 h3
      have HNEXT : Hid (gs l = (done ++ [(⟨k, runAt l k⟩ : G)]) ++ placed (k + R) (runs (l.drop (k + R)))) := Lib.hid (by rw [← hR]; exact HPRE.out)
      clear hR
      obtain ⟨w0, hw0⟩ : ∃ w0, wr = w0 := ⟨_, rfl⟩
      rw [hw0] at HC HB0 HJW HBW HSZ HJS HENT c0' ⊢
      clear hw0
      obtain ⟨kend, hke⟩ : ∃ kend, k + R = kend := ⟨_, rfl⟩
      rw [hke] at hRn HNEXT
      gi_wp2_with fail
      refine wpIn_wide.2 ?_
      go_loopw [3] (fun e wq => ∃ t : Nat, t ≤ R ∧ e = .int .i64 ((k + t : Nat) : Int) ∧ Below w0.heap.size w0 wq) (fun e _ => R - ((intOf e).toNat - k))
      case atStart => exact ⟨0, by omega, by simp, Below.refl _ _⟩
      case round =>
        obtain ⟨t, ht, rfl, hbq⟩ := hrel
        obtain ⟨kt, hkt⟩ : ∃ kt, k + t = kt := ⟨_, rfl⟩
        rw [hkt]
        have HBQ := Lib.hid hbq
        have b0q := HB0.out wr hbq
        clear hbq
        by_cases hn2 : kt < n
        · have hktl : kt < l.length := by rw [HN.out]; exact hn2
          have ck := HC.out wr HBQ.out k hkl
          have ckt := HC.out wr HBQ.out kt hktl
          have g0 : (0 : Int) ≤ (k : Int) := by omega
          have g1 : (k : Int) < (n : Int) := by omega
          have g2 : (0 : Int) ≤ (kt : Int) := by omega
          have g3 : (kt : Int) < (n : Int) := by omega
          have HM1 : Hid (l[kt].key = l[k].key → t + 1 ≤ R) := Lib.hid fun h => by
            by_cases h0 : t = 0
            · omega
            · exact HMORE.out t (by omega) (by omega) ht (by simp only [hkt]; exact h)
          have HM2 : Hid (l[kt].key ≠ l[k].key → t = R) := Lib.hid fun h => by
            by_cases h0 : t = 0
            · subst h0
              exact absurd (by simp only [← hkt, Nat.add_zero]) h
            · exact HENDR.out t (by omega) (by omega) ht (by simp only [hkt]; exact h)
          obtain ⟨k1, hk1⟩ : ∃ k1, l[k].key = k1 := ⟨_, rfl⟩
          obtain ⟨k2, hk2⟩ : ∃ k2, l[kt].key = k2 := ⟨_, rfl⟩
          rw [hk1] at ck HM1 HM2
          rw [hk2] at ckt HM1 HM2
          have hte := text_eq k2 k1
          have HKT := Lib.hid hkt
          clear hk1 hk2 hkt
          by_cases heq : k2 = k1
          · have hte2 : (k2.toList == k1.toList) = true := by rw [hte]; exact decide_eq_true heq
            have HT1 := Lib.hid (HM1.out heq)
            have hwr : IntKind.i64.wrap ((kt : Int) + 1) = ((kt + 1 : Nat) : Int) := by rw [IntKind.wrap_i64]; omega
            clear hte heq
            go_wp2_with fail
            go_quiet (fail)
            have hw9 := Lib.hid (below_drewN HBQ.out nq)
            go_wp2
            go_roundw
            case rel => exact ⟨t + 1, HT1.out, by rw [← HKT.out]; go_num, hw9.out⟩
            case measure => have := HT1.out; have := HKT.out; simp [intOf]; omega
          · have hte2 : (k2.toList == k1.toList) = false := by rw [hte]; exact decide_eq_false heq
            have htr := HM2.out heq
            obtain rfl : kt = kend := by have := HKT.out; omega
            have hkd : kt - k = R := by omega
            clear hte heq
            go_wp2_with fail
            go_quiet (fail)
            have hw9 : Hid (Below w0.heap.size w0 (wr.drewN nq)) := Lib.hid (below_drewN HBQ.out nq)
            generalize wr.drewN nq = w9 at hw9 ⊢
            have c9 := HB0.out w9 hw9.out
            obtain ⟨fn, tmps, assign, body, hy, hRR⟩ := HYD.out w9 (HJW.out w9 hw9.out)
            have HRR := Lib.hid hRR
            have hsl := fun w => slice_mid w q f n c k kt (by omega) (by omega)
            rw [hkd] at hsl
            clear hRR ck ckt
            go_wp2_with fail
            gi_wp2_with fail
            refine ⟨fun h => by simp [Fence.wide] at h, ?_⟩
            refine HRR.out.mono ?_
            rintro e W3 (⟨rfl, hJ3, hk3⟩ | ⟨rfl, hJx3⟩)
            · have HJ3 := Lib.hid hJ3
              have HK3 : Hid (Kept S0 n₀ W W3) := Lib.hid ((HBW.out.trans (Kept.of_below (hw9.out.mono (Nat.le_trans hn₀ HSZ.out)))).trans hk3)
              have HS3 : Hid (W.heap.size ≤ W3.heap.size) := Lib.hid (by have := HSZ.out; have := hw9.out.size; have := hk3.size; omega)
              clear hJ3 hk3 hy
              gi_wp2
              go_roundw
              case rel => exact ⟨kt, _, hRn, rfl, rfl, HNEXT.out, HK3.out, HS3.out, HJ3.out⟩
              case measure => have := HKT.out; simp [intOf]; omega
            · have HJX := Lib.hid hJx3
              clear hJx3 hy
              gi_wp2
              refine bodyPost_ret (results_none rfl _ _ _) rfl ?_
              exact ⟨⟨_, rfl⟩, .inr ⟨_, HPFX.out, HJX.out⟩⟩
        · have htr : t = R := by omega
          obtain rfl : kt = kend := by omega
          have hkd : kt - k = R := by omega
          have g2 : ¬ (kt : Int) < (n : Int) := by omega
          have HKT := Lib.hid hkt
          clear hkt
          go_wp2_with fail
          go_quiet (fail)
          have hw9 : Hid (Below w0.heap.size w0 (wr.drewN nq)) := Lib.hid (below_drewN HBQ.out nq)
          generalize wr.drewN nq = w9 at hw9 ⊢
          have c9 := HB0.out w9 hw9.out
          obtain ⟨fn, tmps, assign, body, hy, hRR⟩ := HYD.out w9 (HJW.out w9 hw9.out)
          have HRR := Lib.hid hRR
          have hsl := fun w => slice_mid w q f n c k kt (by omega) (by omega)
          rw [hkd] at hsl
          clear hRR
          go_wp2_with fail
          gi_wp2_with fail
          refine ⟨fun h => by simp [Fence.wide] at h, ?_⟩
          refine HRR.out.mono ?_
          rintro e W3 (⟨rfl, hJ3, hk3⟩ | ⟨rfl, hJx3⟩)
          · have HJ3 := Lib.hid hJ3
            have HK3 : Hid (Kept S0 n₀ W W3) := Lib.hid ((HBW.out.trans (Kept.of_below (hw9.out.mono (Nat.le_trans hn₀ HSZ.out)))).trans hk3)
            have HS3 : Hid (W.heap.size ≤ W3.heap.size) := Lib.hid (by have := HSZ.out; have := hw9.out.size; have := hk3.size; omega)
            clear hJ3 hk3 hy
            gi_wp2
            go_roundw
            case rel => exact ⟨kt, _, hRn, rfl, rfl, HNEXT.out, HK3.out, HS3.out, HJ3.out⟩
            case measure => have := HKT.out; simp [intOf]; omega
          · have HJX := Lib.hid hJx3
            clear hJx3 hy
            gi_wp2
            refine bodyPost_ret (results_none rfl _ _ _) rfl ?_
            exact ⟨⟨_, rfl⟩, .inr ⟨_, HPFX.out, HJX.out⟩⟩
    · obtain rfl : k = n := by omega
      have hf : gs l = done := by
        rw [HDONE.out, List.drop_of_length_le (by rw [HN.out]; exact Nat.le_refl _)]
        simp [runs, placed]
      have HF := Lib.hid hf
      clear hf
      gi_wp2
      go_end0
      exact ⟨⟨_, rfl⟩, .inl ⟨done, HF.out.symm, HJS.out⟩⟩
end Go.Proofs.Ytfbhdggmefacjaa
