/- same: is what is kept, and charged, the document's? -/
import Derived.Test.YtlfhjbilnfkabaaDb
import Derived.Deep.QuietTactic
namespace Go.Proofs.Ytlfhjbilnfkabaa
open Go.RowKit Go.Maps
open BM CM

theorem of_q {w : World} {b : Nat} {c : Int} {s : S} (h : BAt w b c s) (k v : Int) (hv : s.of k = v) : Calls Try.prog 17 #[.pointer (some ⟨b, 0, none⟩), .int .i64 k] w fun e w' => e = .returned (.int .i64 v) ∧ w' = w := by
  subst hv
  exact (of_any h k).mono fun _ _ h => ⟨h.1, h.2.symm⟩
theorem used_q {w : World} {b : Nat} {c : Int} {s : S} (h : BAt w b c s) (v : Int) (hv : s.used = v) : Calls Try.prog 18 #[.pointer (some ⟨b, 0, none⟩)] w fun e w' => e = .returned (.int .i64 v) ∧ w' = w := by
  subst hv
  exact (used_any h).mono fun _ _ h => ⟨h.1, h.2.symm⟩
theorem high_q {w : World} {b : Nat} {c : Int} {s : S} (h : BAt w b c s) (v : Int) (hv : s.high = v) : Calls Try.prog 27 #[.pointer (some ⟨b, 0, none⟩)] w fun e w' => e = .returned (.int .i64 v) ∧ w' = w := by
  subst hv
  exact (high_any h).mono fun _ _ h => ⟨h.1, h.2.symm⟩
theorem rev_at {L : Ls} {j n : Nat} (hn : L.length = n) (hj : j < n) : (L.reverse.map fun x => (x.file, x.block))[j]'(by rw [List.length_map, List.length_reverse]; omega) = (L[n - 1 - j].file, L[n - 1 - j].block) := by
  subst hn
  rw [List.getElem_map, List.getElem_reverse]

section
variable {W w : World} {c z b N : Nat} {Z : Zs} {s : S} {r rb : Nat} {LA : Option Addr} {lc : Nat}
set_option maxRecDepth 100000 in
set_option maxHeartbeats 4000000 in
theorem same_any (h : Duo W w c z b N Z s r rb LA lc (bl Z) s) (hN : N ≤ 1000000) :
    Calls Try.prog 12 #[.pointer (some ⟨c, 0, none⟩), .pointer (some ⟨b, 0, none⟩), .pointer (some ⟨r, 0, none⟩)] w fun e w' => e = .returned (.bool true) ∧ Below w.heap.size w w' := by
  have HD := Lib.hid h
  have hlen : Z.length ≤ 1000000 := by rw [← bl_len]; exact h.good.len
  have HK := Lib.hid (h.live.kept hN hlen rfl)
  obtain ⟨L, hL⟩ : ∃ L, bl Z = L := ⟨_, rfl⟩
  have HL := Lib.hid hL
  rw [hL] at HK
  obtain ⟨n, hn⟩ : ∃ n, L.length = n := ⟨_, rfl⟩
  have HN := Lib.hid hn
  have hn6 : n ≤ 1000000 := by rw [← hn, ← hL, bl_len]; exact hlen
  rw [hn] at HK
  obtain ⟨u, hu⟩ : ∃ u, s.used = u := ⟨_, rfl⟩
  obtain ⟨g, hg⟩ : ∃ u, s.high = u := ⟨_, rfl⟩
  have HUS := Lib.hid (fun (W' : World) (hB : BAt W' b 0 s) => used_q hB u hu)
  have HHI := Lib.hid (fun (W' : World) (hB : BAt W' b 0 s) => high_q hB g hg)
  have HS := Lib.hid (Sm.of_ok h.good.ok)
  have HRU : Hid (∀ W' : World, RAt W' rb s → Calls Try.prog 26 #[.pointer (some ⟨rb, 0, none⟩)] W' fun e w' => e = .returned (.int .i64 u) ∧ ∃ n, w' = W'.drewN n) := fun W' hR => by rw [← hu]; exact HS.out.used hR
  have HCH : Hid (∀ W' : World, RAt W' rb s → W'.cell? ⟨rb, 5, none⟩ = some (.int .i64 g)) := fun W' hR => by rw [← hg]; exact hR.cell 5
  clear h hL hn hu hg hlen hN
  go_enter Try.func12, Try.ntmps12
  go_wp2_with fail
  refine HK.out.mono ?_
  rintro e w1 ⟨A, cap, rfl, hki, hb1⟩
  have hd1 := HD.out.still hb1
  have HD1 := Lib.hid hd1
  have HKI := Lib.hid hki
  have HB1 := Lib.hid hb1
  have c0 := hd1.rep.c0
  have c1 := hd1.rep.c1
  have HBA := Lib.hid hd1.live.rep.bud
  have HRA := Lib.hid hd1.rep.bud
  have ch := HCH.out _ hd1.rep.bud
  rw [HL.out, HN.out] at c0
  clear hd1 hki hb1 HK
  go_wp2_with fail
  go_quiet ((first
    | (go_at_call 18; exact Calls.quiet_of_same (HUS.out _ HBA.out))
    | (go_at_call 27; exact Calls.quiet_of_same (HHI.out _ HBA.out))
    | (go_at_call 26; exact Calls.quiet_of (HRU.out _ HRA.out))))
  generalize hq : World.drewN w1 _ = w2
  have HB2 : Hid (Below w.heap.size w w2) := Lib.hid (by rw [← hq]; exact below_drewN HB1.out _)
  have HD2 : Hid (Duo W w2 c z b N Z s r rb LA lc L s) := Lib.hid (by rw [← hq, ← HL.out]; exact (HD1.out.still (below_drewN (Below.refl _ _) _)))
  have HKI2 : Hid (KeysIn w2 w.heap.size A (L.reverse.map fun x => (x.file, x.block))) := Lib.hid (by rw [← hq]; exact HKI.out.below (below_drewN (Below.refl _ _) _))
  clear hq c0 c1 ch HBA HRA HKI HD1 HB1
  go_wp2_with fail
  go_loopw [45] (fun i wr => ∃ j : Nat, j ≤ n ∧ i = .int .i64 j ∧ Hid (Below w2.heap.size w2 wr)) (fun i _ => n - (intOf i).toNat)
  case atStart => exact ⟨0, by omega, rfl, Lib.hid (Below.refl _ _)⟩
  case round =>
    obtain ⟨j, hj, rfl, HB⟩ := hrel
    by_cases hlt : j < n
    · have hd := HD2.out.still HB.out
      have c0 := hd.rep.c0
      rw [HN.out] at c0
      obtain ⟨q, hq⟩ : ∃ q, n - 1 - j = q := ⟨_, rfl⟩
      have hqn : q < n := by omega
      have hql : q < L.length := by rw [HN.out]; exact hqn
      obtain ⟨gb, hA, hgl, hc⟩ := hd.rep.blks (by omega)
      obtain ⟨z0, z1, z2, z3⟩ := hc q hql
      obtain ⟨gk, hAk, -, hgk, hck⟩ := (HKI2.out.below HB.out) (by
        intro e
        have := congrArg List.length e
        rw [List.length_map, List.length_reverse, HN.out] at this
        simp only [List.length_nil] at this
        omega)
      have hcj := hck j (by rw [List.length_map, List.length_reverse, HN.out]; exact hlt)
      rw [rev_at HN.out hlt] at hcj
      simp only [hq] at hcj
      obtain ⟨y0, y1⟩ := hcj
      obtain ⟨x, hx⟩ : ∃ x, L[q] = x := ⟨_, rfl⟩
      rw [hx] at z0 z1 z2 z3 y0 y1
      obtain ⟨xf, xk, xd, xp⟩ := x
      simp only at z0 z1 z2 z3 y0 y1
      rw [hA] at c0
      have hA2 := hAk
      subst hA2
      have HAL : Hid (∀ o p, Below w2.heap.size w2 ((wr.alloc o).alloc p)) := Lib.hid fun o p => HB.out.trans ((below_2 wr o p).mono HB.out.size)
      have hwl1 : IntKind.i64.wrap ((n : Int) - 1) = (n : Int) - 1 := IntWalk.i64_in _ ⟨by omega, by omega⟩
      have hwl2 : IntKind.i64.wrap ((n : Int) - 1 - (j : Int)) = (q : Int) := by rw [IntWalk.i64_in _ ⟨by omega, by omega⟩]; omega
      have g0 : (0 : Int) ≤ (q : Int) := by omega
      have g1 : (q : Int) < (n : Int) := by omega
      have halk := (Below.refl wr.heap.size wr).alloc (Nat.le_refl _) (.cells #[.int .i64 xf, .int .i64 xk] 42)
      have hrl := hd.rep.own_lt r (Or.inl rfl)
      have d0 := (World.cell?_of_block (a := ⟨r, 0, none⟩) (halk.block r hrl)).trans c0
      have x0 := (World.cell?_of_block (a := ⟨gb, q * 4, none⟩) (halk.block gb hgl)).trans z0
      have x1 := (World.cell?_of_block (a := ⟨gb, q * 4 + 1, none⟩) (halk.block gb hgl)).trans z1
      have x2 := (World.cell?_of_block (a := ⟨gb, q * 4 + 2, none⟩) (halk.block gb hgl)).trans z2
      have x3 := (World.cell?_of_block (a := ⟨gb, q * 4 + 3, none⟩) (halk.block gb hgl)).trans z3
      clear hd hc hck hx hA hAk halk hrl hq
      go_wp2
      go_roundw
      case rel => exact ⟨j + 1, by omega, by go_num, Lib.hid (HAL.out _ _)⟩
      case measure => simp [intOf]; omega
    · have hjn : j = n := by omega
      subst hjn
      have HBE := Lib.hid (HB2.out.trans (HB.out.mono HB2.out.size))
      go_wp2
      go_ret
      exact ⟨rfl, HBE.out⟩
end
end Go.Proofs.Ytlfhjbilnfkabaa
