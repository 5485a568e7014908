/- The document's first, Visible. -/
import Derived.Test.YtfbhdggmefacjaaRb
import Derived.Test.YtfbhdggmefacjaaRa
namespace Go.Proofs.Ytfbhdggmefacjaa
open Go.RowKit
open SK VB

set_option maxRecDepth 100000 in
set_option maxHeartbeats 2000000 in
theorem rfirst_any (A : Option Addr) (n c : Nat) (l : List SK.E) (w : World) (hn : l.length = n) (hz : EntsIn w A l) (hlen : n ≤ 1000000) (k : ByteArray) (q : Int) :
    Calls Try.prog 30 #[.slice A n c, .string k, .int .i64 q] w fun e w' => e = .returned (.int .i64 (idx (pk k q) l)) ∧ Below w.heap.size w w' := by
  have HZ := Lib.hid hz
  have HN := Lib.hid hn
  have HIA : Hid (∀ j (h : j < l.length), (l.take j).any (pk k q) = false → pk k q l[j] = true → idx (pk k q) l = (j : Int)) := Lib.hid fun j h => idx_at h
  have HIN : Hid (l.any (pk k q) = false → idx (pk k q) l = -1) := Lib.hid idx_none
  obtain ⟨R, hR⟩ : ∃ R, idx (pk k q) l = R := ⟨_, rfl⟩
  rw [hR] at HIA HIN ⊢
  clear hz hn hR
  go_enter Try.func30, Try.ntmps30
  go_wp2_with fail
  go_loopw [7] (fun i wr => ∃ j : Nat, j ≤ n ∧ i = .int .i64 j ∧ Hid ((l.take j).any (pk k q) = false) ∧ Below w.heap.size w wr) (fun i _ => n - (intOf i).toNat)
  case atStart => exact ⟨0, by omega, rfl, Lib.hid rfl, Below.refl _ _⟩
  case round =>
    obtain ⟨j, hj, rfl, hany, hB⟩ := hrel
    by_cases hlt : j < n
    · have hjl : j < l.length := by rw [HN.out]; exact hlt
      obtain ⟨b, off, hA, hbl, hc⟩ := (HZ.out.below hB).at_ (by omega)
      obtain ⟨z0, z1, z2, z3, z4⟩ := hc j hjl
      have hst : (l.take (j + 1)).any (pk k q) = pk k q l[j] := by rw [List.take_succ_eq_append_getElem hjl, List.any_append, hany.out]; simp
      have HIJ := Lib.hid (HIA.out j hjl hany.out)
      have HB := Lib.hid hB
      obtain ⟨x, hx⟩ : ∃ x, l[j] = x := ⟨_, rfl⟩
      rw [hx] at z0 z1 hst HIJ
      obtain ⟨k2, q2, g2, v2, t2⟩ := x
      simp only at z0 z1
      have HST := Lib.hid hst
      have g0 : (0 : Int) ≤ (j : Int) := by omega
      have g1 : (j : Int) < (n : Int) := by omega
      have hte := text_eq k2 k
      have hsplit : ((k2.toList == k.toList) = false ∧ pk k q ⟨k2, q2, g2, v2, t2⟩ = false) ∨ ((k2.toList == k.toList) = true ∧ decide (q2 ≤ q) = false ∧ pk k q ⟨k2, q2, g2, v2, t2⟩ = false) ∨ ((k2.toList == k.toList) = true ∧ decide (q2 ≤ q) = true ∧ pk k q ⟨k2, q2, g2, v2, t2⟩ = true) := by
        rw [hte]
        unfold pk
        cases h1 : decide (k2 = k) <;> cases h2 : decide (q2 ≤ q) <;> simp
      subst hA
      clear hc hx hst hB hany z2 z3 z4 hte
      rcases hsplit with ⟨h1, h2⟩ | ⟨h1, h2, h3⟩ | ⟨h1, h2, h3⟩
      · rw [h2] at HST
        clear h2
        go_wp2
        go_roundw
        case rel => exact ⟨j + 1, by omega, by go_num, HST, HB.out⟩
        case measure => simp [intOf]; omega
      · rw [h3] at HST
        clear h3
        go_wp2
        go_roundw
        case rel => exact ⟨j + 1, by omega, by go_num, HST, HB.out⟩
        case measure => simp [intOf]; omega
      · obtain rfl : R = (j : Int) := HIJ.out h3
        clear h3
        go_wp2
        go_ret
        exact ⟨rfl, HB.out⟩
    · obtain rfl : j = n := by omega
      rw [List.take_of_length_le (by rw [HN.out]; exact Nat.le_refl _)] at hany
      obtain rfl : R = -1 := HIN.out hany.out
      have HB := Lib.hid hB
      clear hB
      go_wp2
      go_ret
      exact ⟨rfl, HB.out⟩

set_option maxRecDepth 100000 in
set_option maxHeartbeats 4000000 in
theorem rvisible_any (A : Option Addr) (n c : Nat) (l : List SK.E) (q now : Int) (w : World) (hn : l.length = n) (hlen : n ≤ 1000000) (hz : EntsIn w A l) :
    Calls Try.prog 17 #[.slice A n c, .int .i64 q, .int .i64 now] w fun e w' => ∃ v, e = .returned v ∧ w'.ownsRow w.heap.size 39 5 v (rv q now [] l).length (ecs (rv q now [] l)) ∧ Below w.heap.size w w' := by
  obtain ⟨i0, hi, hz0, hz1, hz2⟩ := info_parts info_rent
  have HZ := Lib.hid hz
  have HN := Lib.hid hn
  have HF : Hid (∀ W k, Below w.heap.size w W → Calls Try.prog 30 #[.slice A n c, .string k, .int .i64 q] W fun e w' => e = .returned (.int .i64 (idx (pk k q) l)) ∧ Below W.heap.size W w') := Lib.hid fun W k hb => rfirst_any A n c l W hn (hz.below hb) hlen k q
  have HA : Hid (∀ (e : SK.E) W, Calls Try.prog 15 #[e.val, .int .i64 now] W fun r w' => r = .returned (.bool (alive e now)) ∧ Below W.heap.size W w') := Lib.hid fun e W => ralive_any e now W
  clear hz hn
  go_enter Try.func17, Try.ntmps17
  go_wp2_with fail
  go_loopw [7, 8] (fun o i wr => ∃ j : Nat, j ≤ n ∧ i = .int .i64 j ∧ Below w.heap.size w wr ∧ wr.ownsRow w.heap.size 39 5 o (rv q now [] (l.take j)).length (ecs (rv q now [] (l.take j)))) (fun _ i _ => n - (intOf i).toNat)
  case atStart => exact ⟨0, by omega, rfl, Below.refl _ _, by simpa [rv, ecs] using World.ownsRow_nil _ _ _ _⟩
  case round =>
    obtain ⟨j, hj, rfl, hbel, hown⟩ := hrel
    have HB := Lib.hid hbel
    have HO := Lib.hid hown
    by_cases hlt : j < n
    · have hjl : j < l.length := by rw [HN.out]; exact hlt
      have hcells : Hid (∀ W, Below w.heap.size w W → ∃ b off, A = some ⟨b, off, none⟩ ∧ b < W.heap.size ∧ W.cell? ⟨b, off + j * 5, none⟩ = some (.string l[j].key) ∧ W.cell? ⟨b, off + j * 5 + 1, none⟩ = some (.int .i64 l[j].seq) ∧ W.cell? ⟨b, off + j * 5 + 2, none⟩ = some (.bool l[j].gone) ∧ W.cell? ⟨b, off + j * 5 + 3, none⟩ = some (.string l[j].value) ∧ W.cell? ⟨b, off + j * 5 + 4, none⟩ = some (.int .i64 l[j].til)) := Lib.hid fun W hb => by
        obtain ⟨b, off, hA, hbl, hc⟩ := (HZ.out.below hb).at_ (by omega)
        exact ⟨b, off, hA, hbl, hc j hjl⟩
      have hsn := rv_snoc q now [] (l.take j) l[j]
      rw [List.nil_append, ← List.take_succ_eq_append_getElem hjl] at hsn
      have hit := idx_tells (q := q) (now := now) hjl
      have hrl := rv_len q now [] (l.take j)
      rw [List.length_take] at hrl
      obtain ⟨e, he⟩ : ∃ e, l[j] = e := ⟨_, rfl⟩
      rw [he] at hcells hsn hit
      have HFE := Lib.hid (fun W => HF.out W e.key)
      have HAE := Lib.hid (fun W => HA.out e W)
      obtain ⟨R, hR⟩ : ∃ R, idx (pk e.key q) l = R := ⟨_, rfl⟩
      obtain ⟨L, hL⟩ : ∃ L, alive e now = L := ⟨_, rfl⟩
      rw [hR] at hit HFE
      rw [hL] at hit HAE
      rw [← hit] at hsn
      have hec := ecs_snoc (rv q now [] (l.take j)) e
      obtain ⟨X, hX⟩ : ∃ X, rv q now [] (l.take j) = X := ⟨_, rfl⟩
      rw [hX] at HO hsn hec hrl
      obtain ⟨k2, q2, g2, v2, t2⟩ := e
      simp only [SK.E.cells, SK.E.val] at hcells hsn hec HFE HAE
      have HSN := Lib.hid hsn
      have HEC := Lib.hid hec
      have g0 : (0 : Int) ≤ (j : Int) := by omega
      have g1 : (j : Int) < (n : Int) := by omega
      have hXn : X.length ≤ j := by omega
      clear hown he hX hsn hec hrl hR hL hit
      obtain ⟨b, off, hA, hbl, z0, z1, z2, z3, z4⟩ := hcells.out wr hbel
      subst hA
      go_wp2_with fail
      refine (HFE.out _ HB.out).mono ?_
      rintro e1 w1 ⟨rfl, hb1⟩
      have HB0 := Lib.hid hb1
      have HB1 := Lib.hid (HB.out.trans (hb1.mono hbel.size))
      clear hb1 z0 z1 z2 z3 z4
      obtain ⟨b', off', hA, hbl1, z0, z1, z2, z3, z4⟩ := hcells.out w1 HB1.out
      cases hA
      have HO1 : Hid (w1.ownsRow w.heap.size 39 5 u7 X.length (ecs X)) := Lib.hid (own_below HO.out HB0.out)
      have hs1 := HB1.out.size
      go_wp2_with fail
      refine (HAE.out _).mono ?_
      rintro e2 w2 ⟨rfl, hb2⟩
      have HO2 : Hid (w2.ownsRow w.heap.size 39 5 u7 X.length (ecs X)) := Lib.hid (own_below HO1.out hb2)
      have HB2 := Lib.hid (HB1.out.trans (hb2.mono hs1))
      clear hb2 z0 z1 z2 z3 z4 HO1 HO
      obtain ⟨b', off', hA, hbl2, z0, z1, z2, z3, z4⟩ := hcells.out w2 HB2.out
      cases hA
      have hs2 := HB2.out.size
      have hsplit : ((R == (j : Int)) = true ∧ L = true) ∨ ((R == (j : Int)) = true ∧ L = false) ∨ ((R == (j : Int)) = false) := by
        cases h : (R == (j : Int)) <;> cases L <;> simp
      rcases hsplit with ⟨h1, rfl⟩ | ⟨h1, rfl⟩ | h1
      · have hd : decide (R = (j : Int)) = true := by simpa using h1
        have HNX : Hid (rv q now [] (l.take (j + 1)) = X ++ [⟨k2, q2, g2, v2, t2⟩]) := Lib.hid (by rw [HSN.out, hd]; simp)
        have hRj : R = (j : Int) := by simpa using hd
        subst hRj
        clear hd h1 HSN
        go_wp2_with (at_builtin; refine wpList_append_own _ rfl _ _ 24 rfl (w.heap.size) 39 i0 _ 5 56 Try.underlying24 hi hz0 hz1 hz2 rfl (by decide) _ _ _ rfl (own_below HO2.out ((Below.refl _ _).alloc (Nat.le_refl _) _)) ⟨w2.heap.size, 0, none⟩ 1 1 [.string k2, .int .i64 q2, .bool g2, .string v2, .int .i64 t2] rfl ?c1 ?c2 ?c3 ?c4 ?c5 ?c6 ?_)
        case c1 => rfl
        case c2 => exact five_cells w2 _ _ _ _ _ _
        case c3 => intro u hu; simp at hu; rcases hu with rfl | rfl | rfl | rfl | rfl <;> rfl
        case c4 => unfold maxLen; omega
        case c5 => omega
        case c6 =>
          simp
          try omega
        intro v' w3 hown3 hgrow hnil
        clear hnil
        have HR : Hid (w3.ownsRow w.heap.size 39 5 v' (rv q now [] (l.take (j + 1))).length (ecs (rv q now [] (l.take (j + 1))))) := Lib.hid (by
          rw [HNX.out, HEC.out, List.length_append]
          exact hown3)
        have HB3 : Hid (Below w.heap.size w w3) := Lib.hid ((HB2.out.alloc hs2 _).grown hgrow (by simp; omega) (fun g hg => (HO2.out.lt g hg).1))
        clear hown3 hgrow
        go_wp2
        go_roundw
        case rel => exact ⟨j + 1, by omega, by go_num, HB3.out, HR.out⟩
        case measure => simp [intOf]; omega
      · have HR : Hid (w2.ownsRow w.heap.size 39 5 u7 (rv q now [] (l.take (j + 1))).length (ecs (rv q now [] (l.take (j + 1))))) := Lib.hid (by
          rw [HSN.out, Bool.and_false, if_neg (by decide), List.append_nil]
          exact HO2.out)
        clear HSN
        go_wp2
        go_roundw
        case rel => exact ⟨j + 1, by omega, by go_num, HB2.out, HR.out⟩
        case measure => simp [intOf]; omega
      · have HR : Hid (w2.ownsRow w.heap.size 39 5 u7 (rv q now [] (l.take (j + 1))).length (ecs (rv q now [] (l.take (j + 1))))) := Lib.hid (by
          have hd : decide (R = (j : Int)) = false := by simpa using h1
          rw [HSN.out, hd, Bool.false_and, if_neg (by decide), List.append_nil]
          exact HO2.out)
        clear HSN
        go_wp2
        go_roundw
        case rel => exact ⟨j + 1, by omega, by go_num, HB2.out, HR.out⟩
        case measure => simp [intOf]; omega
    · have hjn : j = n := by omega
      have htk : l.take j = l := List.take_of_length_le (by rw [HN.out]; omega)
      rw [htk] at hown
      have HR := Lib.hid hown
      subst hjn
      clear hown hbel htk HO
      go_wp2
      go_ret
      exact ⟨_, rfl, HR.out, HB.out⟩
end Go.Proofs.Ytfbhdggmefacjaa
