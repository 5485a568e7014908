/- What isn't alive at a key's end is dropped. -/
import Derived.Test.YtfbhdggmefacjaaCb
namespace Go.Proofs.Ytfbhdggmefacjaa
open Go.RowKit
open SK VB

namespace VB
/-- of these those with one that is alive at their place or behind it -/
def lives (S : Nat → Bool) (r : List SK.E) (now : Int) (i : Nat) : Bool := S i && (List.range r.length).any (fun t => decide (i ≤ t) && (S t && alive (r.getD t SK.E.zero) now))
theorem lives_at {S : Nat → Bool} {r : List SK.E} {now : Int} {j : Nat} (hj : j < r.length) (h1 : S j = true) (h2 : alive (r.getD j SK.E.zero) now = true) (h3 : ∀ t, j < t → t < r.length → (S t && alive (r.getD t SK.E.zero) now) = false) (i : Nat) :
    lives S r now i = (decide (i < j + 1) && S i) := by
  unfold lives
  by_cases hi : i < j + 1
  · have : (List.range r.length).any (fun t => decide (i ≤ t) && (S t && alive (r.getD t SK.E.zero) now)) = true := by
      rw [List.any_eq_true]
      exact ⟨j, List.mem_range.2 hj, by rw [h1, h2]; simp; omega⟩
    rw [this, decide_eq_true hi]
    simp
  · have : (List.range r.length).any (fun t => decide (i ≤ t) && (S t && alive (r.getD t SK.E.zero) now)) = false := by
      rw [List.any_eq_false]
      intro t ht
      rw [List.mem_range] at ht
      by_cases hit : i ≤ t
      · rw [h3 t (by omega) ht]; simp
      · simp [hit]
    rw [this, decide_eq_false hi]
    simp
theorem lives_none {S : Nat → Bool} {r : List SK.E} {now : Int} (h3 : ∀ t, t < r.length → (S t && alive (r.getD t SK.E.zero) now) = false) (i : Nat) : lives S r now i = false := by
  unfold lives
  have : (List.range r.length).any (fun t => decide (i ≤ t) && (S t && alive (r.getD t SK.E.zero) now)) = false := by
    rw [List.any_eq_false]
    intro t ht
    rw [List.mem_range] at ht
    rw [h3 t ht]; simp
  rw [this]
  simp
end VB

theorem Kept.grown_in {S : List Nat} {N : Nat} {w A B : World} {r : Nat} (h : Kept S N w A) (hN : N ≤ w.heap.size) (hg : A.grownBy B (some r)) (hr : r ∈ S) : Kept S N w B :=
  ⟨hg.os.trans h.os, hg.tape.trans h.tape, hg.output.trans h.output, Nat.le_trans h.size hg.size, fun k hk hn => (hg.block k (by have := h.size; omega) (fun e => by
    injection e with e
    exact hn (e ▸ hr))).trans (h.block k hk hn)⟩

set_option maxRecDepth 100000 in
set_option maxHeartbeats 4000000 in
theorem dropdead_any (A : Option Addr) (n c q y : Nat) (S : Nat → Bool) (r : List SK.E) (now : Int) (w : World) (hn : r.length = n) (h6 : n ≤ 1000000) (hz : EntsIn w A r) (hA : ∀ x ∈ fb A, x < w.heap.size ∧ x ∉ [y]) (hs : OwnS w y q S) (hS : ∀ i, n ≤ i → S i = false) :
    Calls Try.prog 34 #[.map (some y), .slice A n c, .int .i64 now] w fun e w' => e = .returned (.tuple #[]) ∧ OwnS w' y q (lives S r now) ∧ Kept [y] w.heap.size w w' := by
  have HZ := Lib.hid hz
  have HN := Lib.hid hn
  have HA := Lib.hid hA
  have HSZ := Lib.hid hS
  have hs0 : OwnS w y q (fun i => decide (i < n) && S i) := hs.congr fun i _ => by
    by_cases e : i < n
    · simp [e]
    · rw [hS i (by omega)]; simp
  have HS0 := Lib.hid hs0
  have HAL := Lib.hid (fun (e : SK.E) W => alive_any e now W)
  have hyw := hs.lt
  clear hz hn hA hs hs0 hS
  go_enter Try.func34, Try.ntmps34
  go_wp2_with fail
  go_loopw [6] (fun i wr => ∃ j : Nat, j ≤ n ∧ i = .int .i64 ((j : Int) - 1) ∧ Kept [y] w.heap.size w wr ∧ OwnS wr y q (fun i => decide (i < j) && S i) ∧ Hid (∀ t, j ≤ t → t < r.length → (S t && alive (r.getD t SK.E.zero) now) = false)) (fun i _ => (intOf i + 1).toNat)
  case atStart => exact ⟨n, by omega, rfl, Kept.refl _ _ _, HS0.out, Lib.hid fun t h1 h2 => by rw [HN.out] at h2; omega⟩
  case round =>
    obtain ⟨j, hj, rfl, hk, hset, hdead⟩ := hrel
    cases j with
    | zero =>
      have HR : Hid (OwnS wr y q (lives S r now)) := Lib.hid (hset.congr fun i _ => by
        rw [lives_none fun t ht => hdead.out t (by omega) ht]
        simp)
      have HK := Lib.hid hk
      clear hk hset hdead
      go_wp2
      go_end0
      exact ⟨rfl, HR.out, HK.out⟩
    | succ j =>
      have hjl : j < r.length := by rw [HN.out]; omega
      have hji : (((j + 1 : Nat) : Int) - 1) = (j : Int) := by omega
      rw [hji]
      have HK := Lib.hid hk
      have hsz := hk.size
      have hb0 := (Below.refl wr.heap.size wr).alloc (Nat.le_refl _) (.cells #[] 73)
      have hlook := hset.look (i := j) (by omega)
      have hSj : (decide (j < j + 1) && S j) = S j := by simp
      rw [hSj] at hlook
      have hen : EntsIn (wr.alloc (.cells #[] 73)) A r := ((HZ.out.kept hk HA.out)).below hb0
      obtain ⟨b, off, hAe, hbl, hc⟩ := hen.at_ (by omega)
      obtain ⟨z0, z1, z2, z3, z4⟩ := hc j hjl
      have HSE := Lib.hid (hset.below hb0)
      have HK2 : Hid (Kept [y] w.heap.size w (wr.alloc (.cells #[] 73))) := Lib.hid (hk.trans (Kept.of_below (hb0.mono hsz)))
      have hgd : r.getD j SK.E.zero = r[j] := getD_at r _ hjl
      have HDE := Lib.hid hdead
      have HLV := Lib.hid (fun h1 h2 h3 => lives_at (S := S) (r := r) (now := now) hjl h1 h2 h3)
      obtain ⟨e, he⟩ : ∃ e, r[j] = e := ⟨_, rfl⟩
      rw [he] at z0 z1 z2 z3 z4 hgd
      rw [hgd] at HLV
      have HGD := Lib.hid hgd
      have HAE := Lib.hid (HAL.out e)
      obtain ⟨k2, q2, g2, v2, t2⟩ := e
      simp only [SK.E.val] at z0 z1 z2 z3 z4 HAE
      have g0 : (0 : Int) ≤ (j : Int) := by omega
      have g1 : (j : Int) < (n : Int) := by omega
      have HDEL : Hid (∀ W, Below wr.heap.size (wr.alloc (.cells #[] 73)) W → (S j && alive ⟨k2, q2, g2, v2, t2⟩ now) = false → ∀ ty, ∃ W', (Builtin.delete_ #[70, 3] ty #[.map (some y), .int .i64 (j : Int)]).run Try.prog W = .ok (.tuple #[]) W' ∧ OwnS W' y q (fun i => decide (i < j) && S i) ∧ Kept [y] w.heap.size w W') := Lib.hid fun W hb hd ty => by
        have hyl := hset.lt
        have hoW : OwnS W y q (fun i => decide (i < j + 1) && S i) := hset.below (hb0.trans hb)
        obtain ⟨W', h3, h4, h5⟩ := hoW.del (i := j) (by omega) ty
        refine ⟨W', h3, h4.congr fun i _ => ?_, ?_⟩
        · by_cases e : i = j
          · subst e; simp
          · have h6 : decide (i < j + 1) = decide (i < j) := by
              rw [Bool.eq_iff_iff, decide_eq_true_eq, decide_eq_true_eq]
              omega
            rw [h6]
            simp [e]
        · exact (hk.trans (Kept.of_below ((hb0.trans hb).mono hsz))).grown_in (Nat.le_refl _) h5 (by simp)
      have HNX : Hid ((S j && alive ⟨k2, q2, g2, v2, t2⟩ now) = false → Hid (∀ t, j ≤ t → t < r.length → (S t && alive (r.getD t SK.E.zero) now) = false)) := Lib.hid fun hd => Lib.hid fun t h1 h2 => by
        by_cases e : t = j
        · subst e; rw [HGD.out]; exact hd
        · exact HDE.out.out t (by omega) h2
      have HSW : Hid (∀ W, Below wr.heap.size (wr.alloc (.cells #[] 73)) W → OwnS W y q (fun i => decide (i < j + 1) && S i)) := Lib.hid fun W hb => hset.below (hb0.trans hb)
      clear hset hk hdead hc hgd hb0 hen he hbl hSj HSE
      subst hAe
      cases hS : S j
      · rw [hS] at hlook HDEL HNX
        obtain ⟨w9, hdel, ho9, hk9⟩ := HDEL.out _ (Below.refl _ _) (by simp) 0
        have HO9 := Lib.hid ho9
        have HK9 := Lib.hid hk9
        clear ho9 hk9
        go_wp2
        go_roundw
        case rel => exact ⟨j, by omega, by go_num, HK9.out, HO9.out, HNX.out (by simp)⟩
        case measure => simp [intOf]
      · rw [hS] at hlook HDEL HNX HLV
        go_wp2_with fail
        refine (HAE.out _).mono ?_
        rintro e w8 ⟨rfl, hb8⟩
        have hb9 : Below wr.heap.size (wr.alloc (.cells #[] 73)) w8 := hb8.mono (by simp)
        have HK8 : Hid (Kept [y] w.heap.size w w8) := Lib.hid (HK2.out.trans (Kept.of_below (hb9.mono hsz)))
        cases hal : alive ⟨k2, q2, g2, v2, t2⟩ now
        · rw [hal] at HDEL HNX
          obtain ⟨w9, hdel, ho9, hk9⟩ := HDEL.out w8 hb9 (by simp) 0
          have HO9 := Lib.hid ho9
          have HK9 := Lib.hid hk9
          clear ho9 hk9 hb8 hb9
          go_wp2
          go_roundw
          case rel => exact ⟨j, by omega, by go_num, HK9.out, HO9.out, HNX.out (by simp)⟩
          case measure => simp [intOf]
        · have HR : Hid (OwnS w8 y q (lives S r now)) := Lib.hid ((HSW.out w8 hb9).congr fun i _ => HLV.out trivial hal (fun t h1 h2 => HDE.out.out t (by omega) h2) i)
          clear hb8 hb9
          go_wp2
          exact bodyPost_ret (v := .tuple #[]) (by simp [results, Try.results34, go_sem]) rfl ⟨rfl, HR.out, HK8.out⟩
end Go.Proofs.Ytfbhdggmefacjaa
