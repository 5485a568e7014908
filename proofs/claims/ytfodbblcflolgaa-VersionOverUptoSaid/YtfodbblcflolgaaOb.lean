/- Over: which tables may hold a key of a span (the document's). -/
import Derived.Test.YtfodbblcflolgaaOa
namespace Go.Proofs.Ytfodbblcflolgaa
open Go.RowKit Go.Maps
open VS
attribute [local go_sem ↓] Go.wp_at_zero Go.wp_at_succ

theorem own_lower {w : World} {B B' : Nat} {e : TypeId} {s : Nat} {v : Value} {n : Nat} {xs : List Value} (h : w.ownsRow B e s v n xs) (hb : B' ≤ B) : w.ownsRow B' e s v n xs :=
  ⟨h.1, h.2.imp id fun ⟨g, cap, cur, h1, h2, h3⟩ => ⟨g, cap, cur, h1, Nat.le_trans hb h2, h3⟩⟩

namespace VS
def atOver (z : Int) (lo hi : ByteArray) (m : M) : Bool := decide (m.lvl = z) && touch lo hi m
theorem over_eq (z : Int) (lo hi : ByteArray) (l : List M) : l.filter (atOver z lo hi) = over z lo hi l := by
  unfold over lev
  rw [List.filter_filter]
  congr 1
  funext m
  exact Bool.and_comm _ _
theorem at_take {z : Int} {lo hi : ByteArray} {l : List M} {j : Nat} (h : j < l.length) (ht : atOver z lo hi l[j] = true) : (l.take (j + 1)).filter (atOver z lo hi) = (l.take j).filter (atOver z lo hi) ++ [l[j]] := by
  rw [List.take_succ_eq_append_getElem h, List.filter_append]
  simp [ht]
theorem at_skip {z : Int} {lo hi : ByteArray} {l : List M} {j : Nat} (h : j < l.length) (ht : atOver z lo hi l[j] = false) : (l.take (j + 1)).filter (atOver z lo hi) = (l.take j).filter (atOver z lo hi) := by
  rw [List.take_succ_eq_append_getElem h, List.filter_append]
  simp [ht]
end VS

set_option maxRecDepth 100000 in
set_option maxHeartbeats 4000000 in
theorem rover_any (A5 : Option Addr) (n c : Nat) (L : List M) (lg nx sq z : Int) (lo hi : ByteArray) (w : World) (h5 : In5 w A5 L) (hn : L.length = n) (hL : n ≤ 10000000) :
    Calls Try.prog 21 #[.agg #[.slice A5 n c, .int .i64 lg, .int .i64 nx, .int .i64 sq], .int .i64 z, .string lo, .string hi] w fun r w' => ∃ v, r = .returned v ∧ w'.ownsRow w.heap.size 66 5 v (over z lo hi L).length (cs5 (over z lo hi L)) ∧ Below w.heap.size w w' := by
  obtain ⟨i0, hi0, hz0, hz1, hz2⟩ := info_parts info_rmeta
  have HIN := Lib.hid h5
  have HLEN := Lib.hid hn
  clear h5 hn
  go_enter Try.func21, Try.ntmps21
  go_wp2_with fail
  have hal : Below w.heap.size w (w.alloc (.cells #[.slice A5 n c, .int .i64 lg, .int .i64 nx, .int .i64 sq] 29)) := (Below.refl _ w).alloc (Nat.le_refl _) _
  have hr0 := heap_alloc_new w (.cells #[.slice A5 n c, .int .i64 lg, .int .i64 nx, .int .i64 sq] 29)
  have hsz : (w.alloc (.cells #[.slice A5 n c, .int .i64 lg, .int .i64 nx, .int .i64 sq] 29)).heap.size = w.heap.size + 1 := by simp
  generalize w.alloc (.cells #[.slice A5 n c, .int .i64 lg, .int .i64 nx, .int .i64 sq] 29) = w0 at hal hr0 hsz ⊢
  obtain ⟨x, hx⟩ : ∃ x, w.heap.size = x := ⟨_, rfl⟩
  have HIN0 := Lib.hid (HIN.out.below hal)
  have HX := Lib.hid hx
  rw [hx] at hal hr0 hsz ⊢
  have HRW : Hid (∀ W, Below (x + 1) w0 W → W.cell? ⟨x, 0, none⟩ = some (.slice A5 n c)) := Lib.hid fun W hW => cell_of_row _ _ _ _ _ _ ((hW.block x (by omega)).trans hr0)
  have HLOW : Hid (∀ W, Below (x + 1) w0 W → Below x w W) := Lib.hid fun W h => hal.trans (h.mono (by omega))
  have HIW : Hid (∀ W, Below (x + 1) w0 W → In5 W A5 L) := Lib.hid fun W hW => HIN0.out.below (by rw [hsz]; exact hW)
  have HSZ := Lib.hid hsz
  clear hal hr0 hsz hx
  go_loopw [9, 10] (fun v i wr => ∃ j : Nat, j ≤ n ∧ i = .int .i64 j ∧ wr.ownsRow (x + 1) 66 5 v ((L.take j).filter (atOver z lo hi)).length (cs5 ((L.take j).filter (atOver z lo hi))) ∧ Below (x + 1) w0 wr) (fun _ i _ => n - (intOf i).toNat)
  case atStart => exact ⟨0, by omega, rfl, World.ownsRow_nil _ _ _ _, Below.refl _ _⟩
  case round =>
    obtain ⟨j, hj, rfl, hown, hbw⟩ := hrel
    have HB := Lib.hid hbw
    have q0 := HRW.out wr hbw
    by_cases hlt : j < n
    · have hjl : j < L.length := by rw [HLEN.out]; exact hlt
      obtain ⟨cb, off, hA, hbl, hc⟩ := (HIW.out wr hbw).at_ (by omega)
      obtain ⟨c0, c1, c2, c3, c4⟩ := hc j hjl
      have HTY := Lib.hid (fun ht => at_take (z := z) (lo := lo) (hi := hi) hjl ht)
      have HTN := Lib.hid (fun ht => at_skip (z := z) (lo := lo) (hi := hi) hjl ht)
      obtain ⟨e, he⟩ : ∃ e, L[j] = e := ⟨_, rfl⟩
      rw [he] at c0 c1 c2 c3 c4 HTY HTN
      obtain ⟨lv, q, g, s, t⟩ := e
      simp only at c0 c1 c2 c3 c4
      have hfl : ((L.take j).filter (atOver z lo hi)).length ≤ 10000000 := Nat.le_trans (List.length_filter_le _ _) (by rw [List.length_take]; have := HLEN.out; omega)
      obtain ⟨F, hF⟩ : ∃ F, (L.take j).filter (atOver z lo hi) = F := ⟨_, rfl⟩
      rw [hF] at hown hfl HTY HTN
      have HF := Lib.hid hF
      have HOA := Lib.hid hown
      have g0 : (0 : Int) ≤ (j : Int) := by omega
      have g1 : (j : Int) < (n : Int) := by omega
      subst hA
      clear hc he hbw hF hown
      have ht0 : Op.bytesLess t.toList lo.toList = lt t lo := text_less _ _
      have ht1 : (Op.bytesLess s.toList hi.toList || s.toList == hi.toList) = !(lt hi s) := text_leq _ _
      by_cases hlv : lv = z
      · cases h1 : lt t lo with
        | true =>
          have HTF : Hid (atOver z lo hi ⟨lv, q, g, s, t⟩ = false) := Lib.hid (by simp [atOver, touch, h1])
          rw [h1] at ht0
          have HO6 : Hid (wr.ownsRow (x + 1) 66 5 _ ((L.take (j + 1)).filter (atOver z lo hi)).length (cs5 ((L.take (j + 1)).filter (atOver z lo hi)))) := Lib.hid (by rw [HTN.out HTF.out]; exact HOA.out)
          have hd : (lv == z) = true := by simpa using hlv
          clear h1 ht1 hlv
          go_wp2
          go_roundw
          case rel => exact ⟨j + 1, by omega, by go_num, HO6.out, HB.out⟩
          case measure => simp [intOf]; omega
        | false =>
          rw [h1] at ht0
          cases h2 : lt hi s with
          | true =>
            have HTF : Hid (atOver z lo hi ⟨lv, q, g, s, t⟩ = false) := Lib.hid (by simp [atOver, touch, h1, h2])
            rw [h2] at ht1
            have HO6 : Hid (wr.ownsRow (x + 1) 66 5 _ ((L.take (j + 1)).filter (atOver z lo hi)).length (cs5 ((L.take (j + 1)).filter (atOver z lo hi)))) := Lib.hid (by rw [HTN.out HTF.out]; exact HOA.out)
            have hd : (lv == z) = true := by simpa using hlv
            clear h1 h2 hlv
            go_wp2
            go_roundw
            case rel => exact ⟨j + 1, by omega, by go_num, HO6.out, HB.out⟩
            case measure => simp [intOf]; omega
          | false =>
            have HTF : Hid (atOver z lo hi ⟨lv, q, g, s, t⟩ = true) := Lib.hid (by simp [atOver, touch, h1, h2, hlv])
            rw [h2] at ht1
            have HTT : Hid ((L.take (j + 1)).filter (atOver z lo hi) = F ++ [⟨lv, q, g, s, t⟩]) := Lib.hid (HTY.out HTF.out)
            have hd : (lv == z) = true := by simpa using hlv
            have hown := HOA.out
            clear h1 h2 HTY HTN hlv
            go_wp2_with (at_builtin; refine wpList_append_own _ rfl _ _ 27 rfl (x + 1) 66 i0 _ 5 56 Try.underlying27 hi0 hz0 hz1 hz2 rfl (by decide) _ _ _ rfl (hown.alloc _) ⟨wr.heap.size, 0, none⟩ 1 1 (M.c5 ⟨lv, q, g, s, t⟩) rfl ?c1 ?c2 ?c3 ?c4 ?c5 ?c6 ?_)
            case c1 => rfl
            case c2 => exact cells5 wr ⟨lv, q, g, s, t⟩ _
            case c3 => exact one5 _
            case c4 => unfold maxLen; omega
            case c5 => omega
            case c6 => have := HB.out.size; have := HSZ.out; simp; omega
            intro v' w6 hown6 hgrow6 _
            have HO6 : Hid (w6.ownsRow (x + 1) 66 5 v' ((L.take (j + 1)).filter (atOver z lo hi)).length (cs5 ((L.take (j + 1)).filter (atOver z lo hi)))) := Lib.hid (by rw [HTT.out, cs5_snoc, List.length_append]; exact hown6)
            have HB6 : Hid (Below (x + 1) w0 w6) := Lib.hid ((HB.out.alloc (by have := HB.out.size; have := HSZ.out; omega) _).grown hgrow6 (by have := HB.out.size; have := HSZ.out; simp; omega) (fun g hg => (hown.lt g hg).1))
            clear hown6 hgrow6 hown
            go_wp2
            go_roundw
            case rel => exact ⟨j + 1, by omega, by go_num, HO6.out, HB6.out⟩
            case measure => simp [intOf]; omega
      · have HTF : Hid (atOver z lo hi ⟨lv, q, g, s, t⟩ = false) := Lib.hid (by simp [atOver, hlv])
        have HO6 : Hid (wr.ownsRow (x + 1) 66 5 _ ((L.take (j + 1)).filter (atOver z lo hi)).length (cs5 ((L.take (j + 1)).filter (atOver z lo hi)))) := Lib.hid (by rw [HTN.out HTF.out]; exact HOA.out)
        have hd : (lv == z) = false := by simpa using hlv
        clear ht0 ht1 hlv
        go_wp2
        go_roundw
        case rel => exact ⟨j + 1, by omega, by go_num, HO6.out, HB.out⟩
        case measure => simp [intOf]; omega
    · obtain rfl : j = n := by omega
      have htk : L.take j = L := List.take_of_length_le (by rw [HLEN.out]; exact Nat.le_refl _)
      rw [htk, over_eq] at hown
      have HO3 := Lib.hid (own_lower (B' := w.heap.size) hown (by have := HX.out; omega))
      have HEND : Hid (Below w.heap.size w wr) := Lib.hid (by rw [HX.out]; exact HLOW.out wr hbw)
      clear hown hbw htk
      go_wp2
      go_ret
      exact ⟨_, rfl, HO3.out, HEND.out⟩
end Go.Proofs.Ytfodbblcflolgaa
