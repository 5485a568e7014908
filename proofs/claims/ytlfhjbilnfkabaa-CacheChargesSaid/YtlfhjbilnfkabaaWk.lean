/- wakes. -/
import Derived.Test.YtlfhjbilnfkabaaCp
import Derived.Test.YtlfhjbilnfkabaaBl
namespace Go.Proofs.Ytlfhjbilnfkabaa
open Go.RowKit Go.Maps
open BM CM

theorem live_new {W w : World} (hb : Below W.heap.size W w) {b : Nat} {s : S} (h : BAt w b 0 s) (hW : W.heap.size ≤ b) (ok : Ok s) (h0 : s.k1 = 0) :
    Calls Try.prog 9 #[.pointer (some ⟨b, 0, none⟩)] w fun e w' => ∃ c z, e = .returned (.pointer (some ⟨c, 0, none⟩)) ∧ Live W w' c z b 0 [] s ∧ Below w.heap.size w w' ∧ w.heap.size ≤ z ∧ w.heap.size ≤ c :=
  (cnew_any h ok h0).mono fun _ _ ⟨c, z, he, h1, h2, h3, h4⟩ => ⟨c, z, he, ⟨hb.trans (h2.mono hb.size), h1, fun g hg => by
    rcases hg with rfl | rfl | rfl | hm
    · exact Nat.le_trans hb.size h4
    · exact Nat.le_trans hb.size h3
    · exact hW
    · simp [ads] at hm⟩, h2, h3, h4⟩

def wx1 : Blk := ⟨1, 0, ⟨#[49, 50, 51, 52]⟩, 0⟩
def wx2 : Blk := ⟨2, 0, ⟨#[49, 50, 51, 52, 53, 54]⟩, 0⟩
def wx3 : Blk := ⟨3, 0, ⟨#[49]⟩, 0⟩
def ws1 : S := ⟨140, 68, 0, 68, 0, 0⟩
def ws2 : S := ⟨140, 138, 0, 138, 0, 0⟩
def ws3 : S := ⟨140, 138, 0, 135, 0, 0⟩
theorem wp1 : putB 1 0 ⟨#[49, 50, 51, 52]⟩ [] (new 140) = (0, [wx1], ws1) := by kernel_rfl
theorem wp2 : putB 2 0 ⟨#[49, 50, 51, 52, 53, 54]⟩ [wx1] ws1 = (0, [wx1, wx2], ws2) := by kernel_rfl
theorem wp3 : putB 3 0 ⟨#[49]⟩ [wx1, wx2] ws2 = (0, [wx2, wx3], ws3) := by kernel_rfl
theorem wg4 : getB 2 0 [wx2, wx3] = (⟨#[49, 50, 51, 52, 53, 54]⟩, true, [wx3, wx2]) := by kernel_rfl
theorem i64_small {n : Int} (h : 0 ≤ n ∧ n ≤ 1000000000) : i64 n := by unfold i64; omega

set_option maxRecDepth 100000 in
set_option maxHeartbeats 4000000 in
theorem wakes_any (w : World) : Calls Try.prog 11 #[] w fun e w' => e = .returned (.bool true) ∧ Below w.heap.size w w' := by
  go_enter Try.func11, Try.ntmps11
  go_wp2_with fail
  refine (new_any 140 w).mono ?_
  rintro e w1 ⟨rfl, hb, hbel⟩
  have HB1 := Lib.hid hbel
  have HNW := Lib.hid (live_new hbel hb (Nat.le_refl _) (ok_new 140) rfl)
  generalize w.heap.size = b at hb hbel HNW HB1 ⊢
  clear hb hbel
  go_wp2_with fail
  refine HNW.out.mono ?_
  rintro e w2 ⟨c, z, rfl, hl, -, -, -⟩
  have HP := Lib.hid (hl.put (by omega) (by simp) (f := 1) (k := 0) (i64_small (by omega)) (i64_small (by omega)) ⟨#[49, 50, 51, 52]⟩ (by decide) wp1)
  unfold keyV at HP
  clear hl HNW
  go_wp2_with fail
  refine HP.out.mono ?_
  rintro e w3 ⟨rfl, N3, Z3, ht, hz⟩
  have HP3 := Lib.hid (ht.live.put (by have := ht.bound; omega) (by have := ht.len; simp at this; omega) (f := 2) (k := 0) (i64_small (by omega)) (i64_small (by omega)) ⟨#[49, 50, 51, 52, 53, 54]⟩ (by decide) (r := (0, [wx1, wx2], ws2)) (by rw [hz]; exact wp2))
  unfold keyV at HP3
  have HZ3 : Hid (N3 ≤ 1 ∧ Z3.length ≤ 1) := Lib.hid ⟨ht.bound, by have := ht.len; simpa using this⟩
  clear ht hz HP
  go_wp2_with fail
  refine HP3.out.mono ?_
  rintro e w4 ⟨rfl, N4, Z4, ht, hz⟩
  have hn4 : N4 ≤ 2 ∧ Z4.length ≤ 2 := ⟨by have := ht.bound; have := HZ3.out; omega, by have := ht.len; have := HZ3.out; omega⟩
  have HU := Lib.hid (used_any ht.live.rep.bud)
  have HP4 := Lib.hid (ht.live.put (by omega) (by omega) (f := 3) (k := 0) (i64_small (by omega)) (i64_small (by omega)) ⟨#[49]⟩ (by decide) (r := (0, [wx2, wx3], ws3)) (by rw [hz]; exact wp3))
  unfold keyV at HP4
  have HZ4 := Lib.hid hn4
  have hu : S.used ws2 = 138 := by kernel_rfl
  rw [hu] at HU
  clear ht hz HP3 HZ3 hn4 hu
  go_wp2_with fail
  refine HU.out.mono ?_
  rintro e w5 ⟨rfl, rfl⟩
  go_wp2_with fail
  refine HP4.out.mono ?_
  rintro e w5 ⟨rfl, N5, Z5, ht, hz⟩
  have hn5 : N5 ≤ 3 ∧ Z5.length ≤ 3 := ⟨by have := ht.bound; have := HZ4.out; omega, by have := ht.len; have := HZ4.out; omega⟩
  have HK := Lib.hid (ht.live.kept (by omega) (by omega) hz)
  have HL5 := Lib.hid ht.live
  have HZ5 := Lib.hid hz
  clear ht hz hn5 HZ4 HP4 HU
  go_wp2_with fail
  refine HK.out.mono ?_
  rintro e w6 ⟨A, cap, rfl, hki, hb6⟩
  have hl6 := HL5.out.still hb6
  have HG := Lib.hid (hl6.get (f := 2) (k := 0) (i64_small (by omega)) (i64_small (by omega)) (r := (⟨#[49, 50, 51, 52, 53, 54]⟩, true, [wx3, wx2])) (by rw [HZ5.out]; exact wg4))
  unfold keyV at HG
  obtain ⟨g, hA, hg1, hg2, hc⟩ := hki (by simp)
  have hc0 := (hc 0 (by simp)).1
  have HOW := Lib.hid (HL5.out.rep.own_lt)
  have hnk : ¬ own c z b Z5 g := fun ho => by have := HL5.out.rep.own_lt g ho; omega
  subst hA
  clear hc hki HK HL5 hb6
  go_wp2_with fail
  refine HG.out.mono ?_
  rintro e w7 ⟨rfl, Z7, ht, -⟩
  have HB7 := Lib.hid ht.live.below
  have c0 : w7.cell? ⟨g, 0, none⟩ = some (.int .i64 3) := (World.cell?_of_block (a := ⟨g, 0, none⟩) (ht.only.block g hg2 hnk)).trans hc0
  clear ht hg1 hg2 hnk hc0 HG
  go_wp2
  go_ret
  exact ⟨rfl, HB7.out⟩
end Go.Proofs.Ytlfhjbilnfkabaa
