/- Drop, Shrink, Unpin, Kept, New. -/
import Derived.Test.YtlfhjbilnfkabaaCk
namespace Go.Proofs.Ytlfhjbilnfkabaa
open Go.RowKit Go.Maps
open BM CM

section
variable {w : World} {c z b N : Nat} {Z : Zs} {s : S}

set_option maxRecDepth 100000 in
set_option maxHeartbeats 1000000 in
theorem ofFile_any {x : Nat × Blk} (h : Cor w c z b N Z) (hx : x ∈ Z) (f : Int) (g : Nat) (hg : w.cell? ⟨g, 0, none⟩ = some (.int .i64 f)) :
    Calls Try.prog 44 #[.pointer (some ⟨x.1, 0, none⟩), .pointer (some ⟨g, 0, none⟩)] w fun r w' => r = .returned (.bool (ofFile f x.2)) ∧ Below w.heap.size w w' := by
  have c0 := h.p0 hx
  obtain ⟨v, hv⟩ : ∃ v, x.2.file = v := ⟨_, rfl⟩
  obtain ⟨t, ht⟩ : ∃ t, (v == f) = t := ⟨_, rfl⟩
  have hl : ofFile f x.2 = t := by unfold ofFile; rw [hv]; exact ht
  rw [hv] at c0
  rw [hl]
  obtain ⟨p, hp⟩ : ∃ p, x.1 = p := ⟨_, rfl⟩
  rw [hp] at c0 ⊢
  have HB := Lib.hid (fun n => below_drewN (Below.refl w.heap.size w) n)
  clear hl hv hx h hp
  go_enter Try.func44, Try.ntmps44
  go_wp2_with fail
  go_quiet (fail)
  go_wp2
  go_ret
  exact ⟨by first | rfl | (rw [← ht]), HB.out _⟩

set_option maxRecDepth 100000 in
set_option maxHeartbeats 2000000 in
theorem drop_any (h : Rep w c z b N Z s) (hlen : Z.length ≤ 1000000) (f : Int) :
    Calls Try.prog 23 #[.pointer (some ⟨c, 0, none⟩), .int .i64 f] w fun r w' => r = .returned (.tuple #[]) ∧ Rep w' c z b N (drp f Z s).1 (drp f Z s).2 ∧ Only (own c z b Z) w w' := by
  have hal : Below w.heap.size w (w.alloc (.cells #[.int .i64 f] 2)) := (Below.refl _ w).alloc (Nat.le_refl _) _
  have H1 := Lib.hid (h.below hal)
  have HO1 : Hid (Only (own c z b Z) w (w.alloc (.cells #[.int .i64 f] 2))) := Lib.hid (Only.of_below hal)
  have hrow := heap_alloc_new w (.cells #[.int .i64 f] 2)
  have hgc : (w.alloc (.cells #[.int .i64 f] 2)).cell? ⟨w.heap.size, 0, none⟩ = some (.int .i64 f) := cell_of_row _ _ _ _ _ _ hrow
  have HGC := Lib.hid hgc
  have HI := Lib.hid (idle_any c b _ H1.out.cor.c0)
  have HTO := Lib.hid h.tot_le
  have HSH : Hid (drp f Z s = (gone Z (pkb 9223372036854775807 (ofFile f) 0 Z), rels s (pkb 9223372036854775807 (ofFile f) 0 Z))) := Lib.hid rfl
  obtain ⟨R, hR⟩ : ∃ R, drp f Z s = R := ⟨_, rfl⟩
  rw [hR] at HSH ⊢
  have hsz : (w.alloc (.cells #[.int .i64 f] 2)).heap.size = w.heap.size + 1 := by simp
  obtain ⟨y, hy⟩ : ∃ y, w.heap.size = y := ⟨_, rfl⟩
  have HY := Lib.hid hy
  obtain ⟨W1, hW1⟩ : ∃ W1, w.alloc (.cells #[.int .i64 f] 2) = W1 := ⟨_, rfl⟩
  rw [hW1, hy] at HGC
  rw [hW1] at hsz
  rw [hy] at hsz
  have H1' : Hid (Rep W1 c z b N Z s) := Lib.hid (by rw [← hW1]; exact H1.out)
  have hol := oldest_any H1'.out hlen HTO.out 9223372036854775807 44 #[.pointer (some ⟨y, 0, none⟩)] (ofFile f)
    (fun W q => cf_enter Try.func44 (by kernel_rfl) (by kernel_rfl) _ W)
    (fun W hW x hx => ofFile_any (H1'.out.below hW).cor hx f y ((World.cell?_of_block (a := ⟨y, 0, none⟩) (hW.block y (by omega))).trans HGC.out))
  obtain ⟨P, hP⟩ : ∃ P, pkb 9223372036854775807 (ofFile f) 0 Z = P := ⟨_, rfl⟩
  rw [hP] at hol HSH
  have HOL := Lib.hid hol
  have HPP : Hid ((∀ x ∈ P, x ∈ Z) ∧ (ads P).Nodup ∧ P.length ≤ 1000000) := Lib.hid (by
    rw [← hP]
    exact ⟨fun x hx => pkb_in hx, pkb_nodup h.cor.nodup, Nat.le_trans (pkb_len _ _ _) hlen⟩)
  have HW1 := Lib.hid hW1
  clear h hal hrow hR hsz hW1 hy hol hP
  go_enter Try.func23, Try.ntmps23
  go_wp2_with fail
  refine HI.out.mono ?_
  rintro r w1 ⟨rfl, rfl⟩
  rw [HY.out, HW1.out]
  have HO1 : Hid (Only (own c z b Z) w W1) := Lib.hid (by rw [← HW1.out]; exact HO1.out)
  go_wp2_with fail
  refine HOL.out.mono ?_
  rintro r w2 ⟨A, cap, rfl, hv, hb2⟩
  have H2 := Lib.hid (H1'.out.below hb2)
  have HO2 : Hid (Only (own c z b Z) w w2) := Lib.hid (HO1.out.trans (Only.of_below hb2 : Only (own c z b Z) W1 w2) (fun _ _ h => h))
  have HFG := Lib.hid (forget_any H2.out P HPP.out.1 HPP.out.2.1 HPP.out.2.2 A cap W1.heap.size hv H1'.out.own_lt)
  clear hv hb2 HOL hgc
  go_wp2_with fail
  refine HFG.out.mono ?_
  rintro r w3 ⟨rfl, h3, ho3⟩
  have H3 : Hid (Rep w3 c z b N R.1 R.2) := Lib.hid (by rw [HSH.out]; exact h3)
  have HO3 : Hid (Only (own c z b Z) w w3) := Lib.hid (HO2.out.trans ho3 (fun _ _ h => h))
  clear h3 ho3
  go_wp2
  go_end0
  exact ⟨rfl, H3.out, HO3.out⟩

set_option maxRecDepth 100000 in
set_option maxHeartbeats 1000000 in
theorem shrink_any (h : Rep w c z b N Z s) (hlen : Z.length ≤ 1000000) (n : Int) (hn : i64 n) :
    Calls Try.prog 22 #[.pointer (some ⟨c, 0, none⟩), .int .i64 n] w fun r w' => r = .returned (.bool (shr n Z s).1) ∧ Rep w' c z b N (shr n Z s).2.1 (shr n Z s).2.2 ∧ Only (own c z b Z) w w' := by
  have HI := Lib.hid (idle_any c b _ h.cor.c0)
  have HR := Lib.hid (room_any h hlen n hn)
  obtain ⟨R, hR⟩ : ∃ R, shr n Z s = R := ⟨_, rfl⟩
  rw [hR] at HR ⊢
  obtain ⟨t, ht⟩ : ∃ t, R.1 = t := ⟨_, rfl⟩
  rw [ht] at HR ⊢
  clear h hR ht
  go_enter Try.func22, Try.ntmps22
  go_wp2_with fail
  refine HI.out.mono ?_
  rintro r w1 ⟨rfl, rfl⟩
  go_wp2_with fail
  refine HR.out.mono ?_
  rintro r w2 ⟨rfl, h2, ho2⟩
  have H2 := Lib.hid h2
  have HO2 := Lib.hid ho2
  clear h2 ho2
  cases t <;>
  · go_wp2
    go_ret
    exact ⟨rfl, H2.out, HO2.out⟩
end
end Go.Proofs.Ytlfhjbilnfkabaa
