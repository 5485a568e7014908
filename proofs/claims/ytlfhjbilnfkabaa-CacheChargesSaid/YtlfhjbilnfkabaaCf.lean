/- Get, Pin, Unpin. -/
import Derived.Test.YtlfhjbilnfkabaaCe
namespace Go.Proofs.Ytlfhjbilnfkabaa
open Go.RowKit Go.Maps
open BM CM

/-! ### frames -/
/-- only these blocks are turned -/
structure Only (S : Nat → Prop) (w w' : World) : Prop where
  os : w'.os = w.os
  tape : w'.tape = w.tape
  output : w'.output = w.output
  size : w.heap.size ≤ w'.heap.size
  block : ∀ g, g < w.heap.size → ¬ S g → w'.heap[g]? = w.heap[g]?
def own (c z b : Nat) (Z : Zs) (g : Nat) : Prop := g = c ∨ g = z ∨ g = b ∨ g ∈ ads Z

section
variable {S T : Nat → Prop} {a d e : World}
theorem Only.refl (w : World) : Only S w w := ⟨rfl, rfl, rfl, Nat.le_refl _, fun _ _ _ => rfl⟩
theorem Only.trans (h : Only S a d) (k : Only T d e) (hT : ∀ g, g < a.heap.size → T g → S g) : Only S a e :=
  ⟨k.os.trans h.os, k.tape.trans h.tape, k.output.trans h.output, Nat.le_trans h.size k.size, fun g hg hs => (k.block g (Nat.lt_of_lt_of_le hg h.size) (fun ht => hs (hT g hg ht))).trans (h.block g hg hs)⟩
theorem Only.of_below (h : Below a.heap.size a d) : Only S a d := ⟨h.os, h.tape, h.output, h.size, fun g hg _ => h.block g hg⟩
theorem Only.of_grown {r : Nat} (h : a.grownBy d (some r)) (hr : S r) : Only S a d := ⟨h.os, h.tape, h.output, h.size, fun g hg hs => h.block g hg (by simp; rintro rfl; exact hs hr)⟩
theorem Only.of_links {c : Nat} {ps : List Nat} (h : LkO a d c ps) (hc : S c) (hp : ∀ p ∈ ps, S p) : Only S a d :=
  ⟨h.os, h.tape, h.output, Nat.le_of_eq h.size.symm, fun g _ hs => h.other g (fun e => hs (e ▸ hc)) (fun hm => hs (hp g hm))⟩
theorem Only.below (h : Only S a d) {B : Nat} {W : World} (hb : Below B W a) (hB : B ≤ a.heap.size) (hS : ∀ g, S g → B ≤ g) : Below B W d :=
  ⟨h.os.trans hb.os, h.tape.trans hb.tape, h.output.trans hb.output, Nat.le_trans hb.size h.size, fun k hk => (h.block k (by omega) (fun hs => by have := hS k hs; omega)).trans (hb.block k hk)⟩
end

theorem bat_links {w w' : World} {b c : Nat} {k : Int} {s : S} {ps : List Nat} (h : BAt w b k s) (hl : LkO w w' c ps) (h1 : b ≠ c) (h2 : b ∉ ps) : BAt w' b k s := (hl.other b h1 h2).trans h

theorem ads_get {Z : Zs} {i : Nat} (h : i < Z.length) : (ads Z)[i]'(by rw [ads_len]; exact h) = Z[i].1 := by simp [ads]
theorem map_erase {α β : Type} (f : α → β) : ∀ (l : List α) (i : Nat), (l.eraseIdx i).map f = (l.map f).eraseIdx i
  | [], _ => rfl
  | _ :: _, 0 => rfl
  | a :: r, i + 1 => by simp [map_erase f r i]
theorem perm_erase {α : Type} : ∀ (l : List α) (i : Nat) (h : i < l.length), l.Perm (l[i] :: l.eraseIdx i)
  | a :: r, 0, _ => List.Perm.refl _
  | a :: r, i + 1, h => ((perm_erase r i (by simpa using h)).cons a).trans (List.Perm.swap _ _ _)
theorem ads_erase (Z : Zs) (i : Nat) : ads (Z.eraseIdx i) = (ads Z).eraseIdx i := map_erase _ _ _
theorem perm_last {Z : Zs} {i : Nat} (h : i < Z.length) : Z.Perm (Z.eraseIdx i ++ [Z[i]]) := by
  exact (perm_erase Z i h).trans (List.perm_append_singleton _ _).symm

section
variable {w : World} {c z b N : Nat} {Z : Zs} {s : S}

set_option maxRecDepth 100000 in
set_option maxHeartbeats 1000000 in
theorem get_hit (h : Rep w c z b N Z s) {f k : Int} (hf : i64 f) (hk : i64 k) {i : Nat} (hi : i < Z.length) (he : at_ Z f k = some Z[i].1) :
    Calls Try.prog 24 #[.pointer (some ⟨c, 0, none⟩), keyV f k] w fun e w' => e = .returned (.tuple #[.string Z[i].2.data, .bool true]) ∧ Rep w' c z b N (Z.eraseIdx i ++ [Z[i]]) s ∧ Only (own c z b Z) w w' := by
  have hal : Below w.heap.size w (w.alloc (.cells #[.int .i64 f, .int .i64 k] 42)) := (Below.refl _ w).alloc (Nat.le_refl _) _
  have H1 := Lib.hid (h.below hal)
  have HO1 : Hid (Only (own c z b Z) w (w.alloc (.cells #[.int .i64 f, .int .i64 k] 42))) := Lib.hid (Only.of_below hal)
  have hfd := find_any H1.out.cor hf hk
  rw [he] at hfd
  unfold pV at hfd
  have HFD := Lib.hid hfd
  have hrow := heap_alloc_new w (.cells #[.int .i64 f, .int .i64 k] 42)
  have k0 : (w.alloc (.cells #[.int .i64 f, .int .i64 k] 42)).cell? ⟨w.heap.size, 0, none⟩ = some (.int .i64 f) := cell_of_row _ _ _ _ _ _ hrow
  have k1 : (w.alloc (.cells #[.int .i64 f, .int .i64 k] 42)).cell? ⟨w.heap.size, 1, none⟩ = some (.int .i64 k) := cell_of_row _ _ _ _ _ _ hrow
  have hx : Z[i] ∈ Z := List.getElem_mem hi
  have hli : i < (ads Z).length := by rw [ads_len]; exact hi
  have hxi : (ads Z)[i] = Z[i].1 := ads_get hi
  obtain ⟨x, hxx⟩ : ∃ x, Z[i] = x := ⟨_, rfl⟩
  have hwf := h.cor.wf _ hx
  rw [hxx] at hx hxi HFD hwf ⊢
  have HP := Lib.hid (by rw [← hxx]; exact perm_last hi : Z.Perm (Z.eraseIdx i ++ [x]))
  have hdz : x.2.data.size ≤ 281474976710656 := by have := hwf.d; omega
  have HCL := Lib.hid (fun W => clone_any x.2.data W hdz)
  clear hal hfd hrow h he hxx hwf
  obtain ⟨p, hpp⟩ : ∃ p, x.1 = p := ⟨_, rfl⟩
  obtain ⟨da, hda⟩ : ∃ da, x.2.data = da := ⟨_, rfl⟩
  rw [hpp] at hxi HFD
  rw [hda] at HCL hdz ⊢
  have HX := Lib.hid hx
  have HPX := Lib.hid hpp
  have HDA := Lib.hid hda
  have HXI := Lib.hid hxi
  clear hpp hda hx hxi hdz
  unfold keyV at HFD ⊢
  go_enter Try.func24, Try.ntmps24
  go_wp2_with fail
  generalize w.alloc (.cells #[.int .i64 f, .int .i64 k] 42) = w1 at H1 HO1 HFD k0 k1 ⊢
  refine HFD.out.mono ?_
  rintro e w2 ⟨rfl, hb2⟩
  have H2 := Lib.hid (H1.out.below hb2)
  have HO2 : Hid (Only (own c z b Z) w w2) := Lib.hid (HO1.out.trans (Only.of_below hb2 : Only (own c z b Z) w1 w2) (fun _ _ h => h))
  clear hb2 HFD H1 HO1 k0 k1
  have hul := unlink_any H2.out.ring H2.out.cor.apart H2.out.cor.rows0 hli
  rw [HXI.out] at hul
  have HUL := Lib.hid hul
  clear hul
  go_wp2_with fail
  refine HUL.out.mono ?_
  rintro e w3 ⟨rfl, hl3, hr3⟩
  have hsub : ∀ q ∈ ads Z, own c z b Z q := fun q hq => Or.inr (Or.inr (Or.inr hq))
  have HC3 := Lib.hid (H2.out.cor.links hl3 (fun q hq => mem_ads.1 hq))
  have hnb := H2.out.cor.nb H2.out.bud
  have HB3 := Lib.hid (bat_links H2.out.bud hl3 hnb.1 hnb.2.2)
  have HO3 : Hid (Only (own c z b Z) w w3) := Lib.hid (HO2.out.trans (Only.of_links hl3 (Or.inl rfl) hsub : Only (own c z b Z) w2 w3) (fun _ _ h => h))
  have HR3 := Lib.hid hr3
  have HNB := Lib.hid hnb
  have HSUM := Lib.hid (And.intro H2.out.ok H2.out.sum)
  have hperm := HP.out.map Prod.fst
  have hads2 : ads (Z.eraseIdx i ++ [x]) = (ads Z).eraseIdx i ++ [p] := by
    rw [← HPX.out, ← ads_erase]; simp [ads]
  have HADS := Lib.hid hads2
  have HC3p := Lib.hid (HC3.out.perm HP.out)
  have hap3 : Apart c ((ads Z).eraseIdx i ++ [p]) := by rw [← hads2]; exact HC3p.out.apart
  have hro3 : Rows0 w3 c ((ads Z).eraseIdx i ++ [p]) := by rw [← hads2]; exact HC3p.out.rows0
  obtain ⟨o3, n3, hrow3⟩ := HC3.out.blks x HX.out
  rw [HPX.out] at hrow3
  have HLK := Lib.hid (link_any HR3.out hap3 hro3 (o := o3) (n := n3) (cell_of_row _ _ _ _ _ _ hrow3) (cell_of_row _ _ _ _ _ _ hrow3))
  clear hl3 hr3 hnb H2 HO2 HUL hperm hads2 hap3 hro3 hrow3 hsub
  go_wp2_with fail
  refine HLK.out.mono ?_
  rintro e w4 ⟨rfl, hl4, hr4⟩
  have hin4 : ∀ q ∈ (ads Z).eraseIdx i ++ [p], q ∈ ads Z := fun q hq => by
    rw [← HADS.out] at hq
    obtain ⟨y, hy, he⟩ := mem_ads.1 hq
    exact mem_ads.2 ⟨y, HP.out.mem_iff.2 hy, he⟩
  have HC4 := Lib.hid (HC3p.out.links hl4 (fun q hq => by rw [← HADS.out] at hq; exact mem_ads.1 hq))
  have HB4 := Lib.hid (bat_links HB3.out hl4 HNB.out.1 (fun hq => HNB.out.2.2 (hin4 _ hq)))
  have HO4 : Hid (Only (own c z b Z) w w4) := Lib.hid (HO3.out.trans (Only.of_links hl4 (Or.inl rfl) (fun q hq => Or.inr (Or.inr (Or.inr (hin4 q hq)))) : Only (own c z b Z) w3 w4) (fun _ _ h => h))
  have HR4 : Hid (Ring w4 c (ads (Z.eraseIdx i ++ [x]))) := Lib.hid (by rw [HADS.out]; exact hr4)
  have c2 := HC4.out.p2 (x := x) (by simp)
  rw [HPX.out, HDA.out] at c2
  clear hl4 hr4 hin4 HLK HC3 HC3p HB3 HO3 HR3
  have H4 : Hid (Rep w4 c z b N (Z.eraseIdx i ++ [x]) s) := Lib.hid ⟨HC4.out, HR4.out, HB4.out, HSUM.out.1, by rw [HSUM.out.2, tot_perm HP.out]⟩
  go_wp2_with fail
  refine (HCL.out _).mono ?_
  rintro e w5 ⟨rfl, hb5⟩
  have H5 := Lib.hid (H4.out.below hb5)
  have HO5 : Hid (Only (own c z b Z) w w5) := Lib.hid (HO4.out.trans (Only.of_below hb5 : Only (own c z b Z) w4 w5) (fun _ _ h => h))
  clear hb5 c2
  go_wp2
  go_ret2
  exact ⟨rfl, H5.out, HO5.out⟩
end
end Go.Proofs.Ytlfhjbilnfkabaa
