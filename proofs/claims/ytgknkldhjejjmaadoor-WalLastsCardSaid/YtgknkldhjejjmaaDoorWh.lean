/- WalLasts: behind a loss of power at any call a log has all bodies whose Append was told, in order, and perhaps the one that wasn't. For every list of texts, every cut, every list of numbers. Made by gen_wh.py. -/
import Derived.Test.YtgknkldhjejjmaaDoorWf
import Derived.Test.YtgknkldhjejjmaaDoorLd
import Derived.Test.YtgknkldhjejjmaaDoorLaw
import Derived.Deep.Onto
import Derived.BigQuiet
namespace Go.Proofs.YtgknkldhjejjmaaDoor
open Go.ChangeShapes Go.WideShapes Go.ChangeAt Go.RowKit Go.Maps
open DM
namespace lawLasts

theorem info_text : (Tryd.prog.info? 9).map (fun i => (i.zero, i.size, i.bytes)) = some (some (.string ⟨#[]⟩), 1, 16) := by kernel_rfl
/-- the cut, in a box -/
structure Arr (w W : World) (c n : Int) (A : Option Addr) (l : List Int) : Prop where
  below : Below w.heap.size w W
  lt : w.heap.size < W.heap.size
  at0 : W.cell? ⟨w.heap.size, 0, none⟩ = some (.int .i64 c)
  at1 : W.cell? ⟨w.heap.size, 1, none⟩ = some (.int .i64 n)
  nums : ∀ w', Below W.heap.size W w' → Stays W.heap.size w' A l
theorem arr_of (w : World) (c n : Int) (A : Option Addr) (l : List Int) (h : NumsAt w A l) : Arr w (w.alloc (.cells #[.int .i64 c, .int .i64 n] 29)) c n A l := by
  have hb := (Below.refl w.heap.size w).alloc (Nat.le_refl _) (.cells #[.int .i64 c, .int .i64 n] 29)
  refine ⟨hb, by simp, ?_, ?_, ?_⟩
  · rw [cell_of_row _ _ _ _ _ _ (heap_alloc_new _ _)]; rfl
  · rw [cell_of_row _ _ _ _ _ _ (heap_alloc_new _ _)]; rfl
  · intro w' hw' hn
    obtain ⟨b, off, rfl, hlt, hc⟩ := h hn
    exact ⟨b, off, rfl, fun w2 hm j hj => (((hw'.trans hm.below).cell (p := ⟨b, off + j, none⟩) (Nat.lt_of_lt_of_le hlt hb.size)).trans (hb.cell (p := ⟨b, off + j, none⟩) hlt)).trans (hc j hj)⟩

theorem own_keep {w w' : World} {B : Nat} {e : TypeId} {s : Nat} {v : Value} {n : Nat} {xs : List Value} (h : w.ownsRow B e s v n xs) (hk : ∀ (b : Nat) (c : Array Value) (fr : Nat × Nat), w.heap[b]? = some (Obj.cells c e fr) → w'.heap[b]? = some (Obj.cells c e fr)) : w'.ownsRow B e s v n xs := by
  refine ⟨h.1, ?_⟩
  rcases h.2 with h2 | ⟨g, cap, cur, h1, h2, h3, h4⟩
  · exact .inl h2
  · exact .inr ⟨g, cap, cur, h1, h2, hk _ _ _ h3, h4⟩
theorem row_keep {B : Nat} {w w' : World} {v : Value} {l : Bs} (h : Row B w v l) (hk : ∀ (b : Nat) (c : Array Value) (fr : Nat × Nat), w.heap[b]? = some (.cells c 5 fr) → w'.heap[b]? = some (.cells c 5 fr)) : Row B w' v l := by
  rcases h with h | ⟨r, cap, cur, h1, h2, h3, h4⟩
  · exact .inl h
  · exact .inr ⟨r, cap, cur, h1, h2, hk _ _ _ h3, h4⟩
theorem map_keep {w w' : World} {b n : Nat} {D : DataW Unit} (h : OwnM w b n D) (hk : ∀ (b : Nat) (es : Array MapEntry) (k : Nat), w.heap[b]? = some (.map es k) → w'.heap[b]? = some (.map es k)) : OwnM w' b n D := by
  obtain ⟨es, clock, hb, hr⟩ := h
  exact ⟨es, clock, hk _ _ _ hb, hr⟩

theorem rep_rows {B : Nat} {w w' : World} {d : Nat} {s : St} {g : Gh} (h : Rep B w d s g) (hk : ∀ (b : Nat) (o : Obj), w.heap[b]? = some o → (∀ (c : Array Value) (fr : Nat × Nat), o ≠ .cells c 9 fr) → w'.heap[b]? = some o) : Rep B w' d s g := by
  have hc : ∀ (b : Nat) (c : Array Value) (t : TypeId) (fr : Nat × Nat), w.heap[b]? = some (.cells c t fr) → t ≠ 9 → w'.heap[b]? = some (.cells c t fr) := fun b c t fr h1 h2 => hk b _ h1 (fun c' fr' e => by
    injection e with _ e
    exact h2 e)
  have hmap : ∀ (b : Nat) (es : Array MapEntry) (k : Nat), w.heap[b]? = some (.map es k) → w'.heap[b]? = some (.map es k) := fun b es k h1 => hk b _ h1 (fun c' fr' e => by cases e)
  refine ⟨⟨?_, own_keep h.body.queue (fun b c fr hb => hc b c _ fr hb (by decide)), fun n hn => ?_, h.body.apart, own_keep h.body.cut (fun b c fr hb => hc b c _ fr hb (by decide)), h.body.bk⟩, hc _ _ _ _ h.at_ (by decide), h.le⟩
  · rcases h.body.maps with h1 | ⟨b1, b2, e1, e2, hne, l1, l2, o1, o2⟩
    · exact .inl h1
    · exact .inr ⟨b1, b2, e1, e2, hne, l1, l2, map_keep o1 hmap, map_keep o2 hmap⟩
  · obtain ⟨h1, h2, h3⟩ := h.body.files n hn
    exact ⟨h1, hc _ _ _ _ h2 (by decide), row_keep h3 (fun b c fr hb => hc b c _ fr hb (by decide))⟩

theorem grownText {B : Nat} {w0 w w' : World} {d : Nat} {s : St} {N M : Nat} (h : Live B w0 w d s N M) {base n : Nat} {v : Value} {xs : List Value} (ho : w.ownsRow base 9 1 v n xs) (hg : w.grownBy w' v.ownBlock) : Live B w' w' d s N M := by
  obtain ⟨g, hr⟩ := h.rep
  refine ⟨Moves.refl _ _, h.ok, h.lim, ⟨g, rep_rows hr fun b o h1 h2 => ?_⟩, Nat.le_trans h.le' hg.size, h.few⟩
  rw [hg.block b (Array.getElem?_eq_some_iff.1 h1).1 (fun e => ?_)]
  · exact h1
  · rcases ho.2 with ⟨rfl, _⟩ | ⟨g', cap, cur, rfl, _, hg', _⟩
    · simp [Value.ownBlock] at e
    · simp [Value.ownBlock] at e
      subst e
      rw [hg'] at h1
      exact h2 cur (0, 0) (Option.some.inj h1).symm
theorem below_row {B : Nat} {a w w' : World} {e : TypeId} {v : Value} {n : Nat} {xs : List Value} (h : Below B a w) (hB : B ≤ w.heap.size) (ho : w.ownsRow B e 1 v n xs) (hg : w.grownBy w' v.ownBlock) : Below B a w' :=
  h.trans ⟨hg.os, hg.tape, hg.output, hg.size, fun b hb => hg.block b (by omega) (fun e => by have := (ho.lt b e.symm).1; omega)⟩

/-- all that the loop carries: the disk, the row of the bodies -/
structure Car (B : Nat) (W w : World) (d : Nat) (s : St) (N M : Nat) (v : Value) (a : Nat) (X : List Bs) : Prop where
  live : Live B w w d s N M
  below : Below B W w
  row : w.ownsRow B 9 1 v a (strs X)
theorem Car.still {B : Nat} {W w w' : World} {d : Nat} {s : St} {N M : Nat} {v : Value} {a : Nat} {X : List Bs} (h : Car B W w d s N M v a X) (hb : Below w.heap.size w w') : Car B W w' d s N M v a X :=
  ⟨(h.live.still hb).here, h.below.trans (hb.mono h.live.le'), own_below h.row hb⟩
theorem Car.moved {B : Nat} {W w w' : World} {d : Nat} {s s' : St} {N N' M : Nat} {v : Value} {a : Nat} {X : List Bs} (h : Car B W w d s N M v a X) (hl : Live B w w' d s' N' M) : Car B W w' d s' N' M v a X :=
  ⟨hl.here, h.below.trans hl.moves.below, own_keep h.row fun _ _ _ hx => hl.moves.kept _ _ _ _ hx (by decide)⟩
theorem Car.app {B : Nat} {W w w' : World} {d : Nat} {s : St} {N M : Nat} {v v' : Value} {a a' : Nat} {X X' : List Bs} (h : Car B W w d s N M v a X) (ho : w'.ownsRow B 9 1 v' a' (strs X')) (hg : w.grownBy w' v.ownBlock) : Car B W w' d s N M v' a' X' :=
  ⟨grownText h.live h.row hg, below_row h.below h.live.le' h.row hg, ho⟩

theorem read_bounds {s : St} {bs : List Bs} (hb : ∀ b ∈ bs, b.length ≤ 65535) (n : Int) (l : List Int) {p : Bs → Prop} (h : WL.Reads p s) (k : Nat) (hk : k ≤ bs.length) (hp : (k = bs.length ∧ p = fun x => x = FM.frames bs) ∨ ∃ h : k < bs.length, p = WL.some_ (FM.frames (bs.take k)) (FM.frame bs[k])) :
    ∃ j tr, WL.read 1 (crash n l s) = (bs.take j, tr, 0) ∧ k ≤ j ∧ j ≤ bs.length ∧ j ≤ k + 1 ∧ (tr = true → j = k ∧ k < bs.length) := by
  obtain ⟨x, hx, hpx⟩ := h n l
  rcases hp with ⟨rfl, rfl⟩ | ⟨hlt, rfl⟩
  · subst hpx
    exact ⟨bs.length, false, by rw [List.take_of_length_le (Nat.le_refl _)]; exact WL.read_whole WL.n1 bs hb hx, by omega, by omega, by omega, fun e => by cases e⟩
  · have htk : (bs.take k).length = k := by rw [List.length_take]; omega
    have hsn : bs.take k ++ [bs[k]] = bs.take (k + 1) := (List.take_succ_eq_append_getElem hlt).symm
    obtain ⟨j, tr, hr, h1, h2, h3⟩ := WL.read_some (bs.take k) bs[k] (by rw [hsn]; exact fun b hm => hb b (List.mem_of_mem_take hm)) hpx hx
    rw [htk] at h1 h2 h3
    rw [hsn, List.take_take, Nat.min_eq_left h2] at hr
    refine ⟨j, tr, hr, h1, by omega, h2, fun e => ?_⟩
    subst e
    refine ⟨Classical.byContradiction fun hne => ?_, hlt⟩
    have := h3 (by omega)
    cases this

theorem texts_at (bs : List Bs) (j i : Nat) (hi : i < j) (hj : j ≤ bs.length) (h : i < (texts (bs.take j)).length) : (texts (bs.take j))[i] = ⟨(bs[i]'(by omega)).toArray⟩ := by
  simp [texts]

set_option maxRecDepth 100000 in
set_option maxHeartbeats 4000000 in
theorem walk (A : Option Addr) (n cap : Nat) (ls : List ByteArray) (c0 c1 : Int) (A2 : Option Addr) (m cap2 : Nat) (l : List Int) (w : World) (hn : ls.length = n) (hz : StrsIn w w.heap.size A ls) (hcap : n ≤ cap) (hb : n * 16 ≤ reachBytes) (hs : ∀ q ∈ ls, q.size ≤ reachBytes)
    (hm : l.length = m) (hl : NumsAt w A2 l) (hlf : ∀ z ∈ l, fits z) (hl8 : m * 8 ≤ reachBytes) (hc0 : fits c0) (hc1 : fits c1) (ht : Tab w) :
    Calls Tryd.prog 4 #[.slice A n cap, .agg #[.int .i64 c0, .int .i64 c1], .slice A2 m cap2] w fun e w' => e = .returned (.bool true) ∧ Below w.heap.size w w' := by
  unfold reachBytes at hb hs hl8
  have HA := Lib.hid (arr_of w c0 c1 A2 l hl)
  subst hm
  obtain ⟨bs, hbs⟩ : ∃ bs, cutB 20 1000 ls = bs := ⟨_, rfl⟩
  have hBL := cutB_length 20 1000 ls
  have hsm := cutB_small 20 1000 ls
  have hat := cutB_at 20 1000 ls
  rw [hbs] at hBL hsm
  rw [hn] at hBL
  obtain ⟨N, hN⟩ : ∃ N, bs.length = N := ⟨_, rfl⟩
  rw [hN] at hBL
  have HBS := Lib.hid hN
  have HAT : Hid (∀ k, (h : k < bs.length) → (hl : k < ls.length) → bs[k] = ls[k].data.toList.take 1000) := by subst hbs; exact Lib.hid hat
  have HS := Lib.hid hs
  have HN := Lib.hid hn
  have hmin : min (n : Int) 20 = (N : Int) := by omega
  have hNn : N ≤ n := by omega
  have hN20 : N ≤ 20 := by omega
  have hsl := fun W => texts_head W A n cap N (by omega)
  have HSM : Hid (∀ b ∈ bs, b.length ≤ 1000) := Lib.hid hsm
  have HSM2 : Hid (∀ b ∈ bs, b.length ≤ 65535) := Lib.hid fun b hb => Nat.le_trans (hsm b hb) (by decide)
  obtain ⟨i0, hi, hz0, hz1, hz2⟩ := info_parts info_text
  obtain ⟨W, hW⟩ : ∃ W, w.alloc (.cells #[.int .i64 c0, .int .i64 c1] 29) = W := ⟨_, rfl⟩
  rw [hW] at HA
  obtain ⟨B, hB⟩ : ∃ B, W.heap.size = B := ⟨_, rfl⟩
  have HZ : Hid (∀ w', Below B W w' → StrsIn w' B A ls) := Lib.hid fun w' h => (((hz.below HA.out.below).more (by rw [← hB]; exact Nat.le_of_lt HA.out.lt)).below h)
  have HT : Hid (∀ w', Below B W w' → Tab w') := Lib.hid fun w' h => (ht.below HA.out.below).below (by rw [hB]; exact h)
  have HC0 : Hid (∀ w', Below B W w' → w'.cell? ⟨w.heap.size, 0, none⟩ = some (.int .i64 c0)) := Lib.hid fun w' h => (h.cell (p := ⟨w.heap.size, 0, none⟩) (by rw [← hB]; exact HA.out.lt)).trans HA.out.at0
  have HC1 : Hid (∀ w', Below B W w' → w'.cell? ⟨w.heap.size, 1, none⟩ = some (.int .i64 c1)) := Lib.hid fun w' h => (h.cell (p := ⟨w.heap.size, 1, none⟩) (by rw [← hB]; exact HA.out.lt)).trans HA.out.at1
  have HNUM : Hid (∀ w', Below B W w' → Stays B w' A2 l) := by rw [← hB]; exact Lib.hid HA.out.nums
  have HFIN : Hid (∀ w', Below B W w' → Below w.heap.size w w') := Lib.hid fun w' h => HA.out.below.trans (h.mono (by rw [← hB]; exact Nat.le_of_lt HA.out.lt))
  have HNEW : Hid (Calls Tryd.prog 13 #[.int .i64 1099511627776] W fun e w' => ∃ d, e = .returned (.pointer (some ⟨d, 0, none⟩)) ∧ Live B W w' d (DM.new 1099511627776) 0 l.length) := Lib.hid (by
    subst hB
    exact (live_new 1099511627776 W W W.heap.size (Moves.refl _ _) (Nat.le_refl _) (by unfold fits; omega) 0 l.length (by omega)).mono fun _ _ ⟨he, hl⟩ => ⟨_, he, hl⟩)
  have HCR := Lib.hid (fun w' d (h : Live B W w' d (DM.new 1099511627776) 0 l.length) => h.wcreate (by omega) 1 (by omega) (HT.out _ h.moves.below) (WL.lg_create.trans (by rw [WL.held_nil])))
  have HCUT := Lib.hid (fun w' d (h : Live B W w' d (WL.held [] 0 0 []) 2 l.length) => h.cut c0 c1 hc0 hc1 A2 cap2 l (Nat.le_refl _) (by omega) (HNUM.out _ h.moves.below) hlf)
  have HCRA := Lib.hid (fun w' d s N' (hb : Below B W w') (h : Live B w' w' d s N' l.length) => h.crash c1 hc1 A2 cap2 l (Nat.le_refl _) (HNUM.out _ hb) hlf)
  clear hn hz hs hbs hBL hsm hat hN hcap ht hB hl hlf hc0 hc1
  obtain ⟨ln, hln⟩ : ∃ ln, l.length = ln := ⟨_, rfl⟩
  rw [hln] at HNEW HCR HCUT HCRA ⊢
  obtain ⟨ab, hab⟩ : ∃ ab, w.heap.size = ab := ⟨_, rfl⟩
  rw [hab] at HC0 HC1 HFIN ⊢
  clear hln
  go_enter Tryd.func4, Tryd.ntmps4
  go_wp2_with fail
  clear hW HA
  refine HNEW.out.mono ?_
  rintro e w1 ⟨d, rfl, hl⟩
  have HL := Lib.hid hl
  clear hl HNEW
  go_wp2_with fail
  refine (wakes_any _ (HT.out _ HL.out.moves.below)).mono ?_
  rintro e w2 ⟨rfl, hB⟩
  have HL2 := Lib.hid (HL.out.still hB)
  clear hB HL
  go_wp2_with fail
  refine (HCR.out _ _ HL2.out).mono ?_
  rintro e w3 ⟨rfl, hl⟩
  have HL3 := Lib.hid hl
  have e0 := HC0.out _ hl.moves.below
  have e1 := HC1.out _ hl.moves.below
  clear hl HL2 HCR
  go_wp2_with fail
  refine (HCUT.out _ _ HL3.out).mono ?_
  rintro e w4 ⟨rfl, hl⟩
  obtain ⟨c, hc⟩ : ∃ c, DM.cut c0 c1 l (WL.held [] 0 0 []) = WL.held [] c c1 l := ⟨_, rfl⟩
  rw [hc] at hl
  have HL4 := Lib.hid hl
  clear hl HL3 HCUT hc e0 e1 HC0
  have HCAR : Hid (Car B W (w4.alloc (.cells #[] 9)) d (WL.held [] c c1 l) 2 ln (.slice (some ⟨w4.heap.size, 0, none⟩) 0 0) 0 []) := by
    have hal := (Below.refl w4.heap.size w4).alloc (Nat.le_refl _) (.cells #[] 9)
    exact Lib.hid ⟨(HL4.out.still hal).here, HL4.out.moves.below.trans (hal.mono HL4.out.le'), ⟨rfl, .inr ⟨_, 0, #[], rfl, HL4.out.le', heap_alloc_new w4 _, Nat.le_refl _, by unfold maxLen; omega, rfl, rfl⟩⟩⟩
  clear HL4
  go_wp2_with fail
  go_loopw [8, 9, 39] (fun tv av iv wr => ∃ (k c : Nat), k ≤ N ∧ iv = .int .i64 k ∧ tv = .int .i64 k ∧ Car B W wr d (WL.held (bs.take k) c c1 l) (2 + 2 * k) ln av k (bs.take k)) (fun _ _ i _ => N - (intOf i).toNat)
  case atStart => exact ⟨0, c, by omega, rfl, rfl, HCAR.out⟩
  case round =>
    obtain ⟨k, c, hk, rfl, rfl, hcar⟩ := hrel
    have HK := Lib.hid hcar
    have hbs := hcar.live.le'
    clear hcar
    by_cases hlt : k < N
    · have hkl : k < ls.length := by rw [HN.out]; omega
      have hkb : k < bs.length := by rw [HBS.out]; exact hlt
      obtain ⟨g, off, hA, hbl, hc⟩ := HZ.out _ HK.out.below (by omega)
      have hck := hc k hkl
      have hatk := HAT.out k hkb hkl
      obtain ⟨t, ht⟩ : ∃ t, ls[k] = t := ⟨_, rfl⟩
      have hts := HS.out t (by rw [← ht]; exact List.getElem_mem hkl)
      rw [ht] at hck hatk
      obtain ⟨M, b, hM, hbx, hbd, hbz⟩ := text_cut t 1000
      have hmin2 : min (t.size : Int) 1000 = (M : Int) := by omega
      have hsl2 := fun W => text_head W t M (by omega)
      rw [hbx] at hsl2
      rw [← hatk] at hbd
      have HSC : Hid (strs (bs.take (k + 1)) = strs (bs.take k) ++ [.string b]) := by
        rw [List.take_succ_eq_append_getElem hkb, strs_snoc, ← hbd, str_mk]
        exact Lib.hid rfl
      have HBD := Lib.hid hbd
      clear hc hatk ht hM hbx hbd
      subst hA
      go_wp2_with (at_builtin; refine wpList_append_own _ rfl _ _ 28 rfl B 9 i0 _ 1 16 Tryd.underlying28 hi hz0 hz1 hz2 rfl (by decide) _ _ _ rfl (HK.out.still ((Below.refl _ _).alloc (Nat.le_refl _) _)).row ⟨wr.heap.size, 0, none⟩ 1 1 [.string b] rfl ?c1 ?c2 ?c3 ?c4 ?c5 ?c6 ?_)
      case c1 => rfl
      case c2 => exact fone_cell wr _ _
      case c3 => intro u hu; simp at hu; subst hu; rfl
      case c4 => unfold maxLen; omega
      case c5 => omega
      case c6 => simp; omega
      intro v2 w5 hown2 hgrow2 hnil2
      rw [← HSC.out] at hown2
      have HK2 := Lib.hid ((HK.out.still ((Below.refl _ _).alloc (Nat.le_refl _) _)).app hown2 hgrow2)
      clear hown2 hgrow2 hnil2 HK
      have hbl : b.data.toList.length ≤ 1000 := by rw [HBD.out]; exact HSM.out _ (List.getElem_mem hkb)
      by_cases hcc : c = 1 ∨ c = 2
      · have HAP := Lib.hid (HK2.out.live.wappend (r := (13, DM.dark (WL.lg (FM.frames (bs.take k) ++ FM.frame bs[k]) (FM.frames (bs.take k)).length 0 c1 l) c1 l)) (by omega) 1 (by omega) (HT.out _ HK2.out.below) b (by rw [← size_list]; omega) (by rw [HBD.out]; exact (WL.held_append bs k hkb HSM.out (by rw [HBS.out]; omega) c c1 l).trans (if_pos hcc)))
        clear hbl
        go_wp2_with fail
        refine HAP.out.mono ?_
        rintro e w6 ⟨rfl, hl⟩
        obtain ⟨a, ha⟩ : ∃ a, k + 1 = a := ⟨_, rfl⟩
        have HCF := Lib.hid (HK2.out.moved hl)
        have HRB := Lib.hid (read_bounds HSM2.out c1 l (WL.reads_dark (FM.frames (bs.take k)) (FM.frame bs[k]) c1 l) k (by omega) (.inr ⟨hkb, rfl⟩))
        rw [ha] at HCF
        clear hl HAP HK2
        have g1 := HC1.out _ HCF.out.below
        go_wp2_with fail
        refine (HCRA.out _ _ _ _ HCF.out.below HCF.out.live).mono ?_
        rintro e wc ⟨rfl, hl⟩
        have HCC := Lib.hid (HCF.out.moved hl)
        clear hl HCRA g1
        obtain ⟨j, tr, hrd, hj1, hj2, hj3, hj4⟩ := HRB.out
        have HRR := Lib.hid (HCC.out.live.wread 1 (by omega) (HT.out _ HCC.out.below) hrd)
        clear hrd HRB
        go_wp2_with fail
        refine HRR.out.mono ?_
        rintro e wz ⟨v, rfl, hown, hl⟩
        have HCZ := Lib.hid (HCC.out.moved hl)
        have htj : (bs.take j).length = j := by rw [List.length_take]; omega
        have hta : (bs.take (a)).length = a := by rw [List.length_take, HBS.out]; omega
        have hown2 : wz.ownsRow wc.heap.size 9 1 v (bs.take j).length (strs (bs.take j)) := hown
        rw [htj] at hown2
        obtain ⟨AJ, CJ, rfl, hzj⟩ := strs_of_own htj hown2
        obtain ⟨AF, CF, hvF, hzf⟩ := strs_of_own hta HCZ.out.row
        have HZJ := Lib.hid hzj
        have HZF := Lib.hid hzf
        rw [HBS.out] at hj2
        have HTJ : Hid ((texts (bs.take j)).length = j) := Lib.hid (by rw [texts_length, htj])
        have HTA : Hid ((texts (bs.take (a))).length = a) := Lib.hid (by rw [texts_length, hta])
        clear hown hown2 hl hzj hzf htj hta HRR HCC HCF
        subst hvF
        have HFB := Lib.hid (HFIN.out _ HCZ.out.below)
        have n1 : ¬ (j : Int) < (k : Nat) := by omega
        have n2 : ¬ (((a) : Nat) : Int) < (j : Int) := by omega
        cases tr with
        | false =>
          go_wp2_with fail
          go_loopw [100] (fun i wq => ∃ q : Nat, q ≤ j ∧ i = .int .i64 q ∧ Below wz.heap.size wz wq) (fun i _ => j - (intOf i).toNat)
          case atStart => exact ⟨0, by omega, rfl, Below.refl _ _⟩
          case round =>
            obtain ⟨q, hq, rfl, hbq⟩ := hrel
            have HBQ := Lib.hid hbq
            clear hbq
            by_cases hqj : q < j
            · obtain ⟨g1, o1, hA1, -, hx1⟩ := HZJ.out.below HBQ.out (by rw [HTJ.out]; omega)
              obtain ⟨g2, o2, hA2, -, hx2⟩ := HZF.out.below HBQ.out (by rw [HTA.out]; omega)
              have e1 := hx1 q (by rw [HTJ.out]; exact hqj)
              have e2 := hx2 q (by rw [HTA.out]; omega)
              rw [texts_at bs j q hqj (by rw [HBS.out]; omega)] at e1
              rw [texts_at bs a q (by omega) (by rw [HBS.out]; omega)] at e2
              obtain ⟨t, ht⟩ : ∃ t : ByteArray, (⟨(bs[q]'(by rw [HBS.out]; omega)).toArray⟩ : ByteArray) = t := ⟨_, rfl⟩
              rw [ht] at e1 e2
              have i0 : (0 : Int) ≤ (q : Int) := by omega
              have i1 : (q : Int) < (j : Int) := by omega
              have i2 : (q : Int) < (a : Nat) := by omega
              have he : (t.toList == t.toList) = true := by simp
              subst hA1
              subst hA2
              clear hx1 hx2 ht
              go_wp2_with fail
              go_quiet (fail)
              go_wp2
              go_roundw
              case rel => exact ⟨q + 1, by omega, by go_num, (by first | exact HBQ.out | exact below_drewN HBQ.out _ | exact below_drewN (below_drewN HBQ.out _) _)⟩
              case measure => simp [intOf]; omega
            · have HE := Lib.hid (HFIN.out _ (HCZ.out.below.trans (HBQ.out.mono HCZ.out.live.le')))
              go_wp2
              go_ret
              exact ⟨rfl, HE.out⟩
        | true =>
          obtain ⟨hjk, hkl⟩ := hj4 rfl
          have n3 : ¬ (j : Int) = (((a) : Nat) : Int) := by rw [HBS.out] at hkl; omega
          go_wp2_with fail
          go_loopw [100] (fun i wq => ∃ q : Nat, q ≤ j ∧ i = .int .i64 q ∧ Below wz.heap.size wz wq) (fun i _ => j - (intOf i).toNat)
          case atStart => exact ⟨0, by omega, rfl, Below.refl _ _⟩
          case round =>
            obtain ⟨q, hq, rfl, hbq⟩ := hrel
            have HBQ := Lib.hid hbq
            clear hbq
            by_cases hqj : q < j
            · obtain ⟨g1, o1, hA1, -, hx1⟩ := HZJ.out.below HBQ.out (by rw [HTJ.out]; omega)
              obtain ⟨g2, o2, hA2, -, hx2⟩ := HZF.out.below HBQ.out (by rw [HTA.out]; omega)
              have e1 := hx1 q (by rw [HTJ.out]; exact hqj)
              have e2 := hx2 q (by rw [HTA.out]; omega)
              rw [texts_at bs j q hqj (by rw [HBS.out]; omega)] at e1
              rw [texts_at bs a q (by omega) (by rw [HBS.out]; omega)] at e2
              obtain ⟨t, ht⟩ : ∃ t : ByteArray, (⟨(bs[q]'(by rw [HBS.out]; omega)).toArray⟩ : ByteArray) = t := ⟨_, rfl⟩
              rw [ht] at e1 e2
              have i0 : (0 : Int) ≤ (q : Int) := by omega
              have i1 : (q : Int) < (j : Int) := by omega
              have i2 : (q : Int) < (a : Nat) := by omega
              have he : (t.toList == t.toList) = true := by simp
              subst hA1
              subst hA2
              clear hx1 hx2 ht
              go_wp2_with fail
              go_quiet (fail)
              go_wp2
              go_roundw
              case rel => exact ⟨q + 1, by omega, by go_num, (by first | exact HBQ.out | exact below_drewN HBQ.out _ | exact below_drewN (below_drewN HBQ.out _) _)⟩
              case measure => simp [intOf]; omega
            · have HE := Lib.hid (HFIN.out _ (HCZ.out.below.trans (HBQ.out.mono HCZ.out.live.le')))
              go_wp2
              go_ret
              exact ⟨rfl, HE.out⟩
      · have HAP := Lib.hid (HK2.out.live.wappend (r := (0, WL.held (bs.take (k + 1)) (c - 2) c1 l)) (by omega) 1 (by omega) (HT.out _ HK2.out.below) b (by rw [← size_list]; omega) (by rw [HBD.out]; exact (WL.held_append bs k hkb HSM.out (by rw [HBS.out]; omega) c c1 l).trans (if_neg hcc)))
        clear hbl
        go_wp2_with fail
        refine HAP.out.mono ?_
        rintro e w6 ⟨rfl, hl⟩
        have HK3 := Lib.hid (HK2.out.moved hl)
        clear hl HAP HK2
        go_wp2
        go_roundw
        case rel => exact ⟨k + 1, c - 2, by omega, by go_num, by go_num, HK3.out⟩
        case measure => simp [intOf]; omega
    · obtain rfl : k = N := by omega
      have htk : bs.take k = bs := List.take_of_length_le (by rw [HBS.out]; omega)
      have HRB : Hid (∃ j tr, WL.read 1 (crash c1 l (WL.held (bs.take k) c c1 l)) = (bs.take j, tr, 0) ∧ k ≤ j ∧ j ≤ bs.length ∧ j ≤ k + 1 ∧ (tr = true → j = k ∧ k < bs.length)) := by
        rw [htk]
        exact Lib.hid (read_bounds HSM2.out c1 l (WL.reads_lg (FM.frames bs) c c1 l) k (by rw [HBS.out]; omega) (.inl ⟨HBS.out.symm, rfl⟩))
      have HCF := HK
      clear HK htk
      have g1 := HC1.out _ HCF.out.below
      go_wp2_with fail
      refine (HCRA.out _ _ _ _ HCF.out.below HCF.out.live).mono ?_
      rintro e wc ⟨rfl, hl⟩
      have HCC := Lib.hid (HCF.out.moved hl)
      clear hl HCRA g1
      obtain ⟨j, tr, hrd, hj1, hj2, hj3, hj4⟩ := HRB.out
      have HRR := Lib.hid (HCC.out.live.wread 1 (by omega) (HT.out _ HCC.out.below) hrd)
      clear hrd HRB
      go_wp2_with fail
      refine HRR.out.mono ?_
      rintro e wz ⟨v, rfl, hown, hl⟩
      have HCZ := Lib.hid (HCC.out.moved hl)
      have htj : (bs.take j).length = j := by rw [List.length_take]; omega
      have hta : (bs.take (k)).length = k := by rw [List.length_take, HBS.out]; omega
      have hown2 : wz.ownsRow wc.heap.size 9 1 v (bs.take j).length (strs (bs.take j)) := hown
      rw [htj] at hown2
      obtain ⟨AJ, CJ, rfl, hzj⟩ := strs_of_own htj hown2
      obtain ⟨AF, CF, hvF, hzf⟩ := strs_of_own hta HCZ.out.row
      have HZJ := Lib.hid hzj
      have HZF := Lib.hid hzf
      rw [HBS.out] at hj2
      have HTJ : Hid ((texts (bs.take j)).length = j) := Lib.hid (by rw [texts_length, htj])
      have HTA : Hid ((texts (bs.take (k))).length = k) := Lib.hid (by rw [texts_length, hta])
      clear hown hown2 hl hzj hzf htj hta HRR HCC HCF
      subst hvF
      have HFB := Lib.hid (HFIN.out _ HCZ.out.below)
      have n1 : ¬ (j : Int) < (k : Nat) := by omega
      have n2 : ¬ (((k) : Nat) : Int) < (j : Int) := by omega
      cases tr with
      | false =>
        go_wp2_with fail
        go_loopw [100] (fun i wq => ∃ q : Nat, q ≤ j ∧ i = .int .i64 q ∧ Below wz.heap.size wz wq) (fun i _ => j - (intOf i).toNat)
        case atStart => exact ⟨0, by omega, rfl, Below.refl _ _⟩
        case round =>
          obtain ⟨q, hq, rfl, hbq⟩ := hrel
          have HBQ := Lib.hid hbq
          clear hbq
          by_cases hqj : q < j
          · obtain ⟨g1, o1, hA1, -, hx1⟩ := HZJ.out.below HBQ.out (by rw [HTJ.out]; omega)
            obtain ⟨g2, o2, hA2, -, hx2⟩ := HZF.out.below HBQ.out (by rw [HTA.out]; omega)
            have e1 := hx1 q (by rw [HTJ.out]; exact hqj)
            have e2 := hx2 q (by rw [HTA.out]; omega)
            rw [texts_at bs j q hqj (by rw [HBS.out]; omega)] at e1
            rw [texts_at bs k q (by omega) (by rw [HBS.out]; omega)] at e2
            obtain ⟨t, ht⟩ : ∃ t : ByteArray, (⟨(bs[q]'(by rw [HBS.out]; omega)).toArray⟩ : ByteArray) = t := ⟨_, rfl⟩
            rw [ht] at e1 e2
            have i0 : (0 : Int) ≤ (q : Int) := by omega
            have i1 : (q : Int) < (j : Int) := by omega
            have i2 : (q : Int) < (k : Nat) := by omega
            have he : (t.toList == t.toList) = true := by simp
            subst hA1
            subst hA2
            clear hx1 hx2 ht
            go_wp2_with fail
            go_quiet (fail)
            go_wp2
            go_roundw
            case rel => exact ⟨q + 1, by omega, by go_num, (by first | exact HBQ.out | exact below_drewN HBQ.out _ | exact below_drewN (below_drewN HBQ.out _) _)⟩
            case measure => simp [intOf]; omega
          · have HE := Lib.hid (HFIN.out _ (HCZ.out.below.trans (HBQ.out.mono HCZ.out.live.le')))
            go_wp2
            go_ret
            exact ⟨rfl, HE.out⟩
      | true =>
        obtain ⟨hjk, hkl⟩ := hj4 rfl
        exact absurd hkl (by rw [HBS.out]; omega)

theorem facts {W : World} (h : laidMetH Tryd.prog Rows.walLastsRow.laid W) : Tab W := by
  rw [MakeChecks.laidMetH_plain _ _ _ (by kernel_rfl)] at h
  exact tab_of_laid h
set_option maxRecDepth 100000 in
set_option maxHeartbeats 1000000 in
theorem contract (H : Type) (enc : TypeId × Value → H) (W : World) (base : Nat) (args : Array Value) (ds gs : List (DataW H)) (before : List MemPlace)
    (hval : ∀ (j : Nat) t v, Tryd.f4.params[j]? = some t → args[j]? = some v → Value.okWide Tryd.prog W .any base t v)
    (hW : DataW.Whole enc Tryd.prog Tryd.f4.params.toList Rows.walLastsSpec.vars false W args.toList ds gs before)
    (hz : (DataW.weightsEach Tryd.prog Tryd.f4.params.toList (ds ++ gs)).all (· ≤ reachBytes) = true)
    (hL : laidMetH Tryd.prog Rows.walLastsRow.laid W) :
    Calls Tryd.prog 4 args W fun e W' => ∃ v, e = .returned v ∧ Rows.walLastsSpec.post enc Tryd.prog Tryd.f4 false true false false W args v W' := by
  have hW' := hW
  obtain ⟨p, q, hA0, hV, rfl, hfz, hnd⟩ := hW
  have hA : DataW.TrodAll enc Tryd.prog W 0 (fun _ => true) true Tryd.f4.params.toList args.toList ds p := hA0
  rw [Tryd.params4] at hA hval hz
  obtain ⟨v0, vs0, d0, ds0, p0, q0, hargs, rfl, rfl, h0, r0⟩ := trodAll_cons hA
  obtain ⟨v1, vs1, d1, ds1, p1, q1, rfl, rfl, rfl, h1, r1⟩ := trodAll_cons r0
  obtain ⟨v2, vs2, d2, ds2, p2, q2, rfl, rfl, rfl, h2, r2⟩ := trodAll_cons r1
  obtain ⟨rfl, rfl, rfl⟩ := trodAll_nil r2
  obtain rfl : args = #[v0, v1, v2] := by cases args; simp_all
  obtain ⟨rfl, rfl⟩ := trodVars_none hV
  obtain ⟨bodiesA, bodiesN, bodiesC, bodies, rfl, hlenbodies, hinbodies, hcapbodies, hbbodies, hsbodies⟩ := open_texts (hval 0 28 v0 rfl rfl) h0 (texts_sized hz (j := 0) rfl rfl)
  obtain ⟨cut0, cut1, rfl, rfl, hfcut0, hfcut1⟩ := open_ints2 Tryd.underlying29 Tryd.underlying3 (by kernel_rfl) (by kernel_rfl) (hval 1 29 v1 rfl rfl) h1
  obtain ⟨bytesA, bytesN, bytesC, bytes, rfl, hlenbytes, hinbytes, hfitbytes, hbbytes⟩ := open_nums Tryd.underlying30 Tryd.underlying3 (by kernel_rfl) (by kernel_rfl) (hval 2 30 v2 rfl rfl) h2 (nums_sized hz (j := 2) rfl rfl)
  have hf := facts hL
  refine (walk bodiesA bodiesN bodiesC bodies cut0 cut1 bytesA bytesN bytesC bytes W hlenbodies hinbodies hcapbodies hbbodies hsbodies hlenbytes hinbytes hfitbytes hbbytes hfcut0 hfcut1 hf).mono fun e W' ⟨he, hB⟩ => ?_
  subst he
  exact ⟨_, rfl, law_post Tryd.laidOut (by kernel_rfl) rfl rfl Tryd.underlying4 hW' rfl hB⟩

set_option maxRecDepth 100000 in
theorem lifted (os : Os) (started : os.Started) (H : Type) (enc : TypeId × Value → H) :
    ReturnsInHanded {} Tryd.checked os 4 .any (fun w args => (Rows.walLastsSpec.pre enc Tryd.prog Tryd.f4 [] false w args ∧ laidMetH Tryd.prog Rows.walLastsRow.laid w) ∧ sizedMet enc Tryd.prog Tryd.f4 (OpenSpec.ofChange Rows.walLastsSpec) false w args) (Rows.walLastsSpec.post enc Tryd.prog Tryd.f4 false true false false) := by
  refine returnsInHanded_of_change_and (C := Tryd.checked) (X := fun w _ => laidMetH Tryd.prog Rows.walLastsRow.laid w) (fun _ _ _ hh h => h.of_heap hh) Tryd.own started (by kernel_rfl) Tryd.func4
    (ChangeSpec.witness_shaped (enc := enc) (C := Tryd.checked) (os := os) (X := fun w _ => laidMetH Tryd.prog Rows.walLastsRow.laid w) false (World.laidAll Tryd.prog os Rows.walLastsRow.laid) #[.slice none 0 0, .agg #[.int .i64 0, .int .i64 0], .slice none 0 0] 8 (World.laidAll_os _ _ _) (World.shaped_of_ZipB (by kernel_rfl) (by kernel_rfl)) (by kernel_rfl) (by kernel_rfl) (by kernel_rfl)
      (by rw [MakeChecks.laidMetH_plain _ _ _ (by kernel_rfl)]; exact laidMet_laidAll _ (by kernel_rfl) (by kernel_rfl))) ?_
  intro W base args ds gs before hval hW _ hz hL _
  exact contract H enc W base args ds gs before hval hW hz hL

theorem proved : Rows.WalLastsSaid :=
  OpenClaim.holds_of_wide 4 Tryd.f4 rfl rfl rfl rfl rfl rfl rfl ⟨rfl, rfl, rfl, rfl, rfl⟩ rfl rfl rfl rfl rfl (by kernel_rfl) Tryd.func4 (by kernel_rfl)
    (of_decide_eq_true (by kernel_rfl)) (by unfold Func.isWrapper; first | (rw [if_pos (by decide +kernel)]; kernel_rfl) | (rw [if_neg (by decide +kernel)]; exact ⟨rfl, rfl⟩))
    (fun os started H enc _ => lifted os started H enc)

set_option maxRecDepth 100000 in
theorem card : Rows.WalLastsCardSaid :=
  Claim7.holds_tied_plain_at .later [] _ true _ true
    proved (fun _ h => by cases h) (by kernel_rfl) (fun _ h => by cases h) walLasts_row_tie rfl ⟨rfl, rfl⟩ (by kernel_rfl) rfl
    (fun f fn hf hfn => by
      obtain rfl : f = 4 := Option.some.inj ((show Tryd.prog.funcNamed "oxbow/oxbowlaw08.WalLasts" = some 4 by kernel_rfl).symm.trans hf) |>.symm
      obtain rfl : fn = Tryd.f4 := (Option.some.inj (Tryd.func4.symm.trans hfn)).symm
      exact ⟨by kernel_rfl, fun j t ht => by
        rw [Tryd.params4] at ht
        have hm : t ∈ [28, 29, 30] := by simpa using Array.mem_of_getElem? ht
        have hall : ([28, 29, 30].all fun u => !Tryd.prog.wantsStandIn u) = true := by kernel_rfl
        exact (show Tryd.prog.wantsStandIn t = false by simpa using List.all_eq_true.1 hall t hm)⟩)
    (by kernel_rfl)
end lawLasts
end Go.Proofs.YtgknkldhjejjmaaDoor
