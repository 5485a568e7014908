/- sourcesOf: all lists that have entries, as a heap. -/
import Derived.Test.YtfbhdggmefacjaaHx
import Derived.Test.YtfbhdggmefacjaaMq
namespace Go.Proofs.Ytfbhdggmefacjaa
open Go.RowKit
open SK HP
attribute [local go_sem ↓] Go.wp_at_zero Go.wp_at_succ

/-- a list of entries where it lies: where, its capacity, its entries -/
structure LE where
  A : Option Addr
  c : Nat
  l : List SK.E

/-- lists of entries that come in -/
structure ListsIn (w : World) (A : Option Addr) (ls : List LE) : Prop where
  ents : ∀ x ∈ ls, EntsIn w x.A x.l ∧ x.l.length ≤ x.c
  at_ : 0 < ls.length → ∃ b off, A = some ⟨b, off, none⟩ ∧ b < w.heap.size ∧ ∀ j, (h : j < ls.length) → w.cell? ⟨b, off + j, none⟩ = some (.slice ls[j].A ls[j].l.length ls[j].c)

theorem ListsIn.below {w w' : World} {A : Option Addr} {ls : List LE} (h : ListsIn w A ls) (hb : Below w.heap.size w w') : ListsIn w' A ls :=
  ⟨fun x hx => ⟨(h.ents x hx).1.below hb, (h.ents x hx).2⟩, fun hn => by
    obtain ⟨b, off, hA, hlt, hc⟩ := h.at_ hn
    exact ⟨b, off, hA, Nat.lt_of_lt_of_le hlt hb.size, fun j hj => (hb.cell (p := ⟨b, off + j, none⟩) hlt).trans (hc j hj)⟩⟩

/-- the sources of the first m lists -/
structure SrcsOf (ls : List LE) (m : Nat) (L : List Src) : Prop where
  from_ : ∀ s ∈ L, s.left ≠ [] ∧ s.place < m ∧ (ls.map (·.l))[s.place]? = some s.left
  all : ∀ (i : Nat) (l : List SK.E), i < m → (ls.map (·.l))[i]? = some l → l ≠ [] → ∃ s ∈ L, s.place = i ∧ s.left = l
  apart : ∀ s ∈ L, ∀ t ∈ L, s.place = t.place → s = t
  len : L.length ≤ m
  sum : tot L ≤ ((ls.map (·.l)).take m).flatten.length

theorem take_more (ls : List LE) (m : Nat) (hm : m < ls.length) : ((ls.map (·.l)).take (m + 1)).flatten.length = ((ls.map (·.l)).take m).flatten.length + ls[m].l.length := by
  rw [List.take_succ_eq_append_getElem (by simpa using hm)]
  simp only [List.flatten_append, List.length_append, List.getElem_map]
  simp

theorem SrcsOf.skip {ls : List LE} {m : Nat} {L : List Src} (h : SrcsOf ls m L) (hm : m < ls.length) (he : ls[m].l = []) : SrcsOf ls (m + 1) L :=
  ⟨fun s hs => ⟨(h.from_ s hs).1, by have := (h.from_ s hs).2.1; omega, (h.from_ s hs).2.2⟩, fun i l hi hl hne => by
    by_cases e : i = m
    · subst e
      rw [List.getElem?_map, List.getElem?_eq_getElem hm, Option.map_some, Option.some.injEq] at hl
      rw [he] at hl
      exact absurd hl.symm hne
    · exact h.all i l (by omega) hl hne, h.apart, by have := h.len; omega, by have := h.sum; rw [take_more ls m hm]; omega⟩
theorem SrcsOf.more {ls : List LE} {m : Nat} {L : List Src} (h : SrcsOf ls m L) (hm : m < ls.length) (s : Src) (hp : s.place = m) (hl : s.left = ls[m].l) (hne : ls[m].l ≠ []) : SrcsOf ls (m + 1) (L ++ [s]) :=
  ⟨fun x hx => by
    rcases List.mem_append.1 hx with hx | hx
    · exact ⟨(h.from_ x hx).1, by have := (h.from_ x hx).2.1; omega, (h.from_ x hx).2.2⟩
    · rw [List.mem_singleton.1 hx]
      exact ⟨by rw [hl]; exact hne, by omega, by rw [hp, hl]; simp [hm]⟩, fun i l hi hli hne => by
    by_cases e : i = m
    · subst e
      rw [List.getElem?_map, List.getElem?_eq_getElem hm, Option.map_some, Option.some.injEq] at hli
      exact ⟨s, by simp, hp, by rw [hl, hli]⟩
    · obtain ⟨x, hx, h1, h2⟩ := h.all i l (by omega) hli hne
      exact ⟨x, by simp [hx], h1, h2⟩, fun x hx y hy hxy => by
    rcases List.mem_append.1 hx with hx | hx
    · rcases List.mem_append.1 hy with hy | hy
      · exact h.apart x hx y hy hxy
      · have := (h.from_ x hx).2.1
        rw [List.mem_singleton.1 hy] at hxy
        omega
    · rcases List.mem_append.1 hy with hy | hy
      · have := (h.from_ y hy).2.1
        rw [List.mem_singleton.1 hx] at hxy
        omega
      · rw [List.mem_singleton.1 hx, List.mem_singleton.1 hy], by have := h.len; simp; omega, by
    have h1 := h.sum
    have h2 : tot (L ++ [s]) = tot (s :: L) := tot_perm (List.perm_append_singleton _ _)
    rw [h2, tot_cons, take_more ls m hm, hl]
    omega⟩

/-- a new heap, with nothing in it -/
theorem hp_new (w : World) : Hp w ((w.alloc (.cells #[] 77)).alloc (.cells #[.slice (some ⟨w.heap.size, 0, none⟩) 0 0] 76)) (w.heap.size + 1) (.slice (some ⟨w.heap.size, 0, none⟩) 0 0) [] := by
  have h1 := heap_alloc_new w (.cells #[] 77)
  have h2 := heap_alloc_new (w.alloc (.cells #[] 77)) (.cells #[.slice (some ⟨w.heap.size, 0, none⟩) 0 0] 76)
  have hs : (w.alloc (.cells #[] 77)).heap.size = w.heap.size + 1 := by simp
  rw [hs] at h2
  exact ⟨((Below.refl _ w).alloc (Nat.le_refl _) _).alloc (by simp) _, h2, by omega, ⟨rfl, .inr ⟨_, 0, #[], rfl, Nat.le_refl _, (Below.heap_alloc _ _ _ (by simp)).trans h1, Nat.le_refl _, by unfold maxLen; omega, rfl, rfl⟩⟩, by simp, by simp, by simp, by simp, by simp⟩

theorem Hp.box_grown {W0 w w1 : World} {p : Nat} {v : Value} {L : List Src} (h : Hp W0 w p v L) (hg : w.grownBy w1 v.ownBlock) : w1.heap[p]? = some (.cells #[v] 76 (0, 0)) := by
  refine (hg.block p (lt_of_at h.box) (fun e => ?_)).trans h.box
  rcases h.own.2 with ⟨e', _⟩ | ⟨g', cap, cur, e', _, h3, _⟩
  · rw [e'] at e; cases e
  · rw [e'] at e
    injection e with e
    exact ne_type h.box h3 (by decide) e

set_option maxRecDepth 100000 in
set_option maxHeartbeats 4000000 in
theorem sources_any (A : Option Addr) (n c : Nat) (ls : List LE) (w : World) (hn : ls.length = n) (hz : ListsIn w A ls) (h6 : n ≤ 1000000) :
    Calls Try.prog 21 #[.slice A n c] w fun e w' => ∃ p v L, e = .returned (.pointer (some ⟨p, 0, none⟩)) ∧ Hp w w' p v L ∧ SrcsOf ls n L ∧ From ltS 0 L.length (atL L) := by
  obtain ⟨i0, hi, hz0, hz1, hz2⟩ := info_parts info_psrc
  have HNEW := Lib.hid (hp_new w)
  have HZ := Lib.hid hz
  have HN := Lib.hid hn
  have HINI : Hid (∀ W p v L, Hp w W p v L → Calls Try.prog 35 #[ifc p] W fun e w' => e = .returned (.tuple #[]) ∧ ∃ M, Turn w W w' p v L M L.length ∧ From ltS 0 L.length (atL M)) := Lib.hid fun W p v L h => hinit_any h
  clear hz hn
  unfold ifc at HINI
  go_enter Try.func21, Try.ntmps21
  go_wp2_with fail
  generalize hq : (w.alloc (.cells #[] 77)).alloc (.cells #[.slice (some ⟨w.heap.size, 0, none⟩) 0 0] 76) = w2 at HNEW ⊢
  clear hq
  go_loopw [10] (fun i wr => ∃ (k : Nat) (v : Value) (L : List Src), k ≤ n ∧ i = .int .i64 k ∧ Hp w wr (w.heap.size + 1) v L ∧ SrcsOf ls k L) (fun i _ => n - (intOf i).toNat)
  case atStart => exact ⟨0, _, [], by omega, rfl, HNEW.out, ⟨by simp, fun i l h => by omega, by simp, by simp, by simp [tot]⟩⟩
  case round =>
    obtain ⟨k, v, L, hk, rfl, hp, hso⟩ := hrel
    have HPR := Lib.hid hp
    have HSO := Lib.hid hso
    by_cases hlt : k < n
    · have hkl : k < ls.length := by rw [HN.out]; exact hlt
      obtain ⟨b, off, hA, hbl, hc⟩ := (HZ.out.below hp.below).at_ (by omega)
      have hck := hc k hkl
      have c0 := hp.cell
      have f0 : wr.frozen? ⟨w.heap.size + 1, 0, none⟩ = false := frozen_of_row _ _ _ _ _ hp.box
      have hpl := lt_of_at hp.box
      obtain ⟨hek0, hcap⟩ := HZ.out.ents _ (List.getElem_mem hkl)
      have HSK : Hid (ls[k].l = [] → SrcsOf ls (k + 1) L) := Lib.hid fun he => HSO.out.skip hkl he
      have HMO : Hid (∀ s : Src, s.place = k → s.left = ls[k].l → ls[k].l ≠ [] → SrcsOf ls (k + 1) (L ++ [s])) := Lib.hid fun s h1 h2 h3 => HSO.out.more hkl s h1 h2 h3
      obtain ⟨x, hx⟩ : ∃ x, ls[k] = x := ⟨_, rfl⟩
      rw [hx] at hck hek0 hcap HSK HMO
      obtain ⟨xA, xc, xl⟩ := x
      simp only at hck hek0 hcap HSK HMO
      have g0 : (0 : Int) ≤ (k : Int) := by omega
      have g1 : (k : Int) < (n : Int) := by omega
      subst hA
      clear hx hc hp hso
      by_cases hxl : xl = []
      · have HS2 := Lib.hid (HSK.out hxl)
        subst hxl
        simp only [List.length_nil] at hck
        clear HMO HSK hcap
        go_wp2
        go_roundw
        case rel => exact ⟨k + 1, _, _, by omega, by go_num, HPR.out, HS2.out⟩
        case measure => simp [intOf]; omega
      · obtain ⟨m, hm⟩ : ∃ m, xl.length = m := ⟨_, rfl⟩
        have hmp : 0 < m := by
          cases xl with
          | nil => exact absurd rfl hxl
          | cons y t => simp at hm; omega
        have hmi : (0 : Int) < (m : Int) := by omega
        have HS2 := Lib.hid (fun s h1 h2 => HMO.out s h1 h2 hxl)
        rw [hm] at hck
        have hfew : L.length ≤ k := HSO.out.len
        clear HMO HSK
        have hlo := HPR.out.below.size
        have hB3 : Below wr.heap.size wr ((wr.alloc (.cells #[.slice xA m xc, .int .i64 k] 79)).alloc (.cells #[.pointer (some ⟨wr.heap.size, 0, none⟩)] 77)) := ((Below.refl _ _).alloc (Nat.le_refl _) _).alloc (by simp) _
        have HPU : Hid (∀ v' w4, w4.ownsRow w.heap.size 77 1 v' (L.length + 1) (L.map ptrS ++ [.pointer (some ⟨wr.heap.size, 0, none⟩)]) → ((wr.alloc (.cells #[.slice xA m xc, .int .i64 k] 79)).alloc (.cells #[.pointer (some ⟨wr.heap.size, 0, none⟩)] 77)).grownBy w4 v.ownBlock →
            Hp w (w4.setCell ⟨w.heap.size + 1, 0, none⟩ v') (w.heap.size + 1) v' (L ++ [⟨wr.heap.size, xA, xc, k, xl⟩]) ∧ w4.heap[w.heap.size + 1]? = some (.cells #[v] 76 (0, 0))) := Lib.hid fun v' w4 ho hg => by
          have h3 := HPR.out.bel hB3
          refine ⟨(h3.push ⟨wr.heap.size, xA, xc, k, xl⟩ ?_ hlo ?_ ⟨hek0, hcap, hxl, by show k ≤ 1000000; omega⟩ (by omega) ho hg).1, h3.box_grown hg⟩
          · rw [objS]
            simp only [hm]
            exact (Below.heap_alloc _ _ _ (by simp)).trans (heap_alloc_new wr _)
          · intro hmem
            obtain ⟨s', hs', he⟩ := List.mem_map.1 hmem
            have h1 := lt_of_at (HPR.out.obj s' hs')
            have h2 : s'.b = wr.heap.size := he
            omega
        go_wp2_with (at_builtin; refine wpList_append_own _ rfl _ _ 76 rfl w.heap.size 77 i0 _ 1 8 Try.underlying76 hi hz0 hz1 hz2 rfl (by decide) v _ _ rfl (own_below HPR.out.own hB3) ⟨wr.heap.size + 1, 0, none⟩ 1 1 [.pointer (some ⟨wr.heap.size, 0, none⟩)] rfl ?c1 ?c2 ?c3 ?c4 ?c5 ?c6 ?_)
        case c1 => rfl
        case c2 =>
          have := one_cell (wr.alloc (.cells #[.slice xA m xc, .int .i64 k] 79)) (.pointer (some ⟨wr.heap.size, 0, none⟩)) 77
          simpa using this
        case c3 => intro u hu; simp at hu; subst hu; rfl
        case c4 => unfold maxLen; omega
        case c5 => omega
        case c6 => simp; omega
        intro v' w4 hown4 hgrow4 hnil
        clear hnil
        obtain ⟨h4, h5⟩ := HPU.out v' w4 hown4 hgrow4
        have HP4 := Lib.hid h4
        have S4 : w4.cell? ⟨w.heap.size + 1, 0, none⟩ = some v := cell_of_row _ _ _ _ _ _ h5
        have F4 : w4.frozen? ⟨w.heap.size + 1, 0, none⟩ = false := frozen_of_row _ _ _ _ _ h5
        have HS3 := Lib.hid (HS2.out ⟨wr.heap.size, xA, xc, k, xl⟩ rfl rfl)
        obtain ⟨A6, n6, c6, rfl⟩ : ∃ A n c, v' = .slice A n c := by
          rcases hown4.2 with ⟨e, _⟩ | ⟨g', cap, cur, e, _⟩
          · exact ⟨_, _, _, e⟩
          · exact ⟨_, _, _, e⟩
        clear hown4 hgrow4 h4 h5 HPU hB3
        go_wp2
        go_roundw
        case rel => exact ⟨k + 1, _, _, by omega, by go_num, HP4.out, HS3.out⟩
        case measure => simp [intOf]; omega
    · have hkn : k = n := by omega
      subst hkn
      have HIN := Lib.hid (HINI.out _ _ _ _ hp)
      clear hp hso
      go_wp2_with fail
      refine HIN.out.mono ?_
      rintro e w3 ⟨rfl, M, hT, hF⟩
      have HT := Lib.hid hT
      have HF : Hid (From ltS 0 M.length (atL M)) := Lib.hid (by rw [hT.len]; exact hF)
      have HSM : Hid (SrcsOf ls k M) := Lib.hid (by
        have hpm := hT.perm
        exact ⟨fun s hs => HSO.out.from_ s (hpm.mem_iff.1 hs), fun i l h1 h2 h3 => by
          obtain ⟨s, hs, h4⟩ := HSO.out.all i l h1 h2 h3
          exact ⟨s, hpm.mem_iff.2 hs, h4⟩, fun s hs t ht => HSO.out.apart s (hpm.mem_iff.1 hs) t (hpm.mem_iff.1 ht), by rw [hpm.length_eq]; exact HSO.out.len, by rw [tot_perm hpm]; exact HSO.out.sum⟩)
      clear hT hF
      go_wp2
      go_ret
      exact ⟨_, _, M, rfl, HT.out.hp, HSM.out, HF.out⟩
end Go.Proofs.Ytfbhdggmefacjaa
