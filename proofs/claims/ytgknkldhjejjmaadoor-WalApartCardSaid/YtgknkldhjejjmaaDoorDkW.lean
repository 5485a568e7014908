/- Spoil: a bit of a file is turned. -/
import Derived.Test.YtgknkldhjejjmaaDoorDkV
import Derived.Laws.BitsAllLaws
namespace Go.Proofs.YtgknkldhjejjmaaDoor
open Go.RowKit Go.Maps
open DM

theorem flip_bit (x : UInt8) (K : Nat) (h : K < 8) : bits .xor .u8 (x.toNat : Int) ((2 : Int) ^ K % 256) = ((x ^^^ UInt8.ofNat (2 ^ K)).toNat : Int) := by
  have h2 : (2 : Nat) ^ K < 256 := by
    have : (2 : Nat) ^ K < 2 ^ 8 := Nat.pow_lt_pow_right (by decide) h
    omega
  have e : (2 : Int) ^ K % 256 = ((2 ^ K : Nat) : Int) := by
    have : K = 0 ∨ K = 1 ∨ K = 2 ∨ K = 3 ∨ K = 4 ∨ K = 5 ∨ K = 6 ∨ K = 7 := by omega
    rcases this with rfl | rfl | rfl | rfl | rfl | rfl | rfl | rfl <;> decide
  rw [e, u8_xor_nat _ _ x.toNat_lt h2, UInt8.toNat_xor, UInt8.toNat_ofNat', Nat.mod_eq_of_lt (by simpa using h2)]

def SpoilOut (B : Nat) (w : World) (d : Nat) (s : St) (e : Ending) (w' : World) : Prop := e = .returned (.tuple #[]) ∧ Moves B w w' ∧ ∃ g, Rep B w' d s g

/-- one byte of a row turned -/
theorem Row.turned {B : Nat} {w : World} {r L c : Nat} {l : Bs} (h : Row B w (.slice (some ⟨r, 0, none⟩) L c) l) (hL : L = l.length) (J : Nat) (hJ : J < l.length) (y : UInt8) :
    Row B (w.setCell ⟨r, J, none⟩ (.int .u8 (y.toNat : Int))) (.slice (some ⟨r, 0, none⟩) L c) (l.set J y) ∧ w.cell? ⟨r, J, none⟩ = some (.int .u8 (l[J].toNat : Int)) ∧ w.frozen? ⟨r, J, none⟩ = false ∧ Kin w r ∧ B ≤ r ∧ ∃ cur, w.heap[r]? = some (.cells cur 5 (0, 0)) := by
  rcases h with ⟨e, _⟩ | ⟨r', cap, cur, e, hr, hg, h4, h5, h6, htk⟩
  · cases e
  · cases e
    have hb := Lib.bytes_of_row hg (l := l) htk J hJ
    rw [addr_add0] at hb
    refine ⟨.inr ⟨r, c, _, by rw [List.length_set, ← hL], hr, heap_set_fr hg J _, by rw [List.length_set]; exact h4, h5, by simpa using h6, ?_⟩, hb, frozen_of_row _ _ _ _ _ hg, kin_cells hg (by decide), hr, _, hg⟩
    rw [List.length_set, Array.toList_setIfInBounds, List.take_set, htk]
    simp [Lib.byteCells, List.map_set]

theorem spoilt {B : Nat} {w : World} {d : Nat} {s : St} {g : Gh} (h : Rep B w d s g) (ok : Ok s) (hB : B ≤ w.heap.size) {k : Bs} {n : Nat} (hf : find s.names k = some n) {r RC : Nat} (hrow : g.row n = .slice (some ⟨r, 0, none⟩) (fileAt s n).data.length RC) (J : Nat) (hJ : J < (fileAt s n).data.length) (y : UInt8) :
    w.cell? ⟨r, J, none⟩ = some (.int .u8 ((fileAt s n).data[J].toNat : Int)) ∧ w.frozen? ⟨r, J, none⟩ = false ∧
    SpoilOut B w d { s with files := s.files.set n ⟨(fileAt s n).data.set J y, (fileAt s n).sync⟩ } (.returned (.tuple #[])) (w.setCell ⟨r, J, none⟩ (.int .u8 (y.toNat : Int))).drew := by
  have hnl := ok.names_live (find_some hf)
  have hfn := h.body.files n hnl
  have hrw := hfn.2.2
  rw [hrow] at hrw
  obtain ⟨t1, t2, t3, t4, t5, cur, t6⟩ := hrw.turned rfl J hJ y
  have hne : g.blk n ≠ r := fun e => by
    have := hfn.2.1
    rw [e, t6] at this
    injection this with this
    injection this with _ h2
    exact absurd h2 (by decide)
  have hfl := h.half.file (w' := w.setCell ⟨r, J, none⟩ (.int .u8 (y.toNat : Int))) (fun n hn => ok.live_lt hn) hnl (f := ⟨(fileAt s n).data.set J y, (fileAt s n).sync⟩) (v := g.row n)
    (fun x o hx _ h2 => by
      refine (Below.heap_setCell _ _ _ _ (fun e => ?_)).trans hx
      have e' : x = r := e
      subst e'
      rw [t6] at hx
      rcases h2 cur (0, 0) with h3 | h3
      · exact h3 (Option.some.inj hx).symm
      · exact h3 (by rw [hrow]; rfl))
    ((Below.heap_setCell _ _ _ _ hne).trans hfn.2.1) (by rw [hrow]; exact t1) (.inr (.inl rfl))
  have hrw2 : (fun m => if m = n then g.row n else g.row m) = g.row := by
    funext m
    by_cases hm : m = n
    · subst hm; rw [if_pos rfl]
    · rw [if_neg hm]
  rw [hrw2] at hfl
  have hdr := hfl.drew
  refine ⟨t2, t3, rfl, ((Moves.refl B w).setCell (p := ⟨r, J, none⟩) hB t5 t4 _).drew, g, hdr.body, ?_, hdr.le⟩
  rw [hdr.at_]
  have hus := used_set (n := n) (fs := s.files) (f := ⟨(fileAt s n).data.set J y, (fileAt s n).sync⟩) (ok.live_lt hnl) ok.gnames.sorted ok.gnames.one k (find_some hf)
  have hu4 : used (s.files.set n ⟨(fileAt s n).data.set J y, (fileAt s n).sync⟩) s.names = used s.files s.names := by
    have : lens s.files n = (fileAt s n).data.length := rfl
    rw [this] at hus
    simp only [List.length_set] at hus
    omega
  have hl4 : (s.files.set n ⟨(fileAt s n).data.set J y, (fileAt s n).sync⟩).length = s.files.length := by simp
  unfold dC
  simp only [hu4, hl4]

set_option maxRecDepth 100000 in
set_option maxHeartbeats 2000000 in
theorem spoil_some {B : Nat} {w : World} {d : Nat} {s : St} {g : Gh} (h : Rep B w d s g) (ok : Ok s) (hB : B ≤ w.heap.size) (k : ByteArray) (hk : k.size ≤ 140737488355328) (bit : Int) (hbit : fits bit) {b1 : Nat} (e1 : g.m1 = some b1) :
    Calls Tryd.prog 19 #[.pointer (some ⟨d, 0, none⟩), .string k, .int .i64 bit] w (SpoilOut B w d (DM.spoil k.data.toList bit s)) := by
  have hlk := look (h.own1 e1) k (by rw [show maxLen = 9223372036854775807 from rfl]; omega)
  have hc3 : w.cell? ⟨d, 3, none⟩ = some (.map (some b1)) := by
    have := h.cells.2.2.2.1
    rw [e1] at this
    exact this
  unfold DM.spoil
  cases hf : find s.names k.data.toList with
  | none =>
    rw [hf] at hlk
    simp only [pv] at hlk ⊢
    have HE : Hid (SpoilOut B w d s (.returned (.tuple #[])) w) := ⟨rfl, Moves.refl _ _, g, h⟩
    clear h ok hf e1
    go_enter Tryd.func19, Tryd.ntmps19
    go_wp2
    exact bodyPost_ret (v := .tuple #[]) (by simp [results, Tryd.results19, go_sem]) rfl HE.out
  | some n =>
    rw [hf] at hlk
    simp only [pv] at hlk ⊢
    have hfn := find_live h.body ok.names hf
    obtain ⟨RA, RC, hrow⟩ := row_slice hfn
    have hcA : w.cell? ⟨g.blk n, 1, none⟩ = some (.slice RA (fileAt s n).data.length RC) := by
      rw [cell_of_row _ _ _ _ _ _ hfn.2.1]
      show some (g.row n) = _
      rw [hrow]
    have hll : lens s.files n = (fileAt s n).data.length := rfl
    have hlim := ok.lens_le n
    by_cases hd : (fileAt s n).data = []
    · rw [if_pos hd]
      rw [hd] at hcA
      have HE : Hid (SpoilOut B w d s (.returned (.tuple #[])) w) := ⟨rfl, Moves.refl _ _, g, h⟩
      obtain ⟨b, hb⟩ : ∃ b, g.blk n = b := ⟨_, rfl⟩
      rw [hb] at hcA hlk
      clear h ok hf e1 hfn hrow hb hd hll hlim
      go_enter Tryd.func19, Tryd.ntmps19
      go_wp2
      exact bodyPost_ret (v := .tuple #[]) (by simp [results, Tryd.results19, go_sem]) rfl HE.out
    · rw [if_neg hd]
      have hL0 : 0 < (fileAt s n).data.length := List.length_pos_iff.2 hd
      obtain ⟨r, hr⟩ : ∃ r, RA = some ⟨r, 0, none⟩ := by
        have hrw := hfn.2.2
        rw [hrow] at hrw
        rcases hrw with ⟨e, h0⟩ | ⟨r, _, _, e, _⟩
        · exact absurd h0 hd
        · cases e; exact ⟨r, rfl⟩
      subst hr
      rw [hll] at hlim ⊢
      have hR : rest bit (8 * (fileAt s n).data.length) < 8 * (fileAt s n).data.length := rest_lt _ (by omega)
      have HREM : Hid (∀ W, Calls Tryd.prog 39 #[.int .i64 bit, .int .i64 (8 * ((fileAt s n).data.length : Int))] W fun e w' => e = .returned (.int .i64 (rest bit (8 * (fileAt s n).data.length))) ∧ W = w') := fun W => by
        have := rem_any bit (8 * (fileAt s n).data.length) W hbit (by omega) (by omega)
        rw [show ((8 * (fileAt s n).data.length : Nat) : Int) = 8 * ((fileAt s n).data.length : Int) from by omega] at this
        exact this
      obtain ⟨R, hRd⟩ : ∃ R, rest bit (8 * (fileAt s n).data.length) = R := ⟨_, rfl⟩
      rw [hRd] at hR HREM ⊢
      have hJ : R / 8 < (fileAt s n).data.length := by omega
      have hget : (fileAt s n).data.getD (R / 8) 0 = (fileAt s n).data[R / 8] := by rw [List.getD_eq_getElem?_getD, List.getElem?_eq_getElem hJ, Option.getD_some]
      unfold DM.flip
      rw [hget]
      have hfb := flip_bit (fileAt s n).data[R / 8] (R % 8) (Nat.mod_lt _ (by decide))
      obtain ⟨t2, t3, t4⟩ := spoilt h ok hB hf hrow (R / 8) hJ ((fileAt s n).data[R / 8] ^^^ UInt8.ofNat (2 ^ (R % 8)))
      have HE := Lib.hid t4
      have q1 : (R : Int) / 8 = ((R / 8 : Nat) : Int) := by omega
      have q2 : (R : Int) % 8 = ((R % 8 : Nat) : Int) := by omega
      obtain ⟨y, hy⟩ : ∃ y, (fileAt s n).data[R / 8] ^^^ UInt8.ofNat (2 ^ (R % 8)) = y := ⟨_, rfl⟩
      obtain ⟨x, hx⟩ : ∃ x, (fileAt s n).data[R / 8] = x := ⟨_, rfl⟩
      obtain ⟨L, hL⟩ : ∃ L, (fileAt s n).data.length = L := ⟨_, rfl⟩
      obtain ⟨b, hb⟩ : ∃ b, g.blk n = b := ⟨_, rfl⟩
      rw [hy] at HE hfb ⊢
      rw [hx] at hfb t2
      rw [hL] at HREM hcA hR hJ hL0 hlim
      rw [hb] at hcA hlk
      have i0 : (0 : Int) ≤ ((R / 8 : Nat) : Int) := by omega
      have i1 : ((R / 8 : Nat) : Int) < (L : Int) := by omega
      have i2 : R % 8 < 8 := by omega
      obtain ⟨J, hJd⟩ : ∃ J, R / 8 = J := ⟨_, rfl⟩
      obtain ⟨K, hKd⟩ : ∃ K, R % 8 = K := ⟨_, rfl⟩
      simp only [hJd] at HE t2 t3 q1 i0 i1 ⊢
      simp only [hKd] at hfb q2 i2
      have i3 : ¬ L = 0 := by omega
      clear h ok hf e1 hfn hrow hb hd hll hRd hget hx hy hL hJd hKd t4 hJ
      go_enter Tryd.func19, Tryd.ntmps19
      go_wp2_with fail
      refine (HREM.out _).mono ?_
      rintro e w2 ⟨rfl, rfl⟩
      go_wp2_with fail
      go_region
      go_wp2
      go_end0
      exact HE.out

set_option maxRecDepth 100000 in
set_option maxHeartbeats 2000000 in
theorem spoil_none {B : Nat} {w : World} {d : Nat} {s : St} {g : Gh} (h : Rep B w d s g) (k : ByteArray) (hk : k.size ≤ 140737488355328) (bit : Int) (e1 : g.m1 = none) :
    Calls Tryd.prog 19 #[.pointer (some ⟨d, 0, none⟩), .string k, .int .i64 bit] w (SpoilOut B w d (DM.spoil k.data.toList bit s)) := by
  have hnm : s.names = [] := by
    rcases h.body.maps with ⟨_, h4, h1, h2, h3⟩ | ⟨b1, b2, e, _⟩
    · exact h1
    · rw [e1] at e; cases e
  have hc3 : w.cell? ⟨d, 3, none⟩ = some (.map none) := by
    have := h.cells.2.2.2.1
    rw [e1] at this
    exact this
  have hsp : DM.spoil k.data.toList bit s = s := by
    unfold DM.spoil
    rw [hnm]
    rfl
  rw [hsp]
  have HE : Hid (SpoilOut B w d s (.returned (.tuple #[])) w) := ⟨rfl, Moves.refl _ _, g, h⟩
  have hk2 : k.size ≤ maxLen := by rw [show maxLen = 9223372036854775807 from rfl]; omega
  have hlk : (Instr.lookup 52 (.map none) (.string k) false).run Tryd.prog w = .ok (.pointer none) w := by
    simpa using Maps.look_nil (w := w) false keyLaw Tryd.underlying52 (zeroPtr w) (WideMaps.keyOf_string_mk Tryd.underlying9 hk2)
  clear h e1 hnm hsp
  go_enter Tryd.func19, Tryd.ntmps19
  go_wp2
  exact bodyPost_ret (v := .tuple #[]) (by simp [results, Tryd.results19, go_sem]) rfl HE.out

theorem spoil_any {B : Nat} {w : World} {d : Nat} {s : St} {g : Gh} (h : Rep B w d s g) (ok : Ok s) (hB : B ≤ w.heap.size) (k : ByteArray) (hk : k.size ≤ 140737488355328) (bit : Int) (hbit : fits bit) :
    Calls Tryd.prog 19 #[.pointer (some ⟨d, 0, none⟩), .string k, .int .i64 bit] w (SpoilOut B w d (DM.spoil k.data.toList bit s)) := by
  cases e : g.m1 with
  | none => exact spoil_none h k hk bit e
  | some b => exact spoil_some h ok hB k hk bit hbit e

/-! ### the same, of a disk as a bundle -/
theorem lim_spoil {N M : Nat} {s : St} (h : Lim N M s) (k : Bs) (bit : Int) : Lim N M (DM.spoil k bit s) := by
  unfold DM.spoil
  split
  · exact h
  · split
    · exact h
    · exact ⟨h.queue, by have := h.files; simp; omega, h.cut⟩

theorem Live.spoil {B : Nat} {w0 w : World} {d : Nat} {s : St} {N M : Nat} (h : Live B w0 w d s N M) (k : ByteArray) (hk : k.size ≤ 140737488355328) (bit : Int) (hbit : fits bit) :
    Calls Tryd.prog 19 #[.pointer (some ⟨d, 0, none⟩), .string k, .int .i64 bit] w (VoidOut B w0 d (DM.spoil k.data.toList bit s) N M) := by
  obtain ⟨g, hg⟩ := h.rep
  exact (spoil_any hg h.ok h.le' k hk bit hbit).mono fun e w' ⟨he, hm, hr⟩ => ⟨he, h.moves.trans hm, ok_spoil h.ok _ _, lim_spoil h.lim _ _, hr, h.le, h.few⟩

end Go.Proofs.YtgknkldhjejjmaaDoor
