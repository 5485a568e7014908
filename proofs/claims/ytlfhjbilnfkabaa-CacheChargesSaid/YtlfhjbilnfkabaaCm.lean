/- Unpin, New, Kept. -/
import Derived.Test.YtlfhjbilnfkabaaCl
namespace Go.Proofs.Ytlfhjbilnfkabaa
open Go.RowKit Go.Maps
open BM CM

section
variable {w : World} {c z b N : Nat} {Z : Zs} {s : S}

set_option maxRecDepth 100000 in
theorem unpin_miss (h : Rep w c z b N Z s) {f k : Int} (hf : i64 f) (hk : i64 k) (he : at_ Z f k = none) :
    Calls Try.prog 25 #[.pointer (some ⟨c, 0, none⟩), keyV f k] w fun e w' => e = .returned (.bool false) ∧ Below w.heap.size w w' := by
  have hal : Below w.heap.size w (w.alloc (.cells #[.int .i64 f, .int .i64 k] 42)) := (Below.refl _ w).alloc (Nat.le_refl _) _
  have hfd := find_any (h.below hal).cor hf hk
  rw [he] at hfd
  unfold pV at hfd
  have HFD := Lib.hid hfd
  have HAL := Lib.hid hal
  have HSZ : Hid (w.heap.size ≤ (w.alloc (.cells #[.int .i64 f, .int .i64 k] 42)).heap.size) := Lib.hid (by simp)
  have hrow := heap_alloc_new w (.cells #[.int .i64 f, .int .i64 k] 42)
  have k0 : (w.alloc (.cells #[.int .i64 f, .int .i64 k] 42)).cell? ⟨w.heap.size, 0, none⟩ = some (.int .i64 f) := cell_of_row _ _ _ _ _ _ hrow
  have k1 : (w.alloc (.cells #[.int .i64 f, .int .i64 k] 42)).cell? ⟨w.heap.size, 1, none⟩ = some (.int .i64 k) := cell_of_row _ _ _ _ _ _ hrow
  clear hal hfd hrow h he
  unfold keyV at HFD ⊢
  go_enter Try.func25, Try.ntmps25
  go_wp2_with fail
  refine HFD.out.mono ?_
  rintro e w2 ⟨rfl, hb2⟩
  have HB2 := Lib.hid (HAL.out.trans (hb2.mono HSZ.out))
  clear hb2 HFD k0 k1
  go_wp2
  go_ret
  exact ⟨rfl, HB2.out⟩

theorem pins_same (i : Nat) (hi : i < Z.length) : setPins Z i Z[i].2.pins = Z := by
  apply List.ext_getElem (by rw [pins_len])
  intro j h1 h2
  rw [pins_at Z i _ j h2]
  split
  · rename_i h; subst h; rfl
  · rfl

set_option maxRecDepth 100000 in
set_option maxHeartbeats 1000000 in
theorem unpin_hit (h : Rep w c z b N Z s) {f k : Int} (hf : i64 f) (hk : i64 k) {i : Nat} (hi : i < Z.length) (he : at_ Z f k = some Z[i].1) :
    Calls Try.prog 25 #[.pointer (some ⟨c, 0, none⟩), keyV f k] w fun e w' => e = .returned (.bool (decide (0 < Z[i].2.pins))) ∧ Rep w' c z b N (setPins Z i (Z[i].2.pins - 1)) s ∧ Only (own c z b Z) w w' := by
  have hal : Below w.heap.size w (w.alloc (.cells #[.int .i64 f, .int .i64 k] 42)) := (Below.refl _ w).alloc (Nat.le_refl _) _
  have H1 := Lib.hid (h.below hal)
  have HO1 : Hid (Only (own c z b Z) w (w.alloc (.cells #[.int .i64 f, .int .i64 k] 42))) := Lib.hid (Only.of_below hal)
  have hfd := find_any H1.out.cor hf hk
  rw [he] at hfd
  unfold pV at hfd
  have HFD := Lib.hid hfd
  have hrow := heap_alloc_new w (.cells #[.int .i64 f, .int .i64 k] 42)
  have k0 : (w.alloc (.cells #[.int .i64 f, .int .i64 k] 42)).cell? ⟨w.heap.size, 0, none⟩ = some (.int .i64 f) := cell_of_row _ _ _ _ _ _ hrow
  have k1 : (w.alloc (.cells #[.int .i64 f, .int .i64 k] 42)).cell? ⟨w.heap.size, 1, none⟩ = some (.int .i64 k) := cell_of_row _ _ _ _ _ _ hrow
  have hx : Z[i] ∈ Z := List.getElem_mem hi
  have HPI : Hid (∀ W, Cor W c z b N Z → ∀ v : Nat, v ≤ 1000000000 → Cor (W.setCell ⟨Z[i].1, 3, none⟩ (.int .i64 v)) c z b N (setPins Z i v)) := Lib.hid fun W hW v hv => hW.pins hi hv
  have hps := (h.cor.wf _ hx).p
  have HSM : Hid (setPins Z i Z[i].2.pins = Z) := Lib.hid (pins_same i hi)
  obtain ⟨x, hxx⟩ : ∃ x, Z[i] = x := ⟨_, rfl⟩
  rw [hxx] at hx HFD hps HPI HSM ⊢
  obtain ⟨p, hpp⟩ : ∃ p, x.1 = p := ⟨_, rfl⟩
  obtain ⟨v, hvv⟩ : ∃ v, x.2.pins = v := ⟨_, rfl⟩
  rw [hpp] at HFD HPI
  rw [hvv] at hps HSM ⊢
  have HX := Lib.hid hx
  have HPX := Lib.hid hpp
  have HVX := Lib.hid hvv
  obtain ⟨v1, hv1⟩ : ∃ v1 : Nat, v - 1 = v1 := ⟨_, rfl⟩
  rw [hv1]
  have HV1 := Lib.hid hv1
  have HVB : Hid (v1 ≤ 1000000000) := Lib.hid (by omega)
  clear hv1
  clear hal hfd hrow h he hxx hpp hvv hx
  unfold keyV at HFD ⊢
  by_cases hz : v = 0
  · subst hz
    have hv0 : v1 = 0 := by have := HV1.out; omega
    subst hv0
    rw [HSM.out]
    have hd0 : decide (0 < 0) = false := rfl
    go_enter Try.func25, Try.ntmps25
    go_wp2_with fail
    generalize w.alloc (.cells #[.int .i64 f, .int .i64 k] 42) = w1 at H1 HO1 HFD k0 k1 ⊢
    refine HFD.out.mono ?_
    rintro e w2 ⟨rfl, hb2⟩
    have H2 := Lib.hid (H1.out.below hb2)
    have HO2 : Hid (Only (own c z b Z) w w2) := Lib.hid (HO1.out.trans (Only.of_below hb2 : Only (own c z b Z) w1 w2) (fun _ _ h => h))
    clear hb2 HFD H1 HO1 k0 k1
    have c3 := H2.out.cor.p3 HX.out
    rw [HPX.out, HVX.out] at c3
    go_wp2
    go_ret
    exact ⟨rfl, H2.out, HO2.out⟩
  · have hwv : IntKind.i64.wrap ((v : Int) - 1) = (v1 : Int) := by rw [IntWalk.i64_in _ ⟨by omega, by omega⟩]; have := HV1.out; omega
    have hd : ((v : Int) == 0) = false := beq_eq_false_iff_ne.2 (by omega)
    have hd0 : decide (0 < v) = true := decide_eq_true (by omega)
    rw [hd0]
    go_enter Try.func25, Try.ntmps25
    go_wp2_with fail
    generalize w.alloc (.cells #[.int .i64 f, .int .i64 k] 42) = w1 at H1 HO1 HFD k0 k1 ⊢
    refine HFD.out.mono ?_
    rintro e w2 ⟨rfl, hb2⟩
    have H2 := Lib.hid (H1.out.below hb2)
    have HO2 : Hid (Only (own c z b Z) w w2) := Lib.hid (HO1.out.trans (Only.of_below hb2 : Only (own c z b Z) w1 w2) (fun _ _ h => h))
    clear hb2 HFD H1 HO1 k0 k1
    have c3 := H2.out.cor.p3 HX.out
    rw [HPX.out, HVX.out] at c3
    have hpm : p ∈ ads Z := mem_ads.2 ⟨x, HX.out, HPX.out⟩
    have f3 := H2.out.cor.rows0.frozen_in hpm 3
    have hnb := H2.out.cor.nb H2.out.bud
    have H3 : Hid (Rep (w2.setCell ⟨p, 3, none⟩ (.int .i64 (v1 : Int))) c z b N (setPins Z i v1) s) := Lib.hid
      ⟨HPI.out w2 H2.out.cor v1 HVB.out, by rw [pins_ads]; exact H2.out.ring.pins c3, (Below.heap_setCell _ _ _ _ (fun e => hnb.2.2 (by have e' : b = p := e; rw [e']; exact hpm))).trans H2.out.bud, H2.out.ok, by rw [pins_tot]; exact H2.out.sum⟩
    have HO3 : Hid (Only (own c z b Z) w (w2.setCell ⟨p, 3, none⟩ (.int .i64 (v1 : Int)))) := Lib.hid (HO2.out.trans (Only.of_grown (grownBy_setCell w2 ⟨p, 3, none⟩ _) (Or.inr (Or.inr (Or.inr hpm))) : Only (own c z b Z) w2 _) (fun _ _ h => h))
    clear hpm hnb HPI
    go_wp2
    go_ret
    exact ⟨rfl, H3.out, HO3.out⟩
end

set_option maxRecDepth 100000 in
set_option maxHeartbeats 1000000 in
theorem cnew_any {w : World} {b : Nat} {s : S} (hb : BAt w b 0 s) (ok : Ok s) (h0 : s.k1 = 0) :
    Calls Try.prog 9 #[.pointer (some ⟨b, 0, none⟩)] w fun e w' => ∃ c z, e = .returned (.pointer (some ⟨c, 0, none⟩)) ∧ Rep w' c z b 0 [] s ∧ Below w.heap.size w w' ∧ w.heap.size ≤ z ∧ w.heap.size ≤ c := by
  have hm := World.ownsMap_made w Try.prog 42 ptrElem
  have hal1 : Below w.heap.size w (w.alloc (.map #[] 0)) := (Below.refl _ w).alloc (Nat.le_refl _) _
  have hsz : (w.alloc (.map #[] 0)).heap.size = w.heap.size + 1 := by simp
  have hmm : (Instr.makeMap 73 none).run Try.prog w = .ok (.map (some w.heap.size)) (w.alloc (.map #[] 0)) := run_makeMap _ _
  have HB := Lib.hid (hb.below hal1)
  obtain ⟨z, hz⟩ : ∃ z, w.heap.size = z := ⟨_, rfl⟩
  have HZ := Lib.hid hz
  generalize w.alloc (.map #[] 0) = W1 at hm hal1 hsz hmm HB
  have HAL := Lib.hid hal1
  rw [hz] at hm hmm hsz
  have HM := Lib.hid hm
  have hrow := heap_alloc_new W1 (.cells #[.pointer (some ⟨b, 0, none⟩), .map (some z), .int .i64 0, .int .i64 0, .string ⟨#[]⟩, .int .i64 0, .pointer none, .pointer none] 78)
  have hal2 : Below W1.heap.size W1 (W1.alloc (.cells #[.pointer (some ⟨b, 0, none⟩), .map (some z), .int .i64 0, .int .i64 0, .string ⟨#[]⟩, .int .i64 0, .pointer none, .pointer none] 78)) := (Below.refl _ W1).alloc (Nat.le_refl _) _
  obtain ⟨W2, hW2⟩ : ∃ W2, W1.alloc (.cells #[.pointer (some ⟨b, 0, none⟩), .map (some z), .int .i64 0, .int .i64 0, .string ⟨#[]⟩, .int .i64 0, .pointer none, .pointer none] 78) = W2 := ⟨_, rfl⟩
  have HW2 := Lib.hid hW2
  rw [hW2] at hrow hal2
  rw [hsz] at hrow
  have c6 : W2.cell? ⟨z + 1, 6, none⟩ = some (.pointer none) := cell_of_row _ _ _ _ _ _ hrow
  have c7 : W2.cell? ⟨z + 1, 7, none⟩ = some (.pointer none) := cell_of_row _ _ _ _ _ _ hrow
  have f6 : W2.frozen? ⟨z + 1, 6, none⟩ = false := frozen_of_row _ _ _ _ _ hrow
  have f7 : W2.frozen? ⟨z + 1, 7, none⟩ = false := frozen_of_row _ _ _ _ _ hrow
  have HROW := Lib.hid hrow
  have HAL2 := Lib.hid hal2
  have HSZ := Lib.hid hsz
  have HEND : Hid (∀ W : World, W.heap[z + 1]? = some (.cells #[.pointer (some ⟨b, 0, none⟩), .map (some z), .int .i64 0, .int .i64 0, .string ⟨#[]⟩, .int .i64 0, .pointer (some ⟨z + 1, 2, none⟩), .pointer (some ⟨z + 1, 2, none⟩)] 78 (0, 0)) →
      OwnM W z 0 (.map []) → BAt W b 0 s → Rep W (z + 1) z b 0 [] s) := Lib.hid fun W hh hm hb => by
    refine ⟨⟨⟨_, _, hh⟩, by simp, by simp [ads], List.Pairwise.nil, by simp, ⟨_, hm, by simp, fun f k _ _ _ => rfl⟩⟩, ?_, hb, ok, by rw [h0]; rfl⟩
    intro i hi
    have : i = 0 := by simpa [ads] using hi
    subst this
    exact ⟨cell_of_row _ _ _ _ _ _ hh, cell_of_row _ _ _ _ _ _ hh⟩
  clear hb hm hal1 hal2 hsz hz hrow hW2
  go_enter Try.func9, Try.ntmps9
  go_wp2_with fail
  simp only [HW2.out, HSZ.out]
  go_region
  all_goals
    have HR : Hid (Rep ((W2.setCell ⟨z + 1, 6, none⟩ (.pointer (some ⟨z + 1, 2, none⟩))).setCell ⟨z + 1, 7, none⟩ (.pointer (some ⟨z + 1, 2, none⟩))).drew (z + 1) z b 0 [] s) := Lib.hid (by
      refine HEND.out _ ?_ ?_ ?_
      · show ((W2.setCell ⟨z + 1, 6, none⟩ (.pointer (some ⟨z + 1, 2, none⟩))).setCell ⟨z + 1, 7, none⟩ (.pointer (some ⟨z + 1, 2, none⟩))).heap[z + 1]? = _
        rw [heap_set_fr (heap_set_fr HROW.out 6 _) 7 _]
        rfl
      · have h1 : OwnM W2 z 0 (.map []) := HM.out.kept (row := none) (grown_below HAL2.out) (by simp)
        exact ((h1.setCell (a := ⟨z + 1, 6, none⟩) (by simp) _).setCell (a := ⟨z + 1, 7, none⟩) (by simp) _).drew
      · have h1 : BAt W2 b 0 s := HB.out.below HAL2.out
        have hlt : b < z + 1 := by rw [← HSZ.out]; exact (Array.getElem?_eq_some_iff.1 HB.out).1
        have hne : b ≠ z + 1 := by omega
        exact ((Below.heap_setCell _ (⟨z + 1, 7, none⟩ : Addr) _ _ hne).trans (Below.heap_setCell _ (⟨z + 1, 6, none⟩ : Addr) _ _ hne)).trans h1)
    have HBE : Hid (Below w.heap.size w ((W2.setCell ⟨z + 1, 6, none⟩ (.pointer (some ⟨z + 1, 2, none⟩))).setCell ⟨z + 1, 7, none⟩ (.pointer (some ⟨z + 1, 2, none⟩))).drew) := Lib.hid
      ((((HAL.out.trans (HAL2.out.mono (by rw [HSZ.out, ← HZ.out]; exact Nat.le_succ _))).setCell (p := ⟨z + 1, 6, none⟩) (by rw [HZ.out]; exact Nat.le_succ _) _).setCell (p := ⟨z + 1, 7, none⟩) (by rw [HZ.out]; exact Nat.le_succ _) _).drew)
    have HLE : Hid (w.heap.size ≤ z) := Lib.hid (by rw [HZ.out]; exact Nat.le_refl _)
    go_wp2
    go_ret
    exact ⟨z + 1, z, rfl, HR.out, HBE.out, HLE.out, Nat.le_succ_of_le HLE.out⟩

/-! ### Kept -/
def kp (x : Nat × Blk) : Int × Int := (x.2.file, x.2.block)
def kcs (l : List (Int × Int)) : List Value := l.flatMap fun k => [.int .i64 k.1, .int .i64 k.2]
theorem kcs_len (l : List (Int × Int)) : (kcs l).length = l.length * 2 := by
  induction l with
  | nil => rfl
  | cons p r ih => show (_ ++ kcs r).length = _; rw [List.length_append, ih, List.length_cons]; simp; omega
theorem kcs_snoc (l : List (Int × Int)) (k : Int × Int) : kcs (l ++ [k]) = kcs l ++ [.int .i64 k.1, .int .i64 k.2] := by simp [kcs]
theorem kcs_at : ∀ (l : List (Int × Int)) (j : Nat) (h : j < l.length), (kcs l)[j * 2]? = some (.int .i64 l[j].1) ∧ (kcs l)[j * 2 + 1]? = some (.int .i64 l[j].2)
  | k :: r, 0, _ => by simp [kcs]
  | k :: r, j + 1, h => by
    have := kcs_at r j (by simpa using h)
    have e : kcs (k :: r) = .int .i64 k.1 :: .int .i64 k.2 :: kcs r := by simp [kcs]
    rw [e, show (j + 1) * 2 = (j * 2) + 1 + 1 by omega]
    simpa using this
/-- keys in a slice, in a block of the call's own -/
def KeysIn (w : World) (B : Nat) (A : Option Addr) (l : List (Int × Int)) : Prop :=
  l ≠ [] → ∃ g, A = some ⟨g, 0, none⟩ ∧ B ≤ g ∧ g < w.heap.size ∧ ∀ (j : Nat) (h : j < l.length), w.cell? ⟨g, j * 2, none⟩ = some (.int .i64 l[j].1) ∧ w.cell? ⟨g, j * 2 + 1, none⟩ = some (.int .i64 l[j].2)
theorem keys_own {w : World} {base : Nat} {e : TypeId} {v : Value} {n : Nat} {l : List (Int × Int)} (hn : l.length = n) (h : w.ownsRow base e 2 v n (kcs l)) : ∃ A c, v = .slice A n c ∧ KeysIn w base A l := by
  have h' := h
  rcases h.2 with ⟨rfl, h0⟩ | ⟨g, cap, cur, rfl, hb, hg, _, _, _, _⟩
  · exact ⟨none, 0, by rw [h0], fun hne => absurd (List.length_eq_zero_iff.1 (by omega)) hne⟩
  · refine ⟨some ⟨g, 0, none⟩, cap, rfl, fun _ => ⟨g, rfl, hb, (Array.getElem?_eq_some_iff.1 hg).1, fun j hj => ?_⟩⟩
    obtain ⟨k1, k2⟩ := kcs_at l j hj
    have hc1 := h'.cells (g := g) rfl _ _ k1
    have hc2 := h'.cells (g := g) rfl _ _ k2
    rw [addr_add0] at hc1 hc2
    exact ⟨hc1, hc2⟩
theorem KeysIn.only {w w' : World} {B : Nat} {A : Option Addr} {l : List (Int × Int)} {S : Nat → Prop} (h : KeysIn w B A l) (ho : Only S w w') (hS : ∀ g, B ≤ g → g < w.heap.size → ¬ S g) : KeysIn w' B A l := fun hn => by
  obtain ⟨g, hA, hB, hlt, hc⟩ := h hn
  refine ⟨g, hA, hB, Nat.lt_of_lt_of_le hlt ho.size, fun j hj => ?_⟩
  obtain ⟨c1, c2⟩ := hc j hj
  have hb := ho.block g hlt (hS g hB hlt)
  exact ⟨(World.cell?_of_block (a := ⟨g, j * 2, none⟩) hb).trans c1, (World.cell?_of_block (a := ⟨g, j * 2 + 1, none⟩) hb).trans c2⟩
theorem KeysIn.below {w w' : World} {B : Nat} {A : Option Addr} {l : List (Int × Int)} (h : KeysIn w B A l) (ho : Below w.heap.size w w') : KeysIn w' B A l := h.only (S := fun _ => False) (Only.of_below ho) (fun _ _ _ h => h)
theorem info_key : (Try.prog.info? 42).map (fun i => (i.zero, i.size, i.bytes)) = some (some (.agg #[.int .i64 0, .int .i64 0]), 2, 16) := by kernel_rfl
theorem cell2 (w : World) (a b : Value) (t : TypeId) : ∀ j u, [a, b][j]? = some u → (w.alloc (.cells #[a, b] t)).cell? ((⟨w.heap.size, 0, none⟩ : Addr).add j) = some u := by
  intro j u hj
  rw [addr_add0, cell_of_row _ _ _ _ _ _ (heap_alloc_new w _)]
  simpa using hj

def kfrom (Z : Zs) (j : Nat) : List (Int × Int) := (Z.drop j).reverse.map kp
theorem kfrom_at {Z : Zs} {i : Nat} (h : i < Z.length) : kfrom Z i = kfrom Z (i + 1) ++ [kp Z[i]] := by
  unfold kfrom
  rw [List.drop_eq_getElem_cons h, List.reverse_cons, List.map_append, List.map_singleton]
theorem kfrom_zero (Z : Zs) : kfrom Z 0 = Z.reverse.map kp := rfl
theorem kfrom_end {Z : Zs} {n : Nat} (h : Z.length = n) : kfrom Z n = [] := by
  unfold kfrom
  rw [List.drop_eq_nil_of_le (by omega)]; rfl

section
variable {w : World} {c z b N : Nat} {Z : Zs} {s : S}
set_option maxRecDepth 100000 in
set_option maxHeartbeats 2000000 in
theorem kept_any (h : Rep w c z b N Z s) (hlen : Z.length ≤ 1000000) (hN : N ≤ 1000000) :
    Calls Try.prog 16 #[.pointer (some ⟨c, 0, none⟩)] w fun r w' => ∃ A cap, r = .returned (.slice A Z.length cap) ∧ KeysIn w' w.heap.size A (Z.reverse.map kp) ∧ Below w.heap.size w w' := by
  obtain ⟨i0, hi, hz0, hz1, hz2⟩ := info_parts info_key
  have HREP := Lib.hid h
  have HI := Lib.hid (idle_any c b _ h.cor.c0)
  have c1 := h.cor.c1
  have cl := h.last
  obtain ⟨D, hm, -⟩ := h.cor.map
  have hln := hm.len Try.underlying73 3
  have hsl := hm.size_le
  obtain ⟨m, hmm⟩ : ∃ m, Maps.size D = m := ⟨_, rfl⟩
  rw [hmm] at hln hsl
  obtain ⟨W1, hmk, hown, hgr⟩ := run_make_own (P := Try.prog) w w.heap.size 44 42 i0 (.agg #[.int .i64 0, .int .i64 0]) 2 Try.underlying44 hi hz0 hz1 .i64 .i64 m (by rw [hz2]; omega) (by unfold maxLen; omega) (Nat.le_refl _)
  have HB1 : Hid (Below w.heap.size w W1) := Lib.hid ((Below.refl _ w).grown hgr (Nat.le_refl _) (by simp))
  have HO1 := Lib.hid hown
  obtain ⟨n, hn⟩ : ∃ n, Z.length = n := ⟨_, rfl⟩
  have HN := Lib.hid hn
  rw [hn] at cl hlen ⊢
  have cl1 := (World.cell?_of_block (a := ⟨c, 6, none⟩) (HB1.out.block c h.cor.lt_c)).trans cl
  clear h hm hmm hown hgr hn cl
  go_enter Try.func16, Try.ntmps16
  go_wp2_with fail
  refine HI.out.mono ?_
  rintro r w1 ⟨rfl, rfl⟩
  go_wp2_with fail
  clear c1 cl1 hln hmk HI
  go_loopg [3, 4] n (fun k o p wr => ∃ j : Nat, j ≤ n ∧ j ≤ k ∧ p = (nd c (ads Z) j).ptr ∧ Hid (Below w.heap.size w wr) ∧ Hid (wr.ownsRow w.heap.size 42 2 o (n - j) (kcs (kfrom Z j))))
  case atStart => exact ⟨n, Nat.le_refl _, Nat.le_refl _, rfl, HB1, Lib.hid (by rw [Nat.sub_self, kfrom_end HN.out]; exact HO1.out)⟩
  case round =>
    obtain ⟨j, hj, hk, rfl, HB, HO⟩ := hrel
    cases j with
    | zero =>
      have cn := ptr_same wr ⟨c, 2, none⟩
      have hp0 : (nd c (ads Z) 0).ptr = .pointer (some ⟨c, 2, none⟩) := rfl
      rw [hp0]
      have ho := HO.out
      rw [kfrom_zero, Nat.sub_zero] at ho
      obtain ⟨A, cap, rfl, hv⟩ := keys_own (by rw [List.length_map, List.length_reverse, HN.out]) ho
      have HV := Lib.hid hv
      clear hv HO ho hp0
      go_wp2
      go_ret
      exact ⟨A, cap, rfl, HV.out, HB.out⟩
    | succ i =>
      have hil : i < Z.length := by rw [HN.out]; omega
      have hr := HREP.out.below HB.out
      have hxm : Z[i] ∈ Z := List.getElem_mem hil
      have c4 := hr.prev hil
      have p0 := hr.cor.p0 hxm
      have p1 := hr.cor.p1 hxm
      have cn := hr.cor.other hxm
      rw [nd_ptr_in hil]
      have HD : Hid (kfrom Z i = kfrom Z (i + 1) ++ [kp Z[i]]) := Lib.hid (kfrom_at hil)
      obtain ⟨x, hx⟩ : ∃ x, Z[i] = x := ⟨_, rfl⟩
      rw [hx] at c4 p0 p1 cn HD ⊢
      obtain ⟨p, hp⟩ : ∃ p, x.1 = p := ⟨_, rfl⟩
      rw [hp] at c4 p0 p1 cn ⊢
      have hkx : kp x = (x.2.file, x.2.block) := rfl
      rw [hkx] at HD
      obtain ⟨f, hf⟩ : ∃ f, x.2.file = f := ⟨_, rfl⟩
      obtain ⟨k2, hk2⟩ : ∃ k2, x.2.block = k2 := ⟨_, rfl⟩
      rw [hf] at p0 HD
      rw [hk2] at p1 HD
      obtain ⟨q, hq⟩ : ∃ q, nd c (ads Z) i = q := ⟨_, rfl⟩
      have HQ := Lib.hid hq
      have HXP : Hid (Z[i].1 = p) := Lib.hid (by rw [hx]; exact hp)
      rw [hq] at c4
      unfold Nd.ptr at c4
      have hsz := HB.out.size
      clear hr hxm hx hp hkx hf hk2 hq
      go_wp2_with (at_builtin; refine wpList_append_own _ rfl _ _ 44 rfl (w.heap.size) 42 i0 _ 2 16 Try.underlying44 hi hz0 hz1 hz2 rfl (by decide) _ _ _ rfl (own_below HO.out ((Below.refl _ _).alloc (Nat.le_refl _) _)) ⟨wr.heap.size, 0, none⟩ 1 1 [.int .i64 f, .int .i64 k2] rfl ?c1 ?c2 ?c3 ?c4 ?c5 ?c6 ?_)
      case c1 => rfl
      case c2 => exact cell2 wr _ _ _
      case c3 => intro u hu; simp at hu; rcases hu with rfl | rfl <;> rfl
      case c4 => unfold maxLen; omega
      case c5 => omega
      case c6 => simp; try omega
      intro v' w3 hown3 hgrow hnil
      clear hnil
      have HO3 : Hid (w3.ownsRow w.heap.size 42 2 v' (n - i) (kcs (kfrom Z i))) := Lib.hid (by
        rw [HD.out, kcs_snoc, show n - i = n - (i + 1) + 1 by omega]
        exact hown3)
      have HB3 : Hid (Below w.heap.size w w3) := Lib.hid ((HB.out.alloc hsz _).grown hgrow (by simp; omega) (fun g hg => (HO.out.lt g hg).1))
      have c4 := (HREP.out.below HB3.out).prev hil
      rw [HXP.out, HQ.out] at c4
      unfold Nd.ptr at c4
      clear hown3 hgrow
      go_wp2
      go_roundg i
      case measure => omega
      case rel => exact ⟨i, by omega, Nat.le_refl _, by rw [HQ.out]; rfl, HB3, HO3⟩
end
end Go.Proofs.Ytlfhjbilnfkabaa
