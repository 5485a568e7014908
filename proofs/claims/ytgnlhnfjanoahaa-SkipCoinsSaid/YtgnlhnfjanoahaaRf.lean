/- The document's From. -/
import Derived.Test.YtgnlhnfjanoahaaRg
namespace Go.Proofs.Ytgnlhnfjanoahaa
open Go.RowKit
open SK

theorem from_snoc (l : List E) (k : ByteArray) (p : E) : from_ (l ++ [p]) k = if Go.bytesBefore p.key.data.toList k.data.toList = true then from_ l k else from_ l k ++ [p] := by
  unfold from_
  rw [List.filter_append, List.filter_cons, List.filter_nil]
  by_cases h : Go.bytesBefore p.key.data.toList k.data.toList = true
  · simp [h]
  · simp [h]

theorem from_len (l : List E) (k : ByteArray) : (from_ l k).length ≤ l.length := List.length_filter_le _ _

set_option maxRecDepth 100000 in
set_option maxHeartbeats 2000000 in
theorem rfrom_any {B : Nat} {w : World} {r : Nat} {cs : List Int} {CA : Option Addr} {cc : Nat} {LA : Option Addr} {lc : Nat} {s : St} (h : RRep B w r cs CA cc LA lc s) (k : ByteArray) (hlen : s.l.length ≤ 1000000) :
    Calls Try.prog 6 #[.pointer (some ⟨r, 0, none⟩), .string k] w fun e w' => ∃ A c, e = .returned (.slice A (from_ s.l k).length c) ∧ EntsIn w' A (from_ s.l k) ∧ Below w.heap.size w w' ∧ ∀ x ∈ fb A, w.heap.size ≤ x ∧ x < w'.heap.size := by
  obtain ⟨i0, hi, hz0, hz1, hz2⟩ := info_parts info_rent
  obtain ⟨n, hn⟩ : ∃ n, s.l.length = n := ⟨_, rfl⟩
  have HREP := Lib.hid h
  have HN := Lib.hid hn
  rw [hn] at hlen
  clear h hn
  go_enter Try.func6, Try.ntmps6
  go_wp2_with fail
  go_loopw [5, 6] (fun o i wr => ∃ j : Nat, j ≤ n ∧ i = .int .i64 j ∧ Below w.heap.size w wr ∧ wr.ownsRow w.heap.size 37 5 o (from_ (s.l.take j) k).length (ecs (from_ (s.l.take j) k))) (fun _ i _ => n - (intOf i).toNat)
  case atStart => exact ⟨0, by omega, rfl, Below.refl _ _, by simpa [from_, ecs] using World.ownsRow_nil _ _ _ _⟩
  case round =>
    obtain ⟨j, hj, rfl, hbel, hown⟩ := hrel
    have hrr := HREP.out.below hbel
    have hh := hrr.head
    rw [HN.out] at hh
    have c1 : wr.cell? ⟨r, 1, none⟩ = some (.slice LA n lc) := cell_of_row _ _ _ _ _ _ hh
    have HB := Lib.hid hbel
    have HO := Lib.hid hown
    by_cases hlt : j < n
    · have hjl : j < s.l.length := by rw [HN.out]; exact hlt
      obtain ⟨b, off, hA, hbl, hc⟩ := hrr.ents.at_ (by omega)
      obtain ⟨z0, z1, z2, z3, z4⟩ := hc j hjl
      have hsn := from_snoc (s.l.take j) k s.l[j]
      rw [← List.take_succ_eq_append_getElem hjl] at hsn
      have hfl := from_len (s.l.take j) k
      have htl : (s.l.take j).length ≤ j := List.length_take_le _ _
      obtain ⟨e, he⟩ : ∃ e, s.l[j] = e := ⟨_, rfl⟩
      rw [he] at z0 z1 z2 z3 z4 hsn
      have hec := ecs_snoc (from_ (s.l.take j) k) e
      obtain ⟨X, hX⟩ : ∃ X, from_ (s.l.take j) k = X := ⟨_, rfl⟩
      rw [hX] at HO hsn hec hfl
      have htx := text_less e.key k
      subst hA
      obtain ⟨k2, q2, g2, v2, t2⟩ := e
      simp only [E.cells] at z0 z1 z2 z3 z4 hsn hec htx
      have HSN := Lib.hid hsn
      have HEC := Lib.hid hec
      have g0 : (0 : Int) ≤ (j : Int) := by omega
      have g1 : (j : Int) < (n : Int) := by omega
      have hXn : X.length ≤ j := by omega
      have hsz := hbel.size
      clear hc hbel hown hrr hh he hX hsn hec hbl hfl htl
      by_cases hb : Go.bytesBefore k2.data.toList k.data.toList = true
      · have hbl : Op.bytesLess k2.toList k.toList = true := by rw [htx]; exact hb
        have HR : Hid (wr.ownsRow w.heap.size 37 5 u5 (from_ (s.l.take (j + 1)) k).length (ecs (from_ (s.l.take (j + 1)) k))) := Lib.hid (by rw [HSN.out, if_pos hb]; exact HO.out)
        clear htx hb
        go_wp2
        go_roundw
        case rel => exact ⟨j + 1, by omega, by go_num, HB.out, HR.out⟩
        case measure => simp [intOf]; omega
      · have hbl : Op.bytesLess k2.toList k.toList = false := by rw [htx]; simpa using hb
        have HS2 : Hid (from_ (s.l.take (j + 1)) k = X ++ [⟨k2, q2, g2, v2, t2⟩]) := Lib.hid (by rw [HSN.out, if_neg hb])
        clear htx hb
        go_wp2_with (at_builtin; refine wpList_append_own _ rfl _ _ 30 rfl (w.heap.size) 37 i0 _ 5 56 Try.underlying30 hi hz0 hz1 hz2 rfl (by decide) _ _ _ rfl (own_below HO.out ((Below.refl _ _).alloc (Nat.le_refl _) _)) ⟨wr.heap.size, 0, none⟩ 1 1 [.string k2, .int .i64 q2, .bool g2, .string v2, .int .i64 t2] rfl ?c1 ?c2 ?c3 ?c4 ?c5 ?c6 ?_)
        case c1 => rfl
        case c2 => exact five_cells wr _ _ _ _ _ _
        case c3 => intro u hu; simp at hu; rcases hu with rfl | rfl | rfl | rfl | rfl <;> rfl
        case c4 => unfold maxLen; omega
        case c5 => omega
        case c6 =>
          simp
          try omega
        intro v' w3 hown3 hgrow hnil
        clear hnil
        have HR : Hid (w3.ownsRow w.heap.size 37 5 v' (from_ (s.l.take (j + 1)) k).length (ecs (from_ (s.l.take (j + 1)) k))) := Lib.hid (by
          rw [HS2.out, HEC.out, List.length_append]
          exact hown3)
        have HB3 : Hid (Below w.heap.size w w3) := Lib.hid ((HB.out.alloc hsz _).grown hgrow (by simp; omega) (fun g hg => (HO.out.lt g hg).1))
        clear hown3 hgrow
        go_wp2
        go_roundw
        case rel => exact ⟨j + 1, by omega, by go_num, HB3.out, HR.out⟩
        case measure => simp [intOf]; omega
    · have hjn : j = n := by omega
      have htk : s.l.take j = s.l := List.take_of_length_le (by rw [HN.out]; omega)
      rw [htk] at hown
      have hwf : ∀ x ∈ from_ s.l k, x.wf := fun x hx => hrr.ents.wf x ((List.mem_filter.1 hx).1)
      obtain ⟨A', c', hv, he, hf⟩ := own_ents hwf rfl hown
      have HE := Lib.hid he
      have HF := Lib.hid hf
      subst hv
      subst hjn
      clear hown hrr hh htk hwf he hf hbel HO
      go_wp2
      go_ret
      exact ⟨A', c', rfl, HE.out, HB.out, HF.out⟩
end Go.Proofs.Ytgnlhnfjanoahaa
