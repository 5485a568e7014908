/- Texts joined by bundle.py: NPa, NPr. -/
import Derived.Test.YtnglaolbfpdgoaaGreatZal
import Derived.Test.YtnglaolbfpdgoaaGreatZam
import Derived.Test.YtnglaolbfpdgoaaGreatZak

/- Places: the code's walk. -/
namespace Go.Proofs.YtnglaolbfpdgoaaGreat.B9
open Go.RowKit

/-- the row that Places makes, with so many of its places worked out -/
def upTo (k : BL.Bs) (Z P j : Nat) : List Nat := (List.range P).map fun i => if i < j then BL.at_ k Z i else 0

theorem upTo_len (k : BL.Bs) (Z P j : Nat) : (upTo k Z P j).length = P := by simp [upTo]
theorem upTo_zero (k : BL.Bs) (Z P : Nat) : upTo k Z P 0 = List.replicate P 0 := by
  unfold upTo
  apply List.ext_getElem?
  intro i
  simp only [List.getElem?_map, List.getElem?_replicate]
  by_cases h : i < P <;> simp [h]
theorem upTo_all (k : BL.Bs) (Z P : Nat) : upTo k Z P P = (List.range P).map (BL.at_ k Z) := by
  unfold upTo
  apply List.map_congr_left
  intro i hi
  rw [if_pos (List.mem_range.1 hi)]
theorem upTo_succ (k : BL.Bs) (Z P j : Nat) : (upTo k Z P j).set j (BL.at_ k Z j) = upTo k Z P (j + 1) := by
  unfold upTo
  apply List.ext_getElem?
  intro i
  rw [List.getElem?_set]
  by_cases h : j = i
  · subst h
    by_cases hp : j < P <;> simp [hp]
  · rw [if_neg h]
    by_cases hp : i < P
    · have : (i < j + 1) = (i < j) := by apply propext; omega
      simp [hp, this]
    · simp [hp]

/-- what Places has answered: a new row -/
def PlacesOut (k : ByteArray) (p z : Int) (w : World) (e : Ending) (w' : World) : Prop :=
  ∃ v, e = .returned v ∧ w'.ownsRow w.heap.size 3 1 v (BL.places k.data.toList p z).length (nums (BL.places k.data.toList p z)) ∧ Below w.heap.size w w'

set_option maxRecDepth 100000 in
theorem places_any (k : ByteArray) (p z : Int) (w : World) (hk : k.size ≤ 140737488351232) (hp0 : -9223372036854775808 ≤ p) (hp1 : p ≤ 9223372036854775807) (hz0 : -9223372036854775808 ≤ z) (hz1 : z ≤ 9223372036854775807) :
    Calls Tryz.prog 72 #[.string k, .int .i64 p, .int .i64 z] w fun e w' => PlacesOut k p z w e w' := by
  by_cases hb : p < 1 ∨ 8 < p ∨ z < 1 ∨ 16777216 < z
  · have HP : Hid (∀ e, e = Ending.returned (.slice none 0 0) → PlacesOut k p z w e w) := by
      refine Lib.hid fun e he => ?_
      unfold PlacesOut
      rw [BL.places_none hb]
      exact ⟨_, he, World.ownsRow_nil _ _ _ _, Below.refl _ _⟩
    by_cases h1 : p < 1
    · clear hb
      go_enter Tryz.func72, Tryz.ntmps72
      go_wp2
      go_ret
      exact HP.out _ rfl
    by_cases h2 : 8 < p
    · clear hb
      go_enter Tryz.func72, Tryz.ntmps72
      go_wp2
      go_ret
      exact HP.out _ rfl
    by_cases h3 : z < 1
    · clear hb
      go_enter Tryz.func72, Tryz.ntmps72
      go_wp2
      go_ret
      exact HP.out _ rfl
    · have h4 : 16777216 < z := by omega
      clear hb
      go_enter Tryz.func72, Tryz.ntmps72
      go_wp2
      go_ret
      exact HP.out _ rfl
  · obtain ⟨P, rfl⟩ : ∃ P : Nat, p = (P : Int) := ⟨p.toNat, by omega⟩
    obtain ⟨Z, rfl⟩ : ∃ Z : Nat, z = (Z : Int) := ⟨z.toNat, by omega⟩
    have hpl := BL.places_some (k := k.data.toList) (p := P) (z := Z) hb
    have h1 : ¬ (P : Int) < 1 := by omega
    have h2 : ¬ (8 : Int) < P := by omega
    have h3 : ¬ (Z : Int) < 1 := by omega
    have h4 : ¬ (16777216 : Int) < Z := by omega
    have H1 := Lib.hid (fun W => sum_any k W (by omega))
    have hxs : ((⟨#[120]⟩ : ByteArray) ++ k).size = k.size + 1 := by rw [ByteArray.size_append]; show 1 + k.size = _; omega
    have H2 := Lib.hid (fun W => sum_any ((⟨#[120]⟩ : ByteArray) ++ k) W (by omega))
    have hxd : ((⟨#[120]⟩ : ByteArray) ++ k).data.toList = 120 :: k.data.toList := by rw [str_app]; rfl
    rw [hxd] at H2
    have ha := FM.sum_lt k.data.toList
    have hbb := FM.sum_lt (120 :: k.data.toList)
    have hcat : ¬ (9223372036854775807 : Int) < 1 + (k.size : Int) := by omega
    have hcat' : ¬ 9223372036854775807 < 1 + k.size := by omega
    clear hb hxs hxd
    go_enter Tryz.func72, Tryz.ntmps72
    go_wp2_with fail
    refine (H1.out _).mono ?_
    rintro e w1 ⟨rfl, rfl⟩
    go_wp2_with fail
    refine (H2.out _).mono ?_
    rintro e w1 ⟨rfl, rfl⟩
    have HM := Lib.hid (make_ints w P (by omega))
    have hmk := HM.out
    have HL := Lib.hid (Lies.new w 3 (nums (List.replicate P 0)))
    rw [← upTo_zero k.data.toList Z P] at HL hmk
    obtain ⟨W1, hW1⟩ : ∃ W1, w.alloc (.cells (nums (upTo k.data.toList Z P 0)).toArray 3) = W1 := ⟨_, rfl⟩
    have HB1 : Hid (Below w.heap.size w W1) := by rw [← hW1]; exact Lib.hid ((Below.refl _ _).alloc (Nat.le_refl _) _)
    rw [hW1] at hmk HL
    have HPL := Lib.hid hpl
    have HA : Hid (∀ j, BL.at_ k.data.toList Z j = (FM.sum k.data.toList + j * FM.sum (120 :: k.data.toList)) % Z) := Lib.hid fun _ => rfl
    obtain ⟨a, hae⟩ : ∃ a, FM.sum k.data.toList = a := ⟨_, rfl⟩
    obtain ⟨b, hbe⟩ : ∃ b, FM.sum (120 :: k.data.toList) = b := ⟨_, rfl⟩
    rw [hae] at ha HA ⊢
    rw [hbe] at hbb HA ⊢
    clear hae hbe hpl hW1 HM
    go_wp2_with fail
    go_loopw [36] (fun i wr => ∃ j : Nat, j ≤ P ∧ i = .int .i64 j ∧ Lies wr w.heap.size 3 (nums (upTo k.data.toList Z P j)) ∧ Below w.heap.size w wr) (fun i _ => P - (intOf i).toNat)
    case atStart => exact ⟨0, by omega, rfl, HL.out, HB1.out⟩
    case round =>
      obtain ⟨j, hj, rfl, hL, hB⟩ := hrel
      have HLr := Lib.hid hL
      have HBr := Lib.hid hB
      by_cases hlt : j < P
      · have hc := hL.cell (nums_at _ j (by rw [upTo_len]; exact hlt))
        have hf := hL.frozen j
        obtain ⟨M, hM⟩ : ∃ M, j * b = M := ⟨_, rfl⟩
        have hMi : (j : Int) * (b : Int) = (M : Int) := by rw [← hM, Int.natCast_mul]
        have hMl : M ≤ 8 * 4294967296 := by rw [← hM]; exact Nat.mul_le_mul (by omega) (by omega)
        have HAj := Lib.hid (HA.out j)
        rw [hM] at HAj
        have i0 : (0 : Int) ≤ (j : Int) := by omega
        have i1 : (j : Int) < (P : Int) := by omega
        have HW : Hid (wrap64 (((a : Int) + (M : Int)) % (Z : Int)) = (BL.at_ k.data.toList Z j : Nat)) := by
          have e : ((a : Int) + (M : Int)) % (Z : Int) = (((a + M) % Z : Nat) : Int) := by rw [Int.natCast_emod, Int.natCast_add]
          have := Nat.mod_lt (a + M) (show Z > 0 by omega)
          rw [e, HAj.out]
          exact Lib.hid (by rw [wrap64]; omega)
        clear hL hB
        go_wp2_with fail
        go_roundw
        case rel =>
          refine ⟨j + 1, by omega, by go_num, ?_, HBr.out.setCell (p := ⟨w.heap.size, j, none⟩) (Nat.le_refl _) _⟩
          rw [HW.out, ← upTo_succ, ← nums_set]
          exact HLr.out.set j _
        case measure => simp [intOf]; omega
      · obtain rfl : j = P := by omega
        clear hL hB
        go_wp2
        go_ret
        have h1 := HLr.out
        rw [upTo_all, ← HPL.out] at h1
        have hlen : (BL.places k.data.toList (j : Int) (Z : Int)).length = j := by rw [HPL.out]; simp
        have h2 := h1.own (by rw [nums_length, hlen]; unfold maxLen; omega) (Nat.le_refl w.heap.size)
        rw [nums_length, hlen] at h2
        exact ⟨_, rfl, by rw [hlen]; exact h2, HBr.out⟩
end Go.Proofs.YtnglaolbfpdgoaaGreat.B9

/- Places: the document's walk. -/
namespace Go.Proofs.YtnglaolbfpdgoaaGreat.B9
open Go.RowKit

def RPRel (k : BL.Bs) (Z P b : Nat) (a : Nat) (w : World) (o v i : Value) (wr : World) : Prop :=
  ∃ j : Nat, j ≤ P ∧ i = .int .i64 j ∧ v = .int .i64 ((a + j * b : Nat) : Int) ∧ wr.ownsRow w.heap.size 3 1 o j (nums ((List.range j).map (BL.at_ k Z))) ∧ Below w.heap.size w wr

theorem one_num_cell (w : World) (z : Int) (t : TypeId) : ∀ j u, [Value.int .i64 z][j]? = some u → (w.alloc (.cells #[.int .i64 z] t)).cell? ((⟨w.heap.size, 0, none⟩ : Addr).add j) = some u := by
  intro j u hj
  match j, hj with
  | 0, hj => simp at hj; subst hj; simp [Addr.add]
  | j + 1, hj => simp at hj

set_option maxRecDepth 100000 in
theorem rplaces_any (k : ByteArray) (p z : Int) (w : World) (hk : k.size ≤ 140737488351232) (hp0 : -9223372036854775808 ≤ p) (hp1 : p ≤ 9223372036854775807) (hz0 : -9223372036854775808 ≤ z) (hz1 : z ≤ 9223372036854775807) :
    Calls Tryz.prog 36 #[.string k, .int .i64 p, .int .i64 z] w fun e w' => PlacesOut k p z w e w' := by
  obtain ⟨i0, hi, hy0, hy1, hy2⟩ := info_parts info_int
  by_cases hb : p < 1 ∨ 8 < p ∨ z < 1 ∨ 16777216 < z
  · have HP : Hid (∀ e, e = Ending.returned (.slice none 0 0) → PlacesOut k p z w e w) := by
      refine Lib.hid fun e he => ?_
      unfold PlacesOut
      rw [BL.places_none hb]
      exact ⟨_, he, World.ownsRow_nil _ _ _ _, Below.refl _ _⟩
    by_cases h1 : p < 1
    · clear hb
      go_enter Tryz.func36, Tryz.ntmps36
      go_wp2
      go_ret
      exact HP.out _ rfl
    by_cases h2 : 8 < p
    · clear hb
      go_enter Tryz.func36, Tryz.ntmps36
      go_wp2
      go_ret
      exact HP.out _ rfl
    by_cases h3 : z < 1
    · clear hb
      go_enter Tryz.func36, Tryz.ntmps36
      go_wp2
      go_ret
      exact HP.out _ rfl
    · have h4 : 16777216 < z := by omega
      clear hb
      go_enter Tryz.func36, Tryz.ntmps36
      go_wp2
      go_ret
      exact HP.out _ rfl
  · obtain ⟨P, rfl⟩ : ∃ P : Nat, p = (P : Int) := ⟨p.toNat, by omega⟩
    obtain ⟨Z, rfl⟩ : ∃ Z : Nat, z = (Z : Int) := ⟨z.toNat, by omega⟩
    have hpl := BL.places_some (k := k.data.toList) (p := P) (z := Z) hb
    have h1 : ¬ (P : Int) < 1 := by omega
    have h2 : ¬ (8 : Int) < P := by omega
    have h3 : ¬ (Z : Int) < 1 := by omega
    have h4 : ¬ (16777216 : Int) < Z := by omega
    have H1 := Lib.hid (fun W => rsum_any k W (by omega))
    have hxs : ((⟨#[120]⟩ : ByteArray) ++ k).size = k.size + 1 := by rw [ByteArray.size_append]; show 1 + k.size = _; omega
    have H2 := Lib.hid (fun W => rsum_any ((⟨#[120]⟩ : ByteArray) ++ k) W (by omega))
    have hxd : ((⟨#[120]⟩ : ByteArray) ++ k).data.toList = 120 :: k.data.toList := by rw [str_app]; rfl
    rw [hxd] at H2
    have ha := FM.sum_lt k.data.toList
    have hbb := FM.sum_lt (120 :: k.data.toList)
    have hcat : ¬ (9223372036854775807 : Int) < 1 + (k.size : Int) := by omega
    have hcat' : ¬ 9223372036854775807 < 1 + k.size := by omega
    clear hb hxs hxd
    have HPL := Lib.hid hpl
    have HA : Hid (∀ j, BL.at_ k.data.toList Z j = (FM.sum k.data.toList + j * FM.sum (120 :: k.data.toList)) % Z) := Lib.hid fun _ => rfl
    obtain ⟨a, hae⟩ : ∃ a, FM.sum k.data.toList = a := ⟨_, rfl⟩
    obtain ⟨b, hbe⟩ : ∃ b, FM.sum (120 :: k.data.toList) = b := ⟨_, rfl⟩
    rw [hae] at ha HA H1
    rw [hbe] at hbb HA H2
    clear hae hbe hpl
    go_enter Tryz.func36, Tryz.ntmps36
    go_wp2_with fail
    refine (H1.out _).mono ?_
    rintro e w1 ⟨rfl, rfl⟩
    go_wp2_with fail
    refine (H2.out _).mono ?_
    rintro e w1 ⟨rfl, rfl⟩
    go_wp2_with fail
    go_loopw [9, 10, 11] (fun o v i wr => RPRel k.data.toList Z P b a w o v i wr) (fun _ _ i _ => P - (intOf i).toNat)
    case atStart => exact ⟨0, by omega, rfl, by simp, World.ownsRow_nil _ _ _ _, Below.refl _ _⟩
    case round =>
      obtain ⟨j, hj, rfl, rfl, hown, hB⟩ := hrel
      have HOWN := Lib.hid hown
      have HB := Lib.hid hB
      have hs := hB.size
      obtain ⟨M, hM⟩ : ∃ M, j * b = M := ⟨_, rfl⟩
      have hMl : M ≤ 8 * 4294967296 := by rw [← hM]; exact Nat.mul_le_mul (by omega) (by omega)
      have HAj := Lib.hid (HA.out j)
      have HMs : Hid ((j + 1) * b = M + b) := Lib.hid (by rw [Nat.add_mul, hM, Nat.one_mul])
      rw [hM] at HAj ⊢
      obtain ⟨X, hX⟩ : ∃ X, a + M = X := ⟨_, rfl⟩
      rw [hX] at HAj ⊢
      clear hown hB
      by_cases hlt : j < P
      · have hrem : (X : Int) % (Z : Int) = (BL.at_ k.data.toList Z j : Nat) := by rw [HAj.out, Int.natCast_emod]
        obtain ⟨q, hq⟩ : ∃ q, BL.at_ k.data.toList Z j = q := ⟨_, rfl⟩
        rw [hq] at hrem
        have HQ := Lib.hid hq
        have hZ : ¬ (Z : Int) = 0 := by omega
        clear hq
        go_wp2_with (at_builtin; refine wpList_append_own _ rfl _ _ 34 rfl w.heap.size 3 i0 (.int .i64 0) 1 8 Tryz.underlying34 hi hy0 hy1 hy2 rfl (by decide) _ _ _ rfl (HOWN.out.alloc _) ⟨wr.heap.size, 0, none⟩ 1 1 [.int .i64 q] rfl ?c1 ?c2 ?c3 ?c4 ?c5 ?c6 ?_)
        case c1 => rfl
        case c2 => first | exact one_num_cell wr q _ | (rw [hrem]; exact one_num_cell wr q _)
        case c3 => intro u hu; simp at hu; subst hu; rfl
        case c4 => unfold maxLen; omega
        case c5 => omega
        case c6 => exact Nat.le_trans hs (by simp)
        intro v' w2 hown3 hgrow hnil
        clear hnil
        have hB3 : Below w.heap.size w w2 := (HB.out.alloc hs _).grown hgrow (Nat.le_trans hs (by simp)) (fun g hg => (HOWN.out.lt g hg).1)
        have HR : Hid (RPRel k.data.toList Z P b a w v' (.int .i64 ((X : Int) + (b : Int))) (.int .i64 ((j : Int) + 1)) w2) := by
          refine ⟨j + 1, by omega, by go_num, by rw [HMs.out, ← Nat.add_assoc, hX]; go_num, ?_, hB3⟩
          rw [List.range_succ, List.map_append, List.map_singleton, nums_snoc, HQ.out]
          exact hown3
        clear hown3 hgrow hB3
        go_wp2
        go_roundw
        case rel => exact HR.out
        case measure => simp [intOf]; omega
      · obtain rfl : j = P := by omega
        go_wp2
        go_ret
        have hlen : (BL.places k.data.toList (j : Int) (Z : Int)).length = j := by rw [HPL.out]; simp
        exact ⟨_, rfl, by rw [hlen, HPL.out]; exact HOWN.out, HB.out⟩
end Go.Proofs.YtnglaolbfpdgoaaGreat.B9

