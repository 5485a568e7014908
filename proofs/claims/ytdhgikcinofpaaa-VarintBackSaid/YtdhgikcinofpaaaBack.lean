/- VarintBack: every number is read back from its bytes, whatever stands around them; every text up to the bound too. For every int64, every two texts around, every text. -/
import Derived.Test.YtdhgikcinofpaaaVarE
import Derived.Test.YtdhgikcinofpaaaOpens
import Derived.Deep.RegionHeld3
import Derived.WalkSmall
namespace Go.Proofs.Ytdhgikcinofpaaa
open Go.ChangeShapes Go.WideShapes Go.ChangeAt Go.RowKit
namespace lawBack

theorem vtext_enc {t : List UInt8} (ht : t.length ≤ 65535) (p r : List UInt8) :
    vtext (p ++ (VM.enc t.length ++ t) ++ r) p.length = (t, ((p.length + ((VM.enc t.length).length + t.length) : Nat) : Int), 0) := by
  have hg := VM.vget_enc (n := (t.length : Int)) (by omega) (by omega) p (t ++ r)
  have el : p ++ (VM.enc t.length ++ t) ++ r = p ++ VM.enc t.length ++ (t ++ r) := by simp
  rw [el, vtext_cases hg]
  rw [if_neg (by decide), if_neg (by omega), if_neg (by omega), if_neg (by simp only [List.length_append]; omega)]
  have hd : ((p.length + (VM.enc t.length).length : Nat) : Int).toNat = (p ++ VM.enc t.length).length := by rw [Int.toNat_natCast, List.length_append]
  rw [hd, List.drop_left, Int.toNat_natCast, List.take_left]
  simp
  omega

/-- what stands in the box -/
def Box (B : Nat) (a b : ByteArray) (w : World) : Prop := w.cell? ⟨B, 0, none⟩ = some (.string a) ∧ w.cell? ⟨B, 1, none⟩ = some (.string b)

theorem box_below {B : Nat} {a b : ByteArray} {w w' : World} (h0 : w.cell? ⟨B, 0, none⟩ = some (.string a)) (h1 : w.cell? ⟨B, 1, none⟩ = some (.string b)) (hb : Below w.heap.size w w') :
    w'.cell? ⟨B, 0, none⟩ = some (.string a) ∧ w'.cell? ⟨B, 1, none⟩ = some (.string b) := by
  have hlt := block_lt_of_cell h0
  exact ⟨(hb.cell (p := ⟨B, 0, none⟩) hlt).trans h0, (hb.cell (p := ⟨B, 1, none⟩) hlt).trans h1⟩

set_option maxRecDepth 100000 in
set_option maxHeartbeats 1000000 in
theorem walk (n : Int) (a b t : ByteArray) (w : World) (hn0 : -9223372036854775808 ≤ n) (hn1 : n ≤ 9223372036854775807) (ha : a.size ≤ 140737488351232) (hb : b.size ≤ 140737488351232) (ht : t.size ≤ 140737488351232) :
    Calls Try.prog 5 #[.int .i64 n, .agg #[.string a, .string b], .string t] w fun e w' => e = .returned (.bool true) ∧ Below w.heap.size w w' := by
  have hen := VM.enc_len hn0 hn1
  obtain ⟨l, hl⟩ : ∃ l : List UInt8, VM.enc n = l := ⟨_, rfl⟩
  have HP : Hid (∀ (B : Nat) (W : World), W.cell? ⟨B, 0, none⟩ = some (.string a) → W.cell? ⟨B, 1, none⟩ = some (.string b) →
      Calls Try.prog 9 #[.int .i64 n] W fun e w' => e = .returned (.string ⟨l.toArray⟩) ∧ (w'.cell? ⟨B, 0, none⟩ = some (.string a) ∧ w'.cell? ⟨B, 1, none⟩ = some (.string b)) ∧ Below W.heap.size W w') := by
    intro B W h0 h1
    rw [← hl]
    exact (put_any n W hn0 hn1).mono fun e w' ⟨he, hb⟩ => ⟨he, box_below h0 h1 hb, hb⟩
  rw [hl] at hen
  obtain ⟨hen1, hen2⟩ := hen
  -- the bytes that a number stands in
  obtain ⟨s1, hs1⟩ : ∃ s1 : ByteArray, a ++ ⟨l.toArray⟩ ++ b = s1 := ⟨_, rfl⟩
  have hz1 : s1.size = a.size + l.length + b.size := by rw [← hs1]; simp [ByteArray.size_append]; rfl
  obtain ⟨q, hq⟩ : ∃ q : Nat, q = a.size + l.length := ⟨_, rfl⟩
  have HV : Hid (VM.vget s1.data.toList (a.size : Int) = (n, (q : Int), 0)) := by
    have h := VM.vget_enc hn0 hn1 a.data.toList b.data.toList
    have e : s1.data.toList = a.data.toList ++ VM.enc n ++ b.data.toList := by rw [← hs1, hl]; simp
    show _ = _
    rw [e, ← size_list a, h, hl, hq, size_list]
  have HG := Lib.hid (fun W => get_any s1 (a.size : Int) W (by omega) (by omega) (by omega))
  have t1 : ((q : Int) != (s1.size : Int) - (b.size : Int)) = false := by
    rw [bne_eq_false_iff_eq]; omega
  have t1' : ((q : Int) == (s1.size : Int) - (b.size : Int)) = true := beq_iff_eq.2 (by omega)
  have t2 : ((q : Int) == (a.size : Int)) = false := beq_eq_false_iff_ne.2 (by omega)
  have b1 : b.size ≤ s1.size := by omega
  have b2 : s1.size ≤ 281474976702474 := by omega
  have n1 : ¬ 9223372036854775807 < a.size + l.length := by omega
  have n2 : ¬ 9223372036854775807 < a.size + l.length + b.size := by omega
  -- the bytes that a text stands in
  obtain ⟨te, hte⟩ : ∃ te : ByteArray, textEnc t = te := ⟨_, rfl⟩
  obtain ⟨s2, hs2⟩ : ∃ s2 : ByteArray, a ++ te ++ b = s2 := ⟨_, rfl⟩
  have hent := VM.enc_len (n := (t.size : Int)) (by omega) (by omega)
  have hzt : te.size = (VM.enc (t.size : Int)).length + t.size := by
    rw [← hte, ← size_list]; simp [textEnc]
  have hz2 : s2.size = a.size + te.size + b.size := by rw [← hs2]; simp [ByteArray.size_append]
  obtain ⟨q2, hq2⟩ : ∃ q2 : Nat, q2 = a.size + te.size := ⟨_, rfl⟩
  have HT : Hid (∀ (B : Nat) (W : World), W.cell? ⟨B, 0, none⟩ = some (.string a) → W.cell? ⟨B, 1, none⟩ = some (.string b) →
      Calls Try.prog 13 #[.string t] W fun e w' => e = .returned (.string te) ∧ (w'.cell? ⟨B, 0, none⟩ = some (.string a) ∧ w'.cell? ⟨B, 1, none⟩ = some (.string b)) ∧ Below W.heap.size W w') := by
    intro B W h0 h1
    rw [← hte]
    exact (putText_any t W (by omega)).mono fun e w' ⟨he, hb⟩ => ⟨he, box_below h0 h1 hb, hb⟩
  have HG2 := Lib.hid (fun W => getText_any s2 (a.size : Int) W (by omega) (by omega) (by omega))
  have HV2 : t.size ≤ 65535 → Hid (vtext s2.data.toList (a.size : Int) = (t.data.toList, (q2 : Int), 0)) := by
    intro hle
    have h := vtext_enc (t := t.data.toList) (by rw [size_list]; exact hle) a.data.toList b.data.toList
    have e : s2.data.toList = a.data.toList ++ (VM.enc (t.data.toList.length : Int) ++ t.data.toList) ++ b.data.toList := by rw [← hs2, ← hte, size_list]; simp [textEnc]
    show _ = _
    rw [e, ← size_list a, h, hq2, hzt, size_list, size_list]
  have u1 : ((q2 : Int) == (s2.size : Int) - (b.size : Int)) = true := beq_iff_eq.2 (by omega)
  have b3 : b.size ≤ s2.size := by omega
  have b4 : s2.size ≤ 422212465053706 := by omega
  have n3 : ¬ 9223372036854775807 < a.size + te.size := by omega
  have n4 : ¬ 9223372036854775807 < a.size + te.size + b.size := by omega
  have HS1 := Lib.hid hs1
  have HS2 := Lib.hid hs2
  clear hl hz1 hz2 hq hq2 hzt hte hent hs1 hs2
  by_cases hle : t.size ≤ 65535
  · have HV2' := HV2 hle
    clear HV2
    have hs1 := HS1.out
    have hs2 := HS2.out
    go_enter Try.func5, Try.ntmps5
    go_wp2_with fail
    go_region_held3 (fun w' => w'.cell? ⟨w.heap.size, 0, none⟩ = some (.string a) ∧ w'.cell? ⟨w.heap.size, 1, none⟩ = some (.string b)) (go_keep)
      (first | (go_at_call 9; refine (HP.out w.heap.size _ ?_ ?_).mono ?_; (simp [*]); (simp [*]); rintro e w2 ⟨rfl, ⟨hc0, hc1⟩, hB2⟩))
    go_wp2_with fail
    refine (HG.out _).mono ?_
    rintro e w3 ⟨he, rfl⟩
    unfold GetOut at he
    rw [HV.out] at he
    subst he
    go_wp2_with fail
    go_region_held3 (fun w' => w'.cell? ⟨w.heap.size, 0, none⟩ = some (.string a) ∧ w'.cell? ⟨w.heap.size, 1, none⟩ = some (.string b)) (go_keep)
      (first | (go_at_call 13; refine (HT.out w.heap.size _ ?_ ?_).mono ?_; (simp [*]); (simp [*]); rintro e w3 ⟨rfl, ⟨hd0, hd1⟩, hB3⟩))
    go_wp2_with fail
    refine (HG2.out _).mono ?_
    rintro e w4 ⟨he, hB4⟩
    unfold TextOut at he
    rw [HV2'.out, show (⟨(t.data.toList, (q2 : Int), (0 : Int)).1.toArray⟩ : ByteArray) = t from rfl] at he
    subst he
    have hlt := block_lt_of_cell hd0
    have he1 : w4.cell? ⟨w.heap.size, 1, none⟩ = some (.string b) := (hB4.cell (p := ⟨w.heap.size, 1, none⟩) hlt).trans hd1
    clear hlt
    go_wp2
    go_ret
    have g1 : Below w.heap.size w w2 := ((((Below.refl _ _).alloc (Nat.le_refl _) _).drew).trans (hB2.mono (by simp)))
    have g2 : Below w.heap.size w w3 := g1.drew.trans (hB3.mono g1.size)
    exact ⟨rfl, g2.trans (hB4.mono g2.size)⟩
  · have hs1 := HS1.out
    clear HV2
    go_enter Try.func5, Try.ntmps5
    go_wp2_with fail
    go_region_held3 (fun w' => w'.cell? ⟨w.heap.size, 0, none⟩ = some (.string a) ∧ w'.cell? ⟨w.heap.size, 1, none⟩ = some (.string b)) (go_keep)
      (first | (go_at_call 9; refine (HP.out w.heap.size _ ?_ ?_).mono ?_; (simp [*]); (simp [*]); rintro e w2 ⟨rfl, ⟨hc0, hc1⟩, hB2⟩))
    go_wp2_with fail
    refine (HG.out _).mono ?_
    rintro e w3 ⟨he, rfl⟩
    unfold GetOut at he
    rw [HV.out] at he
    subst he
    go_wp2
    go_ret
    exact ⟨rfl, ((((Below.refl _ _).alloc (Nat.le_refl _) _).drew).trans (hB2.mono (by simp)))⟩

theorem contract (H : Type) (enc : TypeId × Value → H) (W : World) (base : Nat) (args : Array Value) (ds gs : List (DataW H)) (before : List MemPlace)
    (hval : ∀ (j : Nat) t v, Try.f5.params[j]? = some t → args[j]? = some v → Value.okWide Try.prog W .any base t v)
    (hW : DataW.Whole enc Try.prog Try.f5.params.toList Rows.varintBackSpec.vars false W args.toList ds gs before)
    (hz : (DataW.weightsEach Try.prog Try.f5.params.toList (ds ++ gs)).all (· ≤ reachBytes) = true) :
    Calls Try.prog 5 args W fun e W' => ∃ v, e = .returned v ∧ Rows.varintBackSpec.post enc Try.prog Try.f5 false true false false W args v W' := by
  have hW' := hW
  obtain ⟨p, q, hA0, hV, rfl, hfz, hnd⟩ := hW
  have hA : DataW.TrodAll enc Try.prog W 0 (fun _ => true) true Try.f5.params.toList args.toList ds p := hA0
  rw [Try.params5] at hA hval hz
  obtain ⟨v0, vs0, d0, ds0, p0, q0, hargs, rfl, rfl, h0, r0⟩ := trodAll_cons hA
  obtain ⟨v1, vs1, d1, ds1, p1, q1, rfl, rfl, rfl, h1, r1⟩ := trodAll_cons r0
  obtain ⟨v2, vs2, d2, ds2, p2, q2, rfl, rfl, rfl, h2, r2⟩ := trodAll_cons r1
  obtain ⟨rfl, rfl, rfl⟩ := trodAll_nil r2
  obtain rfl : args = #[v0, v1, v2] := by cases args; simp_all
  obtain ⟨rfl, rfl⟩ := trodVars_none hV
  obtain ⟨n, rfl, rfl, rfl, wn⟩ := open_int Try.underlying2 (hval 0 2 v0 rfl rfl) h0
  have hn : -9223372036854775808 ≤ n ∧ n ≤ 9223372036854775807 := by simpa [Lit.wf, IntKind.min, IntKind.max, IntKind.signed, IntKind.bits] using wn
  obtain ⟨around0, around1, rfl, rfl, rfl, -, -⟩ := open_strs2 Try.underlying31 Try.underlying9 (by kernel_rfl) (by kernel_rfl) (hval 1 31 v1 rfl rfl) h1
  have haround : around0.size ≤ 140737488351232 ∧ around1.size ≤ 140737488351232 := by
    have h := sized_strs2 hz (j := 1) rfl rfl Try.underlying31
    have hl0 : around0.data.toList.length = around0.size := by simp
    have hl1 : around1.data.toList.length = around1.size := by simp
    unfold reachBytes at h
    omega
  obtain ⟨t, rfl, rfl, rfl, hmax2⟩ := Go.ChangeMaps.open_string Try.underlying9 (hval 2 9 v2 rfl rfl) h2
  have ht : t.size ≤ 140737488351232 := by
    have h := sized_string hz (j := 2) rfl rfl
    have hl : t.data.toList.length = t.size := by simp
    unfold reachBytes at h
    omega
  refine (walk n around0 around1 t W hn.1 hn.2 haround.1 haround.2 ht).mono fun e W' ⟨he, hB⟩ => ?_
  subst he
  exact ⟨_, rfl, law_post Try.laidOut (by kernel_rfl) rfl rfl Try.underlying4 hW' rfl hB⟩

set_option maxRecDepth 100000 in
theorem lifted (os : Os) (started : os.Started) (H : Type) (enc : TypeId × Value → H) :
    ReturnsInHanded {} Try.checked os 5 .any (Rows.varintBackSpec.pre6 enc Try.prog Try.f5 Rows.varintBackRow.domain false) (Rows.varintBackSpec.post enc Try.prog Try.f5 false true false false) := by
  refine returnsInHanded_of_change_sized (C := Try.checked) Try.own started (by kernel_rfl) Try.func5
    (ChangeSpec.witness6 (enc := enc) (C := Try.checked) false ⟨#[], #[.int .i64 0, .agg #[.string .empty, .string .empty], .string .empty], []⟩ 8 (by kernel_rfl) (by kernel_rfl) (by kernel_rfl) (by kernel_rfl)) ?_
  intro W base args ds gs before hval hW _ hz _
  exact contract H enc W base args ds gs before hval hW hz

theorem proved : Rows.VarintBackSaid :=
  OpenClaim.holds_of_wide 5 Try.f5 rfl rfl rfl rfl rfl rfl rfl ⟨rfl, rfl, rfl, rfl, rfl⟩ rfl rfl rfl rfl rfl (by kernel_rfl) Try.func5 (by kernel_rfl)
    (of_decide_eq_true (by kernel_rfl)) (by unfold Func.isWrapper; first | (rw [if_pos (by decide +kernel)]; kernel_rfl) | (rw [if_neg (by decide +kernel)]; exact ⟨rfl, rfl⟩))
    (fun os started H enc _ => lifted os started H enc)
end lawBack
end Go.Proofs.Ytdhgikcinofpaaa
