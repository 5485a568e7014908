/- Texts joined by bundle.py: Rp, Se. -/
import Derived.Test.YtnglaolbfpdgoaaGreatZbe
import Derived.Test.YtnglaolbfpdgoaaGreatZbd

/- The walk of the document's Parse. -/
namespace Go.Proofs.YtnglaolbfpdgoaaGreat
open Go.RowKit
open SK

/-- what the document's Parse tells -/
def RefOut (w : World) (s : ByteArray) (e : Ending) (w' : World) : Prop :=
  ∃ A c, e = .returned (.tuple #[.slice A (BK.getL s.data.toList).length c, .int .i64 (BK.getC s.data.toList)]) ∧ EntsIn w' A (BK.getL s.data.toList) ∧ (∀ y ∈ fb A, w.heap.size ≤ y ∧ y < w'.heap.size) ∧ Below w.heap.size w w'

theorem refOut_bad {w w' : World} {s : ByteArray} {c : Int} (h : BK.getOut s.data.toList = .error c) (hb : Below w.heap.size w w') : RefOut w s (.returned (.tuple #[.slice none 0 0, .int .i64 c])) w' := by
  obtain ⟨h1, h2⟩ := BK.getC_err h
  refine ⟨none, 0, ?_, ?_, by simp [fb], hb⟩
  · rw [h1, h2]; rfl
  · rw [h2]; exact ⟨by simp, by simp⟩

set_option maxRecDepth 100000 in
set_option maxHeartbeats 8000000 in
theorem rparse_any (s : ByteArray) (w : World) (hs : s.size ≤ 140737488351232) :
    Calls Tryz.prog 44 #[.string s] w fun e w' => RefOut w s e w' := by
  obtain ⟨i0, hi, hz0, hz1, hz2⟩ := info_parts info_rent
  have HGC : Hid (BK.getOut s.data.toList = match BK.rNum s.data.toList 0 with
    | .error c => .error c
    | .ok (n, p) => if 4096 < n then .error 5 else if n < 0 then .error 4 else BK.rEnd s.data.toList (BK.rEnts s.data.toList n.toNat p [])) := Lib.hid rfl
  cases hn : BK.rNum s.data.toList 0 with
  | error c =>
    obtain ⟨a, b, hg⟩ := rget_bad hn hs (Nat.zero_le _)
    have HG := Lib.hid hg
    have hc := BK.num_err hn
    have HF : Hid (BK.getOut s.data.toList = .error c) := Lib.hid (by rw [HGC.out, hn])
    have hbe : (c == 0) = false := by simpa using hc
    have hbn : (c != 0) = true := by simpa using hc
    clear hn hg HGC
    go_enter Tryz.func44, Tryz.ntmps44
    go_wp2_with fail
    refine (HG.out _).mono ?_
    rintro e w1 ⟨rfl, rfl⟩
    go_wp2
    go_ret2
    exact refOut_bad HF.out (Below.refl _ _)
  | ok z =>
    obtain ⟨n, p⟩ := z
    have HG := Lib.hid (fun W => rget_ok hn hs (Nat.zero_le _) W)
    have hpl := BK.num_le hn
    rw [size_list] at hpl
    by_cases h2 : n < 0
    · have HF : Hid (BK.getOut s.data.toList = .error 4) := Lib.hid (by rw [HGC.out, hn]; simp only; rw [if_neg (by omega), if_pos h2])
      clear hn HGC
      go_enter Tryz.func44, Tryz.ntmps44
      go_wp2_with fail
      refine (HG.out _).mono ?_
      rintro e w1 ⟨rfl, rfl⟩
      go_wp2
      go_ret2
      exact refOut_bad HF.out (Below.refl _ _)
    by_cases h1 : 4096 < n
    · have HF : Hid (BK.getOut s.data.toList = .error 5) := Lib.hid (by rw [HGC.out, hn]; simp only; rw [if_pos h1])
      clear hn HGC
      go_enter Tryz.func44, Tryz.ntmps44
      go_wp2_with fail
      refine (HG.out _).mono ?_
      rintro e w1 ⟨rfl, rfl⟩
      go_wp2
      go_ret2
      exact refOut_bad HF.out (Below.refl _ _)
    obtain ⟨m, rfl⟩ := Int.eq_ofNat_of_zero_le (show 0 ≤ n by omega)
    have HX : Hid (BK.getOut s.data.toList = BK.rEnd s.data.toList (BK.rEnts s.data.toList m p [])) := Lib.hid (by rw [HGC.out, hn]; simp only; rw [if_neg h1, if_neg h2, Int.toNat_natCast])
    have HM : Hid (m ≤ 4096) := Lib.hid (by omega)
    have HPL := Lib.hid hpl
    clear hn HGC hpl
    go_enter Tryz.func44, Tryz.ntmps44
    go_wp2_with fail
    refine (HG.out _).mono ?_
    rintro e w1 ⟨rfl, rfl⟩
    go_wp2_with fail
    go_loopw [5, 7, 8, 9] (fun a v k i wr => ∃ j : Nat, j ≤ m ∧ i = .int .i64 j ∧ ∃ (acc : List E) (q : Nat), a = .int .i64 q ∧ k = .string (BK.lastKey acc) ∧ acc.length = j ∧ BK.rEnts s.data.toList m p [] = BK.rEnts s.data.toList (m - j) q acc ∧ q ≤ s.size ∧ wr.ownsRow w.heap.size 56 5 v j (ecs acc) ∧ Below w.heap.size w wr ∧ ∀ x ∈ acc, x.wf ∧ good x = 0) (fun _ _ _ i _ => m - (intOf i).toNat)
    case atStart => exact ⟨0, by omega, rfl, [], p, rfl, rfl, rfl, by simp, HPL.out, World.ownsRow_nil _ _ _ _, Below.refl _ _, by simp⟩
    case round =>
      obtain ⟨j, hj, rfl, acc, q, rfl, rfl, hal, hit, hq, hown, hbel, hwf⟩ := hrel
      obtain ⟨A, cap, rfl, hen, hfb, -⟩ := own_ents (fun x hx => (hwf x hx).1) hal hown
      have HFB := Lib.hid hfb
      clear hfb
      by_cases hlt : j < m
      · have hjm : m - j = (m - (j + 1)) + 1 := by omega
        rw [hjm] at hit
        simp only [BK.rEnts, BK.rEnt] at hit
        have g1 : (j : Int) < (m : Int) := by omega
        have hm64 : m ≤ 4096 := HM.out
        have hkl := BK.lastKey_le fun x hx => (hwf x hx).2
        have HONE := Lib.hid (rone_any s (BK.lastKey acc) q wr hs hq hkl)
        have HOWN := Lib.hid hown
        have HBEL := Lib.hid hbel
        have HAL := Lib.hid hal
        have HWF := Lib.hid hwf
        have HEN := Lib.hid hen
        have HSZ : Hid (w.heap.size ≤ wr.heap.size) := Lib.hid hbel.size
        obtain ⟨K, hK⟩ : ∃ K, BK.lastKey acc = K := ⟨_, rfl⟩
        rw [hK] at hit HONE hkl ⊢
        cases ho : BK.rOne s.data.toList q K with
        | error c =>
          have hc := BK.one_err ho
          rw [ho] at hit HONE
          have HF : Hid (BK.getOut s.data.toList = .error c) := Lib.hid (by rw [HX.out, hit]; rfl)
          have hbe : (c == 0) = false := by simpa using hc
          have hbn : (c != 0) = true := by simpa using hc
          clear ho hit hown hbel hal hwf hjm hen
          go_wp2_with fail
          refine HONE.out.mono ?_
          rintro e w2 ⟨hb2, rfl⟩
          have HB2 : Hid (∀ o, Below w.heap.size w (w2.alloc o)) := Lib.hid (fun o => (HBEL.out.trans (hb2.mono HSZ.out)).alloc (by have := hb2.size; have := HSZ.out; omega) _)
          clear hb2
          simp only [E.val, E.zero]
          go_wp2
          go_ret2
          exact refOut_bad HF.out (HB2.out _)
        | ok z =>
          obtain ⟨e, q'⟩ := z
          obtain ⟨hew, hq'⟩ := BK.one_wf ho (by omega)
          rw [size_list] at hq'
          rw [ho] at hit HONE
          simp only [BK.rFin] at hit
          have HNX : Hid (∀ W, EntsIn W A acc → Calls Tryz.prog 60 #[.slice A j cap, e.val] W fun r w' => r = .returned (.int .i64 (BK.nb acc e)) ∧ Below W.heap.size W w') := Lib.hid (fun W h => next_any A j cap acc e W hal h hew (by omega))
          have HSN : Hid (ecs (acc ++ [e]) = ecs acc ++ E.cells e) := Lib.hid (ecs_snoc _ _)
          have HLK : Hid (BK.lastKey (acc ++ [e]) = e.key) := Lib.hid (BK.lastKey_snoc _ _)
          have HWF2 : Hid (BK.nb acc e = 0 → ∀ x ∈ acc ++ [e], x.wf ∧ good x = 0) := Lib.hid (fun h0 x hx => by
            rcases List.mem_append.1 hx with h | h
            · exact hwf x h
            · simp at h; rw [h]; exact ⟨hew, (BK.nb_zero h0).1⟩)
          obtain ⟨G, hG⟩ : ∃ G, BK.nb acc e = G := ⟨_, rfl⟩
          rw [hG] at hit HNX HWF2
          have HIT := Lib.hid hit
          have HQ := Lib.hid hq'
          obtain ⟨Y, hY⟩ : ∃ Y, ecs acc = Y := ⟨_, rfl⟩
          rw [hY] at HOWN HSN
          clear ho hit hown hbel hal hwf hjm hen hew hq' hG hY hK hkl
          go_wp2_with fail
          refine HONE.out.mono ?_
          rintro e2 w2 ⟨hb2, rfl⟩
          have HO2 := Lib.hid (own_below HOWN.out hb2)
          have HB2 : Hid (Below w.heap.size w w2) := Lib.hid (HBEL.out.trans (hb2.mono HSZ.out))
          have HS2 : Hid (w.heap.size ≤ w2.heap.size) := Lib.hid HB2.out.size
          have HE2 := Lib.hid (HEN.out.below hb2)
          clear hb2 HONE HOWN HEN
          obtain ⟨k2, q2, g2, v2, t2⟩ := e
          simp only [E.val] at HNX ⊢
          have hrow : (w2.alloc (.cells #[.string k2, .int .i64 q2, .bool g2, .string v2, .int .i64 t2] 56)).heap[w2.heap.size]? = some (.cells #[.string k2, .int .i64 q2, .bool g2, .string v2, .int .i64 t2] 56 (0, 0)) := heap_alloc_new w2 _
          have hal3 : Below w2.heap.size w2 (w2.alloc (.cells #[.string k2, .int .i64 q2, .bool g2, .string v2, .int .i64 t2] 56)) := (Below.refl _ _).alloc (Nat.le_refl _) _
          have HO3 := Lib.hid (HO2.out.alloc (.cells #[.string k2, .int .i64 q2, .bool g2, .string v2, .int .i64 t2] 56))
          have HNEW : Hid (∀ g, (Value.slice A j cap).ownBlock = some g → w.heap.size ≤ g ∧ g < w2.heap.size) := Lib.hid (fun g hg => HO2.out.lt g hg)
          go_upto_if 41 with fail
          generalize w2.alloc (.cells #[.string k2, .int .i64 q2, .bool g2, .string v2, .int .i64 t2] 56) = w3 at hrow hal3 HO3 ⊢
          obtain ⟨x, hx⟩ : ∃ x, w2.heap.size = x := ⟨_, rfl⟩
          rw [hx] at hrow hal3 HS2 HNEW ⊢
          have HROW := Lib.hid hrow
          have HB3 : Hid (Below w.heap.size w w3) := Lib.hid (HB2.out.trans (hal3.mono HS2.out))
          have HE3 := Lib.hid (HE2.out.below (by rw [hx]; exact hal3))
          have HX3 : Hid (x < w3.heap.size) := Lib.hid (Array.getElem?_eq_some_iff.1 hrow).1
          have d0 : w3.cell? ⟨x, 0, none⟩ = some (.string k2) := cell_of_row _ _ _ _ _ _ hrow
          have d1 : w3.cell? ⟨x, 1, none⟩ = some (.int .i64 q2) := cell_of_row _ _ _ _ _ _ hrow
          have d2 : w3.cell? ⟨x, 2, none⟩ = some (.bool g2) := cell_of_row _ _ _ _ _ _ hrow
          have d3 : w3.cell? ⟨x, 3, none⟩ = some (.string v2) := cell_of_row _ _ _ _ _ _ hrow
          have d4 : w3.cell? ⟨x, 4, none⟩ = some (.int .i64 t2) := cell_of_row _ _ _ _ _ _ hrow
          clear hrow hal3 hx HO2 HE2 HB2
          go_wp2_with fail
          refine (HNX.out _ HE3.out).mono ?_
          rintro r w4 ⟨rfl, hb4⟩
          have HROW4 := Lib.hid ((hb4.block x HX3.out).trans HROW.out)
          have HO4 := Lib.hid (own_below HO3.out hb4)
          have HB4 : Hid (Below w.heap.size w w4) := Lib.hid (HB3.out.trans (hb4.mono (by have := HX3.out; have := HS2.out; omega)))
          have HS4 : Hid (w.heap.size ≤ w4.heap.size) := Lib.hid HB4.out.size
          have HX4 : Hid (x < w4.heap.size) := Lib.hid (Array.getElem?_eq_some_iff.1 HROW4.out).1
          clear hb4 HB3 HE3 HX3 HROW HO3 HNX d0 d1 d2 d3 d4
          by_cases h0 : G = 0
          · subst h0
            have HWF3 := Lib.hid (HWF2.out rfl)
            have HIT2 := Lib.hid HIT.out
            simp only [if_true] at HIT2
            have d0 : w4.cell? ⟨x, 0, none⟩ = some (.string k2) := cell_of_row _ _ _ _ _ _ HROW4.out
            have d1 : w4.cell? ⟨x, 1, none⟩ = some (.int .i64 q2) := cell_of_row _ _ _ _ _ _ HROW4.out
            have d2 : w4.cell? ⟨x, 2, none⟩ = some (.bool g2) := cell_of_row _ _ _ _ _ _ HROW4.out
            have d3 : w4.cell? ⟨x, 3, none⟩ = some (.string v2) := cell_of_row _ _ _ _ _ _ HROW4.out
            have d4 : w4.cell? ⟨x, 4, none⟩ = some (.int .i64 t2) := cell_of_row _ _ _ _ _ _ HROW4.out
            go_wp2_with (at_builtin; refine wpList_append_own _ rfl _ _ 24 rfl w.heap.size 56 i0 _ 5 56 Tryz.underlying24 hi hz0 hz1 hz2 rfl (by decide) _ _ _ rfl (own_below HO4.out ((Below.refl _ _).alloc (Nat.le_refl _) _)) ⟨w4.heap.size, 0, none⟩ 1 1 (E.cells ⟨k2, q2, g2, v2, t2⟩) rfl ?c1 ?c2 ?c3 ?c4 ?c5 ?c6 ?_)
            case c1 => rfl
            case c2 =>
              refine World.news_of_block (cs := (E.cells ⟨k2, q2, g2, v2, t2⟩).toArray) (t := 56) (fr := (0, 0)) ?_
              exact heap_alloc_new w4 _
            case c3 => simp [E.cells, Value.oneCell']
            case c4 => unfold maxLen; omega
            case c5 => omega
            case c6 => have := HS4.out; simp; omega
            intro v' w6 hown6 hgrow6 hnil6
            have HR6 : Hid (w6.ownsRow w.heap.size 56 5 v' (j + 1) (ecs (acc ++ [⟨k2, q2, g2, v2, t2⟩]))) := Lib.hid (by rw [HSN.out]; exact hown6)
            have HB6 : Hid (Below w.heap.size w w6) := Lib.hid ((HB4.out.alloc HS4.out _).grown hgrow6 (by have := HS4.out; simp; omega) (fun g hg => (HNEW.out g hg).1))
            have hr6 := (hgrow6.block x (by have := HX4.out; simp; omega) (by intro he; have := (HNEW.out x he.symm).2; omega)).trans ((Below.heap_alloc _ _ _ HX4.out).trans HROW4.out)
            have e0 : w6.cell? ⟨x, 0, none⟩ = some (.string k2) := cell_of_row _ _ _ _ _ _ hr6
            clear hown6 hgrow6 hnil6 hr6 d0 d1 d2 d3 d4
            go_wp2
            go_roundw
            case rel => exact ⟨j + 1, by omega, by go_num, acc ++ [⟨k2, q2, g2, v2, t2⟩], q', rfl, by rw [HLK.out], by rw [List.length_append, HAL.out]; rfl, HIT2.out, HQ.out, HR6.out, HB6.out, HWF3.out⟩
            case measure => simp [intOf]; omega
          · have HF : Hid (BK.getOut s.data.toList = .error G) := Lib.hid (by rw [HX.out, HIT.out, if_neg h0]; rfl)
            have hbe : (G == 0) = false := by simpa using h0
            have hbn : (G != 0) = true := by simpa using h0
            go_wp2
            go_ret2
            exact refOut_bad HF.out HB4.out
      · have hjn : j = m := by omega
        have hz : m - j = 0 := by omega
        rw [hz] at hit
        simp only [BK.rEnts] at hit
        have HX2 : Hid (BK.getOut s.data.toList = if q < s.size then .error 4 else .ok acc) := Lib.hid (by rw [HX.out, hit]; unfold BK.rEnd; rw [size_list])
        have HBEL := Lib.hid hbel
        have HEN := Lib.hid hen
        have HAL := Lib.hid hal
        subst hjn
        clear hz hit hown hbel hwf hal hen
        by_cases hql : q < s.size
        · have HF : Hid (BK.getOut s.data.toList = .error 4) := Lib.hid (by rw [HX2.out, if_pos hql])
          have hqi : (q : Int) < (s.size : Int) := by omega
          go_wp2
          go_ret2
          exact refOut_bad HF.out HBEL.out
        · have HF : Hid (BK.getOut s.data.toList = .ok acc) := Lib.hid (by rw [HX2.out, if_neg hql])
          have hqi : ¬ (q : Int) < (s.size : Int) := by omega
          go_wp2
          go_ret2
          obtain ⟨e1, e2⟩ := BK.getC_ok HF.out
          refine ⟨A, cap, ?_, ?_, HFB.out, HBEL.out⟩
          · rw [e1, e2, HAL.out]; rfl
          · rw [e2]; exact HEN.out
end Go.Proofs.YtnglaolbfpdgoaaGreat

/- The walk of the document's Get (of layer 6); sort.Search over any closure. -/
namespace Go.Proofs.YtnglaolbfpdgoaaGreat
open Go.RowKit
open SK

theorem find_none {p : E → Bool} {l : List E} (h : ∀ i, (hi : i < l.length) → p l[i] = false) : l.find? p = none := by
  rw [List.find?_eq_none]
  intro x hx
  obtain ⟨i, hi, rfl⟩ := List.getElem_of_mem hx
  simp [h i hi]
theorem find_at {p : E → Bool} {l : List E} {j : Nat} (hj : j < l.length) (h : ∀ i, (hi : i < j) → p (l[i]'(by omega)) = false) (hp : p l[j] = true) : l.find? p = some l[j] := by
  have hs : l = l.take j ++ l[j] :: l.drop (j + 1) := by rw [← List.drop_eq_getElem_cons, List.take_append_drop]
  have h1 : (l.take j).find? p = none := find_none fun i hi => by
    rw [List.length_take] at hi
    rw [List.getElem_take]
    exact h i (by omega)
  have h2 : (l.take j ++ l[j] :: l.drop (j + 1)).find? p = some l[j] := by rw [List.find?_append, h1, Option.none_or, List.find?_cons, hp]
  rw [← hs] at h2
  exact h2


set_option maxRecDepth 100000 in
/-- sort.Search over any closure that answers a bool and leaves what is below -/
theorem search_any (n : Nat) (w : World) (hlen : n ≤ 1000000) (fn : FuncId) (caps : Array Value) (u : Nat → Bool)
    (hcf : ∀ W q, (callFunc fn (#[.int .i64 q] ++ caps)).run Tryz.prog W = .ok (.enter fn (#[.int .i64 q] ++ caps)) W)
    (hcall : ∀ W, Below w.heap.size w W → ∀ p, p < n → Calls Tryz.prog fn (#[.int .i64 (p : Nat)] ++ caps) W fun e W' => e = .returned (.bool (u p)) ∧ Below W.heap.size W W') :
    Calls Tryz.prog 33 #[.int .i64 n, .func (.func fn) #[] caps] w fun e w' => ∃ i : Nat, e = .returned (.int .i64 i) ∧ i ≤ n ∧ (∀ m, i = m + 1 → u m = false) ∧ (i < n → u i = true) ∧ Below w.heap.size w w' := by
  have HCF := Lib.hid hcf
  have HC := Lib.hid hcall
  clear hcf hcall
  go_enter Tryz.func33, Tryz.ntmps33
  go_wp2_with fail
  go_loopw [5, 6] (fun a b wr => ∃ i j : Nat, i ≤ j ∧ j ≤ n ∧ a = .int .i64 i ∧ b = .int .i64 j ∧ Hid (∀ m, i = m + 1 → u m = false) ∧ Hid (j < n → u j = true) ∧ Below w.heap.size w wr) (fun a b _ => (intOf b).toNat - (intOf a).toNat)
  case atStart => exact ⟨0, n, by omega, by omega, rfl, rfl, Lib.hid (fun m h => by omega), Lib.hid (fun h => by omega), Below.refl _ _⟩
  case round =>
    obtain ⟨i, j, hij, hj, rfl, rfl, hu0, hu1, hB⟩ := hrel
    by_cases hlt : i < j
    · have hd : (((i : Int) + (j : Int)) / 2) = (((i + j) / 2 : Nat) : Int) := by omega
      have hwr : IntKind.i64.wrap ((i : Int) + (j : Int)) = (i : Int) + (j : Int) := IntWalk.i64_in _ ⟨by omega, by omega⟩
      obtain ⟨h, hh⟩ : ∃ h, (i + j) / 2 = h := ⟨_, rfl⟩
      have h1 : i ≤ h := by omega
      have h2 : h < j := by omega
      rw [hh] at hd
      have HCC := Lib.hid (HC.out wr hB h (by omega))
      have hcf := HCF.out
      have HB := Lib.hid hB
      clear hB hh
      go_wp2_with fail
      refine HCC.out.mono ?_
      rintro e w1 ⟨rfl, hB1⟩
      have HB1 := Lib.hid (HB.out.trans (hB1.mono HB.out.size))
      clear hB1
      cases hu : u h
      · have HU : Hid (∀ m, h + 1 = m + 1 → u m = false) := Lib.hid (fun m hm => by rw [show m = h by omega]; exact hu)
        go_wp2
        go_roundw
        case rel => exact ⟨h + 1, j, by omega, hj, by go_num, rfl, HU, hu1, HB1.out⟩
        case measure => simp [intOf]; omega
      · have HU : Hid (h < n → u h = true) := Lib.hid (fun _ => hu)
        go_wp2
        go_roundw
        case rel => exact ⟨i, h, h1, by omega, rfl, rfl, hu0, HU, HB1.out⟩
        case measure => simp [intOf]; omega
    · have hij : i = j := by omega
      subst hij
      have HB := Lib.hid hB
      clear hB
      go_wp2
      go_ret
      exact ⟨i, rfl, hj, hu0.out, hu1.out, HB.out⟩
end Go.Proofs.YtnglaolbfpdgoaaGreat

