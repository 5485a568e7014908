/- KeyBack: parts are read back from their key; bytes that are read as parts are these parts' key. For every list of parts, every text. -/
import Derived.Test.YtnkofinielabkaaParse
import Derived.Test.YtnkofinielabkaaMakes
import Derived.Test.YtnkofinielabkaaOpen
import Derived.Test.YtnkofinielabkaaLaw
import Derived.Deep.QuietTactic
import Derived.BigQuiet
namespace Go.Proofs.Ytnkofinielabkaa
open Go.ChangeShapes Go.WideShapes Go.ChangeAt Go.RowKit
namespace lawBack

theorem mk_two_ways (l : List KM.KP) : (l.length ≤ 16 ∧ l.any KM.bad = false ∧ KM.mk l = (l.flatMap KM.penc, 0)) ∨ KM.mk l = ([], 5) := by
  unfold KM.mk
  split
  · right; rfl
  · rename_i h
    left
    refine ⟨by omega, ?_, rfl⟩
    cases hb : l.any KM.bad
    · rfl
    · exact absurd (Or.inr hb) h

theorem parse_nil (n : Nat) (acc : List KM.KP) : KM.parse n [] acc = (acc, 0) := by
  cases n <;> simp [KM.parse]

/-- what is read back of a key -/
theorem back_of (l : List KM.KP) (hr : ∀ p ∈ l, -9223372036854775808 ≤ p.n ∧ p.n ≤ 9223372036854775807) {t : List UInt8} {c : Int} (h : KM.mk l = (t, c)) :
    (c = 0 ∧ KM.parse t.length t [] = (l.map KM.norm, 0)) ∨ (c = 5 ∧ KM.parse t.length t [] = ([], 0)) := by
  rcases mk_two_ways l with ⟨h16, hb, hm⟩ | hm
  · left
    rw [hm] at h
    simp only [Prod.mk.injEq] at h
    obtain ⟨rfl, rfl⟩ := h
    refine ⟨rfl, ?_⟩
    have hlen : ∀ l : List KM.KP, l.length ≤ (l.flatMap KM.penc).length := by
      intro l
      induction l with
      | nil => simp
      | cons p l ih =>
        have hp : 1 ≤ (KM.penc p).length := by unfold KM.penc; split <;> simp
        simp only [List.flatMap_cons, List.length_append, List.length_cons]
        omega
    have := KM.parse_enc l hr hb (l.flatMap KM.penc).length [] (hlen l) (by simpa using h16)
    simpa using this
  · right
    rw [hm] at h
    simp only [Prod.mk.injEq] at h
    obtain ⟨rfl, rfl⟩ := h
    exact ⟨rfl, parse_nil _ _⟩

/-- bytes that are read as parts are these parts' key -/
theorem key_of {s : ByteArray} {x : List KM.KP} (h : KM.parse s.size s.data.toList [] = (x, 0)) : KM.mk x = (s.data.toList, 0) ∧ ∀ p ∈ x, -9223372036854775808 ≤ p.n ∧ p.n ≤ 9223372036854775807 := by
  obtain ⟨y, hy, hl, hb, h16, hr⟩ := KM.parse_ok s.size s.data.toList [] x (by rw [size_list]; omega) (by simp) h
  simp only [List.nil_append] at hy
  subst hy
  refine ⟨?_, hr⟩
  rw [mk_good h16 hb, ← hl]

theorem norm_range {l : List KM.KP} (hr : ∀ p ∈ l, -9223372036854775808 ≤ p.n ∧ p.n ≤ 9223372036854775807) : ∀ p ∈ l.map KM.norm, -9223372036854775808 ≤ p.n ∧ p.n ≤ 9223372036854775807 := by
  intro p hp
  obtain ⟨q, hq, rfl⟩ := List.mem_map.1 hp
  unfold KM.norm
  split
  · exact ⟨by simp, by simp⟩
  · exact hr q hq

set_option maxRecDepth 100000 in
set_option maxHeartbeats 2000000 in
theorem walk (A : Option Addr) (n cap : Nat) (l : List KM.KP) (s : ByteArray) (w : World) (hn : l.length = n) (hz : PartsIn w w.heap.size A l) (hb : n * 32 ≤ reachBytes) (hs : s.size ≤ 140737488351232) :
    Calls Try.prog 6 #[.slice A n cap, .string s] w fun e w' => e = .returned (.bool true) ∧ Below w.heap.size w w' := by
  unfold reachBytes at hb
  have HL := Lib.hid (lists_any A n cap l w hn hz (by omega))
  have HN := Lib.hid hn
  have HZ := Lib.hid hz
  clear hn hz
  go_enter Try.func6, Try.ntmps6
  go_wp2_with fail
  refine HL.out.mono ?_
  rintro e w1 ⟨a, b, rfl, hT⟩
  obtain ⟨A1, c1, rfl, hz1⟩ := parts_of_own HZ.out.1 HN.out hT.own1
  obtain ⟨A2, c2, rfl, -⟩ := parts_of_own HZ.out.1 HN.out hT.own2
  have HB1 := Lib.hid hT.below
  have HZ1 := Lib.hid hz1
  have hs1 := hT.below.size
  have HM1 := Lib.hid (make_any A1 n c1 l w1 HN.out hz1 (by omega))
  clear hT hz1
  obtain ⟨t, c, hmk⟩ : ∃ t c, KM.mk l = (t, c) := ⟨_, _, rfl⟩
  have hback := back_of l HZ.out.1 hmk
  rw [hmk] at HM1
  obtain ⟨T, hT⟩ : ∃ T : ByteArray, (⟨t.toArray⟩ : ByteArray) = T := ⟨_, rfl⟩
  have hTl : T.data.toList = t := by rw [← hT]
  have hTs : T.size = t.length := by rw [← size_list T, hTl]
  have hTz : T.size ≤ 1048576 := by
    rw [hTs]
    rcases mk_two_ways l with ⟨h16, hbd, hm⟩ | hm
    · rw [hm] at hmk
      simp only [Prod.mk.injEq] at hmk
      have := encs_len l hbd
      rw [hmk.1] at this
      omega
    · rw [hm] at hmk
      simp only [Prod.mk.injEq] at hmk
      rw [← hmk.1]; simp
  rw [← hTl] at hback
  rw [show T.data.toList.length = T.size by rw [size_list]] at hback
  rw [hT] at HM1
  have HBK := Lib.hid hback
  clear hmk hback hT hTl hTs
  go_wp2_with fail
  refine HM1.out.mono ?_
  rintro e w2 ⟨rfl, hB2⟩
  have hs2 := hB2.size
  have HB2 := Lib.hid (HB1.out.trans (hB2.mono hs1))
  have HZ2 := Lib.hid ((HZ1.out.below hB2).more hs2)
  have HPA := Lib.hid (parse_any T w2 (by omega))
  clear hB2
  obtain ⟨b, f, hpar⟩ : ∃ b f, KM.parse T.size T.data.toList [] = (b, f) := ⟨_, _, rfl⟩
  unfold ParseOut at HPA
  rw [hpar] at HPA HBK
  have hbr : ∀ q ∈ b, -9223372036854775808 ≤ q.n ∧ q.n ≤ 9223372036854775807 := by
    rcases HBK.out with ⟨-, h⟩ | ⟨-, h⟩
    · simp only [Prod.mk.injEq] at h; rw [h.1]; exact norm_range HZ.out.1
    · simp only [Prod.mk.injEq] at h; rw [h.1]; simp
  have HBR := Lib.hid hbr
  clear hpar hbr
  go_wp2_with fail
  refine HPA.out.mono ?_
  rintro e w3 ⟨v, rfl, hown, hB3⟩
  obtain ⟨A3, c3, rfl, hz3⟩ := parts_of_own HBR.out rfl hown
  have hs3 := hB3.size
  have HB3 := Lib.hid (HB2.out.trans (hB3.mono (by omega)))
  have HZ3 := Lib.hid hz3
  have HZ2b := Lib.hid ((HZ2.out.below hB3).more hs3)
  clear hB3 hown hz3
  rcases HBK.out with ⟨hc, hbf⟩ | ⟨hc, hbf⟩
  · simp only [Prod.mk.injEq] at hbf
    obtain ⟨hbl, hf0⟩ := hbf
    subst hc
    subst hf0
    have hlen : b.length = n := by rw [hbl, List.length_map, HN.out]
    have HBL := Lib.hid hbl
    have HLEN := Lib.hid hlen
    rw [hlen]
    clear hbl hlen
    go_wp2_with fail
    refine (wakes_any _).mono ?_
    rintro e w4 ⟨rfl, hB4⟩
    have hs4 := hB4.size
    have HB4 := Lib.hid (HB3.out.trans (hB4.mono (by omega)))
    have HZ3b := Lib.hid ((HZ3.out.below hB4).more hs4)
    have HZ2c := Lib.hid ((HZ2b.out.below hB4).more hs4)
    clear hB4
    go_wp2_with fail
    go_loopw [50] (fun i wr => ∃ j : Nat, j ≤ n ∧ i = .int .i64 j ∧ Below w4.heap.size w4 wr) (fun i _ => n - (intOf i).toNat)
    case atStart => exact ⟨0, by omega, rfl, Below.refl _ _⟩
    case round =>
      obtain ⟨j, hj, rfl, hBr⟩ := hrel
      have HBr := Lib.hid hBr
      have hsr := hBr.size
      by_cases hlt : j < n
      · have hjl : j < l.length := by rw [HN.out]; exact hlt
        have hjb : j < b.length := by rw [HLEN.out]; exact hlt
        obtain ⟨g1, off, hA, -, hc⟩ := (HZ2c.out.below hBr).2 (by omega)
        obtain ⟨hc0, hc1, hc2⟩ := hc j hjl
        obtain ⟨g3, off3, hA3, -, hd⟩ := (HZ3b.out.below hBr).2 (by omega)
        obtain ⟨hd0, hd1, hd2⟩ := hd j hjb
        have hbj : b[j] = KM.norm l[j] := by
          have hbl := HBL.out
          subst hbl
          rw [List.getElem_map]
        obtain ⟨p, hp⟩ : ∃ p, l[j] = p := ⟨_, rfl⟩
        rw [hp] at hbj hc0 hc1 hc2
        rw [hbj] at hd0 hd1 hd2
        clear hc hd hbj hp hBr
        have i0 : (0 : Int) ≤ (j : Int) := by omega
        have i1 : (j : Int) < (n : Int) := by omega
        subst hA hA3
        obtain ⟨pt, pn, ps⟩ := p
        have hss : (ps.toList == ps.toList) = true := by simp
        have hnn : (pn != pn) = false := by simp
        cases pt with
        | true =>
          simp only [KM.norm, if_true] at hd0 hd1 hd2
          go_wp2_with fail
          go_quiet (fail)
          go_wp2
          go_roundw
          case rel => exact ⟨j + 1, by omega, by go_num, below_drewN HBr.out _⟩
          case measure => simp [intOf]; omega
        | false =>
          simp only [KM.norm, Bool.false_eq_true, if_false] at hd0 hd1 hd2
          go_wp2_with fail
          go_quiet (fail)
          go_wp2
          go_roundw
          case rel => exact ⟨j + 1, by omega, by go_num, below_drewN HBr.out _⟩
          case measure => simp [intOf]; omega
      · obtain rfl : j = n := by omega
        have HB4' := Lib.hid (HB4.out.trans (hBr.mono (by omega)))
        clear hBr
        go_wp2_with fail
        refine (parse_any s _ (by omega)).mono ?_
        rintro e w5 ⟨v5, rfl, hown5, hB5⟩
        have hs5 := hB5.size
        have HB5 := Lib.hid (HB4'.out.trans (hB5.mono (by omega)))
        obtain ⟨x, g, hpar⟩ : ∃ x g, KM.parse s.size s.data.toList [] = (x, g) := ⟨_, _, rfl⟩
        have herr := KM.parse_err s.size s.data.toList []
        rw [hpar] at hown5 herr
        rw [hpar]
        by_cases hg : g = 0
        · subst hg
          obtain ⟨hmx, hxr⟩ := key_of hpar
          obtain ⟨A5, c5, rfl, hz5⟩ := parts_of_own hxr rfl hown5
          obtain ⟨xn, hxn⟩ : ∃ xn, x.length = xn := ⟨_, rfl⟩
          have hx16 : x.length ≤ 16 := by
            obtain ⟨y, hy, -, -, h16, -⟩ := KM.parse_ok s.size s.data.toList [] x (by rw [size_list]; omega) (by simp) hpar
            exact h16
          have HM5 := Lib.hid (make_any A5 x.length c5 x w5 rfl hz5 (by omega))
          rw [hmx, str_mk] at HM5
          have hss : (s.toList == s.toList) = true := by simp
          rw [hxn] at HM5 hx16
          simp only [hxn]
          clear hpar herr hown5 hB5 hz5 hmx hxr hxn
          go_wp2_with fail
          refine HM5.out.mono ?_
          rintro e w6 ⟨rfl, hB6⟩
          go_wp2
          go_ret
          exact ⟨rfl, HB5.out.trans (hB6.mono (by omega))⟩
        · have hx0 : x = [] := herr hg
          subst hx0
          have t1 : (g == 0) = false := beq_eq_false_iff_ne.2 hg
          have t1' : (g != 0) = true := by rw [bne_iff_ne]; exact hg
          obtain ⟨A5, c5, rfl⟩ := own_slice hown5
          clear hpar herr hown5 hB5 hg
          go_wp2
          go_ret
          exact ⟨rfl, HB5.out⟩
  · simp only [Prod.mk.injEq] at hbf
    obtain ⟨hbl, hf0⟩ := hbf
    subst hc
    subst hf0
    subst hbl
    have hn0 : ([] : List KM.KP).length = 0 := rfl
    rw [hn0]
    go_wp2_with fail
    refine (wakes_any _).mono ?_
    rintro e w4 ⟨rfl, hB4⟩
    have hs4 := hB4.size
    have HB4 := Lib.hid (HB3.out.trans (hB4.mono (by omega)))
    clear hB4
    go_wp2_with fail
    go_loop [50] (fun i => i = .int .i64 0) (fun _ => 0)
    case atStart => rfl
    case round =>
      subst hrel
      go_wp2_with fail
      refine (parse_any s _ (by omega)).mono ?_
      rintro e w5 ⟨v5, rfl, hown5, hB5⟩
      have hs5 := hB5.size
      have HB5 := Lib.hid (HB4.out.trans (hB5.mono (by omega)))
      obtain ⟨x, g, hpar⟩ : ∃ x g, KM.parse s.size s.data.toList [] = (x, g) := ⟨_, _, rfl⟩
      have herr := KM.parse_err s.size s.data.toList []
      rw [hpar] at hown5 herr
      rw [hpar]
      by_cases hg : g = 0
      · subst hg
        obtain ⟨hmx, hxr⟩ := key_of hpar
        obtain ⟨A5, c5, rfl, hz5⟩ := parts_of_own hxr rfl hown5
        obtain ⟨xn, hxn⟩ : ∃ xn, x.length = xn := ⟨_, rfl⟩
        have hx16 : x.length ≤ 16 := by
          obtain ⟨y, hy, -, -, h16, -⟩ := KM.parse_ok s.size s.data.toList [] x (by rw [size_list]; omega) (by simp) hpar
          exact h16
        have HM5 := Lib.hid (make_any A5 x.length c5 x w5 rfl hz5 (by omega))
        rw [hmx, str_mk] at HM5
        have hss : (s.toList == s.toList) = true := by simp
        rw [hxn] at HM5 hx16
        simp only [hxn]
        clear hpar herr hown5 hB5 hz5 hmx hxr hxn
        go_wp2_with fail
        refine HM5.out.mono ?_
        rintro e w6 ⟨rfl, hB6⟩
        go_wp2
        go_ret
        exact ⟨rfl, HB5.out.trans (hB6.mono (by omega))⟩
      · have hx0 : x = [] := herr hg
        subst hx0
        have t1 : (g == 0) = false := beq_eq_false_iff_ne.2 hg
        have t1' : (g != 0) = true := by rw [bne_iff_ne]; exact hg
        obtain ⟨A5, c5, rfl⟩ := own_slice hown5
        clear hpar herr hown5 hB5 hg
        go_wp2
        go_ret
        exact ⟨rfl, HB5.out⟩

theorem contract (H : Type) (enc : TypeId × Value → H) (W : World) (base : Nat) (args : Array Value) (ds gs : List (DataW H)) (before : List MemPlace)
    (hval : ∀ (j : Nat) t v, Try.f6.params[j]? = some t → args[j]? = some v → Value.okWide Try.prog W .any base t v)
    (hW : DataW.Whole enc Try.prog Try.f6.params.toList Rows.keyBackSpec.vars false W args.toList ds gs before)
    (hz : (DataW.weightsEach Try.prog Try.f6.params.toList (ds ++ gs)).all (· ≤ reachBytes) = true) :
    Calls Try.prog 6 args W fun e W' => ∃ v, e = .returned v ∧ Rows.keyBackSpec.post enc Try.prog Try.f6 false true false false W args v W' := by
  have hW' := hW
  obtain ⟨p, q, hA0, hV, rfl, hfz, hnd⟩ := hW
  have hA : DataW.TrodAll enc Try.prog W 0 (fun _ => true) true Try.f6.params.toList args.toList ds p := hA0
  rw [Try.params6] at hA hval hz
  obtain ⟨v0, vs0, d0, ds0, p0, q0, hargs, rfl, rfl, h0, r0⟩ := trodAll_cons hA
  obtain ⟨v1, vs1, d1, ds1, p1, q1, rfl, rfl, rfl, h1, r1⟩ := trodAll_cons r0
  obtain ⟨rfl, rfl, rfl⟩ := trodAll_nil r1
  obtain rfl : args = #[v0, v1] := by cases args; simp_all
  obtain ⟨rfl, rfl⟩ := trodVars_none hV
  obtain ⟨lA, lN, lC, l, rfl, hlenl, hinl, hbl, hsl⟩ := open_parts (hval 0 22 v0 rfl rfl) h0 (parts_sized hz (j := 0) rfl rfl)
  obtain ⟨s, rfl, rfl, rfl, hmax1⟩ := Go.ChangeMaps.open_string Try.underlying9 (hval 1 9 v1 rfl rfl) h1
  have hs : s.size ≤ 140737488351232 := by
    have h := sized_string hz (j := 1) rfl rfl
    have hl : s.data.toList.length = s.size := by simp
    unfold reachBytes at h
    omega
  refine (walk lA lN lC l s W hlenl hinl hbl hs).mono fun e W' ⟨he, hB⟩ => ?_
  subst he
  exact ⟨_, rfl, law_post Try.laidOut (by kernel_rfl) rfl rfl Try.underlying4 hW' rfl hB⟩

set_option maxRecDepth 100000 in
theorem lifted (os : Os) (started : os.Started) (H : Type) (enc : TypeId × Value → H) :
    ReturnsInHanded {} Try.checked os 6 .any (Rows.keyBackSpec.pre6 enc Try.prog Try.f6 Rows.keyBackRow.domain false) (Rows.keyBackSpec.post enc Try.prog Try.f6 false true false false) := by
  refine returnsInHanded_of_change_sized (C := Try.checked) Try.own started (by kernel_rfl) Try.func6
    (ChangeSpec.witness6 (enc := enc) (C := Try.checked) false ⟨#[], #[.slice none 0 0, .string .empty], []⟩ 8 (by kernel_rfl) (by kernel_rfl) (by kernel_rfl) (by kernel_rfl)) ?_
  intro W base args ds gs before hval hW _ hz _
  exact contract H enc W base args ds gs before hval hW hz

theorem proved : Rows.KeyBackSaid :=
  OpenClaim.holds_of_wide 6 Try.f6 rfl rfl rfl rfl rfl rfl rfl ⟨rfl, rfl, rfl, rfl, rfl⟩ rfl rfl rfl rfl rfl (by kernel_rfl) Try.func6 (by kernel_rfl)
    (of_decide_eq_true (by kernel_rfl)) (by unfold Func.isWrapper; first | (rw [if_pos (by decide +kernel)]; kernel_rfl) | (rw [if_neg (by decide +kernel)]; exact ⟨rfl, rfl⟩))
    (fun os started H enc _ => lifted os started H enc)
end lawBack
end Go.Proofs.Ytnkofinielabkaa
