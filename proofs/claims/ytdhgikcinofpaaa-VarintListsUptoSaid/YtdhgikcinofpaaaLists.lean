/- VarintLists: the numbers of every list are read back; every bytes are read as numbers that are written as these bytes, or as the first error. For every list of int64 and every text, of bulk up to the bound. -/
import Derived.Test.YtdhgikcinofpaaaVarB
import Derived.Test.YtdhgikcinofpaaaVarF
import Derived.Test.YtdhgikcinofpaaaVarQ
import Derived.Test.YtdhgikcinofpaaaOpens
import Derived.Deep.QuietTactic
import Derived.BigQuiet
import Derived.WalkSmall
import Derived.Deep.CondSized
namespace Go.Proofs.Ytdhgikcinofpaaa
open Go.ChangeShapes Go.WideShapes Go.ChangeAt Go.RowKit
namespace lawLists

/-- a row that the call owns, as a slice of numbers -/
theorem ints_of_own {w : World} {base : Nat} {v : Value} {zs : List Int} (hr : ∀ z ∈ zs, -9223372036854775808 ≤ z ∧ z ≤ 9223372036854775807) (h : w.ownsRow base 2 1 v zs.length (ints zs)) :
    ∃ A c, v = .slice A zs.length c ∧ IntsIn w w.heap.size A zs := by
  have h' := h
  rcases h.2 with ⟨rfl, h0⟩ | ⟨g, cap, cur, rfl, _, hg, _, _, _, _⟩
  · exact ⟨none, 0, by rw [h0], hr, fun hn => by omega⟩
  · refine ⟨some ⟨g, 0, none⟩, cap, rfl, hr, fun _ => ⟨g, 0, rfl, (Array.getElem?_eq_some_iff.1 hg).1, fun j hj => ?_⟩⟩
    have hc := h'.cells (g := g) rfl j (.int .i64 zs[j]) (by simp [ints, hj])
    have hadd : (⟨g, 0, none⟩ : Addr).add j = ⟨g, j, none⟩ := by unfold Addr.add; split <;> simp_all
    rw [hadd] at hc
    rw [Nat.zero_add]
    exact hc

/-- what was read is in range -/
theorem gall_range (f : Nat) : ∀ l : List UInt8, ∀ z ∈ (gall f l).1, -9223372036854775808 ≤ z ∧ z ≤ 9223372036854775807 := by
  induction f with
  | zero => intro l z hz; simp [gall] at hz
  | succ f ih =>
    intro l z hz
    unfold gall at hz
    split at hz
    · simp at hz
    · split at hz
      · simp at hz
      · split at hz
        · simp at hz
        · rename_i hm _
          rcases List.mem_cons.1 hz with rfl | hz
          · obtain ⟨-, -, -, -, hv, -⟩ := VM.meas_ok (l := l) (by simpa using hm)
            exact VM.unzig_range hv
          · exact ih _ z hz

theorem gall_len (f : Nat) : ∀ l : List UInt8, (gall f l).1.length ≤ l.length := by
  induction f with
  | zero => intro l; simp [gall]
  | succ f ih =>
    intro l
    unfold gall
    split
    · simp
    · split
      · simp
      · split
        · simp
        · rename_i hm _
          obtain ⟨m1, -, m2, -, -, -⟩ := VM.meas_ok (l := l) (by simpa using hm)
          have := ih (l.drop (VM.meas l).1)
          rw [List.length_drop] at this
          simp only [List.length_cons]
          omega

def WantRel (zs : List Int) (w : World) (s i : Value) (wr : World) : Prop :=
  ∃ k : Nat, k ≤ zs.length ∧ i = .int .i64 k ∧ s = .string ⟨(encAll (zs.take k)).toArray⟩ ∧ Below w.heap.size w wr

def CountRel (n : Nat) (w : World) (i : Value) (wr : World) : Prop := ∃ k : Nat, k ≤ n ∧ i = .int .i64 k ∧ Below w.heap.size w wr

set_option maxRecDepth 100000 in
set_option maxHeartbeats 1000000 in
theorem walk (A : Option Addr) (n cap : Nat) (zs : List Int) (s : ByteArray) (w : World) (hn : zs.length = n) (hz : IntsIn w w.heap.size A zs) (hb : n ≤ 1048576) (hs : s.size ≤ 1048576) :
    Calls Try.prog 7 #[.slice A n cap, .string s] w fun e w' => e = .returned (.bool true) ∧ Below w.heap.size w w' := by
  obtain ⟨i0, hi, hz0, hz1, hz2⟩ := info_parts info_i64
  obtain ⟨l, hl⟩ : ∃ l : List UInt8, encAll zs = l := ⟨_, rfl⟩
  have hlen := encAll_len zs hz.1
  rw [hl, hn] at hlen
  have HP := Lib.hid (putAll_any A n cap zs w hn hz (by omega))
  rw [hl] at HP
  have hsz : (⟨l.toArray⟩ : ByteArray).size = l.length := by simp [ByteArray.size]
  have HGA := Lib.hid (fun W => getAll_any ⟨l.toArray⟩ W (by rw [hsz]; omega))
  have hback : gall ((⟨l.toArray⟩ : ByteArray).size + 1) (⟨l.toArray⟩ : ByteArray).data.toList = (zs, 0) := by
    rw [hsz, ← hl]
    exact gall_back zs hz.1 _ (by rw [hl]; omega)
  have HBK := Lib.hid hback
  have HZ := Lib.hid hz
  have HN := Lib.hid hn
  have HL := Lib.hid hl
  clear hback hsz hz hn hl
  go_enter Try.func7, Try.ntmps7
  go_wp2_with fail
  refine HP.out.mono ?_
  rintro e w1 ⟨rfl, hB1⟩
  go_wp2_with fail
  refine (HGA.out _).mono ?_
  rintro e w2 ⟨v, he, hown, hB2⟩
  rw [HBK.out] at he hown
  subst he
  obtain ⟨A2, c2, rfl, hzz⟩ := ints_of_own HZ.out.1 hown
  have HZ2 := Lib.hid hzz
  clear hown hzz
  rw [HN.out]
  go_wp2_with fail
  go_loopw [8, 29] (fun t i wr => WantRel zs w2 t i wr) (fun _ i _ => n - (intOf i).toNat)
  case atStart => exact ⟨0, Nat.zero_le _, rfl, rfl, Below.refl _ _⟩
  case round =>
    obtain ⟨k, hk, rfl, rfl, hB3⟩ := hrel
    rw [HN.out] at hk
    by_cases hlt : k < n
    · have hkl : k < zs.length := by rw [HN.out]; exact hlt
      obtain ⟨b, off, hA, hbl, hc⟩ := ((HZ.out.below hB1).below ((hB2.mono hB1.size).trans (hB3.mono (Nat.le_trans hB1.size hB2.size)))).2 (by omega)
      obtain ⟨z, hzk⟩ : ∃ z, zs[k] = z := ⟨_, rfl⟩
      have hzr := HZ.out.1 z (by rw [← hzk]; exact List.getElem_mem hkl)
      have hcell := hc k hkl
      rw [hzk] at hcell
      have HS := Lib.hid (encAll_snoc zs k hkl)
      have hen := VM.enc_len hzr.1 hzr.2
      have HQ := Lib.hid (refPut_any z wr hzr.1 hzr.2)
      have HK := Lib.hid hzk
      have hl10 := encAll_len (zs.take k) (fun y hy => HZ.out.1 y (List.mem_of_mem_take hy))
      have hlk : (zs.take k).length ≤ k := List.length_take_le _ _
      clear hc hzk hzr
      subst hA
      go_wp2_with fail
      refine HQ.out.mono ?_
      rintro e w3 ⟨rfl, hB4⟩
      have HR : Hid (WantRel zs w2 (.string (⟨(encAll (zs.take k)).toArray⟩ ++ ⟨(VM.enc z).toArray⟩)) (.int .i64 ((k : Int) + 1)) w3) := by
        refine ⟨k + 1, by omega, by go_num, ?_, hB3.trans (hB4.mono hB3.size)⟩
        rw [str_append, HS.out, HK.out]
      go_wp2
      go_roundw
      case rel => exact HR.out
      case measure => simp [intOf]; omega
    · have htk : zs.take k = zs := List.take_of_length_le (by rw [HN.out]; omega)
      rw [htk, HL.out]
      clear htk
      obtain ⟨W3, rfl⟩ : ∃ W3 : World, W3 = wr := ⟨_, rfl⟩
      have hB13 : Below w.heap.size w W3 := (hB1.trans (hB2.mono hB1.size)).trans (hB3.mono (Nat.le_trans hB1.size hB2.size))
      have hzA := HZ.out.below hB13
      have hzB := HZ2.out.below hB3
      have HZA := Lib.hid hzA
      have HZB := Lib.hid hzB
      clear hzA hzB
      have HGS := Lib.hid (fun W => getAll_any s W (by omega))
      go_wp2_with fail
      go_loopw [54] (fun i wr => CountRel n W3 i wr) (fun i _ => n - (intOf i).toNat)
      case atStart => exact ⟨0, Nat.zero_le _, rfl, Below.refl _ _⟩
      case round =>
        obtain ⟨j, hj, rfl, hB5⟩ := hrel
        by_cases hjn : j < n
        · have hjl : j < zs.length := by rw [HN.out]; exact hjn
          obtain ⟨b, off, hA, hbl, hc⟩ := (HZA.out.below (hB5.mono hB13.size)).2 (by omega)
          obtain ⟨b2, off2, hA2, hbl2, hc2⟩ := (HZB.out.below (hB5.mono hB3.size)).2 (by omega)
          have hcell := hc j hjl
          have hcell2 := hc2 j hjl
          obtain ⟨z, hzk⟩ : ∃ z, zs[j] = z := ⟨_, rfl⟩
          rw [hzk] at hcell hcell2
          clear hc hc2 hzk
          subst hA hA2
          have i1 : (0 : Int) ≤ (j : Int) := by omega
          have i2 : (j : Int) < (n : Int) := by omega
          go_wp2_with fail
          go_quiet (fail)
          go_wp2
          go_roundw
          case rel => exact ⟨j + 1, by omega, by go_num, below_drewN hB5 _⟩
          case measure => simp [intOf]; omega
        · go_wp2_with fail
          refine (HGS.out _).mono ?_
          rintro e w4 ⟨v, he, hown, hB6⟩
          obtain ⟨gl, c, hgl⟩ : ∃ gl c, gall (s.size + 1) s.data.toList = (gl, c) := ⟨_, _, rfl⟩
          have hgr := gall_range (s.size + 1) s.data.toList
          have hgn := gall_len (s.size + 1) s.data.toList
          rw [hgl, size_list] at hgn
          rw [hgl] at he hown hgr
          subst he
          obtain ⟨A4, c4, rfl, hz4⟩ := ints_of_own hgr hown
          have HZ4 := Lib.hid hz4
          have HGL := Lib.hid hgl
          have HGR := Lib.hid hgr
          have hB14 : Below w.heap.size w w4 := hB13.trans ((hB5.mono hB13.size).trans (hB6.mono (Nat.le_trans hB13.size hB5.size)))
          have hgn' : gl.length ≤ s.size := hgn
          clear hown hz4 hgl hgn hgr
          go_wp2_with fail
          go_loopw [14, 15] (fun v p wr => GetAllRel s w4 v p wr) (fun _ p _ => s.size - (intOf p).toNat)
          case atStart => exact ⟨0, s.size + 1, [], by omega, by omega, rfl, by simp, by rw [List.drop_zero, glue_nil _ (gall_err _ _)], World.ownsRow_nil _ _ _ _, Below.refl _ _⟩
          case round =>
            obtain ⟨p, f, done, hp, hf, rfl, hdl, hg, hown, hB⟩ := hrel
            have HG := Lib.hid hg
            have HOWN := Lib.hid hown
            clear hg hown
            by_cases hlt : p < s.size
            · have hne : s.data.toList.drop p ≠ [] := by
                intro h0
                have := congrArg List.length h0
                rw [List.length_drop, size_list] at this
                simp at this
                omega
              obtain ⟨f, rfl⟩ : ∃ g, f = g + 1 := ⟨f - 1, by omega⟩
              have HC := Lib.hid (refGet_any s (p : Int) wr (by omega) (by omega) (by omega))
              obtain ⟨m, d, hm⟩ : ∃ m d, VM.meas (s.data.toList.drop p) = (m, d) := ⟨_, _, rfl⟩
              have HAL := Lib.hid (show p ≤ s.data.toList.length by rw [size_list]; exact hp)
              by_cases hc : d = 0
              · subst hc
                obtain ⟨m1, -, m2, -, -, -⟩ := VM.meas_ok (l := s.data.toList.drop p) (by rw [hm])
                rw [hm, List.length_drop, size_list] at m2
                rw [hm] at m1
                have m1' : 1 ≤ m := m1
                have m2' : m ≤ s.size - p := m2
                have hgood := vget_good HAL.out (by rw [hm])
                rw [hm] at hgood
                obtain ⟨z, hz⟩ : ∃ z, VM.unzig (VM.val ((s.data.toList.drop p).take m)) = z := ⟨_, rfl⟩
                have hstep := gall_step (f := f) (done := done) hne hm
                rw [hz, List.drop_drop] at hstep
                have HV : Hid (VM.vget s.data.toList (p : Int) = (z, (p : Int) + (m : Int), 0)) := by rw [← hz]; exact hgood
                have HST := Lib.hid (HG.out.trans hstep)
                clear hgood hstep hz hm hne m1 m2
                go_wp2_with fail
                refine HC.out.mono ?_
                rintro e w5 ⟨he, rfl⟩
                unfold GetOut at he
                rw [HV.out] at he
                subst he
                go_wp2_with (at_builtin; refine wpList_append_own _ rfl _ _ 36 rfl w4.heap.size 2 i0 (.int .i64 0) 1 8 Try.underlying36 hi hz0 hz1 hz2 rfl (by decide) _ _ _ rfl (HOWN.out.alloc _) ⟨wr.heap.size, 0, none⟩ 1 1 [.int .i64 z] rfl ?c1 ?c2 ?c3 ?c4 ?c5 ?c6 ?_)
                case c1 => rfl
                case c2 => exact one_int_cell wr z _
                case c3 => intro u hu; simp at hu; subst hu; rfl
                case c4 => unfold maxLen; omega
                case c5 => omega
                case c6 => exact Nat.le_trans hB.size (by simp)
                intro v' w6 hown3 hgrow hnil
                clear hnil
                have hB8 : Below w4.heap.size w4 w6 := (hB.alloc hB.size _).grown hgrow (Nat.le_trans hB.size (by simp)) (fun g hg => (HOWN.out.lt g hg).1)
                have HR : Hid (GetAllRel s w4 v' (.int .i64 ((p : Int) + (m : Int))) w6) := by
                  refine ⟨p + m, f, done ++ [z], by omega, by omega, by simp, by simp; omega, HST.out, ?_, hB8⟩
                  rw [ints_snoc, List.length_append]
                  exact hown3
                clear hown3 hgrow hB8
                go_wp2
                go_roundw
                case rel => exact HR.out
                case measure => simp [intOf]; omega
              · have hfault := gall_fault (f := f) (done := done) (c := d) hne (by rw [hm]) hc
                have hv := vget_fault HAL.out (by rw [hm]; exact hc)
                rw [hm] at hv
                have HV : Hid (VM.vget s.data.toList (p : Int) = (0, 0, d)) := hv
                have hpair := HGL.out.symm.trans (HG.out.trans hfault)
                simp only [Prod.mk.injEq] at hpair
                obtain ⟨hgl0, hcd⟩ := hpair
                subst hgl0
                subst hcd
                have t2 : (c == 0) = false := beq_eq_false_iff_ne.2 hc
                have t2' : (c != 0) = true := by rw [bne_iff_ne]; exact hc
                clear hfault hv hm hne hc
                go_wp2_with fail
                refine HC.out.mono ?_
                rintro e w5 ⟨he, rfl⟩
                unfold GetOut at he
                rw [HV.out] at he
                subst he
                go_wp2
                go_ret
                exact ⟨rfl, hB14.trans (hB.mono hB14.size)⟩
            · have hend : s.data.toList.drop p = [] := List.drop_eq_nil_of_le (by rw [size_list]; omega)
              have hg := HG.out
              rw [hend, gall_end] at hg
              have hpair := HGL.out.symm.trans hg
              simp only [Prod.mk.injEq] at hpair
              obtain ⟨hgl0, hc0⟩ := hpair
              subst hgl0
              subst hc0
              obtain ⟨A5, c5, rfl, hz5⟩ := ints_of_own HGR.out HOWN.out
              obtain ⟨W5, rfl⟩ : ∃ W5 : World, W5 = wr := ⟨_, rfl⟩
              have HZ5 := Lib.hid hz5
              have HZ6 := Lib.hid (HZ4.out.below hB)
              have hB15 := hB14.trans (hB.mono hB14.size)
              clear hend hg hz5
              go_wp2_with fail
              go_loopw [109] (fun i wr => CountRel gl.length W5 i wr) (fun i _ => gl.length - (intOf i).toNat)
              case atStart => exact ⟨0, Nat.zero_le _, rfl, Below.refl _ _⟩
              case round =>
                obtain ⟨q, hq, rfl, hB9⟩ := hrel
                by_cases hqn : q < gl.length
                · obtain ⟨b, off, hA, hbl, hc⟩ := (HZ6.out.below (hB9.mono hB.size)).2 (by omega)
                  obtain ⟨b2, off2, hA2, hbl2, hc2⟩ := (HZ5.out.below hB9).2 (by omega)
                  have hcell := hc q hqn
                  have hcell2 := hc2 q hqn
                  obtain ⟨z, hzk⟩ : ∃ z, gl[q] = z := ⟨_, rfl⟩
                  rw [hzk] at hcell hcell2
                  clear hc hc2 hzk
                  subst hA hA2
                  have i1 : (0 : Int) ≤ (q : Int) := by omega
                  have i2 : (q : Int) < (gl.length : Int) := by omega
                  go_wp2_with fail
                  go_quiet (fail)
                  go_wp2
                  go_roundw
                  case rel => exact ⟨q + 1, by omega, by go_num, below_drewN hB9 _⟩
                  case measure => simp [intOf]; omega
                · go_wp2
                  go_ret
                  exact ⟨rfl, hB15.trans (hB9.mono hB15.size)⟩
end lawLists
end Go.Proofs.Ytdhgikcinofpaaa
