/- BloomFinds: no key that was handed in is ever told as not there. For every int and every list of texts. -/
import Derived.Test.YtnamihkdoigieaaWk
namespace Go.Proofs.Ytnamihkdoigieaa
open Go.ChangeShapes Go.WideShapes Go.ChangeAt Go.RowKit
namespace lawFinds

set_option maxRecDepth 100000 in
theorem walk (b : Int) (A : Option Addr) (n cap : Nat) (l : List ByteArray) (w : World) (hb0 : -9223372036854775808 ≤ b) (hb1 : b ≤ 9223372036854775807) (hn : l.length = n) (hz : StrsIn w w.heap.size A l) (hnb : n * 16 ≤ reachBytes) (hs : ∀ q ∈ l, q.size ≤ reachBytes) :
    Calls Try.prog 6 #[.int .i64 b, .slice A n cap] w fun e w' => e = .returned (.bool true) ∧ Below w.heap.size w w' := by
  have hsr : ∀ q ∈ l, q.size ≤ 140737488351232 := fun q hq => Nat.le_trans (hs q hq) (by decide)
  have H1 := Lib.hid (new_any b A n cap l w hb0 hb1 hn hz hnb hsr)
  unfold NewOut at H1
  unfold reachBytes at hnb
  have HW := Lib.hid (fun W => wakes_any W)
  by_cases hbad : b < 1 ∨ 16 < b ∨ 65536 < n
  · obtain ⟨E, hE, hv⟩ : ∃ E : Int, E ≠ 0 ∧ BL.new b (keysOf l) = ([], E) := by
      unfold BL.new
      rw [keysOf_length, hn]
      by_cases h : b < 1 ∨ 16 < b
      · exact ⟨2, by decide, by rw [if_pos h]⟩
      · exact ⟨5, by decide, by rw [if_neg h, if_pos (by omega)]⟩
    rw [hv] at H1
    have t1 : (E != 0) = true := by rw [bne_iff_ne]; exact hE
    have t2 : (E == 0) = false := beq_eq_false_iff_ne.2 hE
    clear hn hz hnb hs hsr hv hbad
    go_enter Try.func6, Try.ntmps6
    go_wp2_with fail
    refine H1.out.mono ?_
    rintro e w1 ⟨rfl, hB1⟩
    have HB1 := Lib.hid hB1
    clear hB1
    go_wp2_with fail
    refine (HW.out _).mono ?_
    rintro e w2 ⟨rfl, hB2⟩
    have HB2 := Lib.hid (HB1.out.trans (hB2.mono HB1.out.size))
    clear hB2
    go_wp2_with fail
    refine (HW.out _).mono ?_
    rintro e w3 ⟨rfl, hB3⟩
    have HB3 := Lib.hid (HB2.out.trans (hB3.mono HB2.out.size))
    clear hB3
    go_wp2
    go_ret
    exact ⟨rfl, HB3.out⟩
  · have hv : BL.new b (keysOf l) = (BL.filter b.toNat (keysOf l), 0) := by
      unfold BL.new
      rw [keysOf_length, hn, if_neg (by omega), if_neg (by omega)]
    rw [hv] at H1
    have hfl := BL.filter_len b.toNat (keysOf l)
    have hbl := (BL.bytes_lt (b := b.toNat) (n := (keysOf l).length) (by omega) (by rw [keysOf_length, hn]; omega)).2
    have hfind := fun q hq => BL.finds b.toNat (keysOf l) q hq
    obtain ⟨f, hf⟩ : ∃ f : ByteArray, (⟨(BL.filter b.toNat (keysOf l)).toArray⟩ : ByteArray) = f := ⟨_, rfl⟩
    have hfd : f.data.toList = BL.filter b.toNat (keysOf l) := by rw [← hf]
    have hfs : f.size ≤ 140737488351232 := by rw [← size_list, hfd, hfl]; omega
    simp only [hf] at H1
    rw [← hfd] at hfind
    have HFI := Lib.hid hfind
    have HZ := Lib.hid hz
    have HN := Lib.hid hn
    have HSR := Lib.hid hsr
    have HFS := Lib.hid hfs
    clear hn hz hs hsr hv hbad hfl hbl hfind hf hfd
    go_enter Try.func6, Try.ntmps6
    go_wp2_with fail
    refine H1.out.mono ?_
    rintro e w1 ⟨rfl, hB1⟩
    have HB1 := Lib.hid hB1
    clear hB1
    go_wp2_with fail
    refine (HW.out _).mono ?_
    rintro e w2 ⟨rfl, hB2⟩
    have HB2 := Lib.hid (HB1.out.trans (hB2.mono HB1.out.size))
    clear hB2
    go_wp2_with fail
    go_loopw [24] (fun i wr => ∃ j : Nat, j ≤ n ∧ i = .int .i64 j ∧ Below w.heap.size w wr) (fun i _ => n - (intOf i).toNat)
    case atStart => exact ⟨0, by omega, rfl, HB2.out⟩
    case round =>
      obtain ⟨j, hj, rfl, hBr⟩ := hrel
      have HBr := Lib.hid hBr
      by_cases hlt : j < n
      · obtain ⟨gA, oA, hA, -, hcA⟩ := (HZ.out.below hBr) (by rw [HN.out]; omega)
        have hjl : j < l.length := by rw [HN.out]; exact hlt
        have hcj := hcA j hjl
        have hk1 := HSR.out l[j] (List.getElem_mem _)
        have hk2 := HFI.out l[j].data.toList (List.mem_map.2 ⟨l[j], List.getElem_mem _, rfl⟩)
        obtain ⟨k, hk⟩ : ∃ k, l[j] = k := ⟨_, rfl⟩
        rw [hk] at hcj hk1 hk2
        have HC := Lib.hid (fun W => has_any f k W HFS.out hk1)
        rw [hk2] at HC
        have i0 : (0 : Int) ≤ (j : Int) := by omega
        have i1 : (j : Int) < (n : Int) := by omega
        subst hA
        clear hcA hk hBr hk2
        go_wp2_with fail
        refine (HC.out _).mono ?_
        rintro e w3 ⟨rfl, hB3⟩
        have HB3 := Lib.hid (HBr.out.trans (hB3.mono HBr.out.size))
        clear hB3
        go_wp2
        go_roundw
        case rel => exact ⟨j + 1, by omega, by go_num, HB3.out⟩
        case measure => simp [intOf]; omega
      · clear hBr
        go_wp2
        go_ret
        exact ⟨rfl, HBr.out⟩

theorem contract (H : Type) (enc : TypeId × Value → H) (W : World) (base : Nat) (args : Array Value) (ds gs : List (DataW H)) (before : List MemPlace)
    (hval : ∀ (j : Nat) t v, Try.f6.params[j]? = some t → args[j]? = some v → Value.okWide Try.prog W .any base t v)
    (hW : DataW.Whole enc Try.prog Try.f6.params.toList Rows.bloomFindsSpec.vars false W args.toList ds gs before)
    (hz : (DataW.weightsEach Try.prog Try.f6.params.toList (ds ++ gs)).all (· ≤ reachBytes) = true) :
    Calls Try.prog 6 args W fun e W' => ∃ v, e = .returned v ∧ Rows.bloomFindsSpec.post enc Try.prog Try.f6 false true false false W args v W' := by
  have hW' := hW
  obtain ⟨p, q, hA0, hV, rfl, hfz, hnd⟩ := hW
  have hA : DataW.TrodAll enc Try.prog W 0 (fun _ => true) true Try.f6.params.toList args.toList ds p := hA0
  rw [Try.params6] at hA hval hz
  obtain ⟨v0, vs0, d0, ds0, p0, q0, hargs, rfl, rfl, h0, r0⟩ := trodAll_cons hA
  obtain ⟨v1, vs1, d1, ds1, p1, q1, rfl, rfl, rfl, h1, r1⟩ := trodAll_cons r0
  obtain ⟨rfl, rfl, rfl⟩ := trodAll_nil r1
  obtain rfl : args = #[v0, v1] := by cases args; simp_all
  obtain ⟨rfl, rfl⟩ := trodVars_none hV
  obtain ⟨b, rfl, rfl, rfl, wb⟩ := open_int Try.underlying3 (hval 0 3 v0 rfl rfl) h0
  have hb : -9223372036854775808 ≤ b ∧ b ≤ 9223372036854775807 := by simpa [Lit.wf, IntKind.min, IntKind.max, IntKind.signed, IntKind.bits] using wb
  obtain ⟨lA, lN, lC, l, rfl, hlenl, hinl, hcapl, hbl, hsl⟩ := open_texts (hval 1 26 v1 rfl rfl) h1 (texts_sized hz (j := 1) rfl rfl)
  refine (walk b lA lN lC l W hb.1 hb.2 hlenl hinl hbl hsl).mono fun e W' ⟨he, hB⟩ => ?_
  subst he
  exact ⟨_, rfl, law_post Try.laidOut (by kernel_rfl) rfl rfl Try.underlying4 hW' rfl hB⟩

set_option maxRecDepth 100000 in
theorem lifted (os : Os) (started : os.Started) (H : Type) (enc : TypeId × Value → H) :
    ReturnsInHanded {} Try.checked os 6 .any (Rows.bloomFindsSpec.pre6 enc Try.prog Try.f6 Rows.bloomFindsRow.domain false) (Rows.bloomFindsSpec.post enc Try.prog Try.f6 false true false false) := by
  refine returnsInHanded_of_change_sized (C := Try.checked) Try.own started (by kernel_rfl) Try.func6
    (ChangeSpec.witness6 (enc := enc) (C := Try.checked) false ⟨#[], #[.int .i64 0, .slice none 0 0], []⟩ 8 (by kernel_rfl) (by kernel_rfl) (by kernel_rfl) (by kernel_rfl)) ?_
  intro W base args ds gs before hval hW _ hz _
  exact contract H enc W base args ds gs before hval hW hz

theorem proved : Rows.BloomFindsSaid :=
  OpenClaim.holds_of_wide 6 Try.f6 rfl rfl rfl rfl rfl rfl rfl ⟨rfl, rfl, rfl, rfl, rfl⟩ rfl rfl rfl rfl rfl (by kernel_rfl) Try.func6 (by kernel_rfl)
    (of_decide_eq_true (by kernel_rfl)) (by unfold Func.isWrapper; first | (rw [if_pos (by decide +kernel)]; kernel_rfl) | (rw [if_neg (by decide +kernel)]; exact ⟨rfl, rfl⟩))
    (fun os started H enc _ => lifted os started H enc)
end lawFinds
end Go.Proofs.Ytnamihkdoigieaa
