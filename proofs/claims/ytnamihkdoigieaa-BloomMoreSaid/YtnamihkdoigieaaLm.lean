/- BloomMore: a filter is the same in whatever order keys came; of no keys none is told as there. For every int, every list of texts and every text. -/
import Derived.Test.YtnamihkdoigieaaWk
import Derived.Test.YtnamihkdoigieaaPr
namespace Go.Proofs.Ytnamihkdoigieaa
open Go.ChangeShapes Go.WideShapes Go.ChangeAt Go.RowKit

theorem info_str : (Try.prog.info? 9).map (fun i => (i.zero, i.size, i.bytes)) = some (some (.string ⟨#[]⟩), 1, 16) := by kernel_rfl

theorem one_cell (w : World) (v : Value) (t : TypeId) : ∀ j u, [v][j]? = some u → (w.alloc (.cells #[v] t)).cell? ((⟨w.heap.size, 0, none⟩ : Addr).add j) = some u := by
  intro j u hj
  match j, hj with
  | 0, hj => simp at hj; subst hj; simp [Addr.add]
  | j + 1, hj => simp at hj

def txts (l : List ByteArray) : List Value := l.map Value.string
theorem txts_length (l : List ByteArray) : (txts l).length = l.length := by simp [txts]

theorem texts_of_own {w : World} {base : Nat} {e : TypeId} {v : Value} {l : List ByteArray} (h : w.ownsRow base e 1 v l.length (txts l)) : ∃ A c, v = .slice A l.length c ∧ StrsIn w w.heap.size A l := by
  have h' := h
  rcases h.2 with ⟨rfl, h0⟩ | ⟨g, cap, cur, rfl, _, hg, _, _, _, _⟩
  · exact ⟨none, 0, by rw [h0], fun hn => by omega⟩
  · refine ⟨some ⟨g, 0, none⟩, cap, rfl, fun _ => ⟨g, 0, rfl, (Array.getElem?_eq_some_iff.1 hg).1, fun j hj => ?_⟩⟩
    have hc := h'.cells (g := g) rfl j (.string l[j]) (by simp [txts, hj])
    rw [addr_add0] at hc
    rw [Nat.zero_add, hc]

theorem keysOf_reverse (l : List ByteArray) : keysOf l.reverse = (keysOf l).reverse := by simp [keysOf]

namespace lawMore

/-- the texts that came in, and how many of them are turned -/
def Rel (l : List ByteArray) (w : World) (v i : Value) (wr : World) : Prop :=
  ∃ j : Nat, j ≤ l.length ∧ i = .int .i64 ((l.length : Int) - 1 - j) ∧ wr.ownsRow w.heap.size 9 1 v j (txts (l.reverse.take j)) ∧ Below w.heap.size w wr

set_option maxRecDepth 100000 in
set_option maxHeartbeats 1000000 in
theorem walk (b : Int) (A : Option Addr) (n cap : Nat) (l0 : List ByteArray) (k : ByteArray) (w : World) (hb0 : -9223372036854775808 ≤ b) (hb1 : b ≤ 9223372036854775807) (hn : l0.length = n) (hz : StrsIn w w.heap.size A l0) (hcap : n ≤ cap) (hnb : n * 16 ≤ reachBytes) (hs : ∀ q ∈ l0, q.size ≤ reachBytes) (hk : k.size ≤ 140737488351232) :
    Calls Try.prog 7 #[.int .i64 b, .slice A n cap, .string k] w fun e w' => e = .returned (.bool true) ∧ Below w.heap.size w w' := by
  obtain ⟨i0, hi, hy0, hy1, hy2⟩ := info_parts info_str
  have hnb' : n * 16 ≤ 140737488351232 := hnb
  have hsr : ∀ q ∈ l0.take 200, q.size ≤ 140737488351232 := fun q hq => Nat.le_trans (hs q (List.mem_of_mem_take hq)) (by decide)
  obtain ⟨M, hM⟩ : ∃ M, min n 200 = M := ⟨_, rfl⟩
  have hMi : min (n : Int) 200 = (M : Int) := by omega
  have hM2 : M ≤ 200 := by omega
  have hMn : M ≤ n := by omega
  have hMc : M ≤ cap := by omega
  have hln : (l0.take 200).length = M := by rw [List.length_take, hn]; omega
  have hz2 : StrsIn w w.heap.size A (l0.take 200) := fun h => by
    obtain ⟨g, o, hA, hg, hc⟩ := hz (by rw [List.length_take] at h; omega)
    refine ⟨g, o, hA, hg, fun j hj => ?_⟩
    rw [List.length_take] at hj
    rw [List.getElem_take]
    exact hc j (by omega)
  obtain ⟨l, hl⟩ : ∃ l, l0.take 200 = l := ⟨_, rfl⟩
  rw [hl] at hsr hln hz2
  have HN := Lib.hid hln
  have HZ := Lib.hid hz2
  have HSR := Lib.hid hsr
  have HW := Lib.hid (fun W => wakes_any W)
  clear hz hs hl hM hz2 hn hnb
  go_enter Try.func7, Try.ntmps7
  go_wp2_with fail
  go_loopw [7, 8] (fun v i wr => Rel l w v i wr) (fun _ i _ => (intOf i + 1).toNat)
  case atStart => exact ⟨0, by omega, by rw [HN.out]; exact congrArg (Value.int .i64) (by omega), World.ownsRow_nil _ _ _ _, Below.refl _ _⟩
  case round =>
    obtain ⟨j, hj, rfl, hown, hB⟩ := hrel
    rw [HN.out] at hj ⊢
    have HOWN := Lib.hid hown
    have HB := Lib.hid hB
    have hss := hB.size
    clear hown hB
    by_cases hlt : j < M
    · obtain ⟨I, hI⟩ : ∃ I, M = I + 1 + j := ⟨M - 1 - j, by omega⟩
      have hIi : (M : Int) - 1 - (j : Int) = (I : Int) := by omega
      rw [hIi]
      obtain ⟨gA, oA, hA, -, hcA⟩ := (HZ.out.below HB.out) (by rw [HN.out]; omega)
      have hil : I < l.length := by rw [HN.out]; omega
      have hcj := hcA I hil
      have hst : l.reverse.take (j + 1) = l.reverse.take j ++ [l[I]] := by
        have hjr : j < l.reverse.length := by rw [List.length_reverse, HN.out]; exact hlt
        rw [List.take_succ_eq_append_getElem hjr, List.getElem_reverse]
        have e : l.length - 1 - j = I := by rw [HN.out]; omega
        simp only [e]
      obtain ⟨t, ht⟩ : ∃ t, l[I] = t := ⟨_, rfl⟩
      rw [ht] at hcj hst
      have HST := Lib.hid hst
      have i0' : (0 : Int) ≤ (I : Int) := by omega
      have i1' : (I : Int) < (M : Int) := by omega
      have HI := Lib.hid hI
      subst hA
      clear hcA ht hst hI hil
      go_wp2_with (at_builtin; refine wpList_append_own _ rfl _ _ 26 rfl w.heap.size 9 i0 _ 1 16 Try.underlying26 hi hy0 hy1 hy2 rfl (by decide) _ _ _ rfl (own_below HOWN.out ((Below.refl _ _).alloc (Nat.le_refl _) _)) ⟨wr.heap.size, 0, none⟩ 1 1 [.string t] rfl ?c1 ?c2 ?c3 ?c4 ?c5 ?c6 ?_)
      case c1 => rfl
      case c2 => exact one_cell wr _ _
      case c3 => intro u hu; simp at hu; subst hu; rfl
      case c4 => unfold maxLen; omega
      case c5 => omega
      case c6 => simp; omega
      intro v' w2 hown3 hgrow hnil
      clear hnil
      have hB3 : Below w.heap.size w w2 := (HB.out.alloc (by omega) _).grown hgrow (by simp; omega) (fun g hg => (HOWN.out.lt g hg).1)
      have HR : Hid (Rel l w v' (.int .i64 ((I : Int) - 1)) w2) := by
        refine ⟨j + 1, by rw [HN.out]; omega, congrArg (Value.int .i64) (by rw [HN.out]; have := HI.out; omega), ?_, hB3⟩
        rw [HST.out]
        have e : txts (l.reverse.take j ++ [t]) = txts (l.reverse.take j) ++ [.string t] := by simp [txts]
        rw [e]
        exact hown3
      clear hown3 hgrow hB3
      go_wp2
      go_roundw
      case rel => exact HR.out
      case measure => simp [intOf]
    · obtain rfl : j = M := by omega
      have hown := HOWN.out
      have hrl : l.reverse.length = j := by rw [List.length_reverse, HN.out]
      rw [List.take_of_length_le (by rw [hrl]; exact Nat.le_refl _)] at hown
      have hown2 : wr.ownsRow w.heap.size 9 1 u7 l.reverse.length (txts l.reverse) := by rw [hrl]; exact hown
      obtain ⟨A2, c2, rfl, hz2⟩ := texts_of_own hown2
      rw [hrl]
      have H1 := Lib.hid (new_any b A j cap l wr hb0 hb1 HN.out ((HZ.out.below HB.out).more hss) (by unfold reachBytes; omega) HSR.out)
      have H2 : Hid (∀ W, Below wr.heap.size wr W → Calls Try.prog 11 #[.int .i64 b, .slice A2 j c2] W (NewOut b l.reverse W)) := Lib.hid fun W hW =>
        new_any b A2 j c2 l.reverse W hb0 hb1 hrl ((hz2.below hW).more hW.size) (by unfold reachBytes; omega) (fun q hq => HSR.out q (List.mem_reverse.1 hq))
      unfold NewOut at H1 H2
      rw [keysOf_reverse, BL.new_turned] at H2
      have HV : Hid ((BL.new b (keysOf l)).2 = 0 → 0 < j ∨ ((BL.new b (keysOf l)).1.length ≤ 140737488351232 ∧ BL.has (BL.new b (keysOf l)).1 k.data.toList = false)) := Lib.hid fun h => by
        by_cases hj0 : 0 < j
        · exact .inl hj0
        · right
          have hl0 : keysOf l = [] := List.length_eq_zero_iff.1 (by rw [keysOf_length, HN.out]; omega)
          rw [hl0] at h ⊢
          unfold BL.new at h ⊢
          by_cases hb : b < 1 ∨ 16 < b
          · rw [if_pos hb] at h; cases h
          · rw [if_neg hb, if_neg (by decide)]
            refine ⟨?_, BL.none_there (by omega) _⟩
            have := (BL.bytes_lt (b := b.toNat) (n := 0) (by omega) (by omega)).2
            simp only [BL.filter_len, List.length_nil]
            omega
      obtain ⟨F, E, hv⟩ : ∃ F E, BL.new b (keysOf l) = (F, E) := ⟨_, _, rfl⟩
      rw [hv] at H1 H2 HV
      obtain ⟨f, hf⟩ : ∃ f : ByteArray, (⟨F.toArray⟩ : ByteArray) = f := ⟨_, rfl⟩
      have hfd : F = f.data.toList := by rw [← hf]
      simp only [hf] at H1 H2
      rw [hfd] at HV
      have hss2 : (f.toList == f.toList) = true := by simp
      have hee : (E == E) = true := by simp
      clear hown hown2 hz2 hv hf hfd hrl
      go_wp2_with fail
      refine H1.out.mono ?_
      rintro e w1 ⟨rfl, hB1⟩
      have HB1 := Lib.hid hB1
      have HB1' := Lib.hid (HB.out.trans (hB1.mono hss))
      clear hB1
      go_wp2_with fail
      refine (H2.out _ HB1.out).mono ?_
      rintro e w2 ⟨rfl, hB2⟩
      have HB2 := Lib.hid (HB1'.out.trans (hB2.mono HB1'.out.size))
      clear hB2
      go_wp2_with fail
      refine (HW.out _).mono ?_
      rintro e w3 ⟨rfl, hB3⟩
      have HB3 := Lib.hid (HB2.out.trans (hB3.mono HB2.out.size))
      clear hB3
      by_cases hE : E = 0
      · subst hE
        rcases HV.out rfl with hj0 | ⟨hfs, hh⟩
        · have hji : (0 : Int) < (j : Int) := by omega
          go_wp2
          go_ret
          exact ⟨rfl, HB3.out⟩
        · by_cases hj0 : 0 < j
          · have hji : (0 : Int) < (j : Int) := by omega
            go_wp2
            go_ret
            exact ⟨rfl, HB3.out⟩
          · have hji : ¬ (0 : Int) < (j : Int) := by omega
            have HC := Lib.hid (fun W => has_any f k W (by rw [← size_list]; exact hfs) hk)
            rw [hh] at HC
            clear hh
            go_wp2_with fail
            refine (HC.out _).mono ?_
            rintro e w4 ⟨rfl, hB4⟩
            have HB4 := Lib.hid (HB3.out.trans (hB4.mono HB3.out.size))
            clear hB4
            go_wp2
            go_ret
            exact ⟨rfl, HB4.out⟩
      · have t1 : (E != 0) = true := by rw [bne_iff_ne]; exact hE
        have t2 : (E == 0) = false := beq_eq_false_iff_ne.2 hE
        go_wp2
        go_ret
        exact ⟨rfl, HB3.out⟩

theorem contract (H : Type) (enc : TypeId × Value → H) (W : World) (base : Nat) (args : Array Value) (ds gs : List (DataW H)) (before : List MemPlace)
    (hval : ∀ (j : Nat) t v, Try.f7.params[j]? = some t → args[j]? = some v → Value.okWide Try.prog W .any base t v)
    (hW : DataW.Whole enc Try.prog Try.f7.params.toList Rows.bloomMoreSpec.vars false W args.toList ds gs before)
    (hz : (DataW.weightsEach Try.prog Try.f7.params.toList (ds ++ gs)).all (· ≤ reachBytes) = true) :
    Calls Try.prog 7 args W fun e W' => ∃ v, e = .returned v ∧ Rows.bloomMoreSpec.post enc Try.prog Try.f7 false true false false W args v W' := by
  have hW' := hW
  obtain ⟨p, q, hA0, hV, rfl, hfz, hnd⟩ := hW
  have hA : DataW.TrodAll enc Try.prog W 0 (fun _ => true) true Try.f7.params.toList args.toList ds p := hA0
  rw [Try.params7] at hA hval hz
  obtain ⟨v0, vs0, d0, ds0, p0, q0, hargs, rfl, rfl, h0, r0⟩ := trodAll_cons hA
  obtain ⟨v1, vs1, d1, ds1, p1, q1, rfl, rfl, rfl, h1, r1⟩ := trodAll_cons r0
  obtain ⟨v2, vs2, d2, ds2, p2, q2, rfl, rfl, rfl, h2, r2⟩ := trodAll_cons r1
  obtain ⟨rfl, rfl, rfl⟩ := trodAll_nil r2
  obtain rfl : args = #[v0, v1, v2] := by cases args; simp_all
  obtain ⟨rfl, rfl⟩ := trodVars_none hV
  obtain ⟨b, rfl, rfl, rfl, wb⟩ := open_int Try.underlying3 (hval 0 3 v0 rfl rfl) h0
  have hb : -9223372036854775808 ≤ b ∧ b ≤ 9223372036854775807 := by simpa [Lit.wf, IntKind.min, IntKind.max, IntKind.signed, IntKind.bits] using wb
  obtain ⟨lA, lN, lC, l, rfl, hlenl, hinl, hcapl, hbl, hsl⟩ := open_texts (hval 1 26 v1 rfl rfl) h1 (texts_sized hz (j := 1) rfl rfl)
  obtain ⟨k, rfl, rfl, rfl, hmax2⟩ := Go.ChangeMaps.open_string Try.underlying9 (hval 2 9 v2 rfl rfl) h2
  have hk : k.size ≤ 140737488351232 := by
    have h := sized_string hz (j := 2) rfl rfl
    have hl : k.data.toList.length = k.size := by simp
    unfold reachBytes at h
    omega
  refine (walk b lA lN lC l k W hb.1 hb.2 hlenl hinl hcapl hbl hsl hk).mono fun e W' ⟨he, hB⟩ => ?_
  subst he
  exact ⟨_, rfl, law_post Try.laidOut (by kernel_rfl) rfl rfl Try.underlying4 hW' rfl hB⟩

set_option maxRecDepth 100000 in
theorem lifted (os : Os) (started : os.Started) (H : Type) (enc : TypeId × Value → H) :
    ReturnsInHanded {} Try.checked os 7 .any (Rows.bloomMoreSpec.pre6 enc Try.prog Try.f7 Rows.bloomMoreRow.domain false) (Rows.bloomMoreSpec.post enc Try.prog Try.f7 false true false false) := by
  refine returnsInHanded_of_change_sized (C := Try.checked) Try.own started (by kernel_rfl) Try.func7
    (ChangeSpec.witness6 (enc := enc) (C := Try.checked) false ⟨#[], #[.int .i64 0, .slice none 0 0, .string .empty], []⟩ 8 (by kernel_rfl) (by kernel_rfl) (by kernel_rfl) (by kernel_rfl)) ?_
  intro W base args ds gs before hval hW _ hz _
  exact contract H enc W base args ds gs before hval hW hz

theorem proved : Rows.BloomMoreSaid :=
  OpenClaim.holds_of_wide 7 Try.f7 rfl rfl rfl rfl rfl rfl rfl ⟨rfl, rfl, rfl, rfl, rfl⟩ rfl rfl rfl rfl rfl (by kernel_rfl) Try.func7 (by kernel_rfl)
    (of_decide_eq_true (by kernel_rfl)) (by unfold Func.isWrapper; first | (rw [if_pos (by decide +kernel)]; kernel_rfl) | (rw [if_neg (by decide +kernel)]; exact ⟨rfl, rfl⟩))
    (fun os started H enc _ => lifted os started H enc)
end lawMore
end Go.Proofs.Ytnamihkdoigieaa
