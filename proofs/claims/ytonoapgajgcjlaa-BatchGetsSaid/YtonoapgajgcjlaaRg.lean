/- The walk of the document's Get. Made by gen_rg.py. -/
import Derived.Test.YtonoapgajgcjlaaGg
namespace Go.Proofs.Ytonoapgajgcjlaa
open Go.RowKit
open SK

theorem rget_ok {s : ByteArray} {p q : Nat} {n : Int} (h : BK.rNum s.data.toList p = .ok (n, q)) (hs : s.size ≤ 140737488351232) (hp : p ≤ s.size) (W : World) :
    Calls Try.prog 27 #[.string s, .int .i64 p] W fun e w' => e = .returned (.tuple #[.int .i64 n, .int .i64 q, .int .i64 0]) ∧ W = w' := by
  refine (refGet_any s (p : Int) W hs (by omega) (by omega)).mono ?_
  rintro e w' ⟨h1, h2⟩
  unfold GetOut at h1
  rw [num_good h] at h1
  exact ⟨h1, h2⟩
theorem rget_bad {s : ByteArray} {p : Nat} {c : Int} (h : BK.rNum s.data.toList p = .error c) (hs : s.size ≤ 140737488351232) (hp : p ≤ s.size) :
    ∃ a b, ∀ W, Calls Try.prog 27 #[.string s, .int .i64 p] W fun e w' => e = .returned (.tuple #[.int .i64 a, .int .i64 b, .int .i64 c]) ∧ W = w' := by
  obtain ⟨hv, -⟩ := num_bad h
  refine ⟨(VM.vget s.data.toList p).1, (VM.vget s.data.toList p).2.1, fun W => (refGet_any s (p : Int) W hs (by omega) (by omega)).mono ?_⟩
  rintro e w' ⟨h1, h2⟩
  unfold GetOut at h1
  rw [hv] at h1
  exact ⟨h1, h2⟩
theorem rtxt_ok {s : ByteArray} {p q : Nat} {t : ByteArray} (h : BK.rText s.data.toList p = .ok (t, q)) (hs : s.size ≤ 140737488351232) (hp : p ≤ s.size) (W : World) :
    Calls Try.prog 28 #[.string s, .int .i64 p] W fun e w' => e = .returned (.tuple #[.string t, .int .i64 q, .int .i64 0]) ∧ W = w' := by
  refine (refGetText_any s (p : Int) W hs (by omega) (by omega)).mono ?_
  rintro e w' ⟨h1, h2⟩
  unfold TextOut at h1
  rw [text_good h, str_mk] at h1
  exact ⟨h1, h2⟩
theorem rtxt_bad {s : ByteArray} {p : Nat} {c : Int} (h : BK.rText s.data.toList p = .error c) (hs : s.size ≤ 140737488351232) (hp : p ≤ s.size) :
    ∃ a b, ∀ W, Calls Try.prog 28 #[.string s, .int .i64 p] W fun e w' => e = .returned (.tuple #[.string a, .int .i64 b, .int .i64 c]) ∧ W = w' := by
  obtain ⟨hv, -⟩ := text_bad h
  refine ⟨⟨(vtext s.data.toList p).1.toArray⟩, (vtext s.data.toList p).2.1, fun W => (refGetText_any s (p : Int) W hs (by omega) (by omega)).mono ?_⟩
  rintro e w' ⟨h1, h2⟩
  unfold TextOut at h1
  rw [hv] at h1
  exact ⟨h1, h2⟩

theorem bad1_one {e : E} (h : e.til ≠ 9223372036854775807) : BK.bad1 e = good (BK.one e) := by
  unfold BK.bad1
  by_cases h0 : good (BK.one e) = 0
  · rw [if_neg (by simp [h0]), if_neg h, h0]
  · rw [if_pos h0]

/-- the document's Get tells an error, and no items -/
def RefBad (w : World) (s : ByteArray) (e : Ending) (w' : World) : Prop :=
  ∃ A c, e = .returned (.tuple #[.slice A (BK.getL s.data.toList).length c, .int .i64 (BK.getC s.data.toList)]) ∧ EntsIn w' A (BK.getL s.data.toList) ∧ Below w.heap.size w w'

theorem refBad {w w' : World} {s : ByteArray} {c : Int} (h : BK.getOut s.data.toList = .error c) (hb : Below w.heap.size w w') : RefBad w s (.returned (.tuple #[.slice none 0 0, .int .i64 c])) w' := by
  obtain ⟨h1, h2⟩ := BK.getC_err h
  refine ⟨none, 0, ?_, ?_, hb⟩
  · rw [h1, h2]; rfl
  · rw [h2]; exact ⟨by simp, by simp⟩

set_option maxRecDepth 100000 in
set_option maxHeartbeats 8000000 in
theorem rgetAll_any (s : ByteArray) (w : World) (hs : s.size ≤ 140737488351232) :
    Calls Try.prog 13 #[.string s] w fun e w' => RefBad w s e w' := by
  obtain ⟨i0, hi, hz0, hz1, hz2⟩ := info_parts info_rent
  have HGC : Hid (BK.getOut s.data.toList = match BK.rNum s.data.toList 0 with
    | .error c => .error c
    | .ok (n, p) => if 64 < n then .error 5 else if n < 0 then .error 4 else BK.rEnd s.data.toList (BK.rItems s.data.toList n.toNat p [])) := Lib.hid rfl
  cases hn : BK.rNum s.data.toList 0 with
  | error c =>
    obtain ⟨a, b, hg⟩ := rget_bad hn hs (Nat.zero_le _)
    have HG := Lib.hid hg
    have hc := BK.num_err hn
    have HF : Hid (BK.getOut s.data.toList = .error c) := Lib.hid (by rw [HGC.out, hn])
    have hbe : (c == 0) = false := by simpa using hc
    have hbn : (c != 0) = true := by simpa using hc
    clear hn hg HGC
    go_enter Try.func13, Try.ntmps13
    go_wp2_with fail
    refine (HG.out _).mono ?_
    rintro e w1 ⟨rfl, rfl⟩
    go_wp2
    go_ret2
    exact refBad HF.out (Below.refl _ _)
  | ok z =>
    obtain ⟨n, p⟩ := z
    have HG := Lib.hid (fun W => rget_ok hn hs (Nat.zero_le _) W)
    have hpl := BK.num_le hn
    rw [size_list] at hpl
    by_cases h1 : 64 < n
    · have HF : Hid (BK.getOut s.data.toList = .error 5) := Lib.hid (by rw [HGC.out, hn]; simp only; rw [if_pos h1])
      have h2 : ¬ n < 0 := by omega
      clear hn HGC
      go_enter Try.func13, Try.ntmps13
      go_wp2_with fail
      refine (HG.out _).mono ?_
      rintro e w1 ⟨rfl, rfl⟩
      go_wp2
      go_ret2
      exact refBad HF.out (Below.refl _ _)
    by_cases h2 : n < 0
    · have HF : Hid (BK.getOut s.data.toList = .error 4) := Lib.hid (by rw [HGC.out, hn]; simp only; rw [if_neg h1, if_pos h2])
      clear hn HGC
      go_enter Try.func13, Try.ntmps13
      go_wp2_with fail
      refine (HG.out _).mono ?_
      rintro e w1 ⟨rfl, rfl⟩
      go_wp2
      go_ret2
      exact refBad HF.out (Below.refl _ _)
    obtain ⟨m, rfl⟩ := Int.eq_ofNat_of_zero_le (show 0 ≤ n by omega)
    have HX : Hid (BK.getOut s.data.toList = BK.rEnd s.data.toList (BK.rItems s.data.toList m p [])) := Lib.hid (by rw [HGC.out, hn]; simp only; rw [if_neg h1, if_neg h2, Int.toNat_natCast])
    have HM : Hid (m ≤ 64) := Lib.hid (by omega)
    have HPL := Lib.hid hpl
    clear hn HGC hpl
    go_enter Try.func13, Try.ntmps13
    go_wp2_with fail
    refine (HG.out _).mono ?_
    rintro e w1 ⟨rfl, rfl⟩
    go_wp2_with fail
    go_loopw [5, 7, 8] (fun a v i wr => ∃ j : Nat, j ≤ m ∧ i = .int .i64 j ∧ ∃ (acc : List E) (q : Nat), a = .int .i64 q ∧ acc.length = j ∧ BK.rItems s.data.toList m p [] = BK.rItems s.data.toList (m - j) q acc ∧ q ≤ s.size ∧ wr.ownsRow w.heap.size 39 5 v j (ecs acc) ∧ Below w.heap.size w wr ∧ w.heap.size ≤ wr.heap.size ∧ ∀ x ∈ acc, x.wf) (fun _ _ i _ => m - (intOf i).toNat)
    case atStart => exact ⟨0, by omega, rfl, [], p, rfl, rfl, by simp, HPL.out, World.ownsRow_nil _ _ _ _, Below.refl _ _, Nat.le_refl _, by simp⟩
    case round =>
      obtain ⟨j, hj, rfl, acc, q, rfl, hal, hit, hq, hown, hbel, hsz, hwf⟩ := hrel
      by_cases hlt : j < m
      · have hjm : m - j = (m - (j + 1)) + 1 := by omega
        rw [hjm] at hit
        simp only [BK.rItems] at hit
        have g1 : (j : Int) < (m : Int) := by omega
        have hm64 : m ≤ 64 := HM.out
        have HIT : Hid (BK.rItem s.data.toList q = match BK.rText s.data.toList q with
          | .error c => .error c
          | .ok (k, p1) => match BK.rNum s.data.toList p1 with
            | .error c => .error c
            | .ok (n, p2) => BK.rTail s.data.toList k n p2) := Lib.hid rfl
        have HOWN := Lib.hid hown
        have HBEL := Lib.hid hbel
        have HSZ := Lib.hid hsz
        have HAL := Lib.hid hal
        have HWF := Lib.hid hwf
        have HB0 : Hid (∀ k g v t, Below w.heap.size w (wr.alloc (.cells #[.string k, .int .i64 0, .bool g, .string v, .int .i64 t] 39))) := Lib.hid (fun k g v t => hbel.alloc hsz _)
        cases hk : BK.rText s.data.toList q with
        | error c =>
          obtain ⟨a, b, hg⟩ := rtxt_bad hk hs hq
          have HT := Lib.hid hg
          have hc := BK.text_err hk
          have HF : Hid (BK.getOut s.data.toList = .error c) := Lib.hid (by rw [HX.out, hit, HIT.out, hk]; rfl)
          have hbe : (c == 0) = false := by simpa using hc
          have hbn : (c != 0) = true := by simpa using hc
          clear hk hg hit hown hbel hsz hal hwf hjm
          go_wp2_with fail
          refine (HT.out _).mono ?_
          rintro e w1 ⟨rfl, rfl⟩
          go_wp2
          go_ret2
          exact refBad HF.out (HB0.out _ _ _ _)
        | ok z =>
          obtain ⟨k, p1⟩ := z
          have hkk := BK.text_ok hk
          have HK1 : Hid (k.size ≤ 65535) := Lib.hid hkk.1
          have hp1 : p1 ≤ s.size := by rw [← size_list]; exact hkk.2.1
          have HT := Lib.hid (fun W => rtxt_ok hk hs hq W)
          cases hn : BK.rNum s.data.toList p1 with
          | error c =>
            obtain ⟨a, b, hg⟩ := rget_bad hn hs hp1
            have HN := Lib.hid hg
            have hc := BK.num_err hn
            have HF : Hid (BK.getOut s.data.toList = .error c) := Lib.hid (by rw [HX.out, hit, HIT.out, hk]; simp only; rw [hn]; rfl)
            have hbe : (c == 0) = false := by simpa using hc
            have hbn : (c != 0) = true := by simpa using hc
            clear hk hkk hn hg hit hown hbel hsz hal hwf hjm
            go_wp2_with fail
            refine (HT.out _).mono ?_
            rintro e w1 ⟨rfl, rfl⟩
            go_wp2_with fail
            refine (HN.out _).mono ?_
            rintro e w1 ⟨rfl, rfl⟩
            go_wp2
            go_ret2
            exact refBad HF.out (HB0.out _ _ _ _)
          | ok z =>
            obtain ⟨n, p2⟩ := z
            have hnn := BK.num_ok hn
            have hn0 := hnn.1
            have hn1 := hnn.2.1
            have hp2 : p2 ≤ s.size := by rw [← size_list]; exact hnn.2.2.1
            have HN := Lib.hid (fun W => rget_ok hn hs hp1 W)
            have HTL : Hid (BK.rItem s.data.toList q = if n < 0 then .error 4 else if n = 0 then BK.rFin ⟨k, 0, true, ⟨#[]⟩, 0⟩ p2 else match BK.rText s.data.toList p2 with | .error c => .error c | .ok (v, q) => BK.rFin ⟨k, 0, false, v, n - 1⟩ q) := Lib.hid (by rw [HIT.out, hk]; simp only; rw [hn]; rfl)
            clear hk hkk hn hnn
            by_cases h1 : n < 0
            · have HF : Hid (BK.getOut s.data.toList = .error 4) := Lib.hid (by rw [HX.out, hit, HTL.out, if_pos h1]; rfl)
              clear hit hown hbel hsz hal hwf hjm
              go_wp2_with fail
              refine (HT.out _).mono ?_
              rintro e w1 ⟨rfl, rfl⟩
              go_wp2_with fail
              refine (HN.out _).mono ?_
              rintro e w1 ⟨rfl, rfl⟩
              go_wp2
              go_ret2
              exact refBad HF.out (HB0.out _ _ _ _)
            · by_cases h2 : n = 0
              · have hbe0 : (n == 0) = true := by simpa using h2
                have HFI : Hid (BK.rItem s.data.toList q = BK.rFin ⟨k, 0, true, ⟨#[]⟩, 0⟩ p2) := Lib.hid (by rw [HTL.out, if_neg h1, if_pos h2])
                have HP2 := Lib.hid hp2
                have HE : Hid ((⟨k, 0, true, ⟨#[]⟩, 0⟩ : E).wf) := Lib.hid ⟨by have := HK1.out; simp only; omega, Nat.zero_le _, ⟨by simp only; omega, by simp only; omega⟩, ⟨by simp only; omega, by simp only; omega⟩⟩
                have HBG := Lib.hid (fun W => rbad_any _ W HE.out)
                have HB1 : Hid (BK.bad1 (⟨k, 0, true, ⟨#[]⟩, 0⟩ : E) = good (BK.one ⟨k, 0, true, ⟨#[]⟩, 0⟩)) := Lib.hid (bad1_one (by simp only; omega))
                have HFR : Hid (BK.rFin ⟨k, 0, true, ⟨#[]⟩, 0⟩ p2 = if good (BK.one ⟨k, 0, true, ⟨#[]⟩, 0⟩) = 0 then .ok (⟨k, 0, true, ⟨#[]⟩, 0⟩, p2) else .error (good (BK.one ⟨k, 0, true, ⟨#[]⟩, 0⟩))) := Lib.hid rfl
                rw [← HB1.out] at HFR
                obtain ⟨G, hG⟩ : ∃ G, BK.bad1 (⟨k, 0, true, ⟨#[]⟩, 0⟩ : E) = G := ⟨_, rfl⟩
                rw [hG] at HFR HBG
                simp only [E.val] at HBG
                have hrow := heap_alloc_new wr (.cells #[.string k, .int .i64 0, .bool true, .string ⟨#[]⟩, .int .i64 0] 39)
                have hown1 := hown.alloc (.cells #[.string k, .int .i64 0, .bool true, .string ⟨#[]⟩, .int .i64 0] 39)
                have hsz1 : (wr.alloc (.cells #[.string k, .int .i64 0, .bool true, .string ⟨#[]⟩, .int .i64 0] 39)).heap.size = wr.heap.size + 1 := by simp
                have HROW := Lib.hid hrow
                have HOWN1 := Lib.hid hown1
                have HSZ1 := Lib.hid hsz1
                have HHIT := Lib.hid hit
                clear hit hown hbel hsz hal hwf hjm hrow hown1 hsz1 hG HB1

                go_wp2_with fail
                refine (HT.out _).mono ?_
                rintro e w1 ⟨rfl, rfl⟩
                go_wp2_with fail
                refine (HN.out _).mono ?_
                rintro e w1 ⟨rfl, rfl⟩

                go_wp2_with fail
                refine (HBG.out _).mono ?_
                rintro e w5 ⟨rfl, hb5⟩
                have HB5 : Hid (Below w.heap.size w w5) := Lib.hid ((HB0.out _ _ _ _).trans (hb5.mono (by rw [HSZ1.out]; have := HSZ.out; omega)))
                have hr5 := (hb5.block wr.heap.size (by rw [HSZ1.out]; omega)).trans HROW.out
                have HO5 := Lib.hid (own_below HOWN1.out hb5)
                have HS5 : Hid (w.heap.size ≤ w5.heap.size) := Lib.hid (by have := hb5.size; rw [HSZ1.out] at this; have := HSZ.out; omega)
                have s0 := cell_of_row _ _ 0 _ _ _ hr5
                have s1 := cell_of_row _ _ 1 _ _ _ hr5
                have s2 := cell_of_row _ _ 2 _ _ _ hr5
                have s3 := cell_of_row _ _ 3 _ _ _ hr5
                have s4 := cell_of_row _ _ 4 _ _ _ hr5
                clear hb5 hr5 HROW HOWN1 HSZ1
                by_cases hG0 : G = 0
                · subst hG0
                  have hnext : BK.rItems s.data.toList m p [] = BK.rItems s.data.toList (m - (j + 1)) p2 (acc ++ [⟨k, 0, true, ⟨#[]⟩, 0⟩]) := by rw [HHIT.out, HFI.out, HFR.out, if_pos rfl]
                  have HNX := Lib.hid hnext
                  have HSN : Hid (ecs (acc ++ [(⟨k, 0, true, ⟨#[]⟩, 0⟩ : E)]) = ecs acc ++ E.cells ⟨k, 0, true, ⟨#[]⟩, 0⟩) := Lib.hid (ecs_snoc _ _)
                  have HWF2 : Hid (∀ x ∈ acc ++ [(⟨k, 0, true, ⟨#[]⟩, 0⟩ : E)], x.wf) := Lib.hid (fun x hx => by
                    rcases List.mem_append.1 hx with h | h
                    · exact HWF.out x h
                    · simp at h; rw [h]; exact HE.out)
                  obtain ⟨X, hX⟩ : ∃ X, ecs acc = X := ⟨_, rfl⟩
                  rw [hX] at HO5 HSN
                  clear hnext hX
                  go_wp2_with (at_builtin; refine wpList_append_own _ rfl _ _ 24 rfl w.heap.size 39 i0 _ 5 56 Try.underlying24 hi hz0 hz1 hz2 rfl (by decide) _ _ _ rfl (own_below HO5.out ((Below.refl _ _).alloc (Nat.le_refl _) _)) ⟨w5.heap.size, 0, none⟩ 1 1 (E.cells ⟨k, 0, true, ⟨#[]⟩, 0⟩) rfl ?c1 ?c2 ?c3 ?c4 ?c5 ?c6 ?_)
                  case c1 => rfl
                  case c2 =>
                    refine World.news_of_block (cs := (E.cells ⟨k, 0, true, ⟨#[]⟩, 0⟩).toArray) (t := 39) (fr := (0, 0)) ?_
                    exact heap_alloc_new w5 _
                  case c3 => simp [E.cells, Value.oneCell']
                  case c4 => unfold maxLen; omega
                  case c5 => omega
                  case c6 => have := HS5.out; simp; omega
                  intro v' w6 hown6 hgrow6 hnil6
                  have HR6 : Hid (w6.ownsRow w.heap.size 39 5 v' (j + 1) (ecs (acc ++ [⟨k, 0, true, ⟨#[]⟩, 0⟩]))) := Lib.hid (by rw [HSN.out]; exact hown6)
                  have HB6 : Hid (Below w.heap.size w w6) := Lib.hid ((HB5.out.alloc HS5.out _).grown hgrow6 (by have := HS5.out; simp; omega) (fun g hg => (HO5.out.lt g hg).1))
                  have HS6 : Hid (w.heap.size ≤ w6.heap.size) := Lib.hid (by have := hgrow6.size; have := HS5.out; simp at *; omega)
                  clear hown6 hgrow6 hnil6
                  go_wp2
                  go_roundw
                  case rel => exact ⟨j + 1, by omega, by go_num, acc ++ [⟨k, 0, true, ⟨#[]⟩, 0⟩], p2, rfl, by rw [List.length_append, HAL.out]; rfl, HNX.out, HP2.out, HR6.out, HB6.out, HS6.out, HWF2.out⟩
                  case measure => simp [intOf]; omega
                · have HF : Hid (BK.getOut s.data.toList = .error G) := Lib.hid (by rw [HX.out, HHIT.out, HFI.out, HFR.out, if_neg hG0]; rfl)
                  have hbe : (G == 0) = false := by simpa using hG0
                  have hbn : (G != 0) = true := by simpa using hG0
                  go_wp2
                  go_ret2
                  exact refBad HF.out HB5.out
              · have hbe0 : (n == 0) = false := by simpa using h2
                have hwr : IntKind.i64.wrap (n - 1) = n - 1 := IntWalk.i64_in _ ⟨by omega, by omega⟩
                cases hv : BK.rText s.data.toList p2 with
                | error c =>
                  obtain ⟨a, b, hg⟩ := rtxt_bad hv hs hp2
                  have HV := Lib.hid hg
                  have hc := BK.text_err hv
                  have HF : Hid (BK.getOut s.data.toList = .error c) := Lib.hid (by rw [HX.out, hit, HTL.out, if_neg h1, if_neg h2, hv]; rfl)
                  have hbe : (c == 0) = false := by simpa using hc
                  have hbn : (c != 0) = true := by simpa using hc
                  clear hv hg hit hown hbel hsz hal hwf hjm
                  go_wp2_with fail
                  refine (HT.out _).mono ?_
                  rintro e w1 ⟨rfl, rfl⟩
                  go_wp2_with fail
                  refine (HN.out _).mono ?_
                  rintro e w1 ⟨rfl, rfl⟩
                  go_wp2_with fail
                  refine (HV.out _).mono ?_
                  rintro e w1 ⟨rfl, rfl⟩
                  go_wp2
                  go_ret2
                  exact refBad HF.out (HB0.out _ _ _ _)
                | ok z =>
                  obtain ⟨v, p3⟩ := z
                  have hvk := BK.text_ok hv
                  have HV1 : Hid (v.size ≤ 65535) := Lib.hid hvk.1
                  have HP2 : Hid (p3 ≤ s.size) := Lib.hid (by rw [← size_list]; exact hvk.2.1)
                  have HV := Lib.hid (fun W => rtxt_ok hv hs hp2 W)
                  have HFI : Hid (BK.rItem s.data.toList q = BK.rFin ⟨k, 0, false, v, n - 1⟩ p3) := Lib.hid (by rw [HTL.out, if_neg h1, if_neg h2, hv])
                  clear hv hvk
                  have HE : Hid ((⟨k, 0, false, v, n - 1⟩ : E).wf) := Lib.hid ⟨by have := HK1.out; simp only; omega, by have := HV1.out; simp only; omega, ⟨by simp only; omega, by simp only; omega⟩, ⟨by simp only; omega, by simp only; omega⟩⟩
                  have HBG := Lib.hid (fun W => rbad_any _ W HE.out)
                  have HB1 : Hid (BK.bad1 (⟨k, 0, false, v, n - 1⟩ : E) = good (BK.one ⟨k, 0, false, v, n - 1⟩)) := Lib.hid (bad1_one (by simp only; omega))
                  have HFR : Hid (BK.rFin ⟨k, 0, false, v, n - 1⟩ p3 = if good (BK.one ⟨k, 0, false, v, n - 1⟩) = 0 then .ok (⟨k, 0, false, v, n - 1⟩, p3) else .error (good (BK.one ⟨k, 0, false, v, n - 1⟩))) := Lib.hid rfl
                  rw [← HB1.out] at HFR
                  obtain ⟨G, hG⟩ : ∃ G, BK.bad1 (⟨k, 0, false, v, n - 1⟩ : E) = G := ⟨_, rfl⟩
                  rw [hG] at HFR HBG
                  simp only [E.val] at HBG
                  have hrow := heap_alloc_new wr (.cells #[.string k, .int .i64 0, .bool false, .string v, .int .i64 (n - 1)] 39)
                  have hown1 := hown.alloc (.cells #[.string k, .int .i64 0, .bool false, .string v, .int .i64 (n - 1)] 39)
                  have hsz1 : (wr.alloc (.cells #[.string k, .int .i64 0, .bool false, .string v, .int .i64 (n - 1)] 39)).heap.size = wr.heap.size + 1 := by simp
                  have HROW := Lib.hid hrow
                  have HOWN1 := Lib.hid hown1
                  have HSZ1 := Lib.hid hsz1
                  have HHIT := Lib.hid hit
                  clear hit hown hbel hsz hal hwf hjm hrow hown1 hsz1 hG HB1

                  go_wp2_with fail
                  refine (HT.out _).mono ?_
                  rintro e w1 ⟨rfl, rfl⟩
                  go_wp2_with fail
                  refine (HN.out _).mono ?_
                  rintro e w1 ⟨rfl, rfl⟩
                  go_wp2_with fail
                  refine (HV.out _).mono ?_
                  rintro e w1 ⟨rfl, rfl⟩

                  go_wp2_with fail
                  refine (HBG.out _).mono ?_
                  rintro e w5 ⟨rfl, hb5⟩
                  have HB5 : Hid (Below w.heap.size w w5) := Lib.hid ((HB0.out _ _ _ _).trans (hb5.mono (by rw [HSZ1.out]; have := HSZ.out; omega)))
                  have hr5 := (hb5.block wr.heap.size (by rw [HSZ1.out]; omega)).trans HROW.out
                  have HO5 := Lib.hid (own_below HOWN1.out hb5)
                  have HS5 : Hid (w.heap.size ≤ w5.heap.size) := Lib.hid (by have := hb5.size; rw [HSZ1.out] at this; have := HSZ.out; omega)
                  have s0 := cell_of_row _ _ 0 _ _ _ hr5
                  have s1 := cell_of_row _ _ 1 _ _ _ hr5
                  have s2 := cell_of_row _ _ 2 _ _ _ hr5
                  have s3 := cell_of_row _ _ 3 _ _ _ hr5
                  have s4 := cell_of_row _ _ 4 _ _ _ hr5
                  clear hb5 hr5 HROW HOWN1 HSZ1
                  by_cases hG0 : G = 0
                  · subst hG0
                    have hnext : BK.rItems s.data.toList m p [] = BK.rItems s.data.toList (m - (j + 1)) p3 (acc ++ [⟨k, 0, false, v, n - 1⟩]) := by rw [HHIT.out, HFI.out, HFR.out, if_pos rfl]
                    have HNX := Lib.hid hnext
                    have HSN : Hid (ecs (acc ++ [(⟨k, 0, false, v, n - 1⟩ : E)]) = ecs acc ++ E.cells ⟨k, 0, false, v, n - 1⟩) := Lib.hid (ecs_snoc _ _)
                    have HWF2 : Hid (∀ x ∈ acc ++ [(⟨k, 0, false, v, n - 1⟩ : E)], x.wf) := Lib.hid (fun x hx => by
                      rcases List.mem_append.1 hx with h | h
                      · exact HWF.out x h
                      · simp at h; rw [h]; exact HE.out)
                    obtain ⟨X, hX⟩ : ∃ X, ecs acc = X := ⟨_, rfl⟩
                    rw [hX] at HO5 HSN
                    clear hnext hX
                    go_wp2_with (at_builtin; refine wpList_append_own _ rfl _ _ 24 rfl w.heap.size 39 i0 _ 5 56 Try.underlying24 hi hz0 hz1 hz2 rfl (by decide) _ _ _ rfl (own_below HO5.out ((Below.refl _ _).alloc (Nat.le_refl _) _)) ⟨w5.heap.size, 0, none⟩ 1 1 (E.cells ⟨k, 0, false, v, n - 1⟩) rfl ?c1 ?c2 ?c3 ?c4 ?c5 ?c6 ?_)
                    case c1 => rfl
                    case c2 =>
                      refine World.news_of_block (cs := (E.cells ⟨k, 0, false, v, n - 1⟩).toArray) (t := 39) (fr := (0, 0)) ?_
                      exact heap_alloc_new w5 _
                    case c3 => simp [E.cells, Value.oneCell']
                    case c4 => unfold maxLen; omega
                    case c5 => omega
                    case c6 => have := HS5.out; simp; omega
                    intro v' w6 hown6 hgrow6 hnil6
                    have HR6 : Hid (w6.ownsRow w.heap.size 39 5 v' (j + 1) (ecs (acc ++ [⟨k, 0, false, v, n - 1⟩]))) := Lib.hid (by rw [HSN.out]; exact hown6)
                    have HB6 : Hid (Below w.heap.size w w6) := Lib.hid ((HB5.out.alloc HS5.out _).grown hgrow6 (by have := HS5.out; simp; omega) (fun g hg => (HO5.out.lt g hg).1))
                    have HS6 : Hid (w.heap.size ≤ w6.heap.size) := Lib.hid (by have := hgrow6.size; have := HS5.out; simp at *; omega)
                    clear hown6 hgrow6 hnil6
                    go_wp2
                    go_roundw
                    case rel => exact ⟨j + 1, by omega, by go_num, acc ++ [⟨k, 0, false, v, n - 1⟩], p3, rfl, by rw [List.length_append, HAL.out]; rfl, HNX.out, HP2.out, HR6.out, HB6.out, HS6.out, HWF2.out⟩
                    case measure => simp [intOf]; omega
                  · have HF : Hid (BK.getOut s.data.toList = .error G) := Lib.hid (by rw [HX.out, HHIT.out, HFI.out, HFR.out, if_neg hG0]; rfl)
                    have hbe : (G == 0) = false := by simpa using hG0
                    have hbn : (G != 0) = true := by simpa using hG0
                    go_wp2
                    go_ret2
                    exact refBad HF.out HB5.out
      · have hjn : j = m := by omega
        have hz : m - j = 0 := by omega
        rw [hz] at hit
        simp only [BK.rItems] at hit
        have HX2 : Hid (BK.getOut s.data.toList = if q < s.size then .error 4 else .ok acc) := Lib.hid (by rw [HX.out, hit]; unfold BK.rEnd; rw [size_list])
        have HOWN := Lib.hid hown
        have HBEL := Lib.hid hbel
        have HWF := Lib.hid hwf
        have HAL := Lib.hid hal
        subst hjn
        clear hz hit hown hbel hwf hal
        by_cases hql : q < s.size
        · have HF : Hid (BK.getOut s.data.toList = .error 4) := Lib.hid (by rw [HX2.out, if_pos hql])
          have hqi : ((q : Int) == (s.size : Int)) = false := beq_eq_false_iff_ne.2 (by omega)
          have hqn : ((q : Int) != (s.size : Int)) = true := by rw [bne_iff_ne]; omega
          go_wp2
          go_ret2
          exact refBad HF.out HBEL.out
        · have HF : Hid (BK.getOut s.data.toList = .ok acc) := Lib.hid (by rw [HX2.out, if_neg hql])
          have hqe : q = s.size := by omega
          have hqi : ((q : Int) == (s.size : Int)) = true := by rw [hqe]; exact beq_self_eq_true _
          have hqn : ((q : Int) != (s.size : Int)) = false := by rw [hqe]; simp
          obtain ⟨A', c', hv, hen, -⟩ := own_ents HWF.out HAL.out HOWN.out
          have HEN := Lib.hid hen
          subst hv
          clear hen HOWN hql hqe
          go_wp2
          go_ret2
          obtain ⟨e1, e2⟩ := BK.getC_ok HF.out
          refine ⟨A', c', ?_, ?_, HBEL.out⟩
          · rw [e1, e2, HAL.out]; rfl
          · rw [e2]; exact HEN.out
end Go.Proofs.Ytonoapgajgcjlaa
