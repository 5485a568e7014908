/- Part: some of a file's bytes. -/
import Derived.Test.YtadokmihabfbjaaDkU
namespace Go.Proofs.Ytadokmihabfbjaa
open Go.RowKit Go.Maps
open DM

theorem part_nil (k : ByteArray) (i n : Int) (w : World) : Calls Try.prog 29 #[.pointer none, .string k, .int .i64 i, .int .i64 n] w fun e w' => e = .returned (.tuple #[.string ⟨#[]⟩, .int .i64 1]) ∧ w = w' := by
  go_enter Try.func29, Try.ntmps29
  go_wp2_with (go_at_call 41; refine (find_nil _ _).mono ?_; rintro e w' ⟨rfl, rfl⟩)
  go_ret2
  exact ⟨rfl, rfl⟩

/-- 'string(b[i:i+n])' of a row -/
theorem part_run {B : Nat} {w : World} {A : Option Addr} {L C : Nat} {l : Bs} (h : Row B w (.slice A L C) l) (hL : L = l.length) (I N : Nat) (hIN : I + N ≤ l.length) :
    ∃ A2 C2, (Instr.slice 79 (.slice A L C) (some (.int .i64 (I : Int))) (some (.int .i64 ((I : Int) + (N : Int)))) none).run Try.prog w = .ok (.slice A2 N C2) w ∧
      (convert 79 9 (.slice A2 N C2)).run Try.prog w = .ok (encS ((l.drop I).take N)) w := by
  have hs : ∀ w, (sizeOf (Try.prog.elem 79)).run Try.prog w = .ok 1 w := fun w => by kernel_rfl
  have hlc : L ≤ C ∧ (A = none → L = 0) := by
    rcases h with ⟨e, _⟩ | ⟨r, cap, cur, e, _, _, h4, _⟩
    · cases e; exact ⟨Nat.le_refl _, fun _ => rfl⟩
    · cases e; exact ⟨h4, fun e => by cases e⟩
  have hrun : (Instr.slice 79 (.slice A L C) (some (.int .i64 (I : Int))) (some (.int .i64 ((I : Int) + (N : Int)))) none).run Try.prog w = .ok (.slice (if C = I then A else A.map (·.add (I * 1))) N (C - I)) w := by
    rw [run_slice_lh w 79 A L C (by kernel_rfl) .i64 .i64 (I : Int) ((I : Int) + (N : Int)) (by omega) (by omega) (by omega), hs]
    simp only [Result.andThen, sliced, Int.toNat_natCast, show ((I : Int) + (N : Int)).toNat = I + N by omega, Nat.add_sub_cancel_left]
  refine ⟨_, _, hrun, ?_⟩
  have hlen : ((l.drop I).take N).length = N := by rw [List.length_take, List.length_drop]; omega
  have hconv : ∀ (r o : Nat) (c : Nat), Lib.Bytes w r o ⟨((l.drop I).take N).toArray⟩ → (convert 79 9 (.slice (some ⟨r, o, none⟩) N c)).run Try.prog w = .ok (encS ((l.drop I).take N)) w := fun r o c hb => by
    have h := Lib.run_convert_whole (P := Try.prog) w 79 5 9 Try.underlying79 Try.underlying5 Try.underlying9 r o ⟨((l.drop I).take N).toArray⟩ hb c
    have hz : (⟨((l.drop I).take N).toArray⟩ : ByteArray).size = N := by rw [← size_list]; simpa using hlen
    rw [hz] at h
    exact h
  rcases h with ⟨e, hl⟩ | ⟨r, cap, cur, e, _, hg, h4, _, _, htk⟩
  · cases e
    subst hl
    obtain rfl : N = 0 := by simp at hIN; omega
    obtain rfl : I = 0 := by simp at hIN; omega
    exact Lib.run_convert_nil_bytes w 79 9 5 0 Try.underlying79 Try.underlying5 Try.underlying9
  · cases e
    by_cases hC : C = I
    · obtain rfl : N = 0 := by omega
      rw [if_pos hC]
      refine hconv r 0 _ fun i hi => ?_
      simp [ByteArray.size] at hi
    · rw [if_neg hC]
      have ha : (some (⟨r, 0, none⟩ : Addr)).map (·.add (I * 1)) = some ⟨r, 0 + I * 1, none⟩ := by rw [Option.map_some, Go.WideShapes.add_plain]
      rw [ha]
      refine hconv r _ _ fun i hi => ?_
      have hi' : i < N := by rw [← hlen]; simpa [ByteArray.size] using hi
      have hb := Lib.bytes_of_row hg (l := l) htk (I + i) (by omega)
      rw [addr_add0] at hb
      rw [show 0 + I * 1 + i = I + i by omega, hb]
      have hx : (⟨((l.drop I).take N).toArray⟩ : ByteArray)[i]'hi = ((l.drop I).take N)[i]'(by rw [hlen]; exact hi') := rfl
      rw [hx, List.getElem_take, List.getElem_drop]

set_option maxRecDepth 100000 in
set_option maxHeartbeats 2000000 in
theorem part_any {B : Nat} {w : World} {d : Nat} {s : St} {g : Gh} (h : Rep B w d s g) (ok : Ok s) (hB : B ≤ w.heap.size) (k : ByteArray) (hk : k.size ≤ 140737488355328) (i n : Int) (hi : fits i) (hn : fits n) :
    Calls Try.prog 29 #[.pointer (some ⟨d, 0, none⟩), .string k, .int .i64 i, .int .i64 n] w (ReadOut B w d s (DM.part k.data.toList i n s)) := by
  have hml : maxLen = 9223372036854775807 := rfl
  unfold DM.part
  cases hoff : s.off with
  | true =>
    rw [if_pos rfl]
    have HR := Lib.hid (find_off h hoff k)
    have HE : Hid (ReadOut B w d s ([], 13) (.returned (.tuple #[.string ⟨#[]⟩, .int .i64 13])) w) := ⟨rfl, Moves.refl _ _, g, h⟩
    clear h ok hoff
    go_enter Try.func29, Try.ntmps29
    go_wp2_with (go_at_call 41; refine HR.out.mono ?_; rintro e w' ⟨rfl, rfl⟩)
    go_ret2
    exact HE.out
  | false =>
    rw [if_neg (by simp)]
    have HR := Lib.hid (find_on h hoff hB k (by omega))
    have HOK := Lib.hid ok
    clear h ok hoff
    cases hf : find s.names k.data.toList with
    | none =>
      rw [hf] at HR
      simp only
      clear hf
      go_enter Try.func29, Try.ntmps29
      go_wp2_with fail
      refine HR.out.mono ?_
      rintro e w3 ⟨hm3, g3, b1, b2, h1, h2, hr3, rfl⟩
      have HE : Hid (ReadOut B w d s ([], 10) (.returned (.tuple #[.string ⟨#[]⟩, .int .i64 10])) w3) := ⟨rfl, hm3, g3, hr3⟩
      clear hm3 h1 h2 hr3
      simp only [pv, Option.isNone_none, if_true]
      go_wp2
      go_ret2
      exact HE.out
    | some f =>
      rw [hf] at HR
      simp only
      have HF := Lib.hid hf
      have hle := HOK.out.lens_le f
      obtain ⟨Ln, hLn⟩ : ∃ Ln, lens s.files f = Ln := ⟨_, rfl⟩
      rw [hLn] at hle ⊢
      have HLn := Lib.hid hLn
      unfold fits at hi hn
      clear hf hLn
      by_cases hbad : i < 0 ∨ n < 0 ∨ (Ln : Int) < i ∨ (Ln : Int) - i < n
      · rw [if_pos hbad]
        have HE0 : Hid (∀ w3 g3, Moves B w w3 → Rep B w3 d s g3 → ReadOut B w d s ([], 2) (.returned (.tuple #[.string ⟨#[]⟩, .int .i64 2])) w3) := fun w3 g3 a b => ⟨rfl, a, g3, b⟩
        go_enter Try.func29, Try.ntmps29
        go_wp2_with fail
        refine HR.out.mono ?_
        rintro e w3 ⟨hm3, g3, b1, b2, h1, h2, hr3, rfl⟩
        have hfn := find_live hr3.body HOK.out.names HF.out
        obtain ⟨A, c, hcA⟩ : ∃ A c, w3.cell? ⟨g3.blk f, 1, none⟩ = some (.slice A Ln c) := by
          obtain ⟨RA, RC, hrow⟩ := row_slice hfn
          refine ⟨RA, RC, ?_⟩
          rw [cell_of_row _ _ _ _ _ _ hfn.2.1, ← HLn.out]
          show some (g3.row f) = _
          rw [hrow]
          rfl
        have HE := Lib.hid (HE0.out w3 g3 hm3 hr3)
        obtain ⟨b, hb⟩ : ∃ b, g3.blk f = b := ⟨_, rfl⟩
        rw [hb] at hcA
        simp only [pv, hb]
        clear hm3 h1 h2 hr3 hfn hb HE0 HR
        by_cases c1 : i < 0
        · go_wp2
          go_ret2
          exact HE.out
        · by_cases c2 : n < 0
          · go_wp2
            go_ret2
            exact HE.out
          · by_cases c3 : (Ln : Int) < i
            · go_wp2
              go_ret2
              exact HE.out
            · have c4 : (Ln : Int) - i < n := by omega
              go_wp2
              go_ret2
              exact HE.out
      · rw [if_neg hbad]
        obtain ⟨I, rfl⟩ : ∃ I : Nat, i = (I : Int) := ⟨i.toNat, by omega⟩
        obtain ⟨N, rfl⟩ : ∃ N : Nat, n = (N : Int) := ⟨n.toNat, by omega⟩
        simp only [Int.toNat_natCast]
        have b1 : I ≤ Ln := by omega
        have b2 : (N : Int) ≤ (Ln : Int) - (I : Int) := by omega
        have b3 : (I : Int) ≤ (Ln : Int) := by omega
        obtain ⟨T, hT⟩ : ∃ T, ((fileAt s f).data.drop I).take N = T := ⟨_, rfl⟩
        have HE0 : Hid (∀ w3 g3, Moves B w w3 → Rep B w3 d s g3 → ReadOut B w d s (T, 0) (.returned (.tuple #[encS T, .int .i64 0])) w3) := fun w3 g3 a b => ⟨rfl, a, g3, b⟩
        rw [hT]
        have HT := Lib.hid hT
        clear hT hbad
        go_enter Try.func29, Try.ntmps29
        go_wp2_with fail
        refine HR.out.mono ?_
        rintro e w3 ⟨hm3, g3, q1, q2, h1, h2, hr3, rfl⟩
        have hfn := find_live hr3.body HOK.out.names HF.out
        obtain ⟨RA, RC, hrow⟩ := row_slice hfn
        have hrw := hfn.2.2
        rw [hrow] at hrw
        have hdl : (fileAt s f).data.length = Ln := HLn.out
        obtain ⟨A2, C2, hsl, hcv⟩ := part_run hrw rfl I N (by omega)
        rw [HT.out] at hcv
        rw [hdl] at hsl
        have hcA : w3.cell? ⟨g3.blk f, 1, none⟩ = some (.slice RA Ln RC) := by
          rw [cell_of_row _ _ _ _ _ _ hfn.2.1]
          show some (g3.row f) = _
          rw [hrow, hdl]
        have HE := Lib.hid (HE0.out w3 g3 hm3 hr3)
        obtain ⟨b, hb⟩ : ∃ b, g3.blk f = b := ⟨_, rfl⟩
        rw [hb] at hcA
        obtain ⟨S, hS⟩ : ∃ S, encS T = .string S := ⟨_, rfl⟩
        rw [hS] at hcv HE
        simp only [pv, hb]
        clear hm3 h1 h2 hr3 hfn hb HE0 HR hrow hrw hdl hS
        go_wp2
        go_ret2
        exact HE.out
end Go.Proofs.Ytadokmihabfbjaa
