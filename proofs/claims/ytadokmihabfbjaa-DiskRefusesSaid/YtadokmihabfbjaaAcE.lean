import Derived.Test.YtadokmihabfbjaaAcB

/- act: Read and Part. Made by gen_acb.py. -/
namespace Go.Proofs.Ytadokmihabfbjaa
open Go.RowKit Go.Maps
open DM

set_option maxRecDepth 100000 in
set_option maxHeartbeats 4000000 in
theorem act_p6 {K : Box} {B : Nat} {W w : World} {d r : Nat} {s : St} {N M : Nat} (h : Duo K B W w d r s N M) (hN : N + 1 < 1000000000) (a : AD) (hw : a.wf) (hM : a.l.length ≤ M) (hnums : NumsAt w a.A a.l) (hm : a.d.tmod 12 = 6) :
    Calls Try.prog 9 #[.pointer (some ⟨d, 0, none⟩), .pointer (some ⟨r, 0, none⟩), a.val] w (ActOut B W d r N M) := by
  obtain ⟨D, k, to, n, m, A, c, l⟩ := a
  obtain ⟨hd, hk, hto, hn, hmm, hl, hl8⟩ := hw
  unfold AD.val AD.cells
  simp only at hm hk hto hn hmm hl hl8 hM hnums ⊢
  have HST : Hid (∀ w2, Below (w.heap.size + 1) (w.alloc (.cells #[.int .i64 D, .string k, .string to, .int .i64 n, .int .i64 m, .slice A l.length c] 31)) w2 → Duo (some (w.heap.size, #[.int .i64 D, .string k, .string to, .int .i64 n, .int .i64 m, .slice A l.length c])) B W w2 d r s N M) := Lib.hid fun w2 hb => (h.boxed #[.int .i64 D, .string k, .string to, .int .i64 n, .int .i64 m, .slice A l.length c]).still (by simpa using hb)
  have HNM := Lib.hid (hnums.below ((Below.refl w.heap.size w).alloc (Nat.le_refl _) (.cells #[.int .i64 D, .string k, .string to, .int .i64 n, .int .i64 m, .slice A l.length c] 31)))
  have hBx : B ≤ (w.alloc (.cells #[.int .i64 D, .string k, .string to, .int .i64 n, .int .i64 m, .slice A l.length c] 31)).heap.size := Nat.le_trans h.live.le' (by simp)
  have hbx := heap_alloc_new w (.cells #[.int .i64 D, .string k, .string to, .int .i64 n, .int .i64 m, .slice A l.length c] 31)
  obtain ⟨x, hx⟩ : ∃ x, w.heap.size = x := ⟨_, rfl⟩
  rw [hx] at HST hbx
  have HBX := Lib.hid hbx
  obtain ⟨ln, hln⟩ : ∃ ln, l.length = ln := ⟨_, rfl⟩
  have HLN := Lib.hid hln
  rw [hln] at HST HNM hBx HBX ⊢
  clear h hnums hbx hln
  obtain ⟨X, hX⟩ : ∃ X, DM.read k.data.toList s = X := ⟨_, rfl⟩
  obtain ⟨Y, hY⟩ : ∃ Y, DM.part k.data.toList n m s = Y := ⟨_, rfl⟩
  obtain ⟨X1, X2⟩ := X
  obtain ⟨Y1, Y2⟩ := Y
  obtain ⟨sx, hsx, -, -⟩ := enc_size X1
  obtain ⟨sy, hsy, -, -⟩ := enc_size Y1
  have H0 : Hid (∀ W', Duo (some (x, #[.int .i64 D, .string k, .string to, .int .i64 n, .int .i64 m, .slice A ln c])) B W W' d r s N M → Calls Try.prog 12 #[.pointer (some ⟨d, 0, none⟩), .string k] W' (fun e w' => e = .returned (.tuple #[.string sx, .int .i64 X2]) ∧ Duo (some (x, #[.int .i64 D, .string k, .string to, .int .i64 n, .int .i64 m, .slice A ln c])) B W w' d r s N M)) := Lib.hid fun W' hB => by
    have := hB.read1 k hk
    unfold Text at this
    simp only [hX, hsx] at this
    exact this
  have H1 : Hid (∀ W', Duo (some (x, #[.int .i64 D, .string k, .string to, .int .i64 n, .int .i64 m, .slice A ln c])) B W W' d r s N M → Calls Try.prog 28 #[.pointer (some ⟨r, 0, none⟩), .string k] W' (fun e w' => e = .returned (.tuple #[.string sx, .int .i64 X2]) ∧ Duo (some (x, #[.int .i64 D, .string k, .string to, .int .i64 n, .int .i64 m, .slice A ln c])) B W w' d r s N M)) := Lib.hid fun W' hB => by
    have := hB.read2 k
    unfold Text at this
    simp only [hX, hsx] at this
    exact this
  have H2 : Hid (∀ W', Duo (some (x, #[.int .i64 D, .string k, .string to, .int .i64 n, .int .i64 m, .slice A ln c])) B W W' d r s N M → Calls Try.prog 29 #[.pointer (some ⟨d, 0, none⟩), .string k, .int .i64 n, .int .i64 m] W' (fun e w' => e = .returned (.tuple #[.string sy, .int .i64 Y2]) ∧ Duo (some (x, #[.int .i64 D, .string k, .string to, .int .i64 n, .int .i64 m, .slice A ln c])) B W w' d r s N M)) := Lib.hid fun W' hB => by
    have := hB.part1 k hk n m hn hmm
    unfold Text at this
    simp only [hY, hsy] at this
    exact this
  have H3 : Hid (∀ W', Duo (some (x, #[.int .i64 D, .string k, .string to, .int .i64 n, .int .i64 m, .slice A ln c])) B W W' d r s N M → Calls Try.prog 30 #[.pointer (some ⟨r, 0, none⟩), .string k, .int .i64 n, .int .i64 m] W' (fun e w' => e = .returned (.tuple #[.string sy, .int .i64 Y2]) ∧ Duo (some (x, #[.int .i64 D, .string k, .string to, .int .i64 n, .int .i64 m, .slice A ln c])) B W w' d r s N M)) := Lib.hid fun W' hB => by
    have := hB.part2 k n m hn hmm
    unfold Text at this
    simp only [hY, hsy] at this
    exact this
  clear hX hY hsx hsy
  go_enter Try.func9, Try.ntmps9
  go_wp2_with (at_builtin; refine wpList_nums rfl _ _ rfl rfl rfl A ln c l HLN.out rfl HNM.out hl8 B hBx ?_)
  intro A' c' w2 ho hb
  rw [HLN.out]
  have HO := Lib.hid ho
  have HD := Lib.hid (HST.out w2 hb)
  have c1 : w2.cell? ⟨x, 1, none⟩ = some (.string k) := HD.out.cell 1 _ rfl
  have c3 : w2.cell? ⟨x, 3, none⟩ = some (.int .i64 n) := HD.out.cell 3 _ rfl
  have c4 : w2.cell? ⟨x, 4, none⟩ = some (.int .i64 m) := HD.out.cell 4 _ rfl
  clear ho hb HST HNM hBx HBX
  go_wp2_with fail
  refine (H0.out _ HD.out).mono ?_
  rintro e w3 ⟨rfl, hbo⟩
  have HB1 := Lib.hid hbo
  have u1 : w3.cell? ⟨x, 1, none⟩ = some (.string k) := HB1.out.cell 1 _ rfl
  have u3 : w3.cell? ⟨x, 3, none⟩ = some (.int .i64 n) := HB1.out.cell 3 _ rfl
  have u4 : w3.cell? ⟨x, 4, none⟩ = some (.int .i64 m) := HB1.out.cell 4 _ rfl
  clear hbo
  go_wp2_with fail
  refine (H1.out _ HB1.out).mono ?_
  rintro e w4 ⟨rfl, hbo⟩
  have HB2 := Lib.hid hbo
  have v1 : w4.cell? ⟨x, 1, none⟩ = some (.string k) := HB2.out.cell 1 _ rfl
  have v3 : w4.cell? ⟨x, 3, none⟩ = some (.int .i64 n) := HB2.out.cell 3 _ rfl
  have v4 : w4.cell? ⟨x, 4, none⟩ = some (.int .i64 m) := HB2.out.cell 4 _ rfl
  clear hbo
  go_wp2_with fail
  refine (H2.out _ HB2.out).mono ?_
  rintro e w5 ⟨rfl, hbo⟩
  have HB3 := Lib.hid hbo
  have y1 : w5.cell? ⟨x, 1, none⟩ = some (.string k) := HB3.out.cell 1 _ rfl
  have y3 : w5.cell? ⟨x, 3, none⟩ = some (.int .i64 n) := HB3.out.cell 3 _ rfl
  have y4 : w5.cell? ⟨x, 4, none⟩ = some (.int .i64 m) := HB3.out.cell 4 _ rfl
  clear hbo
  go_wp2_with fail
  refine (H3.out _ HB3.out).mono ?_
  rintro e w6 ⟨rfl, hbo⟩
  have HB4 := Lib.hid hbo
  clear hbo
  go_wp2
  go_ret
  exact ⟨rfl, _, (HB4.out.grow hN).unboxed⟩

set_option maxRecDepth 100000 in
set_option maxHeartbeats 4000000 in
theorem act_n6 {K : Box} {B : Nat} {W w : World} {d r : Nat} {s : St} {N M : Nat} (h : Duo K B W w d r s N M) (hN : N + 1 < 1000000000) (a : AD) (hw : a.wf) (hM : a.l.length ≤ M) (hnums : NumsAt w a.A a.l) (hm : a.d.tmod 12 = -6) :
    Calls Try.prog 9 #[.pointer (some ⟨d, 0, none⟩), .pointer (some ⟨r, 0, none⟩), a.val] w (ActOut B W d r N M) := by
  obtain ⟨D, k, to, n, m, A, c, l⟩ := a
  obtain ⟨hd, hk, hto, hn, hmm, hl, hl8⟩ := hw
  unfold AD.val AD.cells
  simp only at hm hk hto hn hmm hl hl8 hM hnums ⊢
  have HST : Hid (∀ w2, Below (w.heap.size + 1) (w.alloc (.cells #[.int .i64 D, .string k, .string to, .int .i64 n, .int .i64 m, .slice A l.length c] 31)) w2 → Duo (some (w.heap.size, #[.int .i64 D, .string k, .string to, .int .i64 n, .int .i64 m, .slice A l.length c])) B W w2 d r s N M) := Lib.hid fun w2 hb => (h.boxed #[.int .i64 D, .string k, .string to, .int .i64 n, .int .i64 m, .slice A l.length c]).still (by simpa using hb)
  have HNM := Lib.hid (hnums.below ((Below.refl w.heap.size w).alloc (Nat.le_refl _) (.cells #[.int .i64 D, .string k, .string to, .int .i64 n, .int .i64 m, .slice A l.length c] 31)))
  have hBx : B ≤ (w.alloc (.cells #[.int .i64 D, .string k, .string to, .int .i64 n, .int .i64 m, .slice A l.length c] 31)).heap.size := Nat.le_trans h.live.le' (by simp)
  have hbx := heap_alloc_new w (.cells #[.int .i64 D, .string k, .string to, .int .i64 n, .int .i64 m, .slice A l.length c] 31)
  obtain ⟨x, hx⟩ : ∃ x, w.heap.size = x := ⟨_, rfl⟩
  rw [hx] at HST hbx
  have HBX := Lib.hid hbx
  obtain ⟨ln, hln⟩ : ∃ ln, l.length = ln := ⟨_, rfl⟩
  have HLN := Lib.hid hln
  rw [hln] at HST HNM hBx HBX ⊢
  clear h hnums hbx hln
  obtain ⟨X, hX⟩ : ∃ X, DM.read k.data.toList s = X := ⟨_, rfl⟩
  obtain ⟨Y, hY⟩ : ∃ Y, DM.part k.data.toList n m s = Y := ⟨_, rfl⟩
  obtain ⟨X1, X2⟩ := X
  obtain ⟨Y1, Y2⟩ := Y
  obtain ⟨sx, hsx, -, -⟩ := enc_size X1
  obtain ⟨sy, hsy, -, -⟩ := enc_size Y1
  have H0 : Hid (∀ W', Duo (some (x, #[.int .i64 D, .string k, .string to, .int .i64 n, .int .i64 m, .slice A ln c])) B W W' d r s N M → Calls Try.prog 12 #[.pointer (some ⟨d, 0, none⟩), .string k] W' (fun e w' => e = .returned (.tuple #[.string sx, .int .i64 X2]) ∧ Duo (some (x, #[.int .i64 D, .string k, .string to, .int .i64 n, .int .i64 m, .slice A ln c])) B W w' d r s N M)) := Lib.hid fun W' hB => by
    have := hB.read1 k hk
    unfold Text at this
    simp only [hX, hsx] at this
    exact this
  have H1 : Hid (∀ W', Duo (some (x, #[.int .i64 D, .string k, .string to, .int .i64 n, .int .i64 m, .slice A ln c])) B W W' d r s N M → Calls Try.prog 28 #[.pointer (some ⟨r, 0, none⟩), .string k] W' (fun e w' => e = .returned (.tuple #[.string sx, .int .i64 X2]) ∧ Duo (some (x, #[.int .i64 D, .string k, .string to, .int .i64 n, .int .i64 m, .slice A ln c])) B W w' d r s N M)) := Lib.hid fun W' hB => by
    have := hB.read2 k
    unfold Text at this
    simp only [hX, hsx] at this
    exact this
  have H2 : Hid (∀ W', Duo (some (x, #[.int .i64 D, .string k, .string to, .int .i64 n, .int .i64 m, .slice A ln c])) B W W' d r s N M → Calls Try.prog 29 #[.pointer (some ⟨d, 0, none⟩), .string k, .int .i64 n, .int .i64 m] W' (fun e w' => e = .returned (.tuple #[.string sy, .int .i64 Y2]) ∧ Duo (some (x, #[.int .i64 D, .string k, .string to, .int .i64 n, .int .i64 m, .slice A ln c])) B W w' d r s N M)) := Lib.hid fun W' hB => by
    have := hB.part1 k hk n m hn hmm
    unfold Text at this
    simp only [hY, hsy] at this
    exact this
  have H3 : Hid (∀ W', Duo (some (x, #[.int .i64 D, .string k, .string to, .int .i64 n, .int .i64 m, .slice A ln c])) B W W' d r s N M → Calls Try.prog 30 #[.pointer (some ⟨r, 0, none⟩), .string k, .int .i64 n, .int .i64 m] W' (fun e w' => e = .returned (.tuple #[.string sy, .int .i64 Y2]) ∧ Duo (some (x, #[.int .i64 D, .string k, .string to, .int .i64 n, .int .i64 m, .slice A ln c])) B W w' d r s N M)) := Lib.hid fun W' hB => by
    have := hB.part2 k n m hn hmm
    unfold Text at this
    simp only [hY, hsy] at this
    exact this
  clear hX hY hsx hsy
  go_enter Try.func9, Try.ntmps9
  go_wp2_with (at_builtin; refine wpList_nums rfl _ _ rfl rfl rfl A ln c l HLN.out rfl HNM.out hl8 B hBx ?_)
  intro A' c' w2 ho hb
  rw [HLN.out]
  have HO := Lib.hid ho
  have HD := Lib.hid (HST.out w2 hb)
  have c1 : w2.cell? ⟨x, 1, none⟩ = some (.string k) := HD.out.cell 1 _ rfl
  have c3 : w2.cell? ⟨x, 3, none⟩ = some (.int .i64 n) := HD.out.cell 3 _ rfl
  have c4 : w2.cell? ⟨x, 4, none⟩ = some (.int .i64 m) := HD.out.cell 4 _ rfl
  clear ho hb HST HNM hBx HBX
  go_wp2_with fail
  refine (H0.out _ HD.out).mono ?_
  rintro e w3 ⟨rfl, hbo⟩
  have HB1 := Lib.hid hbo
  have u1 : w3.cell? ⟨x, 1, none⟩ = some (.string k) := HB1.out.cell 1 _ rfl
  have u3 : w3.cell? ⟨x, 3, none⟩ = some (.int .i64 n) := HB1.out.cell 3 _ rfl
  have u4 : w3.cell? ⟨x, 4, none⟩ = some (.int .i64 m) := HB1.out.cell 4 _ rfl
  clear hbo
  go_wp2_with fail
  refine (H1.out _ HB1.out).mono ?_
  rintro e w4 ⟨rfl, hbo⟩
  have HB2 := Lib.hid hbo
  have v1 : w4.cell? ⟨x, 1, none⟩ = some (.string k) := HB2.out.cell 1 _ rfl
  have v3 : w4.cell? ⟨x, 3, none⟩ = some (.int .i64 n) := HB2.out.cell 3 _ rfl
  have v4 : w4.cell? ⟨x, 4, none⟩ = some (.int .i64 m) := HB2.out.cell 4 _ rfl
  clear hbo
  go_wp2_with fail
  refine (H2.out _ HB2.out).mono ?_
  rintro e w5 ⟨rfl, hbo⟩
  have HB3 := Lib.hid hbo
  have y1 : w5.cell? ⟨x, 1, none⟩ = some (.string k) := HB3.out.cell 1 _ rfl
  have y3 : w5.cell? ⟨x, 3, none⟩ = some (.int .i64 n) := HB3.out.cell 3 _ rfl
  have y4 : w5.cell? ⟨x, 4, none⟩ = some (.int .i64 m) := HB3.out.cell 4 _ rfl
  clear hbo
  go_wp2_with fail
  refine (H3.out _ HB3.out).mono ?_
  rintro e w6 ⟨rfl, hbo⟩
  have HB4 := Lib.hid hbo
  clear hbo
  go_wp2
  go_ret
  exact ⟨rfl, _, (HB4.out.grow hN).unboxed⟩

end Go.Proofs.Ytadokmihabfbjaa

/- act: Crash, Cut. Made by gen_acb.py. -/
namespace Go.Proofs.Ytadokmihabfbjaa
open Go.RowKit Go.Maps
open DM

set_option maxRecDepth 100000 in
set_option maxHeartbeats 4000000 in
theorem act_p7 {K : Box} {B : Nat} {W w : World} {d r : Nat} {s : St} {N M : Nat} (h : Duo K B W w d r s N M) (hN : N + 1 < 1000000000) (a : AD) (hw : a.wf) (hM : a.l.length ≤ M) (hnums : NumsAt w a.A a.l) (hm : a.d.tmod 12 = 7) :
    Calls Try.prog 9 #[.pointer (some ⟨d, 0, none⟩), .pointer (some ⟨r, 0, none⟩), a.val] w (ActOut B W d r N M) := by
  obtain ⟨D, k, to, n, m, A, c, l⟩ := a
  obtain ⟨hd, hk, hto, hn, hmm, hl, hl8⟩ := hw
  unfold AD.val AD.cells
  simp only at hm hk hto hn hmm hl hl8 hM hnums ⊢
  have HST : Hid (∀ w2, Below (w.heap.size + 1) (w.alloc (.cells #[.int .i64 D, .string k, .string to, .int .i64 n, .int .i64 m, .slice A l.length c] 31)) w2 → Duo (some (w.heap.size, #[.int .i64 D, .string k, .string to, .int .i64 n, .int .i64 m, .slice A l.length c])) B W w2 d r s N M) := Lib.hid fun w2 hb => (h.boxed #[.int .i64 D, .string k, .string to, .int .i64 n, .int .i64 m, .slice A l.length c]).still (by simpa using hb)
  have HNM := Lib.hid (hnums.below ((Below.refl w.heap.size w).alloc (Nat.le_refl _) (.cells #[.int .i64 D, .string k, .string to, .int .i64 n, .int .i64 m, .slice A l.length c] 31)))
  have hBx : B ≤ (w.alloc (.cells #[.int .i64 D, .string k, .string to, .int .i64 n, .int .i64 m, .slice A l.length c] 31)).heap.size := Nat.le_trans h.live.le' (by simp)
  have hbx := heap_alloc_new w (.cells #[.int .i64 D, .string k, .string to, .int .i64 n, .int .i64 m, .slice A l.length c] 31)
  obtain ⟨x, hx⟩ : ∃ x, w.heap.size = x := ⟨_, rfl⟩
  rw [hx] at HST hbx
  have HBX := Lib.hid hbx
  obtain ⟨ln, hln⟩ : ∃ ln, l.length = ln := ⟨_, rfl⟩
  have HLN := Lib.hid hln
  rw [hln] at HST HNM hBx HBX ⊢
  clear h hnums hbx hln
  have hl2 : l.length ≤ 140737488355328 := by omega
  have H0 : Hid (∀ W' A' c', Duo (some (x, #[.int .i64 D, .string k, .string to, .int .i64 n, .int .i64 m, .slice A ln c])) B W W' d r s N M → Own B W' A' c' l → Calls Try.prog 19 #[.pointer (some ⟨d, 0, none⟩), .int .i64 m, .slice A' ln c'] W' (Void fun w' => Mid (some (x, #[.int .i64 D, .string k, .string to, .int .i64 n, .int .i64 m, .slice A ln c])) B W w' d r s (DM.crash m l s) N M N ∧ Own B w' A' c' l)) := Lib.hid fun W' A' c' hB ho => by
    have := hB.crash1 m hmm A' c' l hM ho hl
    rw [HLN.out] at this
    exact this
  have H1 : Hid (∀ W' A' c', Mid (some (x, #[.int .i64 D, .string k, .string to, .int .i64 n, .int .i64 m, .slice A ln c])) B W W' d r s (DM.crash m l s) N M N → Own B W' A' c' l → Calls Try.prog 31 #[.pointer (some ⟨r, 0, none⟩), .int .i64 m, .slice A' ln c'] W' (Void fun w' => (∃ y, w'.cell? ⟨r, 5, none⟩ = some y) ∧ w'.frozen? ⟨r, 5, none⟩ = false ∧ Duo (some (x, #[.int .i64 D, .string k, .string to, .int .i64 n, .int .i64 m, .slice A ln c])) B W (w'.setCell ⟨r, 5, none⟩ (.bool false)) d r (DM.crash m l s) N M)) := Lib.hid fun W' A' c' hB ho => by
    have := Mid.fail2 m hmm A' c' l hB (by omega) hl2 ho hl
    rw [HLN.out] at this
    exact this
  go_enter Try.func9, Try.ntmps9
  go_wp2_with (at_builtin; refine wpList_nums rfl _ _ rfl rfl rfl A ln c l HLN.out rfl HNM.out hl8 B hBx ?_)
  intro A' c' w2 ho hb
  rw [HLN.out]
  have HO := Lib.hid ho
  have HD := Lib.hid (HST.out w2 hb)
  have c4 : w2.cell? ⟨x, 4, none⟩ = some (.int .i64 m) := HD.out.cell 4 _ rfl
  clear ho hb HST HNM hBx HBX
  go_wp2_with fail
  refine (H0.out _ _ _ HD.out HO.out).mono ?_
  rintro e w3 ⟨rfl, hbo, ho2⟩
  have HB2 := Lib.hid hbo
  have z4 : w3.cell? ⟨x, 4, none⟩ = some (.int .i64 m) := HB2.out.cell 4 _ rfl
  have HO2 := Lib.hid ho2
  clear ho2
  clear hbo
  go_wp2_with fail
  refine (H1.out _ _ _ HB2.out HO2.out).mono ?_
  rintro e w4 ⟨rfl, ⟨y, hy⟩, hfz, hbo⟩
  have HB3 := Lib.hid hbo
  clear hbo
  go_wp2
  go_ret
  exact ⟨rfl, _, (HB3.out.grow hN).unboxed⟩

set_option maxRecDepth 100000 in
set_option maxHeartbeats 4000000 in
theorem act_n7 {K : Box} {B : Nat} {W w : World} {d r : Nat} {s : St} {N M : Nat} (h : Duo K B W w d r s N M) (hN : N + 1 < 1000000000) (a : AD) (hw : a.wf) (hM : a.l.length ≤ M) (hnums : NumsAt w a.A a.l) (hm : a.d.tmod 12 = -5) :
    Calls Try.prog 9 #[.pointer (some ⟨d, 0, none⟩), .pointer (some ⟨r, 0, none⟩), a.val] w (ActOut B W d r N M) := by
  obtain ⟨D, k, to, n, m, A, c, l⟩ := a
  obtain ⟨hd, hk, hto, hn, hmm, hl, hl8⟩ := hw
  unfold AD.val AD.cells
  simp only at hm hk hto hn hmm hl hl8 hM hnums ⊢
  have HST : Hid (∀ w2, Below (w.heap.size + 1) (w.alloc (.cells #[.int .i64 D, .string k, .string to, .int .i64 n, .int .i64 m, .slice A l.length c] 31)) w2 → Duo (some (w.heap.size, #[.int .i64 D, .string k, .string to, .int .i64 n, .int .i64 m, .slice A l.length c])) B W w2 d r s N M) := Lib.hid fun w2 hb => (h.boxed #[.int .i64 D, .string k, .string to, .int .i64 n, .int .i64 m, .slice A l.length c]).still (by simpa using hb)
  have HNM := Lib.hid (hnums.below ((Below.refl w.heap.size w).alloc (Nat.le_refl _) (.cells #[.int .i64 D, .string k, .string to, .int .i64 n, .int .i64 m, .slice A l.length c] 31)))
  have hBx : B ≤ (w.alloc (.cells #[.int .i64 D, .string k, .string to, .int .i64 n, .int .i64 m, .slice A l.length c] 31)).heap.size := Nat.le_trans h.live.le' (by simp)
  have hbx := heap_alloc_new w (.cells #[.int .i64 D, .string k, .string to, .int .i64 n, .int .i64 m, .slice A l.length c] 31)
  obtain ⟨x, hx⟩ : ∃ x, w.heap.size = x := ⟨_, rfl⟩
  rw [hx] at HST hbx
  have HBX := Lib.hid hbx
  obtain ⟨ln, hln⟩ : ∃ ln, l.length = ln := ⟨_, rfl⟩
  have HLN := Lib.hid hln
  rw [hln] at HST HNM hBx HBX ⊢
  clear h hnums hbx hln
  have hl2 : l.length ≤ 140737488355328 := by omega
  have H0 : Hid (∀ W' A' c', Duo (some (x, #[.int .i64 D, .string k, .string to, .int .i64 n, .int .i64 m, .slice A ln c])) B W W' d r s N M → Own B W' A' c' l → Calls Try.prog 19 #[.pointer (some ⟨d, 0, none⟩), .int .i64 m, .slice A' ln c'] W' (Void fun w' => Mid (some (x, #[.int .i64 D, .string k, .string to, .int .i64 n, .int .i64 m, .slice A ln c])) B W w' d r s (DM.crash m l s) N M N ∧ Own B w' A' c' l)) := Lib.hid fun W' A' c' hB ho => by
    have := hB.crash1 m hmm A' c' l hM ho hl
    rw [HLN.out] at this
    exact this
  have H1 : Hid (∀ W' A' c', Mid (some (x, #[.int .i64 D, .string k, .string to, .int .i64 n, .int .i64 m, .slice A ln c])) B W W' d r s (DM.crash m l s) N M N → Own B W' A' c' l → Calls Try.prog 31 #[.pointer (some ⟨r, 0, none⟩), .int .i64 m, .slice A' ln c'] W' (Void fun w' => (∃ y, w'.cell? ⟨r, 5, none⟩ = some y) ∧ w'.frozen? ⟨r, 5, none⟩ = false ∧ Duo (some (x, #[.int .i64 D, .string k, .string to, .int .i64 n, .int .i64 m, .slice A ln c])) B W (w'.setCell ⟨r, 5, none⟩ (.bool false)) d r (DM.crash m l s) N M)) := Lib.hid fun W' A' c' hB ho => by
    have := Mid.fail2 m hmm A' c' l hB (by omega) hl2 ho hl
    rw [HLN.out] at this
    exact this
  go_enter Try.func9, Try.ntmps9
  go_wp2_with (at_builtin; refine wpList_nums rfl _ _ rfl rfl rfl A ln c l HLN.out rfl HNM.out hl8 B hBx ?_)
  intro A' c' w2 ho hb
  rw [HLN.out]
  have HO := Lib.hid ho
  have HD := Lib.hid (HST.out w2 hb)
  have c4 : w2.cell? ⟨x, 4, none⟩ = some (.int .i64 m) := HD.out.cell 4 _ rfl
  clear ho hb HST HNM hBx HBX
  go_wp2_with fail
  refine (H0.out _ _ _ HD.out HO.out).mono ?_
  rintro e w3 ⟨rfl, hbo, ho2⟩
  have HB2 := Lib.hid hbo
  have z4 : w3.cell? ⟨x, 4, none⟩ = some (.int .i64 m) := HB2.out.cell 4 _ rfl
  have HO2 := Lib.hid ho2
  clear ho2
  clear hbo
  go_wp2_with fail
  refine (H1.out _ _ _ HB2.out HO2.out).mono ?_
  rintro e w4 ⟨rfl, ⟨y, hy⟩, hfz, hbo⟩
  have HB3 := Lib.hid hbo
  clear hbo
  go_wp2
  go_ret
  exact ⟨rfl, _, (HB3.out.grow hN).unboxed⟩

set_option maxRecDepth 100000 in
set_option maxHeartbeats 4000000 in
theorem act_p8 {K : Box} {B : Nat} {W w : World} {d r : Nat} {s : St} {N M : Nat} (h : Duo K B W w d r s N M) (hN : N + 1 < 1000000000) (a : AD) (hw : a.wf) (hM : a.l.length ≤ M) (hnums : NumsAt w a.A a.l) (hm : a.d.tmod 12 = 8) :
    Calls Try.prog 9 #[.pointer (some ⟨d, 0, none⟩), .pointer (some ⟨r, 0, none⟩), a.val] w (ActOut B W d r N M) := by
  obtain ⟨D, k, to, n, m, A, c, l⟩ := a
  obtain ⟨hd, hk, hto, hn, hmm, hl, hl8⟩ := hw
  unfold AD.val AD.cells
  simp only at hm hk hto hn hmm hl hl8 hM hnums ⊢
  have HST : Hid (∀ w2, Below (w.heap.size + 1) (w.alloc (.cells #[.int .i64 D, .string k, .string to, .int .i64 n, .int .i64 m, .slice A l.length c] 31)) w2 → Duo (some (w.heap.size, #[.int .i64 D, .string k, .string to, .int .i64 n, .int .i64 m, .slice A l.length c])) B W w2 d r s N M) := Lib.hid fun w2 hb => (h.boxed #[.int .i64 D, .string k, .string to, .int .i64 n, .int .i64 m, .slice A l.length c]).still (by simpa using hb)
  have HNM := Lib.hid (hnums.below ((Below.refl w.heap.size w).alloc (Nat.le_refl _) (.cells #[.int .i64 D, .string k, .string to, .int .i64 n, .int .i64 m, .slice A l.length c] 31)))
  have hBx : B ≤ (w.alloc (.cells #[.int .i64 D, .string k, .string to, .int .i64 n, .int .i64 m, .slice A l.length c] 31)).heap.size := Nat.le_trans h.live.le' (by simp)
  have hbx := heap_alloc_new w (.cells #[.int .i64 D, .string k, .string to, .int .i64 n, .int .i64 m, .slice A l.length c] 31)
  obtain ⟨x, hx⟩ : ∃ x, w.heap.size = x := ⟨_, rfl⟩
  rw [hx] at HST hbx
  have HBX := Lib.hid hbx
  obtain ⟨ln, hln⟩ : ∃ ln, l.length = ln := ⟨_, rfl⟩
  have HLN := Lib.hid hln
  rw [hln] at HST HNM hBx HBX ⊢
  clear h hnums hbx hln
  have H0 : Hid (∀ W' A' c', Duo (some (x, #[.int .i64 D, .string k, .string to, .int .i64 n, .int .i64 m, .slice A ln c])) B W W' d r s N M → Own B W' A' c' l → Calls Try.prog 32 #[.pointer (some ⟨d, 0, none⟩), .int .i64 n, .int .i64 m, .slice A' ln c'] W' (Void fun w' => Mid (some (x, #[.int .i64 D, .string k, .string to, .int .i64 n, .int .i64 m, .slice A ln c])) B W w' d r s (DM.cut n m l s) N M N ∧ Own B w' A' c' l)) := Lib.hid fun W' A' c' hB ho => by
    have := hB.cut1 n m hn hmm A' c' l hM hl8 ho hl
    rw [HLN.out] at this
    exact this
  have H1 : Hid (∀ W' A' c', Mid (some (x, #[.int .i64 D, .string k, .string to, .int .i64 n, .int .i64 m, .slice A ln c])) B W W' d r s (DM.cut n m l s) N M N → Own B W' A' c' l → Calls Try.prog 33 #[.pointer (some ⟨r, 0, none⟩), .int .i64 n, .int .i64 m, .slice A' ln c'] W' (Void fun w' => Duo (some (x, #[.int .i64 D, .string k, .string to, .int .i64 n, .int .i64 m, .slice A ln c])) B W w' d r (DM.cut n m l s) N M)) := Lib.hid fun W' A' c' hB ho => by
    have := Mid.cut2 n m A' c' l hB ho
    rw [HLN.out] at this
    exact this
  go_enter Try.func9, Try.ntmps9
  go_wp2_with (at_builtin; refine wpList_nums rfl _ _ rfl rfl rfl A ln c l HLN.out rfl HNM.out hl8 B hBx ?_)
  intro A' c' w2 ho hb
  rw [HLN.out]
  have HO := Lib.hid ho
  have HD := Lib.hid (HST.out w2 hb)
  have c3 : w2.cell? ⟨x, 3, none⟩ = some (.int .i64 n) := HD.out.cell 3 _ rfl
  have c4 : w2.cell? ⟨x, 4, none⟩ = some (.int .i64 m) := HD.out.cell 4 _ rfl
  clear ho hb HST HNM hBx HBX
  go_wp2_with fail
  refine (H0.out _ _ _ HD.out HO.out).mono ?_
  rintro e w3 ⟨rfl, hbo, ho2⟩
  have HB2 := Lib.hid hbo
  have z3 : w3.cell? ⟨x, 3, none⟩ = some (.int .i64 n) := HB2.out.cell 3 _ rfl
  have z4 : w3.cell? ⟨x, 4, none⟩ = some (.int .i64 m) := HB2.out.cell 4 _ rfl
  have HO2 := Lib.hid ho2
  clear ho2
  clear hbo
  go_wp2_with fail
  refine (H1.out _ _ _ HB2.out HO2.out).mono ?_
  rintro e w4 ⟨rfl, hbo⟩
  have HB3 := Lib.hid hbo
  clear hbo
  go_wp2
  go_ret
  exact ⟨rfl, _, (HB3.out.grow hN).unboxed⟩

set_option maxRecDepth 100000 in
set_option maxHeartbeats 4000000 in
theorem act_n8 {K : Box} {B : Nat} {W w : World} {d r : Nat} {s : St} {N M : Nat} (h : Duo K B W w d r s N M) (hN : N + 1 < 1000000000) (a : AD) (hw : a.wf) (hM : a.l.length ≤ M) (hnums : NumsAt w a.A a.l) (hm : a.d.tmod 12 = -4) :
    Calls Try.prog 9 #[.pointer (some ⟨d, 0, none⟩), .pointer (some ⟨r, 0, none⟩), a.val] w (ActOut B W d r N M) := by
  obtain ⟨D, k, to, n, m, A, c, l⟩ := a
  obtain ⟨hd, hk, hto, hn, hmm, hl, hl8⟩ := hw
  unfold AD.val AD.cells
  simp only at hm hk hto hn hmm hl hl8 hM hnums ⊢
  have HST : Hid (∀ w2, Below (w.heap.size + 1) (w.alloc (.cells #[.int .i64 D, .string k, .string to, .int .i64 n, .int .i64 m, .slice A l.length c] 31)) w2 → Duo (some (w.heap.size, #[.int .i64 D, .string k, .string to, .int .i64 n, .int .i64 m, .slice A l.length c])) B W w2 d r s N M) := Lib.hid fun w2 hb => (h.boxed #[.int .i64 D, .string k, .string to, .int .i64 n, .int .i64 m, .slice A l.length c]).still (by simpa using hb)
  have HNM := Lib.hid (hnums.below ((Below.refl w.heap.size w).alloc (Nat.le_refl _) (.cells #[.int .i64 D, .string k, .string to, .int .i64 n, .int .i64 m, .slice A l.length c] 31)))
  have hBx : B ≤ (w.alloc (.cells #[.int .i64 D, .string k, .string to, .int .i64 n, .int .i64 m, .slice A l.length c] 31)).heap.size := Nat.le_trans h.live.le' (by simp)
  have hbx := heap_alloc_new w (.cells #[.int .i64 D, .string k, .string to, .int .i64 n, .int .i64 m, .slice A l.length c] 31)
  obtain ⟨x, hx⟩ : ∃ x, w.heap.size = x := ⟨_, rfl⟩
  rw [hx] at HST hbx
  have HBX := Lib.hid hbx
  obtain ⟨ln, hln⟩ : ∃ ln, l.length = ln := ⟨_, rfl⟩
  have HLN := Lib.hid hln
  rw [hln] at HST HNM hBx HBX ⊢
  clear h hnums hbx hln
  have H0 : Hid (∀ W' A' c', Duo (some (x, #[.int .i64 D, .string k, .string to, .int .i64 n, .int .i64 m, .slice A ln c])) B W W' d r s N M → Own B W' A' c' l → Calls Try.prog 32 #[.pointer (some ⟨d, 0, none⟩), .int .i64 n, .int .i64 m, .slice A' ln c'] W' (Void fun w' => Mid (some (x, #[.int .i64 D, .string k, .string to, .int .i64 n, .int .i64 m, .slice A ln c])) B W w' d r s (DM.cut n m l s) N M N ∧ Own B w' A' c' l)) := Lib.hid fun W' A' c' hB ho => by
    have := hB.cut1 n m hn hmm A' c' l hM hl8 ho hl
    rw [HLN.out] at this
    exact this
  have H1 : Hid (∀ W' A' c', Mid (some (x, #[.int .i64 D, .string k, .string to, .int .i64 n, .int .i64 m, .slice A ln c])) B W W' d r s (DM.cut n m l s) N M N → Own B W' A' c' l → Calls Try.prog 33 #[.pointer (some ⟨r, 0, none⟩), .int .i64 n, .int .i64 m, .slice A' ln c'] W' (Void fun w' => Duo (some (x, #[.int .i64 D, .string k, .string to, .int .i64 n, .int .i64 m, .slice A ln c])) B W w' d r (DM.cut n m l s) N M)) := Lib.hid fun W' A' c' hB ho => by
    have := Mid.cut2 n m A' c' l hB ho
    rw [HLN.out] at this
    exact this
  go_enter Try.func9, Try.ntmps9
  go_wp2_with (at_builtin; refine wpList_nums rfl _ _ rfl rfl rfl A ln c l HLN.out rfl HNM.out hl8 B hBx ?_)
  intro A' c' w2 ho hb
  rw [HLN.out]
  have HO := Lib.hid ho
  have HD := Lib.hid (HST.out w2 hb)
  have c3 : w2.cell? ⟨x, 3, none⟩ = some (.int .i64 n) := HD.out.cell 3 _ rfl
  have c4 : w2.cell? ⟨x, 4, none⟩ = some (.int .i64 m) := HD.out.cell 4 _ rfl
  clear ho hb HST HNM hBx HBX
  go_wp2_with fail
  refine (H0.out _ _ _ HD.out HO.out).mono ?_
  rintro e w3 ⟨rfl, hbo, ho2⟩
  have HB2 := Lib.hid hbo
  have z3 : w3.cell? ⟨x, 3, none⟩ = some (.int .i64 n) := HB2.out.cell 3 _ rfl
  have z4 : w3.cell? ⟨x, 4, none⟩ = some (.int .i64 m) := HB2.out.cell 4 _ rfl
  have HO2 := Lib.hid ho2
  clear ho2
  clear hbo
  go_wp2_with fail
  refine (H1.out _ _ _ HB2.out HO2.out).mono ?_
  rintro e w4 ⟨rfl, hbo⟩
  have HB3 := Lib.hid hbo
  clear hbo
  go_wp2
  go_ret
  exact ⟨rfl, _, (HB3.out.grow hN).unboxed⟩

end Go.Proofs.Ytadokmihabfbjaa

/- act: Break, On, Spoil. Made by gen_acb.py. -/
namespace Go.Proofs.Ytadokmihabfbjaa
open Go.RowKit Go.Maps
open DM

set_option maxRecDepth 100000 in
set_option maxHeartbeats 4000000 in
theorem act_p9 {K : Box} {B : Nat} {W w : World} {d r : Nat} {s : St} {N M : Nat} (h : Duo K B W w d r s N M) (hN : N + 1 < 1000000000) (a : AD) (hw : a.wf) (hM : a.l.length ≤ M) (hnums : NumsAt w a.A a.l) (hm : a.d.tmod 12 = 9) :
    Calls Try.prog 9 #[.pointer (some ⟨d, 0, none⟩), .pointer (some ⟨r, 0, none⟩), a.val] w (ActOut B W d r N M) := by
  obtain ⟨D, k, to, n, m, A, c, l⟩ := a
  obtain ⟨hd, hk, hto, hn, hmm, hl, hl8⟩ := hw
  unfold AD.val AD.cells
  simp only at hm hk hto hn hmm hl hl8 hM hnums ⊢
  have HST : Hid (∀ w2, Below (w.heap.size + 1) (w.alloc (.cells #[.int .i64 D, .string k, .string to, .int .i64 n, .int .i64 m, .slice A l.length c] 31)) w2 → Duo (some (w.heap.size, #[.int .i64 D, .string k, .string to, .int .i64 n, .int .i64 m, .slice A l.length c])) B W w2 d r s N M) := Lib.hid fun w2 hb => (h.boxed #[.int .i64 D, .string k, .string to, .int .i64 n, .int .i64 m, .slice A l.length c]).still (by simpa using hb)
  have HNM := Lib.hid (hnums.below ((Below.refl w.heap.size w).alloc (Nat.le_refl _) (.cells #[.int .i64 D, .string k, .string to, .int .i64 n, .int .i64 m, .slice A l.length c] 31)))
  have hBx : B ≤ (w.alloc (.cells #[.int .i64 D, .string k, .string to, .int .i64 n, .int .i64 m, .slice A l.length c] 31)).heap.size := Nat.le_trans h.live.le' (by simp)
  have hbx := heap_alloc_new w (.cells #[.int .i64 D, .string k, .string to, .int .i64 n, .int .i64 m, .slice A l.length c] 31)
  obtain ⟨x, hx⟩ : ∃ x, w.heap.size = x := ⟨_, rfl⟩
  rw [hx] at HST hbx
  have HBX := Lib.hid hbx
  obtain ⟨ln, hln⟩ : ∃ ln, l.length = ln := ⟨_, rfl⟩
  have HLN := Lib.hid hln
  rw [hln] at HST HNM hBx HBX ⊢
  clear h hnums hbx hln
  have HCB := Lib.hid (fun (W' : World) (hB : Duo (some (x, #[.int .i64 D, .string k, .string to, .int .i64 n, .int .i64 m, .slice A ln c])) B W W' d r s N M) => hB.brk1 n hn)
  have HCR := Lib.hid (fun (W' : World) (hB : Mid (some (x, #[.int .i64 D, .string k, .string to, .int .i64 n, .int .i64 m, .slice A ln c])) B W W' d r s (DM.brk n s) N M N) => Mid.brk2 n hB)
  go_enter Try.func9, Try.ntmps9
  go_wp2_with (at_builtin; refine wpList_nums rfl _ _ rfl rfl rfl A ln c l HLN.out rfl HNM.out hl8 B hBx ?_)
  intro A' c' w2 ho hb
  rw [HLN.out]
  have HO := Lib.hid ho
  have HD := Lib.hid (HST.out w2 hb)
  have c3 : w2.cell? ⟨x, 3, none⟩ = some (.int .i64 n) := HD.out.cell 3 _ rfl
  clear ho hb HST HNM hBx HBX
  go_wp2_with fail
  refine (HCB.out _ HD.out).mono ?_
  rintro e w3 ⟨rfl, hbo⟩
  have HB2 := Lib.hid hbo
  have z3 : w3.cell? ⟨x, 3, none⟩ = some (.int .i64 n) := HB2.out.cell 3 _ rfl
  clear hbo
  go_wp2_with fail
  refine (HCR.out _ HB2.out).mono ?_
  rintro e w4 ⟨rfl, hbo⟩
  have HB3 := Lib.hid hbo
  clear hbo
  go_wp2
  go_ret
  exact ⟨rfl, _, (HB3.out.grow hN).unboxed⟩

set_option maxRecDepth 100000 in
set_option maxHeartbeats 4000000 in
theorem act_n9 {K : Box} {B : Nat} {W w : World} {d r : Nat} {s : St} {N M : Nat} (h : Duo K B W w d r s N M) (hN : N + 1 < 1000000000) (a : AD) (hw : a.wf) (hM : a.l.length ≤ M) (hnums : NumsAt w a.A a.l) (hm : a.d.tmod 12 = -3) :
    Calls Try.prog 9 #[.pointer (some ⟨d, 0, none⟩), .pointer (some ⟨r, 0, none⟩), a.val] w (ActOut B W d r N M) := by
  obtain ⟨D, k, to, n, m, A, c, l⟩ := a
  obtain ⟨hd, hk, hto, hn, hmm, hl, hl8⟩ := hw
  unfold AD.val AD.cells
  simp only at hm hk hto hn hmm hl hl8 hM hnums ⊢
  have HST : Hid (∀ w2, Below (w.heap.size + 1) (w.alloc (.cells #[.int .i64 D, .string k, .string to, .int .i64 n, .int .i64 m, .slice A l.length c] 31)) w2 → Duo (some (w.heap.size, #[.int .i64 D, .string k, .string to, .int .i64 n, .int .i64 m, .slice A l.length c])) B W w2 d r s N M) := Lib.hid fun w2 hb => (h.boxed #[.int .i64 D, .string k, .string to, .int .i64 n, .int .i64 m, .slice A l.length c]).still (by simpa using hb)
  have HNM := Lib.hid (hnums.below ((Below.refl w.heap.size w).alloc (Nat.le_refl _) (.cells #[.int .i64 D, .string k, .string to, .int .i64 n, .int .i64 m, .slice A l.length c] 31)))
  have hBx : B ≤ (w.alloc (.cells #[.int .i64 D, .string k, .string to, .int .i64 n, .int .i64 m, .slice A l.length c] 31)).heap.size := Nat.le_trans h.live.le' (by simp)
  have hbx := heap_alloc_new w (.cells #[.int .i64 D, .string k, .string to, .int .i64 n, .int .i64 m, .slice A l.length c] 31)
  obtain ⟨x, hx⟩ : ∃ x, w.heap.size = x := ⟨_, rfl⟩
  rw [hx] at HST hbx
  have HBX := Lib.hid hbx
  obtain ⟨ln, hln⟩ : ∃ ln, l.length = ln := ⟨_, rfl⟩
  have HLN := Lib.hid hln
  rw [hln] at HST HNM hBx HBX ⊢
  clear h hnums hbx hln
  have HCB := Lib.hid (fun (W' : World) (hB : Duo (some (x, #[.int .i64 D, .string k, .string to, .int .i64 n, .int .i64 m, .slice A ln c])) B W W' d r s N M) => hB.brk1 n hn)
  have HCR := Lib.hid (fun (W' : World) (hB : Mid (some (x, #[.int .i64 D, .string k, .string to, .int .i64 n, .int .i64 m, .slice A ln c])) B W W' d r s (DM.brk n s) N M N) => Mid.brk2 n hB)
  go_enter Try.func9, Try.ntmps9
  go_wp2_with (at_builtin; refine wpList_nums rfl _ _ rfl rfl rfl A ln c l HLN.out rfl HNM.out hl8 B hBx ?_)
  intro A' c' w2 ho hb
  rw [HLN.out]
  have HO := Lib.hid ho
  have HD := Lib.hid (HST.out w2 hb)
  have c3 : w2.cell? ⟨x, 3, none⟩ = some (.int .i64 n) := HD.out.cell 3 _ rfl
  clear ho hb HST HNM hBx HBX
  go_wp2_with fail
  refine (HCB.out _ HD.out).mono ?_
  rintro e w3 ⟨rfl, hbo⟩
  have HB2 := Lib.hid hbo
  have z3 : w3.cell? ⟨x, 3, none⟩ = some (.int .i64 n) := HB2.out.cell 3 _ rfl
  clear hbo
  go_wp2_with fail
  refine (HCR.out _ HB2.out).mono ?_
  rintro e w4 ⟨rfl, hbo⟩
  have HB3 := Lib.hid hbo
  clear hbo
  go_wp2
  go_ret
  exact ⟨rfl, _, (HB3.out.grow hN).unboxed⟩

set_option maxRecDepth 100000 in
set_option maxHeartbeats 4000000 in
theorem act_p10 {K : Box} {B : Nat} {W w : World} {d r : Nat} {s : St} {N M : Nat} (h : Duo K B W w d r s N M) (hN : N + 1 < 1000000000) (a : AD) (hw : a.wf) (hM : a.l.length ≤ M) (hnums : NumsAt w a.A a.l) (hm : a.d.tmod 12 = 10) :
    Calls Try.prog 9 #[.pointer (some ⟨d, 0, none⟩), .pointer (some ⟨r, 0, none⟩), a.val] w (ActOut B W d r N M) := by
  obtain ⟨D, k, to, n, m, A, c, l⟩ := a
  obtain ⟨hd, hk, hto, hn, hmm, hl, hl8⟩ := hw
  unfold AD.val AD.cells
  simp only at hm hk hto hn hmm hl hl8 hM hnums ⊢
  have HST : Hid (∀ w2, Below (w.heap.size + 1) (w.alloc (.cells #[.int .i64 D, .string k, .string to, .int .i64 n, .int .i64 m, .slice A l.length c] 31)) w2 → Duo (some (w.heap.size, #[.int .i64 D, .string k, .string to, .int .i64 n, .int .i64 m, .slice A l.length c])) B W w2 d r s N M) := Lib.hid fun w2 hb => (h.boxed #[.int .i64 D, .string k, .string to, .int .i64 n, .int .i64 m, .slice A l.length c]).still (by simpa using hb)
  have HNM := Lib.hid (hnums.below ((Below.refl w.heap.size w).alloc (Nat.le_refl _) (.cells #[.int .i64 D, .string k, .string to, .int .i64 n, .int .i64 m, .slice A l.length c] 31)))
  have hBx : B ≤ (w.alloc (.cells #[.int .i64 D, .string k, .string to, .int .i64 n, .int .i64 m, .slice A l.length c] 31)).heap.size := Nat.le_trans h.live.le' (by simp)
  have hbx := heap_alloc_new w (.cells #[.int .i64 D, .string k, .string to, .int .i64 n, .int .i64 m, .slice A l.length c] 31)
  obtain ⟨x, hx⟩ : ∃ x, w.heap.size = x := ⟨_, rfl⟩
  rw [hx] at HST hbx
  have HBX := Lib.hid hbx
  obtain ⟨ln, hln⟩ : ∃ ln, l.length = ln := ⟨_, rfl⟩
  have HLN := Lib.hid hln
  rw [hln] at HST HNM hBx HBX ⊢
  clear h hnums hbx hln
  have HCB := Lib.hid (fun (W' : World) (hB : Duo (some (x, #[.int .i64 D, .string k, .string to, .int .i64 n, .int .i64 m, .slice A ln c])) B W W' d r s N M) => hB.on1)
  go_enter Try.func9, Try.ntmps9
  go_wp2_with (at_builtin; refine wpList_nums rfl _ _ rfl rfl rfl A ln c l HLN.out rfl HNM.out hl8 B hBx ?_)
  intro A' c' w2 ho hb
  rw [HLN.out]
  have HO := Lib.hid ho
  have HD := Lib.hid (HST.out w2 hb)
  clear ho hb HST HNM hBx HBX
  go_wp2_with fail
  refine (HCB.out _ HD.out).mono ?_
  rintro e w3 ⟨rfl, hbo⟩
  obtain ⟨⟨y5, hy5⟩, ⟨y6, hy6⟩, ⟨y9, hy9⟩, hfz, hdd⟩ := Mid.on2 hbo
  have HB3 := Lib.hid hdd
  have f5 := hfz 5
  have f6 := hfz 6
  have f9 := hfz 9
  clear hbo hdd hfz
  go_wp2
  go_ret
  exact ⟨rfl, _, (HB3.out.grow hN).unboxed⟩

set_option maxRecDepth 100000 in
set_option maxHeartbeats 4000000 in
theorem act_n10 {K : Box} {B : Nat} {W w : World} {d r : Nat} {s : St} {N M : Nat} (h : Duo K B W w d r s N M) (hN : N + 1 < 1000000000) (a : AD) (hw : a.wf) (hM : a.l.length ≤ M) (hnums : NumsAt w a.A a.l) (hm : a.d.tmod 12 = -2) :
    Calls Try.prog 9 #[.pointer (some ⟨d, 0, none⟩), .pointer (some ⟨r, 0, none⟩), a.val] w (ActOut B W d r N M) := by
  obtain ⟨D, k, to, n, m, A, c, l⟩ := a
  obtain ⟨hd, hk, hto, hn, hmm, hl, hl8⟩ := hw
  unfold AD.val AD.cells
  simp only at hm hk hto hn hmm hl hl8 hM hnums ⊢
  have HST : Hid (∀ w2, Below (w.heap.size + 1) (w.alloc (.cells #[.int .i64 D, .string k, .string to, .int .i64 n, .int .i64 m, .slice A l.length c] 31)) w2 → Duo (some (w.heap.size, #[.int .i64 D, .string k, .string to, .int .i64 n, .int .i64 m, .slice A l.length c])) B W w2 d r s N M) := Lib.hid fun w2 hb => (h.boxed #[.int .i64 D, .string k, .string to, .int .i64 n, .int .i64 m, .slice A l.length c]).still (by simpa using hb)
  have HNM := Lib.hid (hnums.below ((Below.refl w.heap.size w).alloc (Nat.le_refl _) (.cells #[.int .i64 D, .string k, .string to, .int .i64 n, .int .i64 m, .slice A l.length c] 31)))
  have hBx : B ≤ (w.alloc (.cells #[.int .i64 D, .string k, .string to, .int .i64 n, .int .i64 m, .slice A l.length c] 31)).heap.size := Nat.le_trans h.live.le' (by simp)
  have hbx := heap_alloc_new w (.cells #[.int .i64 D, .string k, .string to, .int .i64 n, .int .i64 m, .slice A l.length c] 31)
  obtain ⟨x, hx⟩ : ∃ x, w.heap.size = x := ⟨_, rfl⟩
  rw [hx] at HST hbx
  have HBX := Lib.hid hbx
  obtain ⟨ln, hln⟩ : ∃ ln, l.length = ln := ⟨_, rfl⟩
  have HLN := Lib.hid hln
  rw [hln] at HST HNM hBx HBX ⊢
  clear h hnums hbx hln
  have HCB := Lib.hid (fun (W' : World) (hB : Duo (some (x, #[.int .i64 D, .string k, .string to, .int .i64 n, .int .i64 m, .slice A ln c])) B W W' d r s N M) => hB.on1)
  go_enter Try.func9, Try.ntmps9
  go_wp2_with (at_builtin; refine wpList_nums rfl _ _ rfl rfl rfl A ln c l HLN.out rfl HNM.out hl8 B hBx ?_)
  intro A' c' w2 ho hb
  rw [HLN.out]
  have HO := Lib.hid ho
  have HD := Lib.hid (HST.out w2 hb)
  clear ho hb HST HNM hBx HBX
  go_wp2_with fail
  refine (HCB.out _ HD.out).mono ?_
  rintro e w3 ⟨rfl, hbo⟩
  obtain ⟨⟨y5, hy5⟩, ⟨y6, hy6⟩, ⟨y9, hy9⟩, hfz, hdd⟩ := Mid.on2 hbo
  have HB3 := Lib.hid hdd
  have f5 := hfz 5
  have f6 := hfz 6
  have f9 := hfz 9
  clear hbo hdd hfz
  go_wp2
  go_ret
  exact ⟨rfl, _, (HB3.out.grow hN).unboxed⟩

set_option maxRecDepth 100000 in
set_option maxHeartbeats 4000000 in
theorem act_p11 {K : Box} {B : Nat} {W w : World} {d r : Nat} {s : St} {N M : Nat} (h : Duo K B W w d r s N M) (hN : N + 1 < 1000000000) (a : AD) (hw : a.wf) (hM : a.l.length ≤ M) (hnums : NumsAt w a.A a.l) (hm : a.d.tmod 12 = 11) :
    Calls Try.prog 9 #[.pointer (some ⟨d, 0, none⟩), .pointer (some ⟨r, 0, none⟩), a.val] w (ActOut B W d r N M) := by
  obtain ⟨D, k, to, n, m, A, c, l⟩ := a
  obtain ⟨hd, hk, hto, hn, hmm, hl, hl8⟩ := hw
  unfold AD.val AD.cells
  simp only at hm hk hto hn hmm hl hl8 hM hnums ⊢
  have HST : Hid (∀ w2, Below (w.heap.size + 1) (w.alloc (.cells #[.int .i64 D, .string k, .string to, .int .i64 n, .int .i64 m, .slice A l.length c] 31)) w2 → Duo (some (w.heap.size, #[.int .i64 D, .string k, .string to, .int .i64 n, .int .i64 m, .slice A l.length c])) B W w2 d r s N M) := Lib.hid fun w2 hb => (h.boxed #[.int .i64 D, .string k, .string to, .int .i64 n, .int .i64 m, .slice A l.length c]).still (by simpa using hb)
  have HNM := Lib.hid (hnums.below ((Below.refl w.heap.size w).alloc (Nat.le_refl _) (.cells #[.int .i64 D, .string k, .string to, .int .i64 n, .int .i64 m, .slice A l.length c] 31)))
  have hBx : B ≤ (w.alloc (.cells #[.int .i64 D, .string k, .string to, .int .i64 n, .int .i64 m, .slice A l.length c] 31)).heap.size := Nat.le_trans h.live.le' (by simp)
  have hbx := heap_alloc_new w (.cells #[.int .i64 D, .string k, .string to, .int .i64 n, .int .i64 m, .slice A l.length c] 31)
  obtain ⟨x, hx⟩ : ∃ x, w.heap.size = x := ⟨_, rfl⟩
  rw [hx] at HST hbx
  have HBX := Lib.hid hbx
  obtain ⟨ln, hln⟩ : ∃ ln, l.length = ln := ⟨_, rfl⟩
  have HLN := Lib.hid hln
  rw [hln] at HST HNM hBx HBX ⊢
  clear h hnums hbx hln
  have HCB := Lib.hid (fun (W' : World) (hB : Duo (some (x, #[.int .i64 D, .string k, .string to, .int .i64 n, .int .i64 m, .slice A ln c])) B W W' d r s N M) => hB.spoil1 k hk n hn)
  have HCR := Lib.hid (fun (W' : World) (hB : Mid (some (x, #[.int .i64 D, .string k, .string to, .int .i64 n, .int .i64 m, .slice A ln c])) B W W' d r s (DM.spoil k.data.toList n s) N M N) => Mid.spoil2 k n hB (by omega) hn)
  go_enter Try.func9, Try.ntmps9
  go_wp2_with (at_builtin; refine wpList_nums rfl _ _ rfl rfl rfl A ln c l HLN.out rfl HNM.out hl8 B hBx ?_)
  intro A' c' w2 ho hb
  rw [HLN.out]
  have HO := Lib.hid ho
  have HD := Lib.hid (HST.out w2 hb)
  have c1 : w2.cell? ⟨x, 1, none⟩ = some (.string k) := HD.out.cell 1 _ rfl
  have c3 : w2.cell? ⟨x, 3, none⟩ = some (.int .i64 n) := HD.out.cell 3 _ rfl
  clear ho hb HST HNM hBx HBX
  go_wp2_with fail
  refine (HCB.out _ HD.out).mono ?_
  rintro e w3 ⟨rfl, hbo⟩
  have HB2 := Lib.hid hbo
  have z1 : w3.cell? ⟨x, 1, none⟩ = some (.string k) := HB2.out.cell 1 _ rfl
  have z3 : w3.cell? ⟨x, 3, none⟩ = some (.int .i64 n) := HB2.out.cell 3 _ rfl
  clear hbo
  go_wp2_with fail
  refine (HCR.out _ HB2.out).mono ?_
  rintro e w4 ⟨rfl, hbo⟩
  have HB3 := Lib.hid hbo
  clear hbo
  go_wp2
  go_ret
  exact ⟨rfl, _, (HB3.out.grow hN).unboxed⟩

set_option maxRecDepth 100000 in
set_option maxHeartbeats 4000000 in
theorem act_n11 {K : Box} {B : Nat} {W w : World} {d r : Nat} {s : St} {N M : Nat} (h : Duo K B W w d r s N M) (hN : N + 1 < 1000000000) (a : AD) (hw : a.wf) (hM : a.l.length ≤ M) (hnums : NumsAt w a.A a.l) (hm : a.d.tmod 12 = -1) :
    Calls Try.prog 9 #[.pointer (some ⟨d, 0, none⟩), .pointer (some ⟨r, 0, none⟩), a.val] w (ActOut B W d r N M) := by
  obtain ⟨D, k, to, n, m, A, c, l⟩ := a
  obtain ⟨hd, hk, hto, hn, hmm, hl, hl8⟩ := hw
  unfold AD.val AD.cells
  simp only at hm hk hto hn hmm hl hl8 hM hnums ⊢
  have HST : Hid (∀ w2, Below (w.heap.size + 1) (w.alloc (.cells #[.int .i64 D, .string k, .string to, .int .i64 n, .int .i64 m, .slice A l.length c] 31)) w2 → Duo (some (w.heap.size, #[.int .i64 D, .string k, .string to, .int .i64 n, .int .i64 m, .slice A l.length c])) B W w2 d r s N M) := Lib.hid fun w2 hb => (h.boxed #[.int .i64 D, .string k, .string to, .int .i64 n, .int .i64 m, .slice A l.length c]).still (by simpa using hb)
  have HNM := Lib.hid (hnums.below ((Below.refl w.heap.size w).alloc (Nat.le_refl _) (.cells #[.int .i64 D, .string k, .string to, .int .i64 n, .int .i64 m, .slice A l.length c] 31)))
  have hBx : B ≤ (w.alloc (.cells #[.int .i64 D, .string k, .string to, .int .i64 n, .int .i64 m, .slice A l.length c] 31)).heap.size := Nat.le_trans h.live.le' (by simp)
  have hbx := heap_alloc_new w (.cells #[.int .i64 D, .string k, .string to, .int .i64 n, .int .i64 m, .slice A l.length c] 31)
  obtain ⟨x, hx⟩ : ∃ x, w.heap.size = x := ⟨_, rfl⟩
  rw [hx] at HST hbx
  have HBX := Lib.hid hbx
  obtain ⟨ln, hln⟩ : ∃ ln, l.length = ln := ⟨_, rfl⟩
  have HLN := Lib.hid hln
  rw [hln] at HST HNM hBx HBX ⊢
  clear h hnums hbx hln
  have HCB := Lib.hid (fun (W' : World) (hB : Duo (some (x, #[.int .i64 D, .string k, .string to, .int .i64 n, .int .i64 m, .slice A ln c])) B W W' d r s N M) => hB.spoil1 k hk n hn)
  have HCR := Lib.hid (fun (W' : World) (hB : Mid (some (x, #[.int .i64 D, .string k, .string to, .int .i64 n, .int .i64 m, .slice A ln c])) B W W' d r s (DM.spoil k.data.toList n s) N M N) => Mid.spoil2 k n hB (by omega) hn)
  go_enter Try.func9, Try.ntmps9
  go_wp2_with (at_builtin; refine wpList_nums rfl _ _ rfl rfl rfl A ln c l HLN.out rfl HNM.out hl8 B hBx ?_)
  intro A' c' w2 ho hb
  rw [HLN.out]
  have HO := Lib.hid ho
  have HD := Lib.hid (HST.out w2 hb)
  have c1 : w2.cell? ⟨x, 1, none⟩ = some (.string k) := HD.out.cell 1 _ rfl
  have c3 : w2.cell? ⟨x, 3, none⟩ = some (.int .i64 n) := HD.out.cell 3 _ rfl
  clear ho hb HST HNM hBx HBX
  go_wp2_with fail
  refine (HCB.out _ HD.out).mono ?_
  rintro e w3 ⟨rfl, hbo⟩
  have HB2 := Lib.hid hbo
  have z1 : w3.cell? ⟨x, 1, none⟩ = some (.string k) := HB2.out.cell 1 _ rfl
  have z3 : w3.cell? ⟨x, 3, none⟩ = some (.int .i64 n) := HB2.out.cell 3 _ rfl
  clear hbo
  go_wp2_with fail
  refine (HCR.out _ HB2.out).mono ?_
  rintro e w4 ⟨rfl, hbo⟩
  have HB3 := Lib.hid hbo
  clear hbo
  go_wp2
  go_ret
  exact ⟨rfl, _, (HB3.out.grow hN).unboxed⟩

end Go.Proofs.Ytadokmihabfbjaa

