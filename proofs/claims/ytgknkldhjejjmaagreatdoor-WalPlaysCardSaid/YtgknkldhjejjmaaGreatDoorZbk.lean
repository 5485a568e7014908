/- Texts joined by bundle.py: AcE, AcH, Ws. -/
import Derived.Test.YtgknkldhjejjmaaGreatDoorZbj
import Derived.Test.YtgknkldhjejjmaaGreatDoorZaq
import Derived.Deep.Slices
import Derived.Deep.Fields
import Derived.ChangeSame
import Derived.SizedLaws


/- act: Read and Part. Made by gen_acb.py. -/
namespace Go.Proofs.YtgknkldhjejjmaaGreatDoor
open Go.RowKit Go.Maps
open DM

set_option maxRecDepth 100000 in
set_option maxHeartbeats 4000000 in
theorem act_p6 {K : Box} {B : Nat} {W w : World} {d r : Nat} {s : St} {N M : Nat} (h : Duo K B W w d r s N M) (hN : N + 1 < 1000000000) (a : AD) (hw : a.wf) (hM : a.l.length ≤ M) (hnums : NumsAt w a.A a.l) (hm : a.d.tmod 12 = 6) :
    Calls Tryz.prog 15 #[.pointer (some ⟨d, 0, none⟩), .pointer (some ⟨r, 0, none⟩), a.val] w (ActOut B W d r N M) := by
  obtain ⟨D, k, «to», n, m, A, c, l⟩ := a
  obtain ⟨hd, hk, hto, hn, hmm, hl, hl8⟩ := hw
  unfold AD.val AD.cells
  simp only at hm hk hto hn hmm hl hl8 hM hnums ⊢
  have HST : Hid (∀ w2, Below (w.heap.size + 1) (w.alloc (.cells #[.int .i64 D, .string k, .string «to», .int .i64 n, .int .i64 m, .slice A l.length c] 30)) w2 → Duo (some (w.heap.size, #[.int .i64 D, .string k, .string «to», .int .i64 n, .int .i64 m, .slice A l.length c])) B W w2 d r s N M) := Lib.hid fun w2 hb => (h.boxed #[.int .i64 D, .string k, .string «to», .int .i64 n, .int .i64 m, .slice A l.length c]).still (by simpa using hb)
  have HNM := Lib.hid (hnums.below ((Below.refl w.heap.size w).alloc (Nat.le_refl _) (.cells #[.int .i64 D, .string k, .string «to», .int .i64 n, .int .i64 m, .slice A l.length c] 30)))
  have hBx : B ≤ (w.alloc (.cells #[.int .i64 D, .string k, .string «to», .int .i64 n, .int .i64 m, .slice A l.length c] 30)).heap.size := Nat.le_trans h.live.le' (by simp)
  have hbx := heap_alloc_new w (.cells #[.int .i64 D, .string k, .string «to», .int .i64 n, .int .i64 m, .slice A l.length c] 30)
  obtain ⟨x, hx⟩ : ∃ x, w.heap.size = x := ⟨_, rfl⟩
  rw [hx] at HST hbx
  have HBX := Lib.hid hbx
  obtain ⟨ln, hln⟩ : ∃ ln, l.length = ln := ⟨_, rfl⟩
  have HLN := Lib.hid hln
  rw [hln] at HST HNM hBx HBX ⊢
  clear h hnums hbx hln
  obtain ⟨X, hX⟩ : ∃ X, DM.read k.data.toList s = X := ⟨_, rfl⟩
  obtain ⟨Y, hY⟩ : ∃ Y, DM.part k.data.toList n m s = Y := ⟨_, rfl⟩
  obtain ⟨X1, X2⟩ := X
  obtain ⟨Y1, Y2⟩ := Y
  obtain ⟨sx, hsx, -, -⟩ := enc_size X1
  obtain ⟨sy, hsy, -, -⟩ := enc_size Y1
  have H0 : Hid (∀ W', Duo (some (x, #[.int .i64 D, .string k, .string «to», .int .i64 n, .int .i64 m, .slice A ln c])) B W W' d r s N M → Calls Tryz.prog 33 #[.pointer (some ⟨d, 0, none⟩), .string k] W' (fun e w' => e = .returned (.tuple #[.string sx, .int .i64 X2]) ∧ Duo (some (x, #[.int .i64 D, .string k, .string «to», .int .i64 n, .int .i64 m, .slice A ln c])) B W w' d r s N M)) := Lib.hid fun W' hB => by
    have := hB.read1 k hk
    unfold Text at this
    simp only [hX, hsx] at this
    exact this
  have H1 : Hid (∀ W', Duo (some (x, #[.int .i64 D, .string k, .string «to», .int .i64 n, .int .i64 m, .slice A ln c])) B W W' d r s N M → Calls Tryz.prog 35 #[.pointer (some ⟨r, 0, none⟩), .string k] W' (fun e w' => e = .returned (.tuple #[.string sx, .int .i64 X2]) ∧ Duo (some (x, #[.int .i64 D, .string k, .string «to», .int .i64 n, .int .i64 m, .slice A ln c])) B W w' d r s N M)) := Lib.hid fun W' hB => by
    have := hB.read2 k
    unfold Text at this
    simp only [hX, hsx] at this
    exact this
  have H2 : Hid (∀ W', Duo (some (x, #[.int .i64 D, .string k, .string «to», .int .i64 n, .int .i64 m, .slice A ln c])) B W W' d r s N M → Calls Tryz.prog 42 #[.pointer (some ⟨d, 0, none⟩), .string k, .int .i64 n, .int .i64 m] W' (fun e w' => e = .returned (.tuple #[.string sy, .int .i64 Y2]) ∧ Duo (some (x, #[.int .i64 D, .string k, .string «to», .int .i64 n, .int .i64 m, .slice A ln c])) B W w' d r s N M)) := Lib.hid fun W' hB => by
    have := hB.part1 k hk n m hn hmm
    unfold Text at this
    simp only [hY, hsy] at this
    exact this
  have H3 : Hid (∀ W', Duo (some (x, #[.int .i64 D, .string k, .string «to», .int .i64 n, .int .i64 m, .slice A ln c])) B W W' d r s N M → Calls Tryz.prog 43 #[.pointer (some ⟨r, 0, none⟩), .string k, .int .i64 n, .int .i64 m] W' (fun e w' => e = .returned (.tuple #[.string sy, .int .i64 Y2]) ∧ Duo (some (x, #[.int .i64 D, .string k, .string «to», .int .i64 n, .int .i64 m, .slice A ln c])) B W w' d r s N M)) := Lib.hid fun W' hB => by
    have := hB.part2 k n m hn hmm
    unfold Text at this
    simp only [hY, hsy] at this
    exact this
  clear hX hY hsx hsy
  go_enter Tryz.func15, Tryz.ntmps15
  go_wp2_with (at_builtin; refine wpList_nums rfl _ _ rfl rfl rfl A ln c l HLN.out rfl HNM.out hl8 B hBx ?_)
  intro A' c' w2 ho hb
  rw [HLN.out]
  have HO := Lib.hid ho
  have HD := Lib.hid (HST.out w2 hb)
  have c1 : w2.cell? ⟨x, 1, none⟩ = some (.string k) := HD.out.cell 1 _ rfl
  have c3 : w2.cell? ⟨x, 3, none⟩ = some (.int .i64 n) := HD.out.cell 3 _ rfl
  have c4 : w2.cell? ⟨x, 4, none⟩ = some (.int .i64 m) := HD.out.cell 4 _ rfl
  clear ho hb HST HNM hBx HBX
  go_wp2_with fail
  refine (H0.out _ HD.out).mono ?_
  rintro e w3 ⟨rfl, hbo⟩
  have HB1 := Lib.hid hbo
  have u1 : w3.cell? ⟨x, 1, none⟩ = some (.string k) := HB1.out.cell 1 _ rfl
  have u3 : w3.cell? ⟨x, 3, none⟩ = some (.int .i64 n) := HB1.out.cell 3 _ rfl
  have u4 : w3.cell? ⟨x, 4, none⟩ = some (.int .i64 m) := HB1.out.cell 4 _ rfl
  clear hbo
  go_wp2_with fail
  refine (H1.out _ HB1.out).mono ?_
  rintro e w4 ⟨rfl, hbo⟩
  have HB2 := Lib.hid hbo
  have v1 : w4.cell? ⟨x, 1, none⟩ = some (.string k) := HB2.out.cell 1 _ rfl
  have v3 : w4.cell? ⟨x, 3, none⟩ = some (.int .i64 n) := HB2.out.cell 3 _ rfl
  have v4 : w4.cell? ⟨x, 4, none⟩ = some (.int .i64 m) := HB2.out.cell 4 _ rfl
  clear hbo
  go_wp2_with fail
  refine (H2.out _ HB2.out).mono ?_
  rintro e w5 ⟨rfl, hbo⟩
  have HB3 := Lib.hid hbo
  have y1 : w5.cell? ⟨x, 1, none⟩ = some (.string k) := HB3.out.cell 1 _ rfl
  have y3 : w5.cell? ⟨x, 3, none⟩ = some (.int .i64 n) := HB3.out.cell 3 _ rfl
  have y4 : w5.cell? ⟨x, 4, none⟩ = some (.int .i64 m) := HB3.out.cell 4 _ rfl
  clear hbo
  go_wp2_with fail
  refine (H3.out _ HB3.out).mono ?_
  rintro e w6 ⟨rfl, hbo⟩
  have HB4 := Lib.hid hbo
  clear hbo
  go_wp2
  go_ret
  exact ⟨rfl, _, (HB4.out.grow hN).unboxed⟩

set_option maxRecDepth 100000 in
set_option maxHeartbeats 4000000 in
theorem act_n6 {K : Box} {B : Nat} {W w : World} {d r : Nat} {s : St} {N M : Nat} (h : Duo K B W w d r s N M) (hN : N + 1 < 1000000000) (a : AD) (hw : a.wf) (hM : a.l.length ≤ M) (hnums : NumsAt w a.A a.l) (hm : a.d.tmod 12 = -6) :
    Calls Tryz.prog 15 #[.pointer (some ⟨d, 0, none⟩), .pointer (some ⟨r, 0, none⟩), a.val] w (ActOut B W d r N M) := by
  obtain ⟨D, k, «to», n, m, A, c, l⟩ := a
  obtain ⟨hd, hk, hto, hn, hmm, hl, hl8⟩ := hw
  unfold AD.val AD.cells
  simp only at hm hk hto hn hmm hl hl8 hM hnums ⊢
  have HST : Hid (∀ w2, Below (w.heap.size + 1) (w.alloc (.cells #[.int .i64 D, .string k, .string «to», .int .i64 n, .int .i64 m, .slice A l.length c] 30)) w2 → Duo (some (w.heap.size, #[.int .i64 D, .string k, .string «to», .int .i64 n, .int .i64 m, .slice A l.length c])) B W w2 d r s N M) := Lib.hid fun w2 hb => (h.boxed #[.int .i64 D, .string k, .string «to», .int .i64 n, .int .i64 m, .slice A l.length c]).still (by simpa using hb)
  have HNM := Lib.hid (hnums.below ((Below.refl w.heap.size w).alloc (Nat.le_refl _) (.cells #[.int .i64 D, .string k, .string «to», .int .i64 n, .int .i64 m, .slice A l.length c] 30)))
  have hBx : B ≤ (w.alloc (.cells #[.int .i64 D, .string k, .string «to», .int .i64 n, .int .i64 m, .slice A l.length c] 30)).heap.size := Nat.le_trans h.live.le' (by simp)
  have hbx := heap_alloc_new w (.cells #[.int .i64 D, .string k, .string «to», .int .i64 n, .int .i64 m, .slice A l.length c] 30)
  obtain ⟨x, hx⟩ : ∃ x, w.heap.size = x := ⟨_, rfl⟩
  rw [hx] at HST hbx
  have HBX := Lib.hid hbx
  obtain ⟨ln, hln⟩ : ∃ ln, l.length = ln := ⟨_, rfl⟩
  have HLN := Lib.hid hln
  rw [hln] at HST HNM hBx HBX ⊢
  clear h hnums hbx hln
  obtain ⟨X, hX⟩ : ∃ X, DM.read k.data.toList s = X := ⟨_, rfl⟩
  obtain ⟨Y, hY⟩ : ∃ Y, DM.part k.data.toList n m s = Y := ⟨_, rfl⟩
  obtain ⟨X1, X2⟩ := X
  obtain ⟨Y1, Y2⟩ := Y
  obtain ⟨sx, hsx, -, -⟩ := enc_size X1
  obtain ⟨sy, hsy, -, -⟩ := enc_size Y1
  have H0 : Hid (∀ W', Duo (some (x, #[.int .i64 D, .string k, .string «to», .int .i64 n, .int .i64 m, .slice A ln c])) B W W' d r s N M → Calls Tryz.prog 33 #[.pointer (some ⟨d, 0, none⟩), .string k] W' (fun e w' => e = .returned (.tuple #[.string sx, .int .i64 X2]) ∧ Duo (some (x, #[.int .i64 D, .string k, .string «to», .int .i64 n, .int .i64 m, .slice A ln c])) B W w' d r s N M)) := Lib.hid fun W' hB => by
    have := hB.read1 k hk
    unfold Text at this
    simp only [hX, hsx] at this
    exact this
  have H1 : Hid (∀ W', Duo (some (x, #[.int .i64 D, .string k, .string «to», .int .i64 n, .int .i64 m, .slice A ln c])) B W W' d r s N M → Calls Tryz.prog 35 #[.pointer (some ⟨r, 0, none⟩), .string k] W' (fun e w' => e = .returned (.tuple #[.string sx, .int .i64 X2]) ∧ Duo (some (x, #[.int .i64 D, .string k, .string «to», .int .i64 n, .int .i64 m, .slice A ln c])) B W w' d r s N M)) := Lib.hid fun W' hB => by
    have := hB.read2 k
    unfold Text at this
    simp only [hX, hsx] at this
    exact this
  have H2 : Hid (∀ W', Duo (some (x, #[.int .i64 D, .string k, .string «to», .int .i64 n, .int .i64 m, .slice A ln c])) B W W' d r s N M → Calls Tryz.prog 42 #[.pointer (some ⟨d, 0, none⟩), .string k, .int .i64 n, .int .i64 m] W' (fun e w' => e = .returned (.tuple #[.string sy, .int .i64 Y2]) ∧ Duo (some (x, #[.int .i64 D, .string k, .string «to», .int .i64 n, .int .i64 m, .slice A ln c])) B W w' d r s N M)) := Lib.hid fun W' hB => by
    have := hB.part1 k hk n m hn hmm
    unfold Text at this
    simp only [hY, hsy] at this
    exact this
  have H3 : Hid (∀ W', Duo (some (x, #[.int .i64 D, .string k, .string «to», .int .i64 n, .int .i64 m, .slice A ln c])) B W W' d r s N M → Calls Tryz.prog 43 #[.pointer (some ⟨r, 0, none⟩), .string k, .int .i64 n, .int .i64 m] W' (fun e w' => e = .returned (.tuple #[.string sy, .int .i64 Y2]) ∧ Duo (some (x, #[.int .i64 D, .string k, .string «to», .int .i64 n, .int .i64 m, .slice A ln c])) B W w' d r s N M)) := Lib.hid fun W' hB => by
    have := hB.part2 k n m hn hmm
    unfold Text at this
    simp only [hY, hsy] at this
    exact this
  clear hX hY hsx hsy
  go_enter Tryz.func15, Tryz.ntmps15
  go_wp2_with (at_builtin; refine wpList_nums rfl _ _ rfl rfl rfl A ln c l HLN.out rfl HNM.out hl8 B hBx ?_)
  intro A' c' w2 ho hb
  rw [HLN.out]
  have HO := Lib.hid ho
  have HD := Lib.hid (HST.out w2 hb)
  have c1 : w2.cell? ⟨x, 1, none⟩ = some (.string k) := HD.out.cell 1 _ rfl
  have c3 : w2.cell? ⟨x, 3, none⟩ = some (.int .i64 n) := HD.out.cell 3 _ rfl
  have c4 : w2.cell? ⟨x, 4, none⟩ = some (.int .i64 m) := HD.out.cell 4 _ rfl
  clear ho hb HST HNM hBx HBX
  go_wp2_with fail
  refine (H0.out _ HD.out).mono ?_
  rintro e w3 ⟨rfl, hbo⟩
  have HB1 := Lib.hid hbo
  have u1 : w3.cell? ⟨x, 1, none⟩ = some (.string k) := HB1.out.cell 1 _ rfl
  have u3 : w3.cell? ⟨x, 3, none⟩ = some (.int .i64 n) := HB1.out.cell 3 _ rfl
  have u4 : w3.cell? ⟨x, 4, none⟩ = some (.int .i64 m) := HB1.out.cell 4 _ rfl
  clear hbo
  go_wp2_with fail
  refine (H1.out _ HB1.out).mono ?_
  rintro e w4 ⟨rfl, hbo⟩
  have HB2 := Lib.hid hbo
  have v1 : w4.cell? ⟨x, 1, none⟩ = some (.string k) := HB2.out.cell 1 _ rfl
  have v3 : w4.cell? ⟨x, 3, none⟩ = some (.int .i64 n) := HB2.out.cell 3 _ rfl
  have v4 : w4.cell? ⟨x, 4, none⟩ = some (.int .i64 m) := HB2.out.cell 4 _ rfl
  clear hbo
  go_wp2_with fail
  refine (H2.out _ HB2.out).mono ?_
  rintro e w5 ⟨rfl, hbo⟩
  have HB3 := Lib.hid hbo
  have y1 : w5.cell? ⟨x, 1, none⟩ = some (.string k) := HB3.out.cell 1 _ rfl
  have y3 : w5.cell? ⟨x, 3, none⟩ = some (.int .i64 n) := HB3.out.cell 3 _ rfl
  have y4 : w5.cell? ⟨x, 4, none⟩ = some (.int .i64 m) := HB3.out.cell 4 _ rfl
  clear hbo
  go_wp2_with fail
  refine (H3.out _ HB3.out).mono ?_
  rintro e w6 ⟨rfl, hbo⟩
  have HB4 := Lib.hid hbo
  clear hbo
  go_wp2
  go_ret
  exact ⟨rfl, _, (HB4.out.grow hN).unboxed⟩

end Go.Proofs.YtgknkldhjejjmaaGreatDoor

/- act: Crash, Cut. Made by gen_acb.py. -/
namespace Go.Proofs.YtgknkldhjejjmaaGreatDoor
open Go.RowKit Go.Maps
open DM

set_option maxRecDepth 100000 in
set_option maxHeartbeats 4000000 in
theorem act_p7 {K : Box} {B : Nat} {W w : World} {d r : Nat} {s : St} {N M : Nat} (h : Duo K B W w d r s N M) (hN : N + 1 < 1000000000) (a : AD) (hw : a.wf) (hM : a.l.length ≤ M) (hnums : NumsAt w a.A a.l) (hm : a.d.tmod 12 = 7) :
    Calls Tryz.prog 15 #[.pointer (some ⟨d, 0, none⟩), .pointer (some ⟨r, 0, none⟩), a.val] w (ActOut B W d r N M) := by
  obtain ⟨D, k, «to», n, m, A, c, l⟩ := a
  obtain ⟨hd, hk, hto, hn, hmm, hl, hl8⟩ := hw
  unfold AD.val AD.cells
  simp only at hm hk hto hn hmm hl hl8 hM hnums ⊢
  have HST : Hid (∀ w2, Below (w.heap.size + 1) (w.alloc (.cells #[.int .i64 D, .string k, .string «to», .int .i64 n, .int .i64 m, .slice A l.length c] 30)) w2 → Duo (some (w.heap.size, #[.int .i64 D, .string k, .string «to», .int .i64 n, .int .i64 m, .slice A l.length c])) B W w2 d r s N M) := Lib.hid fun w2 hb => (h.boxed #[.int .i64 D, .string k, .string «to», .int .i64 n, .int .i64 m, .slice A l.length c]).still (by simpa using hb)
  have HNM := Lib.hid (hnums.below ((Below.refl w.heap.size w).alloc (Nat.le_refl _) (.cells #[.int .i64 D, .string k, .string «to», .int .i64 n, .int .i64 m, .slice A l.length c] 30)))
  have hBx : B ≤ (w.alloc (.cells #[.int .i64 D, .string k, .string «to», .int .i64 n, .int .i64 m, .slice A l.length c] 30)).heap.size := Nat.le_trans h.live.le' (by simp)
  have hbx := heap_alloc_new w (.cells #[.int .i64 D, .string k, .string «to», .int .i64 n, .int .i64 m, .slice A l.length c] 30)
  obtain ⟨x, hx⟩ : ∃ x, w.heap.size = x := ⟨_, rfl⟩
  rw [hx] at HST hbx
  have HBX := Lib.hid hbx
  obtain ⟨ln, hln⟩ : ∃ ln, l.length = ln := ⟨_, rfl⟩
  have HLN := Lib.hid hln
  rw [hln] at HST HNM hBx HBX ⊢
  clear h hnums hbx hln
  have hl2 : l.length ≤ 140737488355328 := by omega
  have H0 : Hid (∀ W' A' c', Duo (some (x, #[.int .i64 D, .string k, .string «to», .int .i64 n, .int .i64 m, .slice A ln c])) B W W' d r s N M → Own B W' A' c' l → Calls Tryz.prog 44 #[.pointer (some ⟨d, 0, none⟩), .int .i64 m, .slice A' ln c'] W' (Void fun w' => Mid (some (x, #[.int .i64 D, .string k, .string «to», .int .i64 n, .int .i64 m, .slice A ln c])) B W w' d r s (DM.crash m l s) N M N ∧ Own B w' A' c' l)) := Lib.hid fun W' A' c' hB ho => by
    have := hB.crash1 m hmm A' c' l hM ho hl
    rw [HLN.out] at this
    exact this
  have H1 : Hid (∀ W' A' c', Mid (some (x, #[.int .i64 D, .string k, .string «to», .int .i64 n, .int .i64 m, .slice A ln c])) B W W' d r s (DM.crash m l s) N M N → Own B W' A' c' l → Calls Tryz.prog 45 #[.pointer (some ⟨r, 0, none⟩), .int .i64 m, .slice A' ln c'] W' (Void fun w' => (∃ y, w'.cell? ⟨r, 5, none⟩ = some y) ∧ w'.frozen? ⟨r, 5, none⟩ = false ∧ Duo (some (x, #[.int .i64 D, .string k, .string «to», .int .i64 n, .int .i64 m, .slice A ln c])) B W (w'.setCell ⟨r, 5, none⟩ (.bool false)) d r (DM.crash m l s) N M)) := Lib.hid fun W' A' c' hB ho => by
    have := Mid.fail2 m hmm A' c' l hB (by omega) hl2 ho hl
    rw [HLN.out] at this
    exact this
  go_enter Tryz.func15, Tryz.ntmps15
  go_wp2_with (at_builtin; refine wpList_nums rfl _ _ rfl rfl rfl A ln c l HLN.out rfl HNM.out hl8 B hBx ?_)
  intro A' c' w2 ho hb
  rw [HLN.out]
  have HO := Lib.hid ho
  have HD := Lib.hid (HST.out w2 hb)
  have c4 : w2.cell? ⟨x, 4, none⟩ = some (.int .i64 m) := HD.out.cell 4 _ rfl
  clear ho hb HST HNM hBx HBX
  go_wp2_with fail
  refine (H0.out _ _ _ HD.out HO.out).mono ?_
  rintro e w3 ⟨rfl, hbo, ho2⟩
  have HB2 := Lib.hid hbo
  have z4 : w3.cell? ⟨x, 4, none⟩ = some (.int .i64 m) := HB2.out.cell 4 _ rfl
  have HO2 := Lib.hid ho2
  clear ho2
  clear hbo
  go_wp2_with fail
  refine (H1.out _ _ _ HB2.out HO2.out).mono ?_
  rintro e w4 ⟨rfl, ⟨y, hy⟩, hfz, hbo⟩
  have HB3 := Lib.hid hbo
  clear hbo
  go_wp2
  go_ret
  exact ⟨rfl, _, (HB3.out.grow hN).unboxed⟩

set_option maxRecDepth 100000 in
set_option maxHeartbeats 4000000 in
theorem act_n7 {K : Box} {B : Nat} {W w : World} {d r : Nat} {s : St} {N M : Nat} (h : Duo K B W w d r s N M) (hN : N + 1 < 1000000000) (a : AD) (hw : a.wf) (hM : a.l.length ≤ M) (hnums : NumsAt w a.A a.l) (hm : a.d.tmod 12 = -5) :
    Calls Tryz.prog 15 #[.pointer (some ⟨d, 0, none⟩), .pointer (some ⟨r, 0, none⟩), a.val] w (ActOut B W d r N M) := by
  obtain ⟨D, k, «to», n, m, A, c, l⟩ := a
  obtain ⟨hd, hk, hto, hn, hmm, hl, hl8⟩ := hw
  unfold AD.val AD.cells
  simp only at hm hk hto hn hmm hl hl8 hM hnums ⊢
  have HST : Hid (∀ w2, Below (w.heap.size + 1) (w.alloc (.cells #[.int .i64 D, .string k, .string «to», .int .i64 n, .int .i64 m, .slice A l.length c] 30)) w2 → Duo (some (w.heap.size, #[.int .i64 D, .string k, .string «to», .int .i64 n, .int .i64 m, .slice A l.length c])) B W w2 d r s N M) := Lib.hid fun w2 hb => (h.boxed #[.int .i64 D, .string k, .string «to», .int .i64 n, .int .i64 m, .slice A l.length c]).still (by simpa using hb)
  have HNM := Lib.hid (hnums.below ((Below.refl w.heap.size w).alloc (Nat.le_refl _) (.cells #[.int .i64 D, .string k, .string «to», .int .i64 n, .int .i64 m, .slice A l.length c] 30)))
  have hBx : B ≤ (w.alloc (.cells #[.int .i64 D, .string k, .string «to», .int .i64 n, .int .i64 m, .slice A l.length c] 30)).heap.size := Nat.le_trans h.live.le' (by simp)
  have hbx := heap_alloc_new w (.cells #[.int .i64 D, .string k, .string «to», .int .i64 n, .int .i64 m, .slice A l.length c] 30)
  obtain ⟨x, hx⟩ : ∃ x, w.heap.size = x := ⟨_, rfl⟩
  rw [hx] at HST hbx
  have HBX := Lib.hid hbx
  obtain ⟨ln, hln⟩ : ∃ ln, l.length = ln := ⟨_, rfl⟩
  have HLN := Lib.hid hln
  rw [hln] at HST HNM hBx HBX ⊢
  clear h hnums hbx hln
  have hl2 : l.length ≤ 140737488355328 := by omega
  have H0 : Hid (∀ W' A' c', Duo (some (x, #[.int .i64 D, .string k, .string «to», .int .i64 n, .int .i64 m, .slice A ln c])) B W W' d r s N M → Own B W' A' c' l → Calls Tryz.prog 44 #[.pointer (some ⟨d, 0, none⟩), .int .i64 m, .slice A' ln c'] W' (Void fun w' => Mid (some (x, #[.int .i64 D, .string k, .string «to», .int .i64 n, .int .i64 m, .slice A ln c])) B W w' d r s (DM.crash m l s) N M N ∧ Own B w' A' c' l)) := Lib.hid fun W' A' c' hB ho => by
    have := hB.crash1 m hmm A' c' l hM ho hl
    rw [HLN.out] at this
    exact this
  have H1 : Hid (∀ W' A' c', Mid (some (x, #[.int .i64 D, .string k, .string «to», .int .i64 n, .int .i64 m, .slice A ln c])) B W W' d r s (DM.crash m l s) N M N → Own B W' A' c' l → Calls Tryz.prog 45 #[.pointer (some ⟨r, 0, none⟩), .int .i64 m, .slice A' ln c'] W' (Void fun w' => (∃ y, w'.cell? ⟨r, 5, none⟩ = some y) ∧ w'.frozen? ⟨r, 5, none⟩ = false ∧ Duo (some (x, #[.int .i64 D, .string k, .string «to», .int .i64 n, .int .i64 m, .slice A ln c])) B W (w'.setCell ⟨r, 5, none⟩ (.bool false)) d r (DM.crash m l s) N M)) := Lib.hid fun W' A' c' hB ho => by
    have := Mid.fail2 m hmm A' c' l hB (by omega) hl2 ho hl
    rw [HLN.out] at this
    exact this
  go_enter Tryz.func15, Tryz.ntmps15
  go_wp2_with (at_builtin; refine wpList_nums rfl _ _ rfl rfl rfl A ln c l HLN.out rfl HNM.out hl8 B hBx ?_)
  intro A' c' w2 ho hb
  rw [HLN.out]
  have HO := Lib.hid ho
  have HD := Lib.hid (HST.out w2 hb)
  have c4 : w2.cell? ⟨x, 4, none⟩ = some (.int .i64 m) := HD.out.cell 4 _ rfl
  clear ho hb HST HNM hBx HBX
  go_wp2_with fail
  refine (H0.out _ _ _ HD.out HO.out).mono ?_
  rintro e w3 ⟨rfl, hbo, ho2⟩
  have HB2 := Lib.hid hbo
  have z4 : w3.cell? ⟨x, 4, none⟩ = some (.int .i64 m) := HB2.out.cell 4 _ rfl
  have HO2 := Lib.hid ho2
  clear ho2
  clear hbo
  go_wp2_with fail
  refine (H1.out _ _ _ HB2.out HO2.out).mono ?_
  rintro e w4 ⟨rfl, ⟨y, hy⟩, hfz, hbo⟩
  have HB3 := Lib.hid hbo
  clear hbo
  go_wp2
  go_ret
  exact ⟨rfl, _, (HB3.out.grow hN).unboxed⟩

set_option maxRecDepth 100000 in
set_option maxHeartbeats 4000000 in
theorem act_p8 {K : Box} {B : Nat} {W w : World} {d r : Nat} {s : St} {N M : Nat} (h : Duo K B W w d r s N M) (hN : N + 1 < 1000000000) (a : AD) (hw : a.wf) (hM : a.l.length ≤ M) (hnums : NumsAt w a.A a.l) (hm : a.d.tmod 12 = 8) :
    Calls Tryz.prog 15 #[.pointer (some ⟨d, 0, none⟩), .pointer (some ⟨r, 0, none⟩), a.val] w (ActOut B W d r N M) := by
  obtain ⟨D, k, «to», n, m, A, c, l⟩ := a
  obtain ⟨hd, hk, hto, hn, hmm, hl, hl8⟩ := hw
  unfold AD.val AD.cells
  simp only at hm hk hto hn hmm hl hl8 hM hnums ⊢
  have HST : Hid (∀ w2, Below (w.heap.size + 1) (w.alloc (.cells #[.int .i64 D, .string k, .string «to», .int .i64 n, .int .i64 m, .slice A l.length c] 30)) w2 → Duo (some (w.heap.size, #[.int .i64 D, .string k, .string «to», .int .i64 n, .int .i64 m, .slice A l.length c])) B W w2 d r s N M) := Lib.hid fun w2 hb => (h.boxed #[.int .i64 D, .string k, .string «to», .int .i64 n, .int .i64 m, .slice A l.length c]).still (by simpa using hb)
  have HNM := Lib.hid (hnums.below ((Below.refl w.heap.size w).alloc (Nat.le_refl _) (.cells #[.int .i64 D, .string k, .string «to», .int .i64 n, .int .i64 m, .slice A l.length c] 30)))
  have hBx : B ≤ (w.alloc (.cells #[.int .i64 D, .string k, .string «to», .int .i64 n, .int .i64 m, .slice A l.length c] 30)).heap.size := Nat.le_trans h.live.le' (by simp)
  have hbx := heap_alloc_new w (.cells #[.int .i64 D, .string k, .string «to», .int .i64 n, .int .i64 m, .slice A l.length c] 30)
  obtain ⟨x, hx⟩ : ∃ x, w.heap.size = x := ⟨_, rfl⟩
  rw [hx] at HST hbx
  have HBX := Lib.hid hbx
  obtain ⟨ln, hln⟩ : ∃ ln, l.length = ln := ⟨_, rfl⟩
  have HLN := Lib.hid hln
  rw [hln] at HST HNM hBx HBX ⊢
  clear h hnums hbx hln
  have H0 : Hid (∀ W' A' c', Duo (some (x, #[.int .i64 D, .string k, .string «to», .int .i64 n, .int .i64 m, .slice A ln c])) B W W' d r s N M → Own B W' A' c' l → Calls Tryz.prog 46 #[.pointer (some ⟨d, 0, none⟩), .int .i64 n, .int .i64 m, .slice A' ln c'] W' (Void fun w' => Mid (some (x, #[.int .i64 D, .string k, .string «to», .int .i64 n, .int .i64 m, .slice A ln c])) B W w' d r s (DM.cut n m l s) N M N ∧ Own B w' A' c' l)) := Lib.hid fun W' A' c' hB ho => by
    have := hB.cut1 n m hn hmm A' c' l hM hl8 ho hl
    rw [HLN.out] at this
    exact this
  have H1 : Hid (∀ W' A' c', Mid (some (x, #[.int .i64 D, .string k, .string «to», .int .i64 n, .int .i64 m, .slice A ln c])) B W W' d r s (DM.cut n m l s) N M N → Own B W' A' c' l → Calls Tryz.prog 47 #[.pointer (some ⟨r, 0, none⟩), .int .i64 n, .int .i64 m, .slice A' ln c'] W' (Void fun w' => Duo (some (x, #[.int .i64 D, .string k, .string «to», .int .i64 n, .int .i64 m, .slice A ln c])) B W w' d r (DM.cut n m l s) N M)) := Lib.hid fun W' A' c' hB ho => by
    have := Mid.cut2 n m A' c' l hB ho
    rw [HLN.out] at this
    exact this
  go_enter Tryz.func15, Tryz.ntmps15
  go_wp2_with (at_builtin; refine wpList_nums rfl _ _ rfl rfl rfl A ln c l HLN.out rfl HNM.out hl8 B hBx ?_)
  intro A' c' w2 ho hb
  rw [HLN.out]
  have HO := Lib.hid ho
  have HD := Lib.hid (HST.out w2 hb)
  have c3 : w2.cell? ⟨x, 3, none⟩ = some (.int .i64 n) := HD.out.cell 3 _ rfl
  have c4 : w2.cell? ⟨x, 4, none⟩ = some (.int .i64 m) := HD.out.cell 4 _ rfl
  clear ho hb HST HNM hBx HBX
  go_wp2_with fail
  refine (H0.out _ _ _ HD.out HO.out).mono ?_
  rintro e w3 ⟨rfl, hbo, ho2⟩
  have HB2 := Lib.hid hbo
  have z3 : w3.cell? ⟨x, 3, none⟩ = some (.int .i64 n) := HB2.out.cell 3 _ rfl
  have z4 : w3.cell? ⟨x, 4, none⟩ = some (.int .i64 m) := HB2.out.cell 4 _ rfl
  have HO2 := Lib.hid ho2
  clear ho2
  clear hbo
  go_wp2_with fail
  refine (H1.out _ _ _ HB2.out HO2.out).mono ?_
  rintro e w4 ⟨rfl, hbo⟩
  have HB3 := Lib.hid hbo
  clear hbo
  go_wp2
  go_ret
  exact ⟨rfl, _, (HB3.out.grow hN).unboxed⟩

set_option maxRecDepth 100000 in
set_option maxHeartbeats 4000000 in
theorem act_n8 {K : Box} {B : Nat} {W w : World} {d r : Nat} {s : St} {N M : Nat} (h : Duo K B W w d r s N M) (hN : N + 1 < 1000000000) (a : AD) (hw : a.wf) (hM : a.l.length ≤ M) (hnums : NumsAt w a.A a.l) (hm : a.d.tmod 12 = -4) :
    Calls Tryz.prog 15 #[.pointer (some ⟨d, 0, none⟩), .pointer (some ⟨r, 0, none⟩), a.val] w (ActOut B W d r N M) := by
  obtain ⟨D, k, «to», n, m, A, c, l⟩ := a
  obtain ⟨hd, hk, hto, hn, hmm, hl, hl8⟩ := hw
  unfold AD.val AD.cells
  simp only at hm hk hto hn hmm hl hl8 hM hnums ⊢
  have HST : Hid (∀ w2, Below (w.heap.size + 1) (w.alloc (.cells #[.int .i64 D, .string k, .string «to», .int .i64 n, .int .i64 m, .slice A l.length c] 30)) w2 → Duo (some (w.heap.size, #[.int .i64 D, .string k, .string «to», .int .i64 n, .int .i64 m, .slice A l.length c])) B W w2 d r s N M) := Lib.hid fun w2 hb => (h.boxed #[.int .i64 D, .string k, .string «to», .int .i64 n, .int .i64 m, .slice A l.length c]).still (by simpa using hb)
  have HNM := Lib.hid (hnums.below ((Below.refl w.heap.size w).alloc (Nat.le_refl _) (.cells #[.int .i64 D, .string k, .string «to», .int .i64 n, .int .i64 m, .slice A l.length c] 30)))
  have hBx : B ≤ (w.alloc (.cells #[.int .i64 D, .string k, .string «to», .int .i64 n, .int .i64 m, .slice A l.length c] 30)).heap.size := Nat.le_trans h.live.le' (by simp)
  have hbx := heap_alloc_new w (.cells #[.int .i64 D, .string k, .string «to», .int .i64 n, .int .i64 m, .slice A l.length c] 30)
  obtain ⟨x, hx⟩ : ∃ x, w.heap.size = x := ⟨_, rfl⟩
  rw [hx] at HST hbx
  have HBX := Lib.hid hbx
  obtain ⟨ln, hln⟩ : ∃ ln, l.length = ln := ⟨_, rfl⟩
  have HLN := Lib.hid hln
  rw [hln] at HST HNM hBx HBX ⊢
  clear h hnums hbx hln
  have H0 : Hid (∀ W' A' c', Duo (some (x, #[.int .i64 D, .string k, .string «to», .int .i64 n, .int .i64 m, .slice A ln c])) B W W' d r s N M → Own B W' A' c' l → Calls Tryz.prog 46 #[.pointer (some ⟨d, 0, none⟩), .int .i64 n, .int .i64 m, .slice A' ln c'] W' (Void fun w' => Mid (some (x, #[.int .i64 D, .string k, .string «to», .int .i64 n, .int .i64 m, .slice A ln c])) B W w' d r s (DM.cut n m l s) N M N ∧ Own B w' A' c' l)) := Lib.hid fun W' A' c' hB ho => by
    have := hB.cut1 n m hn hmm A' c' l hM hl8 ho hl
    rw [HLN.out] at this
    exact this
  have H1 : Hid (∀ W' A' c', Mid (some (x, #[.int .i64 D, .string k, .string «to», .int .i64 n, .int .i64 m, .slice A ln c])) B W W' d r s (DM.cut n m l s) N M N → Own B W' A' c' l → Calls Tryz.prog 47 #[.pointer (some ⟨r, 0, none⟩), .int .i64 n, .int .i64 m, .slice A' ln c'] W' (Void fun w' => Duo (some (x, #[.int .i64 D, .string k, .string «to», .int .i64 n, .int .i64 m, .slice A ln c])) B W w' d r (DM.cut n m l s) N M)) := Lib.hid fun W' A' c' hB ho => by
    have := Mid.cut2 n m A' c' l hB ho
    rw [HLN.out] at this
    exact this
  go_enter Tryz.func15, Tryz.ntmps15
  go_wp2_with (at_builtin; refine wpList_nums rfl _ _ rfl rfl rfl A ln c l HLN.out rfl HNM.out hl8 B hBx ?_)
  intro A' c' w2 ho hb
  rw [HLN.out]
  have HO := Lib.hid ho
  have HD := Lib.hid (HST.out w2 hb)
  have c3 : w2.cell? ⟨x, 3, none⟩ = some (.int .i64 n) := HD.out.cell 3 _ rfl
  have c4 : w2.cell? ⟨x, 4, none⟩ = some (.int .i64 m) := HD.out.cell 4 _ rfl
  clear ho hb HST HNM hBx HBX
  go_wp2_with fail
  refine (H0.out _ _ _ HD.out HO.out).mono ?_
  rintro e w3 ⟨rfl, hbo, ho2⟩
  have HB2 := Lib.hid hbo
  have z3 : w3.cell? ⟨x, 3, none⟩ = some (.int .i64 n) := HB2.out.cell 3 _ rfl
  have z4 : w3.cell? ⟨x, 4, none⟩ = some (.int .i64 m) := HB2.out.cell 4 _ rfl
  have HO2 := Lib.hid ho2
  clear ho2
  clear hbo
  go_wp2_with fail
  refine (H1.out _ _ _ HB2.out HO2.out).mono ?_
  rintro e w4 ⟨rfl, hbo⟩
  have HB3 := Lib.hid hbo
  clear hbo
  go_wp2
  go_ret
  exact ⟨rfl, _, (HB3.out.grow hN).unboxed⟩

end Go.Proofs.YtgknkldhjejjmaaGreatDoor

/- act: Break, On, Spoil. Made by gen_acb.py. -/
namespace Go.Proofs.YtgknkldhjejjmaaGreatDoor
open Go.RowKit Go.Maps
open DM

set_option maxRecDepth 100000 in
set_option maxHeartbeats 4000000 in
theorem act_p9 {K : Box} {B : Nat} {W w : World} {d r : Nat} {s : St} {N M : Nat} (h : Duo K B W w d r s N M) (hN : N + 1 < 1000000000) (a : AD) (hw : a.wf) (hM : a.l.length ≤ M) (hnums : NumsAt w a.A a.l) (hm : a.d.tmod 12 = 9) :
    Calls Tryz.prog 15 #[.pointer (some ⟨d, 0, none⟩), .pointer (some ⟨r, 0, none⟩), a.val] w (ActOut B W d r N M) := by
  obtain ⟨D, k, «to», n, m, A, c, l⟩ := a
  obtain ⟨hd, hk, hto, hn, hmm, hl, hl8⟩ := hw
  unfold AD.val AD.cells
  simp only at hm hk hto hn hmm hl hl8 hM hnums ⊢
  have HST : Hid (∀ w2, Below (w.heap.size + 1) (w.alloc (.cells #[.int .i64 D, .string k, .string «to», .int .i64 n, .int .i64 m, .slice A l.length c] 30)) w2 → Duo (some (w.heap.size, #[.int .i64 D, .string k, .string «to», .int .i64 n, .int .i64 m, .slice A l.length c])) B W w2 d r s N M) := Lib.hid fun w2 hb => (h.boxed #[.int .i64 D, .string k, .string «to», .int .i64 n, .int .i64 m, .slice A l.length c]).still (by simpa using hb)
  have HNM := Lib.hid (hnums.below ((Below.refl w.heap.size w).alloc (Nat.le_refl _) (.cells #[.int .i64 D, .string k, .string «to», .int .i64 n, .int .i64 m, .slice A l.length c] 30)))
  have hBx : B ≤ (w.alloc (.cells #[.int .i64 D, .string k, .string «to», .int .i64 n, .int .i64 m, .slice A l.length c] 30)).heap.size := Nat.le_trans h.live.le' (by simp)
  have hbx := heap_alloc_new w (.cells #[.int .i64 D, .string k, .string «to», .int .i64 n, .int .i64 m, .slice A l.length c] 30)
  obtain ⟨x, hx⟩ : ∃ x, w.heap.size = x := ⟨_, rfl⟩
  rw [hx] at HST hbx
  have HBX := Lib.hid hbx
  obtain ⟨ln, hln⟩ : ∃ ln, l.length = ln := ⟨_, rfl⟩
  have HLN := Lib.hid hln
  rw [hln] at HST HNM hBx HBX ⊢
  clear h hnums hbx hln
  have HCB := Lib.hid (fun (W' : World) (hB : Duo (some (x, #[.int .i64 D, .string k, .string «to», .int .i64 n, .int .i64 m, .slice A ln c])) B W W' d r s N M) => hB.brk1 n hn)
  have HCR := Lib.hid (fun (W' : World) (hB : Mid (some (x, #[.int .i64 D, .string k, .string «to», .int .i64 n, .int .i64 m, .slice A ln c])) B W W' d r s (DM.brk n s) N M N) => Mid.brk2 n hB)
  go_enter Tryz.func15, Tryz.ntmps15
  go_wp2_with (at_builtin; refine wpList_nums rfl _ _ rfl rfl rfl A ln c l HLN.out rfl HNM.out hl8 B hBx ?_)
  intro A' c' w2 ho hb
  rw [HLN.out]
  have HO := Lib.hid ho
  have HD := Lib.hid (HST.out w2 hb)
  have c3 : w2.cell? ⟨x, 3, none⟩ = some (.int .i64 n) := HD.out.cell 3 _ rfl
  clear ho hb HST HNM hBx HBX
  go_wp2_with fail
  refine (HCB.out _ HD.out).mono ?_
  rintro e w3 ⟨rfl, hbo⟩
  have HB2 := Lib.hid hbo
  have z3 : w3.cell? ⟨x, 3, none⟩ = some (.int .i64 n) := HB2.out.cell 3 _ rfl
  clear hbo
  go_wp2_with fail
  refine (HCR.out _ HB2.out).mono ?_
  rintro e w4 ⟨rfl, hbo⟩
  have HB3 := Lib.hid hbo
  clear hbo
  go_wp2
  go_ret
  exact ⟨rfl, _, (HB3.out.grow hN).unboxed⟩

set_option maxRecDepth 100000 in
set_option maxHeartbeats 4000000 in
theorem act_n9 {K : Box} {B : Nat} {W w : World} {d r : Nat} {s : St} {N M : Nat} (h : Duo K B W w d r s N M) (hN : N + 1 < 1000000000) (a : AD) (hw : a.wf) (hM : a.l.length ≤ M) (hnums : NumsAt w a.A a.l) (hm : a.d.tmod 12 = -3) :
    Calls Tryz.prog 15 #[.pointer (some ⟨d, 0, none⟩), .pointer (some ⟨r, 0, none⟩), a.val] w (ActOut B W d r N M) := by
  obtain ⟨D, k, «to», n, m, A, c, l⟩ := a
  obtain ⟨hd, hk, hto, hn, hmm, hl, hl8⟩ := hw
  unfold AD.val AD.cells
  simp only at hm hk hto hn hmm hl hl8 hM hnums ⊢
  have HST : Hid (∀ w2, Below (w.heap.size + 1) (w.alloc (.cells #[.int .i64 D, .string k, .string «to», .int .i64 n, .int .i64 m, .slice A l.length c] 30)) w2 → Duo (some (w.heap.size, #[.int .i64 D, .string k, .string «to», .int .i64 n, .int .i64 m, .slice A l.length c])) B W w2 d r s N M) := Lib.hid fun w2 hb => (h.boxed #[.int .i64 D, .string k, .string «to», .int .i64 n, .int .i64 m, .slice A l.length c]).still (by simpa using hb)
  have HNM := Lib.hid (hnums.below ((Below.refl w.heap.size w).alloc (Nat.le_refl _) (.cells #[.int .i64 D, .string k, .string «to», .int .i64 n, .int .i64 m, .slice A l.length c] 30)))
  have hBx : B ≤ (w.alloc (.cells #[.int .i64 D, .string k, .string «to», .int .i64 n, .int .i64 m, .slice A l.length c] 30)).heap.size := Nat.le_trans h.live.le' (by simp)
  have hbx := heap_alloc_new w (.cells #[.int .i64 D, .string k, .string «to», .int .i64 n, .int .i64 m, .slice A l.length c] 30)
  obtain ⟨x, hx⟩ : ∃ x, w.heap.size = x := ⟨_, rfl⟩
  rw [hx] at HST hbx
  have HBX := Lib.hid hbx
  obtain ⟨ln, hln⟩ : ∃ ln, l.length = ln := ⟨_, rfl⟩
  have HLN := Lib.hid hln
  rw [hln] at HST HNM hBx HBX ⊢
  clear h hnums hbx hln
  have HCB := Lib.hid (fun (W' : World) (hB : Duo (some (x, #[.int .i64 D, .string k, .string «to», .int .i64 n, .int .i64 m, .slice A ln c])) B W W' d r s N M) => hB.brk1 n hn)
  have HCR := Lib.hid (fun (W' : World) (hB : Mid (some (x, #[.int .i64 D, .string k, .string «to», .int .i64 n, .int .i64 m, .slice A ln c])) B W W' d r s (DM.brk n s) N M N) => Mid.brk2 n hB)
  go_enter Tryz.func15, Tryz.ntmps15
  go_wp2_with (at_builtin; refine wpList_nums rfl _ _ rfl rfl rfl A ln c l HLN.out rfl HNM.out hl8 B hBx ?_)
  intro A' c' w2 ho hb
  rw [HLN.out]
  have HO := Lib.hid ho
  have HD := Lib.hid (HST.out w2 hb)
  have c3 : w2.cell? ⟨x, 3, none⟩ = some (.int .i64 n) := HD.out.cell 3 _ rfl
  clear ho hb HST HNM hBx HBX
  go_wp2_with fail
  refine (HCB.out _ HD.out).mono ?_
  rintro e w3 ⟨rfl, hbo⟩
  have HB2 := Lib.hid hbo
  have z3 : w3.cell? ⟨x, 3, none⟩ = some (.int .i64 n) := HB2.out.cell 3 _ rfl
  clear hbo
  go_wp2_with fail
  refine (HCR.out _ HB2.out).mono ?_
  rintro e w4 ⟨rfl, hbo⟩
  have HB3 := Lib.hid hbo
  clear hbo
  go_wp2
  go_ret
  exact ⟨rfl, _, (HB3.out.grow hN).unboxed⟩

set_option maxRecDepth 100000 in
set_option maxHeartbeats 4000000 in
theorem act_p10 {K : Box} {B : Nat} {W w : World} {d r : Nat} {s : St} {N M : Nat} (h : Duo K B W w d r s N M) (hN : N + 1 < 1000000000) (a : AD) (hw : a.wf) (hM : a.l.length ≤ M) (hnums : NumsAt w a.A a.l) (hm : a.d.tmod 12 = 10) :
    Calls Tryz.prog 15 #[.pointer (some ⟨d, 0, none⟩), .pointer (some ⟨r, 0, none⟩), a.val] w (ActOut B W d r N M) := by
  obtain ⟨D, k, «to», n, m, A, c, l⟩ := a
  obtain ⟨hd, hk, hto, hn, hmm, hl, hl8⟩ := hw
  unfold AD.val AD.cells
  simp only at hm hk hto hn hmm hl hl8 hM hnums ⊢
  have HST : Hid (∀ w2, Below (w.heap.size + 1) (w.alloc (.cells #[.int .i64 D, .string k, .string «to», .int .i64 n, .int .i64 m, .slice A l.length c] 30)) w2 → Duo (some (w.heap.size, #[.int .i64 D, .string k, .string «to», .int .i64 n, .int .i64 m, .slice A l.length c])) B W w2 d r s N M) := Lib.hid fun w2 hb => (h.boxed #[.int .i64 D, .string k, .string «to», .int .i64 n, .int .i64 m, .slice A l.length c]).still (by simpa using hb)
  have HNM := Lib.hid (hnums.below ((Below.refl w.heap.size w).alloc (Nat.le_refl _) (.cells #[.int .i64 D, .string k, .string «to», .int .i64 n, .int .i64 m, .slice A l.length c] 30)))
  have hBx : B ≤ (w.alloc (.cells #[.int .i64 D, .string k, .string «to», .int .i64 n, .int .i64 m, .slice A l.length c] 30)).heap.size := Nat.le_trans h.live.le' (by simp)
  have hbx := heap_alloc_new w (.cells #[.int .i64 D, .string k, .string «to», .int .i64 n, .int .i64 m, .slice A l.length c] 30)
  obtain ⟨x, hx⟩ : ∃ x, w.heap.size = x := ⟨_, rfl⟩
  rw [hx] at HST hbx
  have HBX := Lib.hid hbx
  obtain ⟨ln, hln⟩ : ∃ ln, l.length = ln := ⟨_, rfl⟩
  have HLN := Lib.hid hln
  rw [hln] at HST HNM hBx HBX ⊢
  clear h hnums hbx hln
  have HCB := Lib.hid (fun (W' : World) (hB : Duo (some (x, #[.int .i64 D, .string k, .string «to», .int .i64 n, .int .i64 m, .slice A ln c])) B W W' d r s N M) => hB.on1)
  go_enter Tryz.func15, Tryz.ntmps15
  go_wp2_with (at_builtin; refine wpList_nums rfl _ _ rfl rfl rfl A ln c l HLN.out rfl HNM.out hl8 B hBx ?_)
  intro A' c' w2 ho hb
  rw [HLN.out]
  have HO := Lib.hid ho
  have HD := Lib.hid (HST.out w2 hb)
  clear ho hb HST HNM hBx HBX
  go_wp2_with fail
  refine (HCB.out _ HD.out).mono ?_
  rintro e w3 ⟨rfl, hbo⟩
  obtain ⟨⟨y5, hy5⟩, ⟨y6, hy6⟩, ⟨y9, hy9⟩, hfz, hdd⟩ := Mid.on2 hbo
  have HB3 := Lib.hid hdd
  have f5 := hfz 5
  have f6 := hfz 6
  have f9 := hfz 9
  clear hbo hdd hfz
  go_wp2
  go_ret
  exact ⟨rfl, _, (HB3.out.grow hN).unboxed⟩

set_option maxRecDepth 100000 in
set_option maxHeartbeats 4000000 in
theorem act_n10 {K : Box} {B : Nat} {W w : World} {d r : Nat} {s : St} {N M : Nat} (h : Duo K B W w d r s N M) (hN : N + 1 < 1000000000) (a : AD) (hw : a.wf) (hM : a.l.length ≤ M) (hnums : NumsAt w a.A a.l) (hm : a.d.tmod 12 = -2) :
    Calls Tryz.prog 15 #[.pointer (some ⟨d, 0, none⟩), .pointer (some ⟨r, 0, none⟩), a.val] w (ActOut B W d r N M) := by
  obtain ⟨D, k, «to», n, m, A, c, l⟩ := a
  obtain ⟨hd, hk, hto, hn, hmm, hl, hl8⟩ := hw
  unfold AD.val AD.cells
  simp only at hm hk hto hn hmm hl hl8 hM hnums ⊢
  have HST : Hid (∀ w2, Below (w.heap.size + 1) (w.alloc (.cells #[.int .i64 D, .string k, .string «to», .int .i64 n, .int .i64 m, .slice A l.length c] 30)) w2 → Duo (some (w.heap.size, #[.int .i64 D, .string k, .string «to», .int .i64 n, .int .i64 m, .slice A l.length c])) B W w2 d r s N M) := Lib.hid fun w2 hb => (h.boxed #[.int .i64 D, .string k, .string «to», .int .i64 n, .int .i64 m, .slice A l.length c]).still (by simpa using hb)
  have HNM := Lib.hid (hnums.below ((Below.refl w.heap.size w).alloc (Nat.le_refl _) (.cells #[.int .i64 D, .string k, .string «to», .int .i64 n, .int .i64 m, .slice A l.length c] 30)))
  have hBx : B ≤ (w.alloc (.cells #[.int .i64 D, .string k, .string «to», .int .i64 n, .int .i64 m, .slice A l.length c] 30)).heap.size := Nat.le_trans h.live.le' (by simp)
  have hbx := heap_alloc_new w (.cells #[.int .i64 D, .string k, .string «to», .int .i64 n, .int .i64 m, .slice A l.length c] 30)
  obtain ⟨x, hx⟩ : ∃ x, w.heap.size = x := ⟨_, rfl⟩
  rw [hx] at HST hbx
  have HBX := Lib.hid hbx
  obtain ⟨ln, hln⟩ : ∃ ln, l.length = ln := ⟨_, rfl⟩
  have HLN := Lib.hid hln
  rw [hln] at HST HNM hBx HBX ⊢
  clear h hnums hbx hln
  have HCB := Lib.hid (fun (W' : World) (hB : Duo (some (x, #[.int .i64 D, .string k, .string «to», .int .i64 n, .int .i64 m, .slice A ln c])) B W W' d r s N M) => hB.on1)
  go_enter Tryz.func15, Tryz.ntmps15
  go_wp2_with (at_builtin; refine wpList_nums rfl _ _ rfl rfl rfl A ln c l HLN.out rfl HNM.out hl8 B hBx ?_)
  intro A' c' w2 ho hb
  rw [HLN.out]
  have HO := Lib.hid ho
  have HD := Lib.hid (HST.out w2 hb)
  clear ho hb HST HNM hBx HBX
  go_wp2_with fail
  refine (HCB.out _ HD.out).mono ?_
  rintro e w3 ⟨rfl, hbo⟩
  obtain ⟨⟨y5, hy5⟩, ⟨y6, hy6⟩, ⟨y9, hy9⟩, hfz, hdd⟩ := Mid.on2 hbo
  have HB3 := Lib.hid hdd
  have f5 := hfz 5
  have f6 := hfz 6
  have f9 := hfz 9
  clear hbo hdd hfz
  go_wp2
  go_ret
  exact ⟨rfl, _, (HB3.out.grow hN).unboxed⟩

set_option maxRecDepth 100000 in
set_option maxHeartbeats 4000000 in
theorem act_p11 {K : Box} {B : Nat} {W w : World} {d r : Nat} {s : St} {N M : Nat} (h : Duo K B W w d r s N M) (hN : N + 1 < 1000000000) (a : AD) (hw : a.wf) (hM : a.l.length ≤ M) (hnums : NumsAt w a.A a.l) (hm : a.d.tmod 12 = 11) :
    Calls Tryz.prog 15 #[.pointer (some ⟨d, 0, none⟩), .pointer (some ⟨r, 0, none⟩), a.val] w (ActOut B W d r N M) := by
  obtain ⟨D, k, «to», n, m, A, c, l⟩ := a
  obtain ⟨hd, hk, hto, hn, hmm, hl, hl8⟩ := hw
  unfold AD.val AD.cells
  simp only at hm hk hto hn hmm hl hl8 hM hnums ⊢
  have HST : Hid (∀ w2, Below (w.heap.size + 1) (w.alloc (.cells #[.int .i64 D, .string k, .string «to», .int .i64 n, .int .i64 m, .slice A l.length c] 30)) w2 → Duo (some (w.heap.size, #[.int .i64 D, .string k, .string «to», .int .i64 n, .int .i64 m, .slice A l.length c])) B W w2 d r s N M) := Lib.hid fun w2 hb => (h.boxed #[.int .i64 D, .string k, .string «to», .int .i64 n, .int .i64 m, .slice A l.length c]).still (by simpa using hb)
  have HNM := Lib.hid (hnums.below ((Below.refl w.heap.size w).alloc (Nat.le_refl _) (.cells #[.int .i64 D, .string k, .string «to», .int .i64 n, .int .i64 m, .slice A l.length c] 30)))
  have hBx : B ≤ (w.alloc (.cells #[.int .i64 D, .string k, .string «to», .int .i64 n, .int .i64 m, .slice A l.length c] 30)).heap.size := Nat.le_trans h.live.le' (by simp)
  have hbx := heap_alloc_new w (.cells #[.int .i64 D, .string k, .string «to», .int .i64 n, .int .i64 m, .slice A l.length c] 30)
  obtain ⟨x, hx⟩ : ∃ x, w.heap.size = x := ⟨_, rfl⟩
  rw [hx] at HST hbx
  have HBX := Lib.hid hbx
  obtain ⟨ln, hln⟩ : ∃ ln, l.length = ln := ⟨_, rfl⟩
  have HLN := Lib.hid hln
  rw [hln] at HST HNM hBx HBX ⊢
  clear h hnums hbx hln
  have HCB := Lib.hid (fun (W' : World) (hB : Duo (some (x, #[.int .i64 D, .string k, .string «to», .int .i64 n, .int .i64 m, .slice A ln c])) B W W' d r s N M) => hB.spoil1 k hk n hn)
  have HCR := Lib.hid (fun (W' : World) (hB : Mid (some (x, #[.int .i64 D, .string k, .string «to», .int .i64 n, .int .i64 m, .slice A ln c])) B W W' d r s (DM.spoil k.data.toList n s) N M N) => Mid.spoil2 k n hB (by omega) hn)
  go_enter Tryz.func15, Tryz.ntmps15
  go_wp2_with (at_builtin; refine wpList_nums rfl _ _ rfl rfl rfl A ln c l HLN.out rfl HNM.out hl8 B hBx ?_)
  intro A' c' w2 ho hb
  rw [HLN.out]
  have HO := Lib.hid ho
  have HD := Lib.hid (HST.out w2 hb)
  have c1 : w2.cell? ⟨x, 1, none⟩ = some (.string k) := HD.out.cell 1 _ rfl
  have c3 : w2.cell? ⟨x, 3, none⟩ = some (.int .i64 n) := HD.out.cell 3 _ rfl
  clear ho hb HST HNM hBx HBX
  go_wp2_with fail
  refine (HCB.out _ HD.out).mono ?_
  rintro e w3 ⟨rfl, hbo⟩
  have HB2 := Lib.hid hbo
  have z1 : w3.cell? ⟨x, 1, none⟩ = some (.string k) := HB2.out.cell 1 _ rfl
  have z3 : w3.cell? ⟨x, 3, none⟩ = some (.int .i64 n) := HB2.out.cell 3 _ rfl
  clear hbo
  go_wp2_with fail
  refine (HCR.out _ HB2.out).mono ?_
  rintro e w4 ⟨rfl, hbo⟩
  have HB3 := Lib.hid hbo
  clear hbo
  go_wp2
  go_ret
  exact ⟨rfl, _, (HB3.out.grow hN).unboxed⟩

set_option maxRecDepth 100000 in
set_option maxHeartbeats 4000000 in
theorem act_n11 {K : Box} {B : Nat} {W w : World} {d r : Nat} {s : St} {N M : Nat} (h : Duo K B W w d r s N M) (hN : N + 1 < 1000000000) (a : AD) (hw : a.wf) (hM : a.l.length ≤ M) (hnums : NumsAt w a.A a.l) (hm : a.d.tmod 12 = -1) :
    Calls Tryz.prog 15 #[.pointer (some ⟨d, 0, none⟩), .pointer (some ⟨r, 0, none⟩), a.val] w (ActOut B W d r N M) := by
  obtain ⟨D, k, «to», n, m, A, c, l⟩ := a
  obtain ⟨hd, hk, hto, hn, hmm, hl, hl8⟩ := hw
  unfold AD.val AD.cells
  simp only at hm hk hto hn hmm hl hl8 hM hnums ⊢
  have HST : Hid (∀ w2, Below (w.heap.size + 1) (w.alloc (.cells #[.int .i64 D, .string k, .string «to», .int .i64 n, .int .i64 m, .slice A l.length c] 30)) w2 → Duo (some (w.heap.size, #[.int .i64 D, .string k, .string «to», .int .i64 n, .int .i64 m, .slice A l.length c])) B W w2 d r s N M) := Lib.hid fun w2 hb => (h.boxed #[.int .i64 D, .string k, .string «to», .int .i64 n, .int .i64 m, .slice A l.length c]).still (by simpa using hb)
  have HNM := Lib.hid (hnums.below ((Below.refl w.heap.size w).alloc (Nat.le_refl _) (.cells #[.int .i64 D, .string k, .string «to», .int .i64 n, .int .i64 m, .slice A l.length c] 30)))
  have hBx : B ≤ (w.alloc (.cells #[.int .i64 D, .string k, .string «to», .int .i64 n, .int .i64 m, .slice A l.length c] 30)).heap.size := Nat.le_trans h.live.le' (by simp)
  have hbx := heap_alloc_new w (.cells #[.int .i64 D, .string k, .string «to», .int .i64 n, .int .i64 m, .slice A l.length c] 30)
  obtain ⟨x, hx⟩ : ∃ x, w.heap.size = x := ⟨_, rfl⟩
  rw [hx] at HST hbx
  have HBX := Lib.hid hbx
  obtain ⟨ln, hln⟩ : ∃ ln, l.length = ln := ⟨_, rfl⟩
  have HLN := Lib.hid hln
  rw [hln] at HST HNM hBx HBX ⊢
  clear h hnums hbx hln
  have HCB := Lib.hid (fun (W' : World) (hB : Duo (some (x, #[.int .i64 D, .string k, .string «to», .int .i64 n, .int .i64 m, .slice A ln c])) B W W' d r s N M) => hB.spoil1 k hk n hn)
  have HCR := Lib.hid (fun (W' : World) (hB : Mid (some (x, #[.int .i64 D, .string k, .string «to», .int .i64 n, .int .i64 m, .slice A ln c])) B W W' d r s (DM.spoil k.data.toList n s) N M N) => Mid.spoil2 k n hB (by omega) hn)
  go_enter Tryz.func15, Tryz.ntmps15
  go_wp2_with (at_builtin; refine wpList_nums rfl _ _ rfl rfl rfl A ln c l HLN.out rfl HNM.out hl8 B hBx ?_)
  intro A' c' w2 ho hb
  rw [HLN.out]
  have HO := Lib.hid ho
  have HD := Lib.hid (HST.out w2 hb)
  have c1 : w2.cell? ⟨x, 1, none⟩ = some (.string k) := HD.out.cell 1 _ rfl
  have c3 : w2.cell? ⟨x, 3, none⟩ = some (.int .i64 n) := HD.out.cell 3 _ rfl
  clear ho hb HST HNM hBx HBX
  go_wp2_with fail
  refine (HCB.out _ HD.out).mono ?_
  rintro e w3 ⟨rfl, hbo⟩
  have HB2 := Lib.hid hbo
  have z1 : w3.cell? ⟨x, 1, none⟩ = some (.string k) := HB2.out.cell 1 _ rfl
  have z3 : w3.cell? ⟨x, 3, none⟩ = some (.int .i64 n) := HB2.out.cell 3 _ rfl
  clear hbo
  go_wp2_with fail
  refine (HCR.out _ HB2.out).mono ?_
  rintro e w4 ⟨rfl, hbo⟩
  have HB3 := Lib.hid hbo
  clear hbo
  go_wp2
  go_ret
  exact ⟨rfl, _, (HB3.out.grow hN).unboxed⟩

end Go.Proofs.YtgknkldhjejjmaaGreatDoor



/- act: one call of both disks, whatever it is. -/
namespace Go.Proofs.YtgknkldhjejjmaaGreatDoor
open Go.RowKit Go.Maps
open DM

theorem act_any {K : Box} {B : Nat} {W w : World} {d r : Nat} {s : St} {N M : Nat} (h : Duo K B W w d r s N M) (hN : N + 1 < 1000000000) (a : AD) (hw : a.wf) (hM : a.l.length ≤ M) (hnums : NumsAt w a.A a.l) :
    Calls Tryz.prog 15 #[.pointer (some ⟨d, 0, none⟩), .pointer (some ⟨r, 0, none⟩), a.val] w (ActOut B W d r N M) := by
  have hk : a.d % 12 = (0 : Nat) ∨ a.d % 12 = (1 : Nat) ∨ a.d % 12 = (2 : Nat) ∨ a.d % 12 = (3 : Nat) ∨ a.d % 12 = (4 : Nat) ∨ a.d % 12 = (5 : Nat) ∨ a.d % 12 = (6 : Nat) ∨ a.d % 12 = (7 : Nat) ∨ a.d % 12 = (8 : Nat) ∨ a.d % 12 = (9 : Nat) ∨ a.d % 12 = (10 : Nat) ∨ a.d % 12 = (11 : Nat) := by omega
  rcases hk with h1 | h1 | h1 | h1 | h1 | h1 | h1 | h1 | h1 | h1 | h1 | h1
  · rcases mod12 a.d 0 (by decide) h1 with h2 | ⟨h2, h3⟩
    · exact act_p0 h hN a hw hM hnums (by simpa using h2)
    · exact absurd h3 (by decide)
  · rcases mod12 a.d 1 (by decide) h1 with h2 | ⟨h2, h3⟩
    · exact act_p1 h hN a hw hM hnums (by simpa using h2)
    · exact act_n1 h hN a hw hM hnums (by omega)
  · rcases mod12 a.d 2 (by decide) h1 with h2 | ⟨h2, h3⟩
    · exact act_p2 h hN a hw hM hnums (by simpa using h2)
    · exact act_n2 h hN a hw hM hnums (by omega)
  · rcases mod12 a.d 3 (by decide) h1 with h2 | ⟨h2, h3⟩
    · exact act_p3 h hN a hw hM hnums (by simpa using h2)
    · exact act_n3 h hN a hw hM hnums (by omega)
  · rcases mod12 a.d 4 (by decide) h1 with h2 | ⟨h2, h3⟩
    · exact act_p4 h hN a hw hM hnums (by simpa using h2)
    · exact act_n4 h hN a hw hM hnums (by omega)
  · rcases mod12 a.d 5 (by decide) h1 with h2 | ⟨h2, h3⟩
    · exact act_p5 h hN a hw hM hnums (by simpa using h2)
    · exact act_n5 h hN a hw hM hnums (by omega)
  · rcases mod12 a.d 6 (by decide) h1 with h2 | ⟨h2, h3⟩
    · exact act_p6 h hN a hw hM hnums (by simpa using h2)
    · exact act_n6 h hN a hw hM hnums (by omega)
  · rcases mod12 a.d 7 (by decide) h1 with h2 | ⟨h2, h3⟩
    · exact act_p7 h hN a hw hM hnums (by simpa using h2)
    · exact act_n7 h hN a hw hM hnums (by omega)
  · rcases mod12 a.d 8 (by decide) h1 with h2 | ⟨h2, h3⟩
    · exact act_p8 h hN a hw hM hnums (by simpa using h2)
    · exact act_n8 h hN a hw hM hnums (by omega)
  · rcases mod12 a.d 9 (by decide) h1 with h2 | ⟨h2, h3⟩
    · exact act_p9 h hN a hw hM hnums (by simpa using h2)
    · exact act_n9 h hN a hw hM hnums (by omega)
  · rcases mod12 a.d 10 (by decide) h1 with h2 | ⟨h2, h3⟩
    · exact act_p10 h hN a hw hM hnums (by simpa using h2)
    · exact act_n10 h hN a hw hM hnums (by omega)
  · rcases mod12 a.d 11 (by decide) h1 with h2 | ⟨h2, h3⟩
    · exact act_p11 h hN a hw hM hnums (by simpa using h2)
    · exact act_n11 h hN a hw hM hnums (by omega)

/-! ### what same asks -/
section
variable {K : Box} {B : Nat} {W w w' : World} {d r : Nat} {s : St} {N M : Nat}
theorem Duo.used1 (h : Duo K B W w d r s N M) : Calls Tryz.prog 54 #[.pointer (some ⟨d, 0, none⟩)] w fun e w' => e = .returned (.int .i64 (DM.used s.files s.names)) ∧ w = w' := by
  obtain ⟨g, hg⟩ := h.live.rep
  exact used_any hg
theorem Duo.off1 (h : Duo K B W w d r s N M) : Calls Tryz.prog 56 #[.pointer (some ⟨d, 0, none⟩)] w fun e w' => e = .returned (.bool s.off) ∧ w = w' := by
  obtain ⟨g, hg⟩ := h.live.rep
  exact off_any hg
theorem Duo.used2 (h : Duo K B W w d r s N M) : Calls Tryz.prog 55 #[.pointer (some ⟨r, 0, none⟩)] w fun e w' => e = .returned (.int .i64 (DM.used s.files s.names)) ∧ Below w.heap.size w w' := by
  obtain ⟨t, g, hr, hs⟩ := h.ref
  rw [← hs.used]
  exact rused_any hr (h.fewT hs)
theorem Duo.list1 (h : Duo K B W w d r s N M) : Calls Tryz.prog 53 #[.pointer (some ⟨d, 0, none⟩)] w fun e w' => ListOut w (s.names.map (·.1)) e w' ∧ Duo K B W w' d r s N M :=
  h.live.list.mono fun _ _ ⟨he, hl⟩ => ⟨he, h.same hl⟩
theorem Duo.read3 (h : Duo K B W w d r s N M) (k : ByteArray) (hk : k.size ≤ 140737488355328) :
    Calls Tryz.prog 33 #[.pointer (some ⟨d, 0, none⟩), .string k] w (Text (DM.read k.data.toList s) fun w' => Duo K B W w' d r s N M ∧ Moves B w w') :=
  (h.live.read k hk rfl).mono fun _ _ ⟨he, hl⟩ => ⟨he, h.same hl, hl.moves⟩

/-- what same reads of the reference -/
theorem Duo.names (h : Duo K B W w d r s N M) : ∃ NA nc, w.cell? ⟨r, 2, none⟩ = some (.slice NA s.names.length nc) ∧ w.cell? ⟨r, 5, none⟩ = some (.bool s.off) ∧
    ∀ j, (hj : j < s.names.length) → ∃ nb, NA = some ⟨nb, 0, none⟩ ∧ w.cell? ⟨nb, j * 2, none⟩ = some (encS s.names[j].1) ∧ w.cell? ⟨nb, j * 2 + 1, none⟩ = some (.int .i64 (s.names[j].2 : Nat)) := by
  obtain ⟨t, g, hr, hs⟩ := h.ref
  obtain ⟨NA, nc, hnv, hnz⟩ := Prs.slice hr.body.nrow
  have c2 : w.cell? ⟨r, 2, none⟩ = some g.nv := RHalf.cells hr 2
  have c5 : w.cell? ⟨r, 5, none⟩ = some (.bool t.off) := RHalf.cells hr 5
  rw [hnv, hs.nlen] at c2
  rw [hs.off] at c5
  refine ⟨NA, nc, c2, c5, fun j hj => ?_⟩
  have hjt : j < t.names.length := by rw [hs.nlen]; exact hj
  obtain ⟨nb, rfl, -, hnbw, hc⟩ := hnz (by omega)
  obtain ⟨z1, z2⟩ := hc w rfl j hjt
  have he : t.names[j] = (s.names[j].1, (s.names[j].2 : Int)) := by
    have : t.names[j]? = some (s.names[j].1, (s.names[j].2 : Int)) := by
      rw [hs.names]
      simp [nm, hj]
    rw [List.getElem?_eq_getElem hjt] at this
    exact Option.some.inj this
  rw [he] at z1 z2
  exact ⟨nb, rfl, z1, z2⟩
theorem Duo.fileCell (h : Duo K B W w d r s N M) (i : Nat) (hi : i < s.files.length) : ∃ b c, w.cell? ⟨r, 1, none⟩ = some (.slice (some ⟨b, 0, none⟩) s.files.length c) ∧ w.cell? ⟨b, i * 2, none⟩ = some (encS s.files[i].data) := by
  obtain ⟨t, g, hr, hs⟩ := h.ref
  have hit : i < t.files.length := by rw [hs.files]; exact hi
  obtain ⟨b, c, hfv, -, z1, -, -⟩ := RRep.fileIn hr i hit
  have c1 : w.cell? ⟨r, 1, none⟩ = some g.fv := RHalf.cells hr 1
  rw [hfv] at c1
  simp only [hs.files] at c1 z1
  exact ⟨b, c, c1, z1⟩
theorem Duo.lens (h : Duo K B W w d r s N M) : s.names.length ≤ 4096 ∧ s.files.length < 1000000000 := ⟨h.live.ok.gnames.few, by have := h.live.lim.files; have := h.live.few.1; omega⟩
/-- a name of the list is read whole -/
theorem Duo.readName (h : Duo K B W w d r s N M) (j : Nat) (hj : j < s.names.length) : s.names[j].2 < s.files.length ∧ s.names[j].1.length ≤ 64 ∧ (s.off = false → DM.read s.names[j].1 s = ((fileAt s s.names[j].2).data, 0)) := by
  have hm := List.getElem_mem hj
  refine ⟨h.live.ok.gnames.file _ hm, (h.live.ok.gnames.key _ hm).2, fun ho => ?_⟩
  unfold DM.read
  rw [if_neg (by rw [ho]; exact Bool.false_ne_true), find_of_mem h.live.ok.gnames.sorted (k := s.names[j].1) (n := s.names[j].2) hm]
end
end Go.Proofs.YtgknkldhjejjmaaGreatDoor

/- same: do both disks have the same files? -/
namespace Go.Proofs.YtgknkldhjejjmaaGreatDoor
open Go.RowKit Go.Maps
open DM

theorem Duo.rlt {K : Box} {B : Nat} {W w : World} {d r : Nat} {s : St} {N M : Nat} (h : Duo K B W w d r s N M) : r < w.heap.size := by
  obtain ⟨t, g, hr, hs⟩ := h.ref
  exact RHalf.lt hr

theorem Duo.names2 {K : Box} {B : Nat} {W w : World} {d r : Nat} {s : St} {N M : Nat} (h : Duo K B W w d r s N M) : ∃ NA nc, w.cell? ⟨r, 2, none⟩ = some (.slice NA s.names.length nc) ∧ w.cell? ⟨r, 5, none⟩ = some (.bool s.off) ∧
    ∀ (j : Nat) (p : Bs × Nat), s.names[j]? = some p → ∃ nb, NA = some ⟨nb, 0, none⟩ ∧ w.cell? ⟨nb, j * 2, none⟩ = some (encS p.1) ∧ w.cell? ⟨nb, j * 2 + 1, none⟩ = some (.int .i64 (p.2 : Nat)) := by
  obtain ⟨NA, nc, h1, h2, h3⟩ := h.names
  refine ⟨NA, nc, h1, h2, fun j p hp => ?_⟩
  obtain ⟨hj, rfl⟩ := List.getElem?_eq_some_iff.1 hp
  exact h3 j hj

/-- the rows of texts lie as they lay -/
def TextsKept (w w' : World) : Prop := ∀ (b : Nat) (c : Array Value) (fr : Nat × Nat), w.heap[b]? = some (.cells c 9 fr) → w'.heap[b]? = some (.cells c 9 fr)

set_option maxRecDepth 100000 in
set_option maxHeartbeats 4000000 in
theorem same_any {K : Box} {B : Nat} {W w : World} {d r : Nat} {s : St} {N M : Nat} (h : Duo K B W w d r s N M) :
    Calls Tryz.prog 16 #[.pointer (some ⟨d, 0, none⟩), .pointer (some ⟨r, 0, none⟩)] w fun e w' => e = .returned (.bool true) ∧ Duo K B W w' d r s N M := by
  have HD := Lib.hid h
  obtain ⟨hn4, hf4⟩ := h.lens
  have HU1 := Lib.hid (fun (W' : World) (hB : Duo K B W W' d r s N M) => hB.used1)
  have HU2 := Lib.hid (fun (W' : World) (hB : Duo K B W W' d r s N M) => hB.used2)
  have HO1 := Lib.hid (fun (W' : World) (hB : Duo K B W W' d r s N M) => hB.off1)
  have HNM := Lib.hid (fun (W' : World) (hB : Duo K B W W' d r s N M) => hB.names2)
  obtain ⟨U, hU⟩ : ∃ U, DM.used s.files s.names = U := ⟨_, rfl⟩
  rw [hU] at HU1 HU2
  obtain ⟨of, hof⟩ : ∃ b, s.off = b := ⟨_, rfl⟩
  rw [hof] at HO1 HNM
  obtain ⟨n, hn⟩ : ∃ n, s.names.length = n := ⟨_, rfl⟩
  rw [hn] at hn4
  have HN := Lib.hid hn
  have HOFF := Lib.hid hof
  rw [hn] at HNM
  clear h hU hn hof
  go_enter Tryz.func16, Tryz.ntmps16
  go_wp2_with fail
  refine (HD.out.list1).mono ?_
  rintro e w1 ⟨⟨v, rfl, hrow, hbl⟩, hd1⟩
  have HD1 := Lib.hid hd1
  obtain ⟨LA, lc, rfl, hlz⟩ := own_at hrow
  have hll : (s.names.map (·.1)).length = n := by rw [List.length_map]; exact HN.out
  have HLZ := Lib.hid hlz
  rw [hll] at HLZ ⊢
  obtain ⟨NA, nc, c2, c5, -⟩ := HNM.out w1 hd1
  have hrl := hd1.rlt
  have d2 : w1.drew.cell? ⟨r, 2, none⟩ = some (.slice NA n nc) := c2
  have d5 : w1.drew.cell? ⟨r, 5, none⟩ = some (.bool of) := c5
  have HDD := Lib.hid (hd1.still (Below.refl _ _).drew)
  clear hd1 hrow hbl hlz hll
  go_wp2_with fail
  go_region_held3 (fun w' => w'.cell? ⟨r, 2, none⟩ = some (.slice NA n nc) ∧ w'.cell? ⟨r, 5, none⟩ = some (.bool of))
    (first | go_keep | exact ⟨z2, z5⟩ | exact ⟨d2, d5⟩ | fail)
    (first
      | (go_at_call 54
         refine (HU1.out _ HDD.out).mono ?_
         rintro e wx ⟨rfl, rfl⟩)
      | (go_at_call 55; refine (HU2.out _ HDD.out).mono ?_
         rintro e w3 ⟨rfl, hb3⟩
         have z2 : w3.cell? ⟨r, 2, none⟩ = some (.slice NA n nc) := (hb3.cell (p := ⟨r, 2, none⟩) hrl).trans d2
         have z5 : w3.cell? ⟨r, 5, none⟩ = some (.bool of) := (hb3.cell (p := ⟨r, 5, none⟩) hrl).trans d5
         have HD3 := Lib.hid (HDD.out.still hb3)
         have HK3 : Hid (TextsKept w1 w3) := Lib.hid fun b c fr hx => (hb3.block b (Array.getElem?_eq_some_iff.1 hx).1).trans hx
         clear hb3)
      | (go_at_call 56; refine (HO1.out _ HD3.out).mono ?_
         rintro e wx ⟨rfl, rfl⟩)
      )
  go_wp2_with fail
  go_loopw [38] (fun i wr => ∃ j : Nat, j ≤ n ∧ i = .int .i64 j ∧ Duo K B W wr d r s N M ∧ TextsKept w1 wr) (fun i _ => n - (intOf i).toNat)
  case atStart => exact ⟨0, by omega, rfl, HD3.out, HK3.out⟩
  case round =>
    obtain ⟨j, hj, rfl, hd, hk⟩ := hrel
    have HDr := Lib.hid hd
    have HKr := Lib.hid hk
    obtain ⟨NA2, nc2, e2, e5, hnz⟩ := HNM.out wr hd
    by_cases hlt : j < n
    · have hjl : j < s.names.length := by rw [HN.out]; exact hlt
      obtain ⟨hf, hk64, hrd⟩ := hd.readName j hjl
      have hpj : s.names[j]? = some s.names[j] := List.getElem?_eq_getElem hjl
      obtain ⟨p, hp⟩ : ∃ p, s.names[j] = p := ⟨_, rfl⟩
      rw [hp] at hf hk64 hrd hpj
      obtain ⟨nb, rfl, z1, zz2⟩ := hnz j p hpj
      obtain ⟨lb, rfl, -, hlbw, hlc, -, lcs, hlh⟩ := HLZ.out (by omega)
      have hl1 : wr.cell? ⟨lb, j, none⟩ = some (encS p.1) := by
        rw [cell_of_row _ _ _ _ _ _ (hk _ _ _ hlh), ← cell_of_row _ _ _ _ _ _ hlh, hlc j (by omega)]
        simp only [List.getElem?_map, hpj, Option.map_some]
        rfl
      obtain ⟨t, ht, htd, hts⟩ := enc_size p.1
      rw [ht] at z1 hl1
      have HRD := Lib.hid (hd.read3 t (by omega))
      rw [htd] at HRD
      obtain ⟨X, hX⟩ : ∃ X, DM.read p.1 s = X := ⟨_, rfl⟩
      rw [hX] at HRD hrd
      obtain ⟨X1, X2⟩ := X
      obtain ⟨sx, hsx, -, -⟩ := enc_size X1
      have HRE : Hid (Calls Tryz.prog 33 #[.pointer (some ⟨d, 0, none⟩), .string t] wr (fun e w' => e = .returned (.tuple #[.string sx, .int .i64 X2]) ∧ Duo K B W w' d r s N M ∧ Moves B wr w')) := Lib.hid (by
        have := HRD.out
        unfold Text at this
        simp only [hsx] at this
        exact this)
      have g0 : (0 : Int) ≤ (j : Int) := by omega
      have g1 : (j : Int) < (n : Int) := by omega
      have HPJ := Lib.hid hpj
      have HF := Lib.hid hf
      have HRX := Lib.hid hrd
      have HSX := Lib.hid hsx
      clear hd hk hnz hjl hk64 hpj hp hlh hlc ht htd hts hX hsx hf hrd HRD hlbw
      go_wp2_with fail
      refine HRE.out.mono ?_
      rintro e w5 ⟨rfl, hd5, hm5⟩
      have HD5 := Lib.hid hd5
      have HK5 : Hid (TextsKept w1 w5) := Lib.hid fun b c fr hx => hm5.kept _ _ _ _ (HKr.out b c fr hx) (by decide)
      obtain ⟨NA3, nc3, y2, y5, hnz3⟩ := HNM.out w5 hd5
      obtain ⟨nb3, rfl, y1, yy2⟩ := hnz3 j p HPJ.out
      obtain ⟨fb, fc, x1, x2⟩ := hd5.fileCell p.2 HF.out
      have hf4' := hd5.lens.2
      clear hd5 hm5 hnz3 e2 e5 z1 zz2 hl1
      cases of with
      | true =>
        clear x1 x2 y1 yy2 y2
        go_wp2_with fail
        go_quiet (fail)
        go_wp2
        go_roundw
        case rel => exact ⟨j + 1, by omega, by go_num, HD5.out.still (below_drewN (Below.refl _ _) _), HK5.out⟩
        case measure => simp [intOf]; omega
      | false =>
        obtain ⟨q1, q2⟩ := Prod.mk.inj (HRX.out HOFF.out)
        have hat : fileAt s p.2 = s.files[p.2]'HF.out := by
          unfold fileAt
          rw [List.getD_eq_getElem?_getD, List.getElem?_eq_getElem HF.out]
          rfl
        rw [← hat, ← q1, HSX.out] at x2
        subst q2
        obtain ⟨P, hP⟩ : ∃ P, p.2 = P := ⟨_, rfl⟩
        obtain ⟨fl, hfl⟩ : ∃ fl, s.files.length = fl := ⟨_, rfl⟩
        have hPf := HF.out
        rw [hP] at x2 yy2 hPf
        rw [hfl] at x1 hPf hf4'
        have g2 : (0 : Int) ≤ (P : Int) := by omega
        have g3 : (P : Int) < (fl : Int) := by omega
        clear hat q1 hP hfl
        go_wp2_with fail
        go_quiet (fail)
        go_wp2
        go_roundw
        case rel => exact ⟨j + 1, by omega, by go_num, HD5.out.still (below_drewN (Below.refl _ _) _), HK5.out⟩
        case measure => simp [intOf]; omega
    · clear hnz
      go_wp2
      go_ret
      exact ⟨rfl, HDr.out⟩
end Go.Proofs.YtgknkldhjejjmaaGreatDoor

/- A slice of acts that comes in, opened, nil and empty ones too; its sizes. -/
namespace Go.Proofs.YtgknkldhjejjmaaGreatDoor
open Go.ChangeShapes Go.WideShapes Go.ChangeAt Go.RowKit Go.Deep
open DM

/-- a slice of acts that lies below block B: nil and empty ones too -/
def ActsIn (w : World) (B : Nat) (A : Option Addr) (l : List AD) : Prop :=
  (∀ p ∈ l, p.wf) ∧
  (0 < l.length → ∃ b off, A = some ⟨b, off, none⟩ ∧ b < B ∧ ∀ j, (h : j < l.length) →
    (∀ i v, l[j].cells[i]? = some v → w.cell? ⟨b, off + j * 6 + i, none⟩ = some v) ∧ NumsAt w l[j].A l[j].l)

theorem ActsIn.below {w w' : World} {A : Option Addr} {l : List AD} (h : ActsIn w w.heap.size A l) (hb : Below w.heap.size w w') : ActsIn w' w.heap.size A l := by
  refine ⟨h.1, fun hn => ?_⟩
  obtain ⟨b, off, hA, hlt, hc⟩ := h.2 hn
  exact ⟨b, off, hA, hlt, fun j hj => ⟨fun i v hv => (hb.cell (p := ⟨b, off + j * 6 + i, none⟩) hlt).trans ((hc j hj).1 i v hv), (hc j hj).2.below hb⟩⟩

section
variable {H : Type} {enc : TypeId × Value → H} {P : Program} {w : World} {base : Nat} {spare : Nat → Bool} {held : Bool}
theorem open_slice_fields {t e : TypeId} {fs : Array Field} {fuel : Nat} {cs : List Value} {x : DataW H × List MemPlace} (ht : P.underlying t = some (.slice e)) (he : P.underlying e = some (.struct fs))
    (hone : oneCellFields P fs = true) (hC : P.cellsOf e = fs.size) (h : DataW.trod enc P w base spare held fuel t cs = some x) :
    (cs = [.slice none 0 0] ∧ x = (.nil, [])) ∨
    ∃ (a : Addr) (len cap m : Nat) (D : Nat → DataW H) (Pl : Nat → List MemPlace), cs = [.slice (some a) len cap] ∧ base ≤ a.block ∧ len ≤ cap ∧ cap ≤ maxLen ∧ m = (if spare a.block then cap else len) ∧
      x = (.slice ((List.range len).map D) ((List.range (m - len)).map fun j => D (len + j)), MemPlace.row a (m * fs.size) ++ (List.range m).flatMap Pl) ∧
      ∀ i, i < m → ∃ (ys : List (DataW H × List MemPlace)) (n : Nat), D i = .agg (ys.map (·.1)) ∧ Pl i = ys.flatMap (·.2) ∧ ys.length = fs.size ∧
        ∀ (j : Nat) (f : Field), fs[j]? = some f → ∃ (v : Value) (y : DataW H × List MemPlace), w.cell? (a.add (i * fs.size + j)) = some v ∧ ys[j]? = some y ∧ DataW.trod enc P w base spare held n f.type [v] = some y := by
  rcases open_slice ht h with h0 | ⟨a, len, cap, m, n, D, Pl, hcs, hb, hl, hm, hmm, hx, hi⟩
  · exact .inl h0
  · refine .inr ⟨a, len, cap, m, D, Pl, hcs, hb, hl, hm, hmm, by rw [hC] at hx; exact hx, fun i him => ?_⟩
    obtain ⟨cs', hc, ht'⟩ := hi i him
    rw [hC] at hc
    obtain ⟨ys, n', hn', hy, hlen, hyl, hf⟩ := DataW.trod_struct he ht'
    obtain ⟨_, hcl, hat⟩ := World.cells?_some hc
    simp only [Prod.mk.injEq] at hy
    refine ⟨ys, n', hy.1, hy.2, hyl, fun j f hj => ?_⟩
    obtain ⟨ho, hk⟩ := hone_of hone j f hj
    have hjl : j < fs.size := (Array.getElem?_eq_some_iff.1 hj).1
    have hcell := hat j hjl
    have hv : cs'[j]? = some (cs'[j]'(by omega)) := List.getElem?_eq_getElem (by omega)
    have h1 := hf j f hj
    rw [ho, hk] at h1
    have hone' : (cs'.drop j).take 1 = [cs'[j]'(by omega)] := by
      rw [List.drop_eq_getElem_cons (by omega)]
      rfl
    rw [hone'] at h1
    have hys : ys[j]? = some (ys[j]'(by omega)) := List.getElem?_eq_getElem (by omega)
    refine ⟨_, _, ?_, hys, h1.trans hys⟩
    rw [← Go.Deep.add_add, hcell, hv]

theorem open_nums_cell {fuel : Nat} {t e : TypeId} {v : Value} {y : DataW H × List MemPlace} (ht : P.underlying t = some (.slice e)) (he : P.underlying e = some (.int .i64)) (hc : P.cellsOf e = 1) (h8 : P.bytesOf e = 8)
    (hf : DataW.trod enc P w 0 (fun _ => true) true fuel t [v] = some y) (hw : ∀ m ∈ y.1.weights P t, m ≤ reachBytes) :
    ∃ A cap zs, v = .slice A zs.length cap ∧ NumsAt w A zs ∧ (∀ z ∈ zs, fits z) ∧ zs.length * 8 ≤ reachBytes := by
  rcases _root_.Go.ChangeShapes.open_ints ht he hc hf with ⟨hcs, hx⟩ | ⟨a, len, cap, zs, hcs, -, hl, hm, hz, hx, hcell, hwz⟩
  · simp only [List.cons.injEq, and_true] at hcs
    subst hcs
    exact ⟨none, 0, [], rfl, by intro h; simp at h, by simp, by decide⟩
  · simp only [List.cons.injEq, and_true] at hcs
    subst hcs
    simp only [if_true] at hz
    have htl : (zs.take len).length = len := by rw [List.length_take]; omega
    refine ⟨some a, cap, zs.take len, by rw [htl], fun hn => ?_, fun z hzm => ?_, ?_⟩
    · rw [htl] at hn
      obtain ⟨b, off, rfl, hc2⟩ := ints_at hcell (by omega)
      have hlt := block_lt_of_cell (hc2 0 (by omega))
      refine ⟨b, off, rfl, hlt, fun j hj => ?_⟩
      have hj' : j < zs.length := by rw [htl] at hj; omega
      rw [hc2 j hj']
      simp [List.getD, hj']
    · have := hwz z (List.mem_of_mem_take hzm)
      simpa [fits, Lit.wf, IntKind.min, IntKind.max, IntKind.signed, IntKind.bits] using this
    · subst hx
      have h1 := hw (((_root_.Go.ChangeShapes.lits (H := H) .i64 (zs.take len)).length + (_root_.Go.ChangeShapes.lits (H := H) .i64 (zs.drop len)).length) * 8) (by
        simp only [DataW.weights, ht, List.mem_cons]
        left
        rw [h8])
      have h2 : (_root_.Go.ChangeShapes.lits (H := H) .i64 (zs.take len)).length = len := by simp [lits]; omega
      rw [h2] at h1
      rw [htl]
      omega
end

theorem weights_all {H : Type} {P : Program} {e : TypeId} {d : DataW H} : ∀ {l : List (DataW H)}, d ∈ l → ∀ n ∈ d.weights P e, n ∈ DataW.weightsAll P e l
  | x :: l, h, n, hn => by
    simp only [DataW.weightsAll, List.mem_append]
    rcases List.mem_cons.1 h with rfl | h
    · exact Or.inl hn
    · exact Or.inr (weights_all h n hn)

theorem plain_addr {w : World} {a : Addr} {v : Value} (h : w.cell? a = some v) : ∃ b off, a = ⟨b, off, none⟩ := by
  obtain ⟨b, off, spot⟩ := a
  obtain rfl : spot = none := World.cell?_spot h
  exact ⟨b, off, rfl⟩

theorem add_off (b off k : Nat) : (⟨b, off, none⟩ : Addr).add k = ⟨b, off + k, none⟩ := by unfold Addr.add; split <;> simp_all

section
variable {H : Type} {enc : TypeId × Value → H} {w : World}

end

theorem parts_sized {H : Type} {P : Program} {ts : List TypeId} {ds : List (DataW H)} (h : (DataW.weightsEach P ts ds).all (· ≤ reachBytes) = true) {j : Nat} {t : TypeId} {d : DataW H} (ht : ts[j]? = some t) (hd : ds[j]? = some d) :
    ∀ m ∈ d.weights P t, m ≤ reachBytes := fun m hm => by
  have := List.all_eq_true.1 h _ (DataW.weights_mem_each ht hd m hm)
  simpa using this
end Go.Proofs.YtgknkldhjejjmaaGreatDoor


/- A slice of steps that comes in, opened. -/
namespace Go.Proofs.YtgknkldhjejjmaaGreatDoor
open Go.ChangeShapes Go.WideShapes Go.ChangeAt Go.RowKit Go.Deep
open DM

/-- one step as plain data -/
structure SD where
  what : Int
  log : Int
  body : ByteArray
  on : AD
def SD.cells (a : SD) : Array Value := #[.int .i64 a.what, .int .i64 a.log, .string a.body, .int .i64 a.on.d, .string a.on.k, .string a.on.«to», .int .i64 a.on.n, .int .i64 a.on.m, .slice a.on.A a.on.l.length a.on.c]
instance : Inhabited SD := ⟨⟨0, 0, ⟨#[]⟩, ⟨0, ⟨#[]⟩, ⟨#[]⟩, 0, 0, none, 0, []⟩⟩⟩
structure SD.wf (a : SD) : Prop where
  what : fits a.what
  log : fits a.log
  body : a.body.size ≤ 140737488355328
  on : a.on.wf

/-- a slice of steps that lies below block B: nil and empty ones too -/
def StepsIn (w : World) (B : Nat) (A : Option Addr) (l : List SD) : Prop :=
  (∀ p ∈ l, p.wf) ∧
  (0 < l.length → ∃ b off, A = some ⟨b, off, none⟩ ∧ b < B ∧ ∀ j, (h : j < l.length) →
    (∀ i v, l[j].cells[i]? = some v → w.cell? ⟨b, off + j * 9 + i, none⟩ = some v) ∧ NumsAt w l[j].on.A l[j].on.l)

theorem StepsIn.below {w w' : World} {A : Option Addr} {l : List SD} (h : StepsIn w w.heap.size A l) (hb : Below w.heap.size w w') : StepsIn w' w.heap.size A l := by
  refine ⟨h.1, fun hn => ?_⟩
  obtain ⟨b, off, hA, hlt, hc⟩ := h.2 hn
  exact ⟨b, off, hA, hlt, fun j hj => ⟨fun i v hv => (hb.cell (p := ⟨b, off + j * 9 + i, none⟩) hlt).trans ((hc j hj).1 i v hv), (hc j hj).2.below hb⟩⟩

section
variable {H : Type} {enc : TypeId × Value → H} {P : Program} {w : World} {base : Nat} {spare : Nat → Bool} {held : Bool}
/-- the one-cell fields of a struct -/
theorem struct_field {e : TypeId} {fs : Array Field} {fuel : Nat} {cs : List Value} {x : DataW H × List MemPlace} (he : P.underlying e = some (.struct fs)) (h : DataW.trod enc P w base spare held fuel e cs = some x) :
    ∃ (ys : List (DataW H × List MemPlace)) (n : Nat), x.1 = .agg (ys.map (·.1)) ∧ cs.length = P.cellsOf e ∧ ys.length = fs.size ∧
      (∀ (j : Nat) (f : Field), fs[j]? = some f → ∀ (t : TypeId) (o k : Nat), f.type = t → f.offset = o → P.cellsOf t = k → ∃ y, ys[j]? = some y ∧ DataW.trod enc P w base spare held n t ((cs.drop o).take k) = some y) := by
  obtain ⟨ys, n, -, hy, hlen, hyl, hf⟩ := DataW.trod_struct he h
  refine ⟨ys, n, by rw [hy], hlen, hyl, fun j f hj t o k ht ho hk => ?_⟩
  subst ht ho hk
  have hjl : j < fs.size := (Array.getElem?_eq_some_iff.1 hj).1
  exact ⟨_, List.getElem?_eq_getElem (by omega), (hf j f hj).trans (List.getElem?_eq_getElem (by omega))⟩
theorem one_of {cs : List Value} {o : Nat} (h : o < cs.length) : (cs.drop o).take 1 = [cs[o]] := by
  rw [List.drop_eq_getElem_cons h]
  rfl
end

section
variable {H : Type} {enc : TypeId × Value → H} {w : World}

set_option maxRecDepth 100000 in
set_option maxHeartbeats 1000000 in
theorem open_steps {r : Reach} {b0 : Nat} {v : Value} {d : DataW H} {p : List MemPlace} (hval : Value.okWide Tryz.prog w r b0 22 v) (h : DataW.Trod enc Tryz.prog w 0 (fun _ => true) true 22 v d p)
    (hw : ∀ m ∈ d.weights Tryz.prog 22, m ≤ reachBytes) :
    ∃ A n cap l, v = .slice A n cap ∧ l.length = n ∧ StepsIn w w.heap.size A l ∧ n * 112 ≤ reachBytes ∧ n ≤ cap := by
  obtain ⟨a0, len, cap, rfl⟩ := okWide_slice Tryz.underlying22 hval
  obtain ⟨fuel, hf⟩ := h
  have hC : Tryz.prog.cellsOf 32 = 9 := by kernel_rfl
  have hCA : Tryz.prog.cellsOf 30 = 6 := by kernel_rfl
  have q1 : Tryz.prog.cellsOf 3 = 1 := by kernel_rfl
  have q2 : Tryz.prog.cellsOf 2 = 1 := by kernel_rfl
  have q3 : Tryz.prog.cellsOf 9 = 1 := by kernel_rfl
  have q4 : Tryz.prog.cellsOf 28 = 1 := by kernel_rfl
  rcases open_slice Tryz.underlying22 hf with ⟨hcs, hx⟩ | ⟨a, len', cap', m, n, D, Pl, hcs, -, hl, hm, hmm, hx, hi⟩
  · simp [Value.cells] at hcs
    obtain ⟨rfl, rfl, rfl⟩ := hcs
    exact ⟨none, 0, 0, [], rfl, rfl, ⟨by simp, by simp⟩, by decide, by decide⟩
  · simp [Value.cells] at hcs
    obtain ⟨rfl, rfl, rfl⟩ := hcs
    simp only [if_true] at hmm
    rw [hC] at hx
    simp only [Prod.mk.injEq] at hx
    obtain ⟨rfl, -⟩ := hx
    have hpart : ∀ i, i < len → ∃ q : SD, q.wf ∧ (∀ j u, q.cells[j]? = some u → w.cell? (a.add (i * 9 + j)) = some u) ∧ NumsAt w q.on.A q.on.l := by
      intro i hil
      obtain ⟨cs, hc, ht⟩ := hi i (by omega)
      rw [hC] at hc
      obtain ⟨_, hcl, hat⟩ := World.cells?_some hc
      obtain ⟨ys, n1, hD, hlen, hyl, hfs⟩ := struct_field Tryz.underlying32 ht
      rw [hC] at hlen
      have hD : D i = _ := hD
      obtain ⟨y0, hy0, h0⟩ := hfs 0 _ rfl 3 0 1 rfl rfl q1
      obtain ⟨y1, hy1, h1⟩ := hfs 1 _ rfl 2 1 1 rfl rfl q2
      obtain ⟨y2, hy2, h2⟩ := hfs 2 _ rfl 9 2 1 rfl rfl q3
      obtain ⟨y3, hy3, h3⟩ := hfs 3 _ rfl 30 3 6 rfl rfl hCA
      rw [one_of (by omega)] at h0 h1 h2
      obtain ⟨zs, n2, hE, hlen2, hzl, hgs⟩ := struct_field Tryz.underlying30 h3
      have hact : (cs.drop 3).take 6 = cs.drop 3 := List.take_of_length_le (by rw [List.length_drop]; omega)
      rw [hact] at hgs hlen2
      have hdl : (cs.drop 3).length = 6 := by rw [List.length_drop]; omega
      obtain ⟨e0, he0, g0⟩ := hgs 0 _ rfl 3 0 1 rfl rfl q1
      obtain ⟨e1, he1, g1⟩ := hgs 1 _ rfl 9 1 1 rfl rfl q3
      obtain ⟨e2, he2, g2⟩ := hgs 2 _ rfl 9 2 1 rfl rfl q3
      obtain ⟨e3, he3, g3⟩ := hgs 3 _ rfl 3 3 1 rfl rfl q1
      obtain ⟨e4, he4, g4⟩ := hgs 4 _ rfl 3 4 1 rfl rfl q1
      obtain ⟨e5, he5, g5⟩ := hgs 5 _ rfl 28 5 1 rfl rfl q4
      rw [one_of (by omega)] at g0 g1 g2 g3 g4 g5
      simp only [List.getElem_drop] at g0 g1 g2 g3 g4 g5
      have hcell : ∀ j (hj : j < 9), w.cell? (a.add (i * 9 + j)) = some (cs[j]'(by omega)) := fun j hj => by
        have hv : cs[j]? = some (cs[j]'(by omega)) := List.getElem?_eq_getElem (by omega)
        rw [← Go.Deep.add_add, hat j hj, hv]
      have c0 := hcell 0 (by decide)
      have c1 := hcell 1 (by decide)
      have c2 := hcell 2 (by decide)
      have c3 := hcell 3 (by decide)
      have c4 := hcell 4 (by decide)
      have c5 := hcell 5 (by decide)
      have c6 := hcell 6 (by decide)
      have c7 := hcell 7 (by decide)
      have c8 := hcell 8 (by decide)
      obtain ⟨z0, hz0, -, w0⟩ := DataW.trod_int Tryz.underlying3 h0
      obtain ⟨z1, hz1, -, w1⟩ := DataW.trod_int Tryz.underlying2 h1
      obtain ⟨s2, hs2, hy2', -⟩ := DataW.trod_string Tryz.underlying9 h2
      obtain ⟨z3, hz3, -, w3⟩ := DataW.trod_int Tryz.underlying3 g0
      obtain ⟨s4, hs4, hy4', -⟩ := DataW.trod_string Tryz.underlying9 g1
      obtain ⟨s5, hs5, hy5', -⟩ := DataW.trod_string Tryz.underlying9 g2
      obtain ⟨z6, hz6, -, w6⟩ := DataW.trod_int Tryz.underlying3 g3
      obtain ⟨z7, hz7, -, w7⟩ := DataW.trod_int Tryz.underlying3 g4
      have hin : ∀ (j : Nat) (t : TypeId) (y : DataW H × List MemPlace), ([3, 2, 9, 30] : List TypeId)[j]? = some t → ys[j]? = some y → ∀ k ∈ y.1.weights Tryz.prog t, k ≤ reachBytes := by
        intro j t y hjt hjy k hk
        refine hw _ ?_
        simp only [DataW.weights, Tryz.underlying22, List.mem_cons, List.mem_append]
        refine Or.inr (Or.inl (weights_all (List.mem_map.2 ⟨i, List.mem_range.2 hil, rfl⟩) _ ?_))
        rw [hD]
        simp only [DataW.weights, Tryz.underlying32]
        refine DataW.weights_mem_each (j := j) (t := t) (d := y.1) hjt ?_ _ hk
        rw [List.getElem?_map, hjy]; rfl
      have hin2 : ∀ (j : Nat) (t : TypeId) (y : DataW H × List MemPlace), ([3, 9, 9, 3, 3, 28] : List TypeId)[j]? = some t → zs[j]? = some y → ∀ k ∈ y.1.weights Tryz.prog t, k ≤ reachBytes := by
        intro j t y hjt hjy k hk
        refine hin 3 _ y3 rfl hy3 _ ?_
        rw [hE]
        simp only [DataW.weights, Tryz.underlying30]
        refine DataW.weights_mem_each (j := j) (t := t) (d := y.1) hjt ?_ _ hk
        rw [List.getElem?_map, hjy]; rfl
      obtain ⟨A8, cap8, l8, hv8, hn8, hfit8, h88⟩ := open_nums_cell Tryz.underlying28 Tryz.underlying3 (by kernel_rfl) (by kernel_rfl) g5 (hin2 5 _ e5 rfl he5)
      simp only [List.cons.injEq, and_true] at hz0 hz1 hs2 hz3 hs4 hs5 hz6 hz7
      simp only [Nat.add_zero, Nat.reduceAdd] at hz3 hs4 hs5 hz6 hz7 hv8
      rw [hz0] at c0
      rw [hz1] at c1
      rw [hs2] at c2
      rw [hz3] at c3
      rw [hs4] at c4
      rw [hs5] at c5
      rw [hz6] at c6
      rw [hz7] at c7
      rw [hv8] at c8
      have k2 := hin 2 _ y2 rfl hy2 s2.size (by rw [hy2']; simp [DataW.weights])
      have k4 := hin2 1 _ e1 rfl he1 s4.size (by rw [hy4']; simp [DataW.weights])
      have k5 := hin2 2 _ e2 rfl he2 s5.size (by rw [hy5']; simp [DataW.weights])
      have kk2 : s2.size ≤ 140737488355328 := by unfold reachBytes at k2; omega
      have kk4 : s4.size ≤ 140737488355328 := by unfold reachBytes at k4; omega
      have kk5 : s5.size ≤ 140737488355328 := by unfold reachBytes at k5; omega
      have kh : l8.length * 8 ≤ 140737488355328 := by unfold reachBytes at h88; omega
      have fit : ∀ z : Int, (Lit.int .i64 z).wf → fits z := fun z h => by simpa [fits, Lit.wf, IntKind.min, IntKind.max, IntKind.signed, IntKind.bits] using h
      refine ⟨⟨z0, z1, s2, ⟨z3, s4, s5, z6, z7, A8, cap8, l8⟩⟩, ⟨fit _ w0, fit _ w1, kk2, ⟨fit _ w3, kk4, kk5, fit _ w6, fit _ w7, hfit8, kh⟩⟩, fun j u hu => ?_, hn8⟩
      match j, hu with
      | 0, hu => cases hu; exact c0
      | 1, hu => cases hu; exact c1
      | 2, hu => cases hu; exact c2
      | 3, hu => cases hu; exact c3
      | 4, hu => cases hu; exact c4
      | 5, hu => cases hu; exact c5
      | 6, hu => cases hu; exact c6
      | 7, hu => cases hu; exact c7
      | 8, hu => cases hu; exact c8
      | j + 9, hu => simp [SD.cells] at hu
    obtain ⟨f, hf2⟩ := choose_lt hpart
    refine ⟨some a, len, cap, (List.range len).map f, rfl, by simp, ⟨fun q hq => ?_, fun hn => ?_⟩, ?_, hl⟩
    · obtain ⟨i, hi', rfl⟩ := List.mem_map.1 hq
      exact (hf2 i (List.mem_range.1 hi')).1
    · simp only [List.length_map, List.length_range] at hn
      have hc0 := (hf2 0 hn).2.1 0 _ rfl
      obtain ⟨b, off, rfl⟩ := plain_addr hc0
      refine ⟨b, off, rfl, block_lt_of_cell hc0, fun j hj => ?_⟩
      simp only [List.length_map, List.length_range] at hj
      obtain ⟨-, cc, hnn⟩ := hf2 j hj
      simp only [List.getElem_map, List.getElem_range]
      refine ⟨fun i u hu => ?_, hnn⟩
      have := cc i u hu
      rw [add_off] at this
      rw [Nat.add_assoc]
      exact this
    · have h1 := hw ((len + (cap - len)) * 112) (by
        simp only [DataW.weights, Tryz.underlying22, List.mem_cons, List.length_map, List.length_range]
        left
        rw [show Tryz.prog.bytesOf 32 = 112 by kernel_rfl, hmm])
      exact Nat.le_trans (Nat.mul_le_mul_right 112 (Nat.le_add_right len (cap - len))) h1
end
end Go.Proofs.YtgknkldhjejjmaaGreatDoor

