/- Texts joined by bundle.py: AcB. -/
import Derived.Test.YtgknkldhjejjmaaGreatDoorZbi


/- act: a call of both disks. Made by gen_acb.py. -/
namespace Go.Proofs.YtgknkldhjejjmaaGreatDoor
open Go.RowKit Go.Maps
open DM

theorem Duo.cell {x : Nat} {C : Array Value} {B : Nat} {W w : World} {d r : Nat} {s : St} {N M : Nat} (h : Duo (some (x, C)) B W w d r s N M) (j : Nat) (v : Value) (hv : C[j]? = some v) : w.cell? ⟨x, j, none⟩ = some v := by
  rw [cell_of_row _ _ _ _ _ _ (h.box x C rfl)]; exact hv
theorem Mid.cell {x : Nat} {C : Array Value} {B : Nat} {W w : World} {d r : Nat} {s s' : St} {N M N' : Nat} (h : Mid (some (x, C)) B W w d r s s' N M N') (j : Nat) (v : Value) (hv : C[j]? = some v) : w.cell? ⟨x, j, none⟩ = some v := by
  rw [cell_of_row _ _ _ _ _ _ (h.box x C rfl)]; exact hv
theorem NumsAt.below {w w' : World} {A : Option Addr} {l : List Int} (h : NumsAt w A l) (hb : Below w.heap.size w w') : NumsAt w' A l := fun h0 => by
  obtain ⟨b, off, hA, hlt, hc⟩ := h h0
  exact ⟨b, off, hA, Nat.lt_of_lt_of_le hlt hb.size, fun j hj => (hb.cell (p := ⟨b, off + j, none⟩) hlt).trans (hc j hj)⟩

/-- what an act leaves -/
def ActOut (B : Nat) (W : World) (d r N M : Nat) (e : Ending) (w' : World) : Prop := e = .returned (.bool true) ∧ ∃ s', Duo none B W w' d r s' (N + 1) M

set_option maxRecDepth 100000 in
set_option maxHeartbeats 4000000 in
theorem act_p0 {K : Box} {B : Nat} {W w : World} {d r : Nat} {s : St} {N M : Nat} (h : Duo K B W w d r s N M) (hN : N + 1 < 1000000000) (a : AD) (hw : a.wf) (hM : a.l.length ≤ M) (hnums : NumsAt w a.A a.l) (hm : a.d.tmod 12 = 0) :
    Calls Tryz.prog 15 #[.pointer (some ⟨d, 0, none⟩), .pointer (some ⟨r, 0, none⟩), a.val] w (ActOut B W d r N M) := by
  obtain ⟨D, k, «to», n, m, A, c, l⟩ := a
  obtain ⟨hd, hk, hto, hn, hmm, hl, hl8⟩ := hw
  unfold AD.val AD.cells
  simp only at hm hk hto hn hmm hl hl8 hM hnums ⊢
  have HST : Hid (∀ w2, Below (w.heap.size + 1) (w.alloc (.cells #[.int .i64 D, .string k, .string «to», .int .i64 n, .int .i64 m, .slice A l.length c] 30)) w2 → Duo (some (w.heap.size, #[.int .i64 D, .string k, .string «to», .int .i64 n, .int .i64 m, .slice A l.length c])) B W w2 d r s N M) := Lib.hid fun w2 hb => (h.boxed #[.int .i64 D, .string k, .string «to», .int .i64 n, .int .i64 m, .slice A l.length c]).still (by simpa using hb)
  have HNM := Lib.hid (hnums.below ((Below.refl w.heap.size w).alloc (Nat.le_refl _) (.cells #[.int .i64 D, .string k, .string «to», .int .i64 n, .int .i64 m, .slice A l.length c] 30)))
  have hBx : B ≤ (w.alloc (.cells #[.int .i64 D, .string k, .string «to», .int .i64 n, .int .i64 m, .slice A l.length c] 30)).heap.size := Nat.le_trans h.live.le' (by simp)
  have hbx := heap_alloc_new w (.cells #[.int .i64 D, .string k, .string «to», .int .i64 n, .int .i64 m, .slice A l.length c] 30)
  obtain ⟨x, hx⟩ : ∃ x, w.heap.size = x := ⟨_, rfl⟩
  rw [hx] at HST hbx
  have HBX := Lib.hid hbx
  obtain ⟨ln, hln⟩ : ∃ ln, l.length = ln := ⟨_, rfl⟩
  have HLN := Lib.hid hln
  rw [hln] at HST HNM hBx HBX ⊢
  clear h hnums hbx hln
  have HCB := Lib.hid (fun (W' : World) (hB : Duo (some (x, #[.int .i64 D, .string k, .string «to», .int .i64 n, .int .i64 m, .slice A ln c])) B W W' d r s N M) => hB.create1 hN k hk)
  have HCR := Lib.hid (fun (W' : World) (hB : Mid (some (x, #[.int .i64 D, .string k, .string «to», .int .i64 n, .int .i64 m, .slice A ln c])) B W W' d r s (DM.create k.data.toList s).2 N M (N + 1)) => Mid.create2 k hB hN)
  obtain ⟨R, hR⟩ : ∃ R, DM.create k.data.toList s = R := ⟨_, rfl⟩
  rw [hR] at HCB HCR
  obtain ⟨R1, R2⟩ := R
  clear hR
  go_enter Tryz.func15, Tryz.ntmps15
  go_wp2_with (at_builtin; refine wpList_nums rfl _ _ rfl rfl rfl A ln c l HLN.out rfl HNM.out hl8 B hBx ?_)
  intro A' c' w2 ho hb
  rw [HLN.out]
  have HO := Lib.hid ho
  have HD := Lib.hid (HST.out w2 hb)
  have c1 : w2.cell? ⟨x, 1, none⟩ = some (.string k) := HD.out.cell 1 _ rfl
  clear ho hb HST HNM hBx HBX
  have HBD := Lib.hid (HD.out.still (Below.refl _ _).drew)
  go_wp2_with fail
  have d1 : w2.drew.cell? ⟨x, 1, none⟩ = some (.string k) := c1
  go_region_held3 (fun w' => w'.cell? ⟨x, 1, none⟩ = some (.string k))
    (first | go_keep | exact z1 | exact y1 | exact d1 | fail)
    (first
      | (go_at_call 20
         refine (HCB.out _ HBD.out).mono ?_
         rintro e w3 ⟨rfl, hbo⟩
         have HB2 := Lib.hid hbo
         have z1 : w3.cell? ⟨x, 1, none⟩ = some (.string k) := HB2.out.cell 1 _ rfl
         clear hbo)
      | (go_at_call 23; refine (HCR.out _ HB2.out).mono ?_
         rintro e w4 ⟨rfl, hbo⟩
         have HB3 := Lib.hid hbo
         have y1 : w4.cell? ⟨x, 1, none⟩ = some (.string k) := HB3.out.cell 1 _ rfl
         clear hbo)
      )
  go_wp2
  go_ret
  exact ⟨rfl, _, HB3.out.unboxed⟩

end Go.Proofs.YtgknkldhjejjmaaGreatDoor

/- act: Append, Sync. Made by gen_acb.py. -/
namespace Go.Proofs.YtgknkldhjejjmaaGreatDoor
open Go.RowKit Go.Maps
open DM

set_option maxRecDepth 100000 in
set_option maxHeartbeats 4000000 in
theorem act_p1 {K : Box} {B : Nat} {W w : World} {d r : Nat} {s : St} {N M : Nat} (h : Duo K B W w d r s N M) (hN : N + 1 < 1000000000) (a : AD) (hw : a.wf) (hM : a.l.length ≤ M) (hnums : NumsAt w a.A a.l) (hm : a.d.tmod 12 = 1) :
    Calls Tryz.prog 15 #[.pointer (some ⟨d, 0, none⟩), .pointer (some ⟨r, 0, none⟩), a.val] w (ActOut B W d r N M) := by
  obtain ⟨D, k, «to», n, m, A, c, l⟩ := a
  obtain ⟨hd, hk, hto, hn, hmm, hl, hl8⟩ := hw
  unfold AD.val AD.cells
  simp only at hm hk hto hn hmm hl hl8 hM hnums ⊢
  have HST : Hid (∀ w2, Below (w.heap.size + 1) (w.alloc (.cells #[.int .i64 D, .string k, .string «to», .int .i64 n, .int .i64 m, .slice A l.length c] 30)) w2 → Duo (some (w.heap.size, #[.int .i64 D, .string k, .string «to», .int .i64 n, .int .i64 m, .slice A l.length c])) B W w2 d r s N M) := Lib.hid fun w2 hb => (h.boxed #[.int .i64 D, .string k, .string «to», .int .i64 n, .int .i64 m, .slice A l.length c]).still (by simpa using hb)
  have HNM := Lib.hid (hnums.below ((Below.refl w.heap.size w).alloc (Nat.le_refl _) (.cells #[.int .i64 D, .string k, .string «to», .int .i64 n, .int .i64 m, .slice A l.length c] 30)))
  have hBx : B ≤ (w.alloc (.cells #[.int .i64 D, .string k, .string «to», .int .i64 n, .int .i64 m, .slice A l.length c] 30)).heap.size := Nat.le_trans h.live.le' (by simp)
  have hbx := heap_alloc_new w (.cells #[.int .i64 D, .string k, .string «to», .int .i64 n, .int .i64 m, .slice A l.length c] 30)
  obtain ⟨x, hx⟩ : ∃ x, w.heap.size = x := ⟨_, rfl⟩
  rw [hx] at HST hbx
  have HBX := Lib.hid hbx
  obtain ⟨ln, hln⟩ : ∃ ln, l.length = ln := ⟨_, rfl⟩
  have HLN := Lib.hid hln
  rw [hln] at HST HNM hBx HBX ⊢
  clear h hnums hbx hln
  have HCB := Lib.hid (fun (W' : World) (hB : Duo (some (x, #[.int .i64 D, .string k, .string «to», .int .i64 n, .int .i64 m, .slice A ln c])) B W W' d r s N M) => hB.append1 hN k «to» hk)
  have HCR := Lib.hid (fun (W' : World) (hB : Mid (some (x, #[.int .i64 D, .string k, .string «to», .int .i64 n, .int .i64 m, .slice A ln c])) B W W' d r s (DM.append k.data.toList «to».data.toList s).2 N M (N + 1)) => Mid.append2 k «to» hB hN hto)
  obtain ⟨R, hR⟩ : ∃ R, DM.append k.data.toList «to».data.toList s = R := ⟨_, rfl⟩
  rw [hR] at HCB HCR
  obtain ⟨R1, R2⟩ := R
  clear hR
  go_enter Tryz.func15, Tryz.ntmps15
  go_wp2_with (at_builtin; refine wpList_nums rfl _ _ rfl rfl rfl A ln c l HLN.out rfl HNM.out hl8 B hBx ?_)
  intro A' c' w2 ho hb
  rw [HLN.out]
  have HO := Lib.hid ho
  have HD := Lib.hid (HST.out w2 hb)
  have c1 : w2.cell? ⟨x, 1, none⟩ = some (.string k) := HD.out.cell 1 _ rfl
  have c2 : w2.cell? ⟨x, 2, none⟩ = some (.string «to») := HD.out.cell 2 _ rfl
  clear ho hb HST HNM hBx HBX
  have HBD := Lib.hid (HD.out.still (Below.refl _ _).drew)
  go_wp2_with fail
  have d1 : w2.drew.cell? ⟨x, 1, none⟩ = some (.string k) := c1
  have d2 : w2.drew.cell? ⟨x, 2, none⟩ = some (.string «to») := c2
  go_region_held3 (fun w' => w'.cell? ⟨x, 1, none⟩ = some (.string k) ∧ w'.cell? ⟨x, 2, none⟩ = some (.string «to»))
    (first | go_keep | exact ⟨z1, z2⟩ | exact ⟨y1, y2⟩ | exact ⟨d1, d2⟩ | fail)
    (first
      | (go_at_call 27
         refine (HCB.out _ HBD.out).mono ?_
         rintro e w3 ⟨rfl, hbo⟩
         have HB2 := Lib.hid hbo
         have z1 : w3.cell? ⟨x, 1, none⟩ = some (.string k) := HB2.out.cell 1 _ rfl
         have z2 : w3.cell? ⟨x, 2, none⟩ = some (.string «to») := HB2.out.cell 2 _ rfl
         clear hbo)
      | (go_at_call 31; refine (HCR.out _ HB2.out).mono ?_
         rintro e w4 ⟨rfl, hbo⟩
         have HB3 := Lib.hid hbo
         have y1 : w4.cell? ⟨x, 1, none⟩ = some (.string k) := HB3.out.cell 1 _ rfl
         have y2 : w4.cell? ⟨x, 2, none⟩ = some (.string «to») := HB3.out.cell 2 _ rfl
         clear hbo)
      )
  go_wp2
  go_ret
  exact ⟨rfl, _, HB3.out.unboxed⟩

set_option maxRecDepth 100000 in
set_option maxHeartbeats 4000000 in
theorem act_n1 {K : Box} {B : Nat} {W w : World} {d r : Nat} {s : St} {N M : Nat} (h : Duo K B W w d r s N M) (hN : N + 1 < 1000000000) (a : AD) (hw : a.wf) (hM : a.l.length ≤ M) (hnums : NumsAt w a.A a.l) (hm : a.d.tmod 12 = -11) :
    Calls Tryz.prog 15 #[.pointer (some ⟨d, 0, none⟩), .pointer (some ⟨r, 0, none⟩), a.val] w (ActOut B W d r N M) := by
  obtain ⟨D, k, «to», n, m, A, c, l⟩ := a
  obtain ⟨hd, hk, hto, hn, hmm, hl, hl8⟩ := hw
  unfold AD.val AD.cells
  simp only at hm hk hto hn hmm hl hl8 hM hnums ⊢
  have HST : Hid (∀ w2, Below (w.heap.size + 1) (w.alloc (.cells #[.int .i64 D, .string k, .string «to», .int .i64 n, .int .i64 m, .slice A l.length c] 30)) w2 → Duo (some (w.heap.size, #[.int .i64 D, .string k, .string «to», .int .i64 n, .int .i64 m, .slice A l.length c])) B W w2 d r s N M) := Lib.hid fun w2 hb => (h.boxed #[.int .i64 D, .string k, .string «to», .int .i64 n, .int .i64 m, .slice A l.length c]).still (by simpa using hb)
  have HNM := Lib.hid (hnums.below ((Below.refl w.heap.size w).alloc (Nat.le_refl _) (.cells #[.int .i64 D, .string k, .string «to», .int .i64 n, .int .i64 m, .slice A l.length c] 30)))
  have hBx : B ≤ (w.alloc (.cells #[.int .i64 D, .string k, .string «to», .int .i64 n, .int .i64 m, .slice A l.length c] 30)).heap.size := Nat.le_trans h.live.le' (by simp)
  have hbx := heap_alloc_new w (.cells #[.int .i64 D, .string k, .string «to», .int .i64 n, .int .i64 m, .slice A l.length c] 30)
  obtain ⟨x, hx⟩ : ∃ x, w.heap.size = x := ⟨_, rfl⟩
  rw [hx] at HST hbx
  have HBX := Lib.hid hbx
  obtain ⟨ln, hln⟩ : ∃ ln, l.length = ln := ⟨_, rfl⟩
  have HLN := Lib.hid hln
  rw [hln] at HST HNM hBx HBX ⊢
  clear h hnums hbx hln
  have HCB := Lib.hid (fun (W' : World) (hB : Duo (some (x, #[.int .i64 D, .string k, .string «to», .int .i64 n, .int .i64 m, .slice A ln c])) B W W' d r s N M) => hB.append1 hN k «to» hk)
  have HCR := Lib.hid (fun (W' : World) (hB : Mid (some (x, #[.int .i64 D, .string k, .string «to», .int .i64 n, .int .i64 m, .slice A ln c])) B W W' d r s (DM.append k.data.toList «to».data.toList s).2 N M (N + 1)) => Mid.append2 k «to» hB hN hto)
  obtain ⟨R, hR⟩ : ∃ R, DM.append k.data.toList «to».data.toList s = R := ⟨_, rfl⟩
  rw [hR] at HCB HCR
  obtain ⟨R1, R2⟩ := R
  clear hR
  go_enter Tryz.func15, Tryz.ntmps15
  go_wp2_with (at_builtin; refine wpList_nums rfl _ _ rfl rfl rfl A ln c l HLN.out rfl HNM.out hl8 B hBx ?_)
  intro A' c' w2 ho hb
  rw [HLN.out]
  have HO := Lib.hid ho
  have HD := Lib.hid (HST.out w2 hb)
  have c1 : w2.cell? ⟨x, 1, none⟩ = some (.string k) := HD.out.cell 1 _ rfl
  have c2 : w2.cell? ⟨x, 2, none⟩ = some (.string «to») := HD.out.cell 2 _ rfl
  clear ho hb HST HNM hBx HBX
  have HBD := Lib.hid (HD.out.still (Below.refl _ _).drew)
  go_wp2_with fail
  have d1 : w2.drew.cell? ⟨x, 1, none⟩ = some (.string k) := c1
  have d2 : w2.drew.cell? ⟨x, 2, none⟩ = some (.string «to») := c2
  go_region_held3 (fun w' => w'.cell? ⟨x, 1, none⟩ = some (.string k) ∧ w'.cell? ⟨x, 2, none⟩ = some (.string «to»))
    (first | go_keep | exact ⟨z1, z2⟩ | exact ⟨y1, y2⟩ | exact ⟨d1, d2⟩ | fail)
    (first
      | (go_at_call 27
         refine (HCB.out _ HBD.out).mono ?_
         rintro e w3 ⟨rfl, hbo⟩
         have HB2 := Lib.hid hbo
         have z1 : w3.cell? ⟨x, 1, none⟩ = some (.string k) := HB2.out.cell 1 _ rfl
         have z2 : w3.cell? ⟨x, 2, none⟩ = some (.string «to») := HB2.out.cell 2 _ rfl
         clear hbo)
      | (go_at_call 31; refine (HCR.out _ HB2.out).mono ?_
         rintro e w4 ⟨rfl, hbo⟩
         have HB3 := Lib.hid hbo
         have y1 : w4.cell? ⟨x, 1, none⟩ = some (.string k) := HB3.out.cell 1 _ rfl
         have y2 : w4.cell? ⟨x, 2, none⟩ = some (.string «to») := HB3.out.cell 2 _ rfl
         clear hbo)
      )
  go_wp2
  go_ret
  exact ⟨rfl, _, HB3.out.unboxed⟩

set_option maxRecDepth 100000 in
set_option maxHeartbeats 4000000 in
theorem act_p2 {K : Box} {B : Nat} {W w : World} {d r : Nat} {s : St} {N M : Nat} (h : Duo K B W w d r s N M) (hN : N + 1 < 1000000000) (a : AD) (hw : a.wf) (hM : a.l.length ≤ M) (hnums : NumsAt w a.A a.l) (hm : a.d.tmod 12 = 2) :
    Calls Tryz.prog 15 #[.pointer (some ⟨d, 0, none⟩), .pointer (some ⟨r, 0, none⟩), a.val] w (ActOut B W d r N M) := by
  obtain ⟨D, k, «to», n, m, A, c, l⟩ := a
  obtain ⟨hd, hk, hto, hn, hmm, hl, hl8⟩ := hw
  unfold AD.val AD.cells
  simp only at hm hk hto hn hmm hl hl8 hM hnums ⊢
  have HST : Hid (∀ w2, Below (w.heap.size + 1) (w.alloc (.cells #[.int .i64 D, .string k, .string «to», .int .i64 n, .int .i64 m, .slice A l.length c] 30)) w2 → Duo (some (w.heap.size, #[.int .i64 D, .string k, .string «to», .int .i64 n, .int .i64 m, .slice A l.length c])) B W w2 d r s N M) := Lib.hid fun w2 hb => (h.boxed #[.int .i64 D, .string k, .string «to», .int .i64 n, .int .i64 m, .slice A l.length c]).still (by simpa using hb)
  have HNM := Lib.hid (hnums.below ((Below.refl w.heap.size w).alloc (Nat.le_refl _) (.cells #[.int .i64 D, .string k, .string «to», .int .i64 n, .int .i64 m, .slice A l.length c] 30)))
  have hBx : B ≤ (w.alloc (.cells #[.int .i64 D, .string k, .string «to», .int .i64 n, .int .i64 m, .slice A l.length c] 30)).heap.size := Nat.le_trans h.live.le' (by simp)
  have hbx := heap_alloc_new w (.cells #[.int .i64 D, .string k, .string «to», .int .i64 n, .int .i64 m, .slice A l.length c] 30)
  obtain ⟨x, hx⟩ : ∃ x, w.heap.size = x := ⟨_, rfl⟩
  rw [hx] at HST hbx
  have HBX := Lib.hid hbx
  obtain ⟨ln, hln⟩ : ∃ ln, l.length = ln := ⟨_, rfl⟩
  have HLN := Lib.hid hln
  rw [hln] at HST HNM hBx HBX ⊢
  clear h hnums hbx hln
  have HCB := Lib.hid (fun (W' : World) (hB : Duo (some (x, #[.int .i64 D, .string k, .string «to», .int .i64 n, .int .i64 m, .slice A ln c])) B W W' d r s N M) => hB.sync1 hN k hk)
  have HCR := Lib.hid (fun (W' : World) (hB : Mid (some (x, #[.int .i64 D, .string k, .string «to», .int .i64 n, .int .i64 m, .slice A ln c])) B W W' d r s (DM.sync k.data.toList s).2 N M (N + 1)) => Mid.sync2 k hB hN)
  obtain ⟨R, hR⟩ : ∃ R, DM.sync k.data.toList s = R := ⟨_, rfl⟩
  rw [hR] at HCB HCR
  obtain ⟨R1, R2⟩ := R
  clear hR
  go_enter Tryz.func15, Tryz.ntmps15
  go_wp2_with (at_builtin; refine wpList_nums rfl _ _ rfl rfl rfl A ln c l HLN.out rfl HNM.out hl8 B hBx ?_)
  intro A' c' w2 ho hb
  rw [HLN.out]
  have HO := Lib.hid ho
  have HD := Lib.hid (HST.out w2 hb)
  have c1 : w2.cell? ⟨x, 1, none⟩ = some (.string k) := HD.out.cell 1 _ rfl
  clear ho hb HST HNM hBx HBX
  have HBD := Lib.hid (HD.out.still (Below.refl _ _).drew)
  go_wp2_with fail
  have d1 : w2.drew.cell? ⟨x, 1, none⟩ = some (.string k) := c1
  go_region_held3 (fun w' => w'.cell? ⟨x, 1, none⟩ = some (.string k))
    (first | go_keep | exact z1 | exact y1 | exact d1 | fail)
    (first
      | (go_at_call 29
         refine (HCB.out _ HBD.out).mono ?_
         rintro e w3 ⟨rfl, hbo⟩
         have HB2 := Lib.hid hbo
         have z1 : w3.cell? ⟨x, 1, none⟩ = some (.string k) := HB2.out.cell 1 _ rfl
         clear hbo)
      | (go_at_call 32; refine (HCR.out _ HB2.out).mono ?_
         rintro e w4 ⟨rfl, hbo⟩
         have HB3 := Lib.hid hbo
         have y1 : w4.cell? ⟨x, 1, none⟩ = some (.string k) := HB3.out.cell 1 _ rfl
         clear hbo)
      )
  go_wp2
  go_ret
  exact ⟨rfl, _, HB3.out.unboxed⟩

set_option maxRecDepth 100000 in
set_option maxHeartbeats 4000000 in
theorem act_n2 {K : Box} {B : Nat} {W w : World} {d r : Nat} {s : St} {N M : Nat} (h : Duo K B W w d r s N M) (hN : N + 1 < 1000000000) (a : AD) (hw : a.wf) (hM : a.l.length ≤ M) (hnums : NumsAt w a.A a.l) (hm : a.d.tmod 12 = -10) :
    Calls Tryz.prog 15 #[.pointer (some ⟨d, 0, none⟩), .pointer (some ⟨r, 0, none⟩), a.val] w (ActOut B W d r N M) := by
  obtain ⟨D, k, «to», n, m, A, c, l⟩ := a
  obtain ⟨hd, hk, hto, hn, hmm, hl, hl8⟩ := hw
  unfold AD.val AD.cells
  simp only at hm hk hto hn hmm hl hl8 hM hnums ⊢
  have HST : Hid (∀ w2, Below (w.heap.size + 1) (w.alloc (.cells #[.int .i64 D, .string k, .string «to», .int .i64 n, .int .i64 m, .slice A l.length c] 30)) w2 → Duo (some (w.heap.size, #[.int .i64 D, .string k, .string «to», .int .i64 n, .int .i64 m, .slice A l.length c])) B W w2 d r s N M) := Lib.hid fun w2 hb => (h.boxed #[.int .i64 D, .string k, .string «to», .int .i64 n, .int .i64 m, .slice A l.length c]).still (by simpa using hb)
  have HNM := Lib.hid (hnums.below ((Below.refl w.heap.size w).alloc (Nat.le_refl _) (.cells #[.int .i64 D, .string k, .string «to», .int .i64 n, .int .i64 m, .slice A l.length c] 30)))
  have hBx : B ≤ (w.alloc (.cells #[.int .i64 D, .string k, .string «to», .int .i64 n, .int .i64 m, .slice A l.length c] 30)).heap.size := Nat.le_trans h.live.le' (by simp)
  have hbx := heap_alloc_new w (.cells #[.int .i64 D, .string k, .string «to», .int .i64 n, .int .i64 m, .slice A l.length c] 30)
  obtain ⟨x, hx⟩ : ∃ x, w.heap.size = x := ⟨_, rfl⟩
  rw [hx] at HST hbx
  have HBX := Lib.hid hbx
  obtain ⟨ln, hln⟩ : ∃ ln, l.length = ln := ⟨_, rfl⟩
  have HLN := Lib.hid hln
  rw [hln] at HST HNM hBx HBX ⊢
  clear h hnums hbx hln
  have HCB := Lib.hid (fun (W' : World) (hB : Duo (some (x, #[.int .i64 D, .string k, .string «to», .int .i64 n, .int .i64 m, .slice A ln c])) B W W' d r s N M) => hB.sync1 hN k hk)
  have HCR := Lib.hid (fun (W' : World) (hB : Mid (some (x, #[.int .i64 D, .string k, .string «to», .int .i64 n, .int .i64 m, .slice A ln c])) B W W' d r s (DM.sync k.data.toList s).2 N M (N + 1)) => Mid.sync2 k hB hN)
  obtain ⟨R, hR⟩ : ∃ R, DM.sync k.data.toList s = R := ⟨_, rfl⟩
  rw [hR] at HCB HCR
  obtain ⟨R1, R2⟩ := R
  clear hR
  go_enter Tryz.func15, Tryz.ntmps15
  go_wp2_with (at_builtin; refine wpList_nums rfl _ _ rfl rfl rfl A ln c l HLN.out rfl HNM.out hl8 B hBx ?_)
  intro A' c' w2 ho hb
  rw [HLN.out]
  have HO := Lib.hid ho
  have HD := Lib.hid (HST.out w2 hb)
  have c1 : w2.cell? ⟨x, 1, none⟩ = some (.string k) := HD.out.cell 1 _ rfl
  clear ho hb HST HNM hBx HBX
  have HBD := Lib.hid (HD.out.still (Below.refl _ _).drew)
  go_wp2_with fail
  have d1 : w2.drew.cell? ⟨x, 1, none⟩ = some (.string k) := c1
  go_region_held3 (fun w' => w'.cell? ⟨x, 1, none⟩ = some (.string k))
    (first | go_keep | exact z1 | exact y1 | exact d1 | fail)
    (first
      | (go_at_call 29
         refine (HCB.out _ HBD.out).mono ?_
         rintro e w3 ⟨rfl, hbo⟩
         have HB2 := Lib.hid hbo
         have z1 : w3.cell? ⟨x, 1, none⟩ = some (.string k) := HB2.out.cell 1 _ rfl
         clear hbo)
      | (go_at_call 32; refine (HCR.out _ HB2.out).mono ?_
         rintro e w4 ⟨rfl, hbo⟩
         have HB3 := Lib.hid hbo
         have y1 : w4.cell? ⟨x, 1, none⟩ = some (.string k) := HB3.out.cell 1 _ rfl
         clear hbo)
      )
  go_wp2
  go_ret
  exact ⟨rfl, _, HB3.out.unboxed⟩

end Go.Proofs.YtgknkldhjejjmaaGreatDoor

/- act: SyncDir, Rename, Remove. Made by gen_acb.py. -/
namespace Go.Proofs.YtgknkldhjejjmaaGreatDoor
open Go.RowKit Go.Maps
open DM

set_option maxRecDepth 100000 in
set_option maxHeartbeats 4000000 in
theorem act_p3 {K : Box} {B : Nat} {W w : World} {d r : Nat} {s : St} {N M : Nat} (h : Duo K B W w d r s N M) (hN : N + 1 < 1000000000) (a : AD) (hw : a.wf) (hM : a.l.length ≤ M) (hnums : NumsAt w a.A a.l) (hm : a.d.tmod 12 = 3) :
    Calls Tryz.prog 15 #[.pointer (some ⟨d, 0, none⟩), .pointer (some ⟨r, 0, none⟩), a.val] w (ActOut B W d r N M) := by
  obtain ⟨D, k, «to», n, m, A, c, l⟩ := a
  obtain ⟨hd, hk, hto, hn, hmm, hl, hl8⟩ := hw
  unfold AD.val AD.cells
  simp only at hm hk hto hn hmm hl hl8 hM hnums ⊢
  have HST : Hid (∀ w2, Below (w.heap.size + 1) (w.alloc (.cells #[.int .i64 D, .string k, .string «to», .int .i64 n, .int .i64 m, .slice A l.length c] 30)) w2 → Duo (some (w.heap.size, #[.int .i64 D, .string k, .string «to», .int .i64 n, .int .i64 m, .slice A l.length c])) B W w2 d r s N M) := Lib.hid fun w2 hb => (h.boxed #[.int .i64 D, .string k, .string «to», .int .i64 n, .int .i64 m, .slice A l.length c]).still (by simpa using hb)
  have HNM := Lib.hid (hnums.below ((Below.refl w.heap.size w).alloc (Nat.le_refl _) (.cells #[.int .i64 D, .string k, .string «to», .int .i64 n, .int .i64 m, .slice A l.length c] 30)))
  have hBx : B ≤ (w.alloc (.cells #[.int .i64 D, .string k, .string «to», .int .i64 n, .int .i64 m, .slice A l.length c] 30)).heap.size := Nat.le_trans h.live.le' (by simp)
  have hbx := heap_alloc_new w (.cells #[.int .i64 D, .string k, .string «to», .int .i64 n, .int .i64 m, .slice A l.length c] 30)
  obtain ⟨x, hx⟩ : ∃ x, w.heap.size = x := ⟨_, rfl⟩
  rw [hx] at HST hbx
  have HBX := Lib.hid hbx
  obtain ⟨ln, hln⟩ : ∃ ln, l.length = ln := ⟨_, rfl⟩
  have HLN := Lib.hid hln
  rw [hln] at HST HNM hBx HBX ⊢
  clear h hnums hbx hln
  have HCB := Lib.hid (fun (W' : World) (hB : Duo (some (x, #[.int .i64 D, .string k, .string «to», .int .i64 n, .int .i64 m, .slice A ln c])) B W W' d r s N M) => hB.syncDir1 hN)
  have HCR := Lib.hid (fun (W' : World) (hB : Mid (some (x, #[.int .i64 D, .string k, .string «to», .int .i64 n, .int .i64 m, .slice A ln c])) B W W' d r s (DM.syncDir s).2 N M (N + 1)) => Mid.syncDir2 hB hN)
  obtain ⟨R, hR⟩ : ∃ R, DM.syncDir s = R := ⟨_, rfl⟩
  rw [hR] at HCB HCR
  obtain ⟨R1, R2⟩ := R
  clear hR
  go_enter Tryz.func15, Tryz.ntmps15
  go_wp2_with (at_builtin; refine wpList_nums rfl _ _ rfl rfl rfl A ln c l HLN.out rfl HNM.out hl8 B hBx ?_)
  intro A' c' w2 ho hb
  rw [HLN.out]
  have HO := Lib.hid ho
  have HD := Lib.hid (HST.out w2 hb)
  clear ho hb HST HNM hBx HBX
  go_wp2_with fail
  refine (HCB.out _ HD.out).mono ?_
  rintro e w3 ⟨rfl, hbo⟩
  have HB2 := Lib.hid hbo
  clear hbo
  go_wp2_with fail
  refine (HCR.out _ HB2.out).mono ?_
  rintro e w4 ⟨rfl, hbo⟩
  have HB3 := Lib.hid hbo
  clear hbo
  go_wp2
  go_ret
  exact ⟨rfl, _, HB3.out.unboxed⟩

set_option maxRecDepth 100000 in
set_option maxHeartbeats 4000000 in
theorem act_n3 {K : Box} {B : Nat} {W w : World} {d r : Nat} {s : St} {N M : Nat} (h : Duo K B W w d r s N M) (hN : N + 1 < 1000000000) (a : AD) (hw : a.wf) (hM : a.l.length ≤ M) (hnums : NumsAt w a.A a.l) (hm : a.d.tmod 12 = -9) :
    Calls Tryz.prog 15 #[.pointer (some ⟨d, 0, none⟩), .pointer (some ⟨r, 0, none⟩), a.val] w (ActOut B W d r N M) := by
  obtain ⟨D, k, «to», n, m, A, c, l⟩ := a
  obtain ⟨hd, hk, hto, hn, hmm, hl, hl8⟩ := hw
  unfold AD.val AD.cells
  simp only at hm hk hto hn hmm hl hl8 hM hnums ⊢
  have HST : Hid (∀ w2, Below (w.heap.size + 1) (w.alloc (.cells #[.int .i64 D, .string k, .string «to», .int .i64 n, .int .i64 m, .slice A l.length c] 30)) w2 → Duo (some (w.heap.size, #[.int .i64 D, .string k, .string «to», .int .i64 n, .int .i64 m, .slice A l.length c])) B W w2 d r s N M) := Lib.hid fun w2 hb => (h.boxed #[.int .i64 D, .string k, .string «to», .int .i64 n, .int .i64 m, .slice A l.length c]).still (by simpa using hb)
  have HNM := Lib.hid (hnums.below ((Below.refl w.heap.size w).alloc (Nat.le_refl _) (.cells #[.int .i64 D, .string k, .string «to», .int .i64 n, .int .i64 m, .slice A l.length c] 30)))
  have hBx : B ≤ (w.alloc (.cells #[.int .i64 D, .string k, .string «to», .int .i64 n, .int .i64 m, .slice A l.length c] 30)).heap.size := Nat.le_trans h.live.le' (by simp)
  have hbx := heap_alloc_new w (.cells #[.int .i64 D, .string k, .string «to», .int .i64 n, .int .i64 m, .slice A l.length c] 30)
  obtain ⟨x, hx⟩ : ∃ x, w.heap.size = x := ⟨_, rfl⟩
  rw [hx] at HST hbx
  have HBX := Lib.hid hbx
  obtain ⟨ln, hln⟩ : ∃ ln, l.length = ln := ⟨_, rfl⟩
  have HLN := Lib.hid hln
  rw [hln] at HST HNM hBx HBX ⊢
  clear h hnums hbx hln
  have HCB := Lib.hid (fun (W' : World) (hB : Duo (some (x, #[.int .i64 D, .string k, .string «to», .int .i64 n, .int .i64 m, .slice A ln c])) B W W' d r s N M) => hB.syncDir1 hN)
  have HCR := Lib.hid (fun (W' : World) (hB : Mid (some (x, #[.int .i64 D, .string k, .string «to», .int .i64 n, .int .i64 m, .slice A ln c])) B W W' d r s (DM.syncDir s).2 N M (N + 1)) => Mid.syncDir2 hB hN)
  obtain ⟨R, hR⟩ : ∃ R, DM.syncDir s = R := ⟨_, rfl⟩
  rw [hR] at HCB HCR
  obtain ⟨R1, R2⟩ := R
  clear hR
  go_enter Tryz.func15, Tryz.ntmps15
  go_wp2_with (at_builtin; refine wpList_nums rfl _ _ rfl rfl rfl A ln c l HLN.out rfl HNM.out hl8 B hBx ?_)
  intro A' c' w2 ho hb
  rw [HLN.out]
  have HO := Lib.hid ho
  have HD := Lib.hid (HST.out w2 hb)
  clear ho hb HST HNM hBx HBX
  go_wp2_with fail
  refine (HCB.out _ HD.out).mono ?_
  rintro e w3 ⟨rfl, hbo⟩
  have HB2 := Lib.hid hbo
  clear hbo
  go_wp2_with fail
  refine (HCR.out _ HB2.out).mono ?_
  rintro e w4 ⟨rfl, hbo⟩
  have HB3 := Lib.hid hbo
  clear hbo
  go_wp2
  go_ret
  exact ⟨rfl, _, HB3.out.unboxed⟩

set_option maxRecDepth 100000 in
set_option maxHeartbeats 4000000 in
theorem act_p4 {K : Box} {B : Nat} {W w : World} {d r : Nat} {s : St} {N M : Nat} (h : Duo K B W w d r s N M) (hN : N + 1 < 1000000000) (a : AD) (hw : a.wf) (hM : a.l.length ≤ M) (hnums : NumsAt w a.A a.l) (hm : a.d.tmod 12 = 4) :
    Calls Tryz.prog 15 #[.pointer (some ⟨d, 0, none⟩), .pointer (some ⟨r, 0, none⟩), a.val] w (ActOut B W d r N M) := by
  obtain ⟨D, k, «to», n, m, A, c, l⟩ := a
  obtain ⟨hd, hk, hto, hn, hmm, hl, hl8⟩ := hw
  unfold AD.val AD.cells
  simp only at hm hk hto hn hmm hl hl8 hM hnums ⊢
  have HST : Hid (∀ w2, Below (w.heap.size + 1) (w.alloc (.cells #[.int .i64 D, .string k, .string «to», .int .i64 n, .int .i64 m, .slice A l.length c] 30)) w2 → Duo (some (w.heap.size, #[.int .i64 D, .string k, .string «to», .int .i64 n, .int .i64 m, .slice A l.length c])) B W w2 d r s N M) := Lib.hid fun w2 hb => (h.boxed #[.int .i64 D, .string k, .string «to», .int .i64 n, .int .i64 m, .slice A l.length c]).still (by simpa using hb)
  have HNM := Lib.hid (hnums.below ((Below.refl w.heap.size w).alloc (Nat.le_refl _) (.cells #[.int .i64 D, .string k, .string «to», .int .i64 n, .int .i64 m, .slice A l.length c] 30)))
  have hBx : B ≤ (w.alloc (.cells #[.int .i64 D, .string k, .string «to», .int .i64 n, .int .i64 m, .slice A l.length c] 30)).heap.size := Nat.le_trans h.live.le' (by simp)
  have hbx := heap_alloc_new w (.cells #[.int .i64 D, .string k, .string «to», .int .i64 n, .int .i64 m, .slice A l.length c] 30)
  obtain ⟨x, hx⟩ : ∃ x, w.heap.size = x := ⟨_, rfl⟩
  rw [hx] at HST hbx
  have HBX := Lib.hid hbx
  obtain ⟨ln, hln⟩ : ∃ ln, l.length = ln := ⟨_, rfl⟩
  have HLN := Lib.hid hln
  rw [hln] at HST HNM hBx HBX ⊢
  clear h hnums hbx hln
  have HCB := Lib.hid (fun (W' : World) (hB : Duo (some (x, #[.int .i64 D, .string k, .string «to», .int .i64 n, .int .i64 m, .slice A ln c])) B W W' d r s N M) => hB.rename1 hN k «to» hk)
  have HCR := Lib.hid (fun (W' : World) (hB : Mid (some (x, #[.int .i64 D, .string k, .string «to», .int .i64 n, .int .i64 m, .slice A ln c])) B W W' d r s (DM.rename k.data.toList «to».data.toList s).2 N M (N + 1)) => Mid.rename2 k «to» hB hN)
  obtain ⟨R, hR⟩ : ∃ R, DM.rename k.data.toList «to».data.toList s = R := ⟨_, rfl⟩
  rw [hR] at HCB HCR
  obtain ⟨R1, R2⟩ := R
  clear hR
  go_enter Tryz.func15, Tryz.ntmps15
  go_wp2_with (at_builtin; refine wpList_nums rfl _ _ rfl rfl rfl A ln c l HLN.out rfl HNM.out hl8 B hBx ?_)
  intro A' c' w2 ho hb
  rw [HLN.out]
  have HO := Lib.hid ho
  have HD := Lib.hid (HST.out w2 hb)
  have c1 : w2.cell? ⟨x, 1, none⟩ = some (.string k) := HD.out.cell 1 _ rfl
  have c2 : w2.cell? ⟨x, 2, none⟩ = some (.string «to») := HD.out.cell 2 _ rfl
  clear ho hb HST HNM hBx HBX
  have HBD := Lib.hid (HD.out.still (Below.refl _ _).drew)
  go_wp2_with fail
  have d1 : w2.drew.cell? ⟨x, 1, none⟩ = some (.string k) := c1
  have d2 : w2.drew.cell? ⟨x, 2, none⟩ = some (.string «to») := c2
  go_region_held3 (fun w' => w'.cell? ⟨x, 1, none⟩ = some (.string k) ∧ w'.cell? ⟨x, 2, none⟩ = some (.string «to»))
    (first | go_keep | exact ⟨z1, z2⟩ | exact ⟨y1, y2⟩ | exact ⟨d1, d2⟩ | fail)
    (first
      | (go_at_call 40
         refine (HCB.out _ HBD.out).mono ?_
         rintro e w3 ⟨rfl, hbo⟩
         have HB2 := Lib.hid hbo
         have z1 : w3.cell? ⟨x, 1, none⟩ = some (.string k) := HB2.out.cell 1 _ rfl
         have z2 : w3.cell? ⟨x, 2, none⟩ = some (.string «to») := HB2.out.cell 2 _ rfl
         clear hbo)
      | (go_at_call 41; refine (HCR.out _ HB2.out).mono ?_
         rintro e w4 ⟨rfl, hbo⟩
         have HB3 := Lib.hid hbo
         have y1 : w4.cell? ⟨x, 1, none⟩ = some (.string k) := HB3.out.cell 1 _ rfl
         have y2 : w4.cell? ⟨x, 2, none⟩ = some (.string «to») := HB3.out.cell 2 _ rfl
         clear hbo)
      )
  go_wp2
  go_ret
  exact ⟨rfl, _, HB3.out.unboxed⟩

set_option maxRecDepth 100000 in
set_option maxHeartbeats 4000000 in
theorem act_n4 {K : Box} {B : Nat} {W w : World} {d r : Nat} {s : St} {N M : Nat} (h : Duo K B W w d r s N M) (hN : N + 1 < 1000000000) (a : AD) (hw : a.wf) (hM : a.l.length ≤ M) (hnums : NumsAt w a.A a.l) (hm : a.d.tmod 12 = -8) :
    Calls Tryz.prog 15 #[.pointer (some ⟨d, 0, none⟩), .pointer (some ⟨r, 0, none⟩), a.val] w (ActOut B W d r N M) := by
  obtain ⟨D, k, «to», n, m, A, c, l⟩ := a
  obtain ⟨hd, hk, hto, hn, hmm, hl, hl8⟩ := hw
  unfold AD.val AD.cells
  simp only at hm hk hto hn hmm hl hl8 hM hnums ⊢
  have HST : Hid (∀ w2, Below (w.heap.size + 1) (w.alloc (.cells #[.int .i64 D, .string k, .string «to», .int .i64 n, .int .i64 m, .slice A l.length c] 30)) w2 → Duo (some (w.heap.size, #[.int .i64 D, .string k, .string «to», .int .i64 n, .int .i64 m, .slice A l.length c])) B W w2 d r s N M) := Lib.hid fun w2 hb => (h.boxed #[.int .i64 D, .string k, .string «to», .int .i64 n, .int .i64 m, .slice A l.length c]).still (by simpa using hb)
  have HNM := Lib.hid (hnums.below ((Below.refl w.heap.size w).alloc (Nat.le_refl _) (.cells #[.int .i64 D, .string k, .string «to», .int .i64 n, .int .i64 m, .slice A l.length c] 30)))
  have hBx : B ≤ (w.alloc (.cells #[.int .i64 D, .string k, .string «to», .int .i64 n, .int .i64 m, .slice A l.length c] 30)).heap.size := Nat.le_trans h.live.le' (by simp)
  have hbx := heap_alloc_new w (.cells #[.int .i64 D, .string k, .string «to», .int .i64 n, .int .i64 m, .slice A l.length c] 30)
  obtain ⟨x, hx⟩ : ∃ x, w.heap.size = x := ⟨_, rfl⟩
  rw [hx] at HST hbx
  have HBX := Lib.hid hbx
  obtain ⟨ln, hln⟩ : ∃ ln, l.length = ln := ⟨_, rfl⟩
  have HLN := Lib.hid hln
  rw [hln] at HST HNM hBx HBX ⊢
  clear h hnums hbx hln
  have HCB := Lib.hid (fun (W' : World) (hB : Duo (some (x, #[.int .i64 D, .string k, .string «to», .int .i64 n, .int .i64 m, .slice A ln c])) B W W' d r s N M) => hB.rename1 hN k «to» hk)
  have HCR := Lib.hid (fun (W' : World) (hB : Mid (some (x, #[.int .i64 D, .string k, .string «to», .int .i64 n, .int .i64 m, .slice A ln c])) B W W' d r s (DM.rename k.data.toList «to».data.toList s).2 N M (N + 1)) => Mid.rename2 k «to» hB hN)
  obtain ⟨R, hR⟩ : ∃ R, DM.rename k.data.toList «to».data.toList s = R := ⟨_, rfl⟩
  rw [hR] at HCB HCR
  obtain ⟨R1, R2⟩ := R
  clear hR
  go_enter Tryz.func15, Tryz.ntmps15
  go_wp2_with (at_builtin; refine wpList_nums rfl _ _ rfl rfl rfl A ln c l HLN.out rfl HNM.out hl8 B hBx ?_)
  intro A' c' w2 ho hb
  rw [HLN.out]
  have HO := Lib.hid ho
  have HD := Lib.hid (HST.out w2 hb)
  have c1 : w2.cell? ⟨x, 1, none⟩ = some (.string k) := HD.out.cell 1 _ rfl
  have c2 : w2.cell? ⟨x, 2, none⟩ = some (.string «to») := HD.out.cell 2 _ rfl
  clear ho hb HST HNM hBx HBX
  have HBD := Lib.hid (HD.out.still (Below.refl _ _).drew)
  go_wp2_with fail
  have d1 : w2.drew.cell? ⟨x, 1, none⟩ = some (.string k) := c1
  have d2 : w2.drew.cell? ⟨x, 2, none⟩ = some (.string «to») := c2
  go_region_held3 (fun w' => w'.cell? ⟨x, 1, none⟩ = some (.string k) ∧ w'.cell? ⟨x, 2, none⟩ = some (.string «to»))
    (first | go_keep | exact ⟨z1, z2⟩ | exact ⟨y1, y2⟩ | exact ⟨d1, d2⟩ | fail)
    (first
      | (go_at_call 40
         refine (HCB.out _ HBD.out).mono ?_
         rintro e w3 ⟨rfl, hbo⟩
         have HB2 := Lib.hid hbo
         have z1 : w3.cell? ⟨x, 1, none⟩ = some (.string k) := HB2.out.cell 1 _ rfl
         have z2 : w3.cell? ⟨x, 2, none⟩ = some (.string «to») := HB2.out.cell 2 _ rfl
         clear hbo)
      | (go_at_call 41; refine (HCR.out _ HB2.out).mono ?_
         rintro e w4 ⟨rfl, hbo⟩
         have HB3 := Lib.hid hbo
         have y1 : w4.cell? ⟨x, 1, none⟩ = some (.string k) := HB3.out.cell 1 _ rfl
         have y2 : w4.cell? ⟨x, 2, none⟩ = some (.string «to») := HB3.out.cell 2 _ rfl
         clear hbo)
      )
  go_wp2
  go_ret
  exact ⟨rfl, _, HB3.out.unboxed⟩

set_option maxRecDepth 100000 in
set_option maxHeartbeats 4000000 in
theorem act_p5 {K : Box} {B : Nat} {W w : World} {d r : Nat} {s : St} {N M : Nat} (h : Duo K B W w d r s N M) (hN : N + 1 < 1000000000) (a : AD) (hw : a.wf) (hM : a.l.length ≤ M) (hnums : NumsAt w a.A a.l) (hm : a.d.tmod 12 = 5) :
    Calls Tryz.prog 15 #[.pointer (some ⟨d, 0, none⟩), .pointer (some ⟨r, 0, none⟩), a.val] w (ActOut B W d r N M) := by
  obtain ⟨D, k, «to», n, m, A, c, l⟩ := a
  obtain ⟨hd, hk, hto, hn, hmm, hl, hl8⟩ := hw
  unfold AD.val AD.cells
  simp only at hm hk hto hn hmm hl hl8 hM hnums ⊢
  have HST : Hid (∀ w2, Below (w.heap.size + 1) (w.alloc (.cells #[.int .i64 D, .string k, .string «to», .int .i64 n, .int .i64 m, .slice A l.length c] 30)) w2 → Duo (some (w.heap.size, #[.int .i64 D, .string k, .string «to», .int .i64 n, .int .i64 m, .slice A l.length c])) B W w2 d r s N M) := Lib.hid fun w2 hb => (h.boxed #[.int .i64 D, .string k, .string «to», .int .i64 n, .int .i64 m, .slice A l.length c]).still (by simpa using hb)
  have HNM := Lib.hid (hnums.below ((Below.refl w.heap.size w).alloc (Nat.le_refl _) (.cells #[.int .i64 D, .string k, .string «to», .int .i64 n, .int .i64 m, .slice A l.length c] 30)))
  have hBx : B ≤ (w.alloc (.cells #[.int .i64 D, .string k, .string «to», .int .i64 n, .int .i64 m, .slice A l.length c] 30)).heap.size := Nat.le_trans h.live.le' (by simp)
  have hbx := heap_alloc_new w (.cells #[.int .i64 D, .string k, .string «to», .int .i64 n, .int .i64 m, .slice A l.length c] 30)
  obtain ⟨x, hx⟩ : ∃ x, w.heap.size = x := ⟨_, rfl⟩
  rw [hx] at HST hbx
  have HBX := Lib.hid hbx
  obtain ⟨ln, hln⟩ : ∃ ln, l.length = ln := ⟨_, rfl⟩
  have HLN := Lib.hid hln
  rw [hln] at HST HNM hBx HBX ⊢
  clear h hnums hbx hln
  have HCB := Lib.hid (fun (W' : World) (hB : Duo (some (x, #[.int .i64 D, .string k, .string «to», .int .i64 n, .int .i64 m, .slice A ln c])) B W W' d r s N M) => hB.remove1 hN k hk)
  have HCR := Lib.hid (fun (W' : World) (hB : Mid (some (x, #[.int .i64 D, .string k, .string «to», .int .i64 n, .int .i64 m, .slice A ln c])) B W W' d r s (DM.remove k.data.toList s).2 N M (N + 1)) => Mid.remove2 k hB hN)
  obtain ⟨R, hR⟩ : ∃ R, DM.remove k.data.toList s = R := ⟨_, rfl⟩
  rw [hR] at HCB HCR
  obtain ⟨R1, R2⟩ := R
  clear hR
  go_enter Tryz.func15, Tryz.ntmps15
  go_wp2_with (at_builtin; refine wpList_nums rfl _ _ rfl rfl rfl A ln c l HLN.out rfl HNM.out hl8 B hBx ?_)
  intro A' c' w2 ho hb
  rw [HLN.out]
  have HO := Lib.hid ho
  have HD := Lib.hid (HST.out w2 hb)
  have c1 : w2.cell? ⟨x, 1, none⟩ = some (.string k) := HD.out.cell 1 _ rfl
  clear ho hb HST HNM hBx HBX
  have HBD := Lib.hid (HD.out.still (Below.refl _ _).drew)
  go_wp2_with fail
  have d1 : w2.drew.cell? ⟨x, 1, none⟩ = some (.string k) := c1
  go_region_held3 (fun w' => w'.cell? ⟨x, 1, none⟩ = some (.string k))
    (first | go_keep | exact z1 | exact y1 | exact d1 | fail)
    (first
      | (go_at_call 38
         refine (HCB.out _ HBD.out).mono ?_
         rintro e w3 ⟨rfl, hbo⟩
         have HB2 := Lib.hid hbo
         have z1 : w3.cell? ⟨x, 1, none⟩ = some (.string k) := HB2.out.cell 1 _ rfl
         clear hbo)
      | (go_at_call 39; refine (HCR.out _ HB2.out).mono ?_
         rintro e w4 ⟨rfl, hbo⟩
         have HB3 := Lib.hid hbo
         have y1 : w4.cell? ⟨x, 1, none⟩ = some (.string k) := HB3.out.cell 1 _ rfl
         clear hbo)
      )
  go_wp2
  go_ret
  exact ⟨rfl, _, HB3.out.unboxed⟩

set_option maxRecDepth 100000 in
set_option maxHeartbeats 4000000 in
theorem act_n5 {K : Box} {B : Nat} {W w : World} {d r : Nat} {s : St} {N M : Nat} (h : Duo K B W w d r s N M) (hN : N + 1 < 1000000000) (a : AD) (hw : a.wf) (hM : a.l.length ≤ M) (hnums : NumsAt w a.A a.l) (hm : a.d.tmod 12 = -7) :
    Calls Tryz.prog 15 #[.pointer (some ⟨d, 0, none⟩), .pointer (some ⟨r, 0, none⟩), a.val] w (ActOut B W d r N M) := by
  obtain ⟨D, k, «to», n, m, A, c, l⟩ := a
  obtain ⟨hd, hk, hto, hn, hmm, hl, hl8⟩ := hw
  unfold AD.val AD.cells
  simp only at hm hk hto hn hmm hl hl8 hM hnums ⊢
  have HST : Hid (∀ w2, Below (w.heap.size + 1) (w.alloc (.cells #[.int .i64 D, .string k, .string «to», .int .i64 n, .int .i64 m, .slice A l.length c] 30)) w2 → Duo (some (w.heap.size, #[.int .i64 D, .string k, .string «to», .int .i64 n, .int .i64 m, .slice A l.length c])) B W w2 d r s N M) := Lib.hid fun w2 hb => (h.boxed #[.int .i64 D, .string k, .string «to», .int .i64 n, .int .i64 m, .slice A l.length c]).still (by simpa using hb)
  have HNM := Lib.hid (hnums.below ((Below.refl w.heap.size w).alloc (Nat.le_refl _) (.cells #[.int .i64 D, .string k, .string «to», .int .i64 n, .int .i64 m, .slice A l.length c] 30)))
  have hBx : B ≤ (w.alloc (.cells #[.int .i64 D, .string k, .string «to», .int .i64 n, .int .i64 m, .slice A l.length c] 30)).heap.size := Nat.le_trans h.live.le' (by simp)
  have hbx := heap_alloc_new w (.cells #[.int .i64 D, .string k, .string «to», .int .i64 n, .int .i64 m, .slice A l.length c] 30)
  obtain ⟨x, hx⟩ : ∃ x, w.heap.size = x := ⟨_, rfl⟩
  rw [hx] at HST hbx
  have HBX := Lib.hid hbx
  obtain ⟨ln, hln⟩ : ∃ ln, l.length = ln := ⟨_, rfl⟩
  have HLN := Lib.hid hln
  rw [hln] at HST HNM hBx HBX ⊢
  clear h hnums hbx hln
  have HCB := Lib.hid (fun (W' : World) (hB : Duo (some (x, #[.int .i64 D, .string k, .string «to», .int .i64 n, .int .i64 m, .slice A ln c])) B W W' d r s N M) => hB.remove1 hN k hk)
  have HCR := Lib.hid (fun (W' : World) (hB : Mid (some (x, #[.int .i64 D, .string k, .string «to», .int .i64 n, .int .i64 m, .slice A ln c])) B W W' d r s (DM.remove k.data.toList s).2 N M (N + 1)) => Mid.remove2 k hB hN)
  obtain ⟨R, hR⟩ : ∃ R, DM.remove k.data.toList s = R := ⟨_, rfl⟩
  rw [hR] at HCB HCR
  obtain ⟨R1, R2⟩ := R
  clear hR
  go_enter Tryz.func15, Tryz.ntmps15
  go_wp2_with (at_builtin; refine wpList_nums rfl _ _ rfl rfl rfl A ln c l HLN.out rfl HNM.out hl8 B hBx ?_)
  intro A' c' w2 ho hb
  rw [HLN.out]
  have HO := Lib.hid ho
  have HD := Lib.hid (HST.out w2 hb)
  have c1 : w2.cell? ⟨x, 1, none⟩ = some (.string k) := HD.out.cell 1 _ rfl
  clear ho hb HST HNM hBx HBX
  have HBD := Lib.hid (HD.out.still (Below.refl _ _).drew)
  go_wp2_with fail
  have d1 : w2.drew.cell? ⟨x, 1, none⟩ = some (.string k) := c1
  go_region_held3 (fun w' => w'.cell? ⟨x, 1, none⟩ = some (.string k))
    (first | go_keep | exact z1 | exact y1 | exact d1 | fail)
    (first
      | (go_at_call 38
         refine (HCB.out _ HBD.out).mono ?_
         rintro e w3 ⟨rfl, hbo⟩
         have HB2 := Lib.hid hbo
         have z1 : w3.cell? ⟨x, 1, none⟩ = some (.string k) := HB2.out.cell 1 _ rfl
         clear hbo)
      | (go_at_call 39; refine (HCR.out _ HB2.out).mono ?_
         rintro e w4 ⟨rfl, hbo⟩
         have HB3 := Lib.hid hbo
         have y1 : w4.cell? ⟨x, 1, none⟩ = some (.string k) := HB3.out.cell 1 _ rfl
         clear hbo)
      )
  go_wp2
  go_ret
  exact ⟨rfl, _, HB3.out.unboxed⟩

end Go.Proofs.YtgknkldhjejjmaaGreatDoor


