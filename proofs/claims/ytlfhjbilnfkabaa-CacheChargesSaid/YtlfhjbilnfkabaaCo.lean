/- Put. -/
import Derived.Test.YtlfhjbilnfkabaaCn
namespace Go.Proofs.Ytlfhjbilnfkabaa
open Go.RowKit Go.Maps
open BM CM

section
variable {w : World} {c z b N : Nat} {Z : Zs} {s : S}

set_option maxRecDepth 100000 in
set_option maxHeartbeats 1000000 in
theorem put_there (h : Rep w c z b N Z s) {f k : Int} (hf : i64 f) (hk : i64 k) (d : ByteArray) {q : Nat} (he : at_ Z f k = some q) :
    Calls Try.prog 19 #[.pointer (some ⟨c, 0, none⟩), keyV f k, .string d] w fun e w' => e = .returned (.int .i64 11) ∧ Below w.heap.size w w' := by
  have hal : Below w.heap.size w (w.alloc (.cells #[.int .i64 f, .int .i64 k] 42)) := (Below.refl _ w).alloc (Nat.le_refl _) _
  have hfd := find_any (h.below hal).cor hf hk
  rw [he] at hfd
  unfold pV at hfd
  have HFD := Lib.hid hfd
  have HAL := Lib.hid hal
  have HI := Lib.hid (idle_any c b _ (h.below hal).cor.c0)
  have HSZ : Hid (w.heap.size ≤ (w.alloc (.cells #[.int .i64 f, .int .i64 k] 42)).heap.size) := Lib.hid (by simp)
  have hrow := heap_alloc_new w (.cells #[.int .i64 f, .int .i64 k] 42)
  have k0 : (w.alloc (.cells #[.int .i64 f, .int .i64 k] 42)).cell? ⟨w.heap.size, 0, none⟩ = some (.int .i64 f) := cell_of_row _ _ _ _ _ _ hrow
  have k1 : (w.alloc (.cells #[.int .i64 f, .int .i64 k] 42)).cell? ⟨w.heap.size, 1, none⟩ = some (.int .i64 k) := cell_of_row _ _ _ _ _ _ hrow
  clear hal hfd hrow h he
  unfold keyV at HFD ⊢
  go_enter Try.func19, Try.ntmps19
  go_wp2_with fail
  generalize w.alloc (.cells #[.int .i64 f, .int .i64 k] 42) = w0 at HFD HAL HI HSZ k0 k1 ⊢
  refine HI.out.mono ?_
  rintro r w1 ⟨rfl, rfl⟩
  go_wp2_with fail
  refine HFD.out.mono ?_
  rintro e w2 ⟨rfl, hb2⟩
  have HB2 := Lib.hid (HAL.out.trans (hb2.mono HSZ.out))
  clear hb2 HFD k0 k1
  go_wp2
  go_ret
  exact ⟨rfl, HB2.out⟩

set_option maxRecDepth 100000 in
set_option maxHeartbeats 1000000 in
theorem put_full (h : Rep w c z b N Z s) (hlen : Z.length ≤ 1000000) {f k : Int} (hf : i64 f) (hk : i64 k) (d : ByteArray) (hd : d.size ≤ 140737488351232) (he : at_ Z f k = none) (hs : (shr (cost d : Nat) Z s).1 = false) :
    Calls Try.prog 19 #[.pointer (some ⟨c, 0, none⟩), keyV f k, .string d] w fun e w' => e = .returned (.int .i64 14) ∧ Rep w' c z b N (shr (cost d : Nat) Z s).2.1 (shr (cost d : Nat) Z s).2.2 ∧ Only (own c z b Z) w w' := by
  have hal : Below w.heap.size w (w.alloc (.cells #[.int .i64 f, .int .i64 k] 42)) := (Below.refl _ w).alloc (Nat.le_refl _) _
  have H1 := Lib.hid (h.below hal)
  have hfd := find_any (h.below hal).cor hf hk
  rw [he] at hfd
  unfold pV at hfd
  have HFD := Lib.hid hfd
  have HO1 : Hid (Only (own c z b Z) w (w.alloc (.cells #[.int .i64 f, .int .i64 k] 42))) := Lib.hid (Only.of_below hal)
  have HI := Lib.hid (idle_any c b _ (h.below hal).cor.c0)
  have hrow := heap_alloc_new w (.cells #[.int .i64 f, .int .i64 k] 42)
  have k0 : (w.alloc (.cells #[.int .i64 f, .int .i64 k] 42)).cell? ⟨w.heap.size, 0, none⟩ = some (.int .i64 f) := cell_of_row _ _ _ _ _ _ hrow
  have k1 : (w.alloc (.cells #[.int .i64 f, .int .i64 k] 42)).cell? ⟨w.heap.size, 1, none⟩ = some (.int .i64 k) := cell_of_row _ _ _ _ _ _ hrow
  have HCO := Lib.hid (fun W => cost_any d W hd)
  obtain ⟨n, hn⟩ : ∃ n, cost d = n := ⟨_, rfl⟩
  have hn64 : i64 (n : Int) := by rw [← hn]; unfold cost i64; omega
  have HRM := Lib.hid (fun W (hW : Rep W c z b N Z s) => room_any hW hlen (n : Int) hn64)
  rw [hn] at HCO hs ⊢
  obtain ⟨R, hR⟩ : ∃ R, shr (n : Nat) Z s = R := ⟨_, rfl⟩
  rw [hR] at HRM hs ⊢
  rw [hs] at HRM
  clear hal hfd hrow h he hn hR hs
  unfold keyV at HFD ⊢
  go_enter Try.func19, Try.ntmps19
  go_wp2_with fail
  generalize w.alloc (.cells #[.int .i64 f, .int .i64 k] 42) = w0 at HFD H1 HO1 HI k0 k1 ⊢
  refine HI.out.mono ?_
  rintro r w1 ⟨rfl, rfl⟩
  go_wp2_with fail
  refine HFD.out.mono ?_
  rintro e w2 ⟨rfl, hb2⟩
  have H2 := Lib.hid (H1.out.below hb2)
  have HO2 : Hid (Only (own c z b Z) w w2) := Lib.hid (HO1.out.trans (Only.of_below hb2 : Only (own c z b Z) _ w2) (fun _ _ h => h))
  clear hb2 HFD k0 k1
  go_wp2_with fail
  refine (HCO.out _).mono ?_
  rintro r w3 ⟨rfl, rfl⟩
  go_wp2_with fail
  refine (HRM.out _ H2.out).mono ?_
  rintro r w4 ⟨rfl, h4, ho4⟩
  have H4 := Lib.hid h4
  have HO4 : Hid (Only (own c z b Z) w w4) := Lib.hid (HO2.out.trans ho4 (fun _ _ h => h))
  clear h4 ho4
  go_wp2
  go_ret
  exact ⟨rfl, H4.out, HO4.out⟩

set_option maxRecDepth 100000 in
set_option maxHeartbeats 4000000 in
theorem put_ok (h : Rep w c z b N Z s) (hN : N ≤ 1000000) (hlen : Z.length ≤ 1000000) {f k : Int} (hf : i64 f) (hk : i64 k) (d : ByteArray) (hd : d.size ≤ 140737488351232) (he : at_ Z f k = none) (hs : (shr (cost d : Nat) Z s).1 = true) :
    Calls Try.prog 19 #[.pointer (some ⟨c, 0, none⟩), keyV f k, .string d] w fun e w' => e = .returned (.int .i64 0) ∧ ∃ p, w.heap.size ≤ p ∧
      Rep w' c z b (N + 1) ((shr (cost d : Nat) Z s).2.1 ++ [(p, ⟨f, k, d, 0⟩)]) (BM.reserve 1 (cost d : Nat) (shr (cost d : Nat) Z s).2.2).2 ∧ Only (own c z b Z) w w' := by
  have hal : Below w.heap.size w (w.alloc (.cells #[.int .i64 f, .int .i64 k] 42)) := (Below.refl _ w).alloc (Nat.le_refl _) _
  have H1 := Lib.hid (h.below hal)
  have hfd := find_any (h.below hal).cor hf hk
  rw [he] at hfd
  unfold pV at hfd
  have HFD := Lib.hid hfd
  have HO1 : Hid (Only (own c z b Z) w (w.alloc (.cells #[.int .i64 f, .int .i64 k] 42))) := Lib.hid (Only.of_below hal)
  have HI := Lib.hid (idle_any c b _ (h.below hal).cor.c0)
  have hrow := heap_alloc_new w (.cells #[.int .i64 f, .int .i64 k] 42)
  have k0 : (w.alloc (.cells #[.int .i64 f, .int .i64 k] 42)).cell? ⟨w.heap.size, 0, none⟩ = some (.int .i64 f) := cell_of_row _ _ _ _ _ _ hrow
  have k1 : (w.alloc (.cells #[.int .i64 f, .int .i64 k] 42)).cell? ⟨w.heap.size, 1, none⟩ = some (.int .i64 k) := cell_of_row _ _ _ _ _ _ hrow
  have HCO := Lib.hid (fun W => cost_any d W hd)
  have HCL := Lib.hid (fun W => clone_any d W (by omega))
  have hroom := shr_room (n := (cost d : Nat)) h.ok h.sum hs
  have hsub := shr_sub (cost d : Nat) Z s
  have hown := h.own_lt
  obtain ⟨n, hn⟩ : ∃ n, cost d = n := ⟨_, rfl⟩
  have hn64 : i64 (n : Int) := by rw [← hn]; unfold cost i64; omega
  have HRM := Lib.hid (fun W (hW : Rep W c z b N Z s) => room_any hW hlen (n : Int) hn64)
  have HNC : Hid (cost d = n) := Lib.hid hn
  rw [hn] at HCO hs hroom hsub ⊢
  obtain ⟨R, hR⟩ : ∃ R, shr (n : Nat) Z s = R := ⟨_, rfl⟩
  rw [hR] at HRM hs hroom hsub ⊢
  rw [hs] at HRM
  obtain ⟨rb, Z3, s3⟩ := R
  simp only at hroom hsub HRM ⊢
  have HRS := Lib.hid (reserve_ok hroom)
  have hnf := (find_spec (Z := Z) f k).resolve_left (fun ⟨i, hi, _, _, e⟩ => by rw [he] at e; cases e)
  have HNF : Hid (∀ y ∈ Z3, ¬ (y.2.file = f ∧ y.2.block = k)) := Lib.hid fun y hy => hnf.1 y (hsub.subset hy)
  have HSUB := Lib.hid (show ∀ q, own c z b Z3 q → own c z b Z q from fun q ho => by
    rcases ho with h | h | h | h
    · exact .inl h
    · exact .inr (.inl h)
    · exact .inr (.inr (.inl h))
    · exact .inr (.inr (.inr ((hsub.map Prod.fst).subset h))))
  have HOWN := Lib.hid hown
  have HWF : Hid (Blk.wf ⟨f, k, d, 0⟩) := Lib.hid ⟨hf, hk, hd, by simp⟩
  have HN := Lib.hid hN
  have HSZ0 : Hid ((w.alloc (.cells #[.int .i64 f, .int .i64 k] 42)).heap.size = w.heap.size + 1) := Lib.hid (by simp)
  clear hal hfd hrow h he hn hR hs hroom hsub hown hnf hd hN
  unfold keyV at HFD ⊢
  go_enter Try.func19, Try.ntmps19
  go_wp2_with fail
  generalize w.alloc (.cells #[.int .i64 f, .int .i64 k] 42) = w0 at HFD H1 HO1 HI k0 k1 HSZ0 ⊢
  obtain ⟨y0, hy0⟩ : ∃ y, w.heap.size = y := ⟨_, rfl⟩
  have HY0 := Lib.hid hy0
  rw [hy0] at k0 k1 HSZ0 HOWN ⊢
  clear hy0
  refine HI.out.mono ?_
  rintro r w1 ⟨rfl, rfl⟩
  go_wp2_with fail
  refine HFD.out.mono ?_
  rintro e w2 ⟨rfl, hb2⟩
  have hl0 : y0 < w0.heap.size := by rw [HSZ0.out]; omega
  have H2 := Lib.hid (H1.out.below hb2)
  have HO2 : Hid (Only (own c z b Z) w w2) := Lib.hid (HO1.out.trans (Only.of_below hb2 : Only (own c z b Z) w0 w2) (fun _ _ h => h))
  have j0 := (World.cell?_of_block (a := ⟨y0, 0, none⟩) (hb2.block y0 hl0)).trans k0
  have j1 := (World.cell?_of_block (a := ⟨y0, 1, none⟩) (hb2.block y0 hl0)).trans k1
  have HL2 : Hid (y0 < w2.heap.size) := Lib.hid (Nat.lt_of_lt_of_le hl0 hb2.size)
  clear hb2 HFD k0 k1 hl0
  go_wp2_with fail
  refine (HCO.out _).mono ?_
  rintro r w3 ⟨rfl, rfl⟩
  go_wp2_with fail
  refine (HRM.out _ H2.out).mono ?_
  rintro r w4 ⟨rfl, h4, ho4⟩
  have hny : ¬ own c z b Z y0 := fun ho => by have := HOWN.out y0 ho; omega
  have l0 := (World.cell?_of_block (a := ⟨y0, 0, none⟩) (ho4.block y0 HL2.out hny)).trans j0
  have l1 := (World.cell?_of_block (a := ⟨y0, 1, none⟩) (ho4.block y0 HL2.out hny)).trans j1
  have HL4 : Hid (y0 < w4.heap.size) := Lib.hid (Nat.lt_of_lt_of_le HL2.out ho4.size)
  have HNY := Lib.hid hny
  have H4 := Lib.hid h4
  have HO4 : Hid (Only (own c z b Z) w w4) := Lib.hid (HO2.out.trans ho4 (fun _ _ h => h))
  clear h4 ho4 j0 j1 hny
  have d0 := H4.out.cor.c0
  have e0 : w4.drew.cell? ⟨c, 0, none⟩ = some (.pointer (some ⟨b, 0, none⟩)) := d0
  have HRE := Lib.hid (reserve_any (w := w4.drew) (b := b) (s := s3) H4.out.bud H4.out.ok 1 (n : Nat) hn64.2)
  have HCB : Hid (c ≠ b ∧ c < w4.heap.size) := Lib.hid ⟨fun e => (H4.out.cor.nb H4.out.bud).1 e.symm, H4.out.cor.lt_c⟩
  rw [HRS.out] at HRE
  go_wp2_with fail
  go_region_held3 (fun w' => w'.cell? ⟨c, 0, none⟩ = some (.pointer (some ⟨b, 0, none⟩)))
    (first | exact e0 | exact d0 | exact z0 | go_keep | fail)
    (first
      | (go_at_call 14
         refine (HCO.out _).mono ?_
         rintro e w5 ⟨rfl, rfl⟩)
      | (go_at_call 40
         refine HRE.out.mono ?_
         rintro e w6 ⟨rfl, hb6, hg6⟩
         have z0 : w6.cell? ⟨c, 0, none⟩ = some (.pointer (some ⟨b, 0, none⟩)) := (World.cell?_of_block (a := ⟨c, 0, none⟩) (hg6.block c HCB.out.2 (fun e => HCB.out.1 (by cases e; rfl)))).trans e0
         have HB6 := Lib.hid hb6
         have HG6 := Lib.hid hg6
         clear hb6 hg6)
      | fail)
  have hnb4 := H4.out.cor.nb H4.out.bud
  have HC6 : Hid (Cor w6 c z b N Z3) := Lib.hid ((H4.out.cor.below ((Below.refl _ _).drew)).kept HG6.out (fun e => hnb4.1 (by cases e; rfl)) (fun e => hnb4.2.1 (by cases e; rfl)) (fun q hq e => hnb4.2.2 (by cases e; exact hq)))
  have HR6 : Hid (Ring w6 c (ads Z3)) := Lib.hid ((H4.out.ring.below ((Below.refl _ _).drew)).kept HG6.out (fun e => hnb4.1 (by cases e; rfl)) (fun q hq e => hnb4.2.2 (by cases e; exact hq)))
  have HO6 : Hid (Only (own c z b Z) w w6) := Lib.hid ((HO4.out.trans (Only.of_below ((Below.refl _ _).drew) : Only (own c z b Z) w4 w4.drew) (fun _ _ h => h)).trans (Only.of_grown HG6.out (Or.inr (Or.inr (Or.inl rfl))) : Only (own c z b Z) w4.drew w6) (fun _ _ h => h))
  have hyb : y0 ≠ b := fun e => HNY.out (Or.inr (Or.inr (Or.inl e)))
  have k0 : w6.cell? ⟨y0, 0, none⟩ = some (.int .i64 f) := (World.cell?_of_block (a := ⟨y0, 0, none⟩) (HG6.out.block y0 HL4.out (fun e => hyb (by cases e; rfl)))).trans l0
  have k1 : w6.cell? ⟨y0, 1, none⟩ = some (.int .i64 k) := (World.cell?_of_block (a := ⟨y0, 1, none⟩) (HG6.out.block y0 HL4.out (fun e => hyb (by cases e; rfl)))).trans l1
  have HL6 : Hid (y0 < w6.heap.size) := Lib.hid (Nat.lt_of_lt_of_le HL4.out HG6.out.size)
  have HOK3 := Lib.hid H4.out.ok
  have HSUM3 := Lib.hid H4.out.sum
  clear d0 e0 z0 l0 l1 hyb hnb4 HRE H4 HO4 HG6 H1 HO1 H2 HO2 HI HRM HL4 HL2 HCO
  have m0 : w6.drew.cell? ⟨y0, 0, none⟩ = some (.int .i64 f) := k0
  have m1 : w6.drew.cell? ⟨y0, 1, none⟩ = some (.int .i64 k) := k1
  go_wp2_with fail
  go_region_held3 (fun w' => w'.cell? ⟨y0, 0, none⟩ = some (.int .i64 f) ∧ w'.cell? ⟨y0, 1, none⟩ = some (.int .i64 k))
    (first | exact ⟨m0, m1⟩ | exact ⟨k0, k1⟩ | exact ⟨z0, z1⟩ | go_keep | fail)
    (first
      | (go_at_call 41
         refine (HCL.out _).mono ?_
         rintro e w7 ⟨rfl, hb7⟩
         have z0 : w7.cell? ⟨y0, 0, none⟩ = some (.int .i64 f) := (World.cell?_of_block (a := ⟨y0, 0, none⟩) (hb7.block y0 HL6.out)).trans m0
         have z1 : w7.cell? ⟨y0, 1, none⟩ = some (.int .i64 k) := (World.cell?_of_block (a := ⟨y0, 1, none⟩) (hb7.block y0 HL6.out)).trans m1
         have HB7 := Lib.hid hb7
         clear hb7)
      | fail)
  have HB67 : Hid (Below w6.heap.size w6 w7) := Lib.hid (((Below.refl _ w6).drew).trans HB7.out)
  have hrow := heap_alloc_new w7 (.cells #[.int .i64 f, .int .i64 k, .string d, .int .i64 0, .pointer none, .pointer none] 76)
  have hal : Below w7.heap.size w7 (w7.alloc (.cells #[.int .i64 f, .int .i64 k, .string d, .int .i64 0, .pointer none, .pointer none] 76)) := (Below.refl _ w7).alloc (Nat.le_refl _) _
  have hl7 : y0 < w7.heap.size := Nat.lt_of_lt_of_le HL6.out HB67.out.size
  have x0 := (World.cell?_of_block (a := ⟨y0, 0, none⟩) (hal.block y0 hl7)).trans z0
  have x1 := (World.cell?_of_block (a := ⟨y0, 1, none⟩) (hal.block y0 hl7)).trans z1
  generalize w7.alloc (.cells #[.int .i64 f, .int .i64 k, .string d, .int .i64 0, .pointer none, .pointer none] 76) = w8 at hrow hal x0 x1 ⊢
  have hb8 : Below w6.heap.size w6 w8 := HB67.out.trans (hal.mono HB67.out.size)
  have hc8 : Cor w8 c z b N Z3 := HC6.out.below hb8
  have hr8 : Ring w8 c (ads Z3) := HR6.out.below hb8
  have hpm : w7.heap.size ∉ ads Z3 := fun hm => by
    obtain ⟨y, hy, he⟩ := mem_ads.1 hm
    have h1 := (HC6.out.below HB67.out).lt_p hy
    omega
  obtain ⟨w9, hmu, hc9, hg9⟩ := Cor.add (w := w8.drew) (hc8.below ((Below.refl _ _).drew)) HN.out HWF.out rfl hrow hpm HNF.out
  have hzp : w7.heap.size ≠ z := fun e => by have := (HC6.out.below HB67.out).lt_z; omega
  have hbu6 : BAt w6 b 0 (s3.put 1 (s3.k1 + n)) := HB6.out
  have hbu8 : BAt w8 b 0 (s3.put 1 (s3.k1 + n)) := hbu6.below hb8
  have hnb8 := hc8.nb hbu8
  have hbu9 : BAt w9 b 0 (s3.put 1 (s3.k1 + n)) := (hg9.block b (Array.getElem?_eq_some_iff.1 hbu8).1 (fun e => hnb8.2.1 (by cases e; rfl))).trans hbu8
  have hzc := hc8.zc
  have hr9 : Ring w9 c (ads Z3) := (show Ring w8.drew c (ads Z3) from hr8.below ((Below.refl _ _).drew)).kept hg9 (fun e => hzc.1 (by cases e; rfl)) (fun q hq e => hzc.2 (by cases e; exact hq))
  have c1 := hc8.c1
  have hrow9 := (hg9.block w7.heap.size (Array.getElem?_eq_some_iff.1 hrow).1 (fun e => hzp (by cases e; rfl))).trans hrow
  have hap : Apart c (ads Z3 ++ [w7.heap.size]) := by have := hc9.apart; rw [show ads (Z3 ++ [(w7.heap.size, (⟨f, k, d, 0⟩ : Blk))]) = ads Z3 ++ [w7.heap.size] by simp [ads]] at this; exact this
  have hro : Rows0 w9 c (ads Z3 ++ [w7.heap.size]) := by have := hc9.rows0; rw [show ads (Z3 ++ [(w7.heap.size, (⟨f, k, d, 0⟩ : Blk))]) = ads Z3 ++ [w7.heap.size] by simp [ads]] at this; exact this
  have HLK := Lib.hid (link_any hr9 hap hro (o := .pointer none) (n := .pointer none) (cell_of_row _ _ _ _ _ _ hrow9) (cell_of_row _ _ _ _ _ _ hrow9))
  have HO8 : Hid (Only (own c z b Z) w w8) := Lib.hid (HO6.out.trans (Only.of_below hb8 : Only (own c z b Z) w6 w8) (fun _ _ h => h))
  have HO9 : Hid (Only (own c z b Z) w w9) := Lib.hid ((HO8.out.trans (Only.of_below ((Below.refl _ _).drew) : Only (own c z b Z) w8 w8.drew) (fun _ _ h => h)).trans (Only.of_grown hg9 (Or.inr (Or.inl rfl)) : Only (own c z b Z) w8.drew w9) (fun _ _ h => h))
  have HPL : Hid (y0 ≤ w7.heap.size) := Lib.hid (Nat.le_of_lt hl7)
  generalize w7.heap.size = p at hrow hmu hc9 hap hro hrow9 HLK HPL hpm hzp ⊢
  have HC9 := Lib.hid hc9
  have HBU9 := Lib.hid hbu9
  have HPB : Hid (b ≠ c ∧ b ∉ ads Z3 ++ [p]) := Lib.hid ⟨hnb8.1, fun hm => (hc9.nb hbu9).2.2 (by simpa [ads] using hm)⟩
  have HSZW : Hid (w.heap.size = y0) := HY0
  unfold keyV at hmu
  clear m0 m1 z0 z1 k0 k1 hal hb8 hc8 hr8 hpm hc9 hzp hbu6 hbu8 hnb8 hbu9 hzc hr9 hrow9 hap hro hg9 hl7 HB7 HB67 hrow
  go_wp2_with fail
  go_region
  all_goals
    clear x0 x1 hmu c1
    go_wp2_with fail
    refine HLK.out.mono ?_
    rintro e w10 ⟨rfl, hl10, hr10⟩
    have hads : ads (Z3 ++ [(p, (⟨f, k, d, 0⟩ : Blk))]) = ads Z3 ++ [p] := by simp [ads]
    have HR : Hid (Rep w10 c z b (N + 1) (Z3 ++ [(p, ⟨f, k, d, 0⟩)]) (BM.reserve 1 (n : Nat) s3).2) := Lib.hid (by
      refine ⟨HC9.out.links hl10 (fun q hq => by rw [← hads] at hq; exact mem_ads.1 hq), by rw [hads]; exact hr10, ?_, ok_reserve HOK3.out _ _, ?_⟩
      · rw [HRS.out]; exact bat_links HBU9.out hl10 HPB.out.1 HPB.out.2
      · rw [HRS.out, tot_snoc]
        have h1 := HSUM3.out
        have h2 := HNC.out
        show s3.k1 + (n : Int) = ((tot Z3 + cost d : Nat) : Int)
        omega)
    have HO : Hid (Only (own c z b Z) w w10) := Lib.hid (HO9.out.trans (Only.of_links hl10 (Or.inl (Or.inl rfl)) (fun q hq => (List.mem_append.1 hq).elim (fun h => Or.inl (Or.inr (Or.inr (Or.inr h)))) (fun h => Or.inr (by simpa using h))) : Only (fun g => own c z b Z3 g ∨ g = p) w9 w10)
      (fun g hg ho => ho.elim (fun h => HSUB.out g h) (fun h => by have := HPL.out; have := HSZW.out; omega)))
    clear hl10 hr10 hads
    go_wp2
    go_ret
    exact ⟨rfl, p, Nat.le_trans (Nat.le_of_eq HSZW.out) HPL.out, HR.out, HO.out⟩
end
end Go.Proofs.Ytlfhjbilnfkabaa
