/- Texts joined by bundle.py: YDWb. -/
import Derived.Test.YtjkofciohehgfaaGreatDoorZau
import Derived.Test.YtjkofciohehgfaaGreatDoorZav

/- The calls of a log: Create, Append, Remove, as plain mathematics of a disk; their walks. -/
namespace Go.Proofs.YtjkofciohehgfaaGreatDoor.L8
open Go.RowKit Go.Maps
open DM

theorem Live.more {B : Nat} {w0 w : World} {d : Nat} {s : St} {N N' M : Nat} (h : Live B w0 w d s N M) (hN : N ≤ N') (h9 : N' < 1000000000) : Live B w0 w d s N' M :=
  ⟨h.moves, h.ok, ⟨Nat.le_trans h.lim.queue hN, Nat.le_trans h.lim.files hN, h.lim.cut⟩, h.rep, h.le, h9, h.few.2⟩

/-- what a call of a disk leaves -/
def Ended (B : Nat) (w0 : World) (d : Nat) (q : Int × St) (N M : Nat) (r : Int) (w' : World) : Prop := r = q.1 ∧ Live B w0 w' d q.2 N M
theorem ended_of {B : Nat} {w0 w : World} {d : Nat} {q : Int × St} {N M : Nat} {f : FuncId} {args : Array Value} (h : Calls Tryz.prog f args w (ErrOut B w0 d q N M)) : Calls Tryz.prog f args w (NumEnds (Ended B w0 d q N M)) :=
  h.mono fun _ _ ⟨he, hl⟩ => ⟨_, he, rfl, hl⟩

/-! ### the closures -/
section
variable {w : World} {d D0 N0 : Nat} {k : ByteArray} {P : Int → World → Prop}
theorem cl_create (hd : w.cell? ⟨D0, 0, none⟩ = some (.pointer (some ⟨d, 0, none⟩))) (hn : w.cell? ⟨N0, 0, none⟩ = some (.string k))
    (h : Calls Tryz.prog 23 #[.pointer (some ⟨d, 0, none⟩), .string k] w (NumEnds P)) :
    Calls Tryz.prog 22 #[.pointer (some ⟨D0, 0, none⟩), .pointer (some ⟨N0, 0, none⟩)] w (NumEnds P) := by
  have H := Lib.hid h
  clear h
  go_enter Tryz.func22, Tryz.ntmps22
  go_wp2_with fail
  refine H.out.mono ?_
  rintro e w1 ⟨r, rfl, hp⟩
  go_wp2
  go_ret
  exact ⟨r, rfl, hp⟩

theorem cl_sync (hd : w.cell? ⟨D0, 0, none⟩ = some (.pointer (some ⟨d, 0, none⟩))) (hn : w.cell? ⟨N0, 0, none⟩ = some (.string k))
    (h : Calls Tryz.prog 36 #[.pointer (some ⟨d, 0, none⟩), .string k] w (NumEnds P)) :
    Calls Tryz.prog 35 #[.pointer (some ⟨D0, 0, none⟩), .pointer (some ⟨N0, 0, none⟩)] w (NumEnds P) := by
  have H := Lib.hid h
  clear h
  go_enter Tryz.func35, Tryz.ntmps35
  go_wp2_with fail
  refine H.out.mono ?_
  rintro e w1 ⟨r, rfl, hp⟩
  go_wp2
  go_ret
  exact ⟨r, rfl, hp⟩

theorem cl_append {F0 : Nat} {t : ByteArray} (hd : w.cell? ⟨D0, 0, none⟩ = some (.pointer (some ⟨d, 0, none⟩))) (hn : w.cell? ⟨N0, 0, none⟩ = some (.string k)) (hf : w.cell? ⟨F0, 0, none⟩ = some (.string t))
    (h : Calls Tryz.prog 34 #[.pointer (some ⟨d, 0, none⟩), .string k, .string t] w (NumEnds P)) :
    Calls Tryz.prog 33 #[.pointer (some ⟨D0, 0, none⟩), .pointer (some ⟨N0, 0, none⟩), .pointer (some ⟨F0, 0, none⟩)] w (NumEnds P) := by
  have H := Lib.hid h
  clear h
  go_enter Tryz.func33, Tryz.ntmps33
  go_wp2_with fail
  refine H.out.mono ?_
  rintro e w1 ⟨r, rfl, hp⟩
  go_wp2
  go_ret
  exact ⟨r, rfl, hp⟩
end

theorem Live.moves' {B : Nat} {w0 w w' : World} {d : Nat} {s s' : St} {N M N' : Nat} (h : Live B w0 w d s N M) (h' : Live B w w' d s' N' M) : Live B w0 w' d s' N' M := ⟨h.moves.trans h'.moves, h'.ok, h'.lim, h'.rep, h.le, h'.few⟩
theorem Live.here {B : Nat} {w0 w : World} {d : Nat} {s : St} {N M : Nat} (h : Live B w0 w d s N M) : Live B w w d s N M := ⟨Moves.refl _ _, h.ok, h.lim, h.rep, h.le', h.few⟩

/-- two calls of a disk, the second if the first did well -/
theorem Live.firsts {B : Nat} {W : World} {d : Nat} {s : St} {N M : Nat} (_ : Live B W W d s N M) (hN : N + 2 < 1000000000) {b : Nat} {f1 f2 : FuncId} {C1 B2 C2 : Array Value}
    (hb : W.heap[b]? = some (.cells #[.func (.func f1) #[] C1, .func (.func f2) B2 C2] 64 (0, 0)))
    (cf1 : ∀ W, (callFunc f1 C1).run Tryz.prog W = .ok (.enter f1 C1) W) (cf2 : ∀ W, (callFunc f2 (B2 ++ C2)).run Tryz.prog W = .ok (.enter f2 (B2 ++ C2)) W)
    (q : Int × St) (g : St → Int × St) (hc1 : Calls Tryz.prog f1 C1 W (NumEnds (Ended B W d q (N + 1) M)))
    (hc2 : ∀ w', q.1 = 0 → Live B W w' d q.2 (N + 1) M → Calls Tryz.prog f2 (B2 ++ C2) w' (NumEnds (Ended B W d (g q.2) (N + 2) M))) :
    Calls Tryz.prog 21 #[.slice (some ⟨b, 0, none⟩) 2 2] W (ErrOut B W d (WL.both q g) (N + 2) M) := by
  have k1 : W.cell? ⟨b, 0, none⟩ = some (.func (.func f1) #[] C1) := cell_of_row _ _ _ _ _ _ hb
  have k2 : W.cell? ⟨b, 1, none⟩ = some (.func (.func f2) B2 C2) := cell_of_row _ _ _ _ _ _ hb
  refine (first_two (P1 := Ended B W d q (N + 1) M) (P2 := fun r w' => q.1 = 0 ∧ Ended B W d (g q.2) (N + 2) M r w') k1 k2 cf1 cf2 (hc1.mono ?_) (fun w' hp => (hc2 w' hp.1.symm hp.2).mono ?_)).mono ?_
  · rintro e w1 ⟨r, he, hp⟩
    exact ⟨r, he, hp, cell_of_row _ _ _ _ _ _ (hp.2.moves.kept _ _ _ _ hb (by decide))⟩
  · rintro e w1 ⟨r, he, hq⟩
    exact ⟨r, he, hp.1.symm, hq⟩
  · rintro e w1 ⟨r, he, h⟩
    rcases h with ⟨hr, hp⟩ | ⟨h0, hp⟩
    · rw [WL.both_stop (by rw [← hp.1]; exact hr)]
      exact ⟨by rw [he, hp.1], hp.2.more (by omega) hN⟩
    · rw [WL.both_go h0]
      exact ⟨by rw [he, hp.1], hp.2⟩

theorem alloc_two (w : World) (o1 o2 : Obj) : ((w.alloc o1).alloc o2).heap[w.heap.size + 1]? = some o2 := by
  rw [← World.size_alloc (w := w) (o := o1)]
  exact heap_alloc_new _ _

abbrev PD (d : Nat) : Value := .pointer (some ⟨d, 0, none⟩)

theorem Live.fcreate {B : Nat} {W : World} {d : Nat} {s : St} {N M : Nat} (h : Live B W W d s N M) (hN : N + 2 < 1000000000) {b D0 N0 : Nat} {k : ByteArray} (hk : k.size ≤ 12)
    (hD : Cap W D0 (PD d) 25) (hK : Cap W N0 (.string k) 9)
    (hb : W.heap[b]? = some (.cells #[.func (.func 22) #[] #[PD D0, PD N0], .func (.func 24) #[PD d] #[]] 64 (0, 0))) :
    Calls Tryz.prog 21 #[.slice (some ⟨b, 0, none⟩) 2 2] W (ErrOut B W d (WL.both (DM.create k.data.toList s) DM.syncDir) (N + 2) M) :=
  h.firsts hN hb (cf_enter Tryz.func22 (by kernel_rfl) (by kernel_rfl) _) (cf_enter Tryz.func24 (by kernel_rfl) (by kernel_rfl) _) _ _
    (cl_create hD.cell hK.cell (ended_of (h.create (by omega) k (by omega) rfl))) (fun _ _ hl => ended_of (hl.syncDir (by omega) rfl))

theorem Live.fappend {B : Nat} {W : World} {d : Nat} {s : St} {N M : Nat} (h : Live B W W d s N M) (hN : N + 2 < 1000000000) {b D0 N0 F0 : Nat} {k t : ByteArray} (hk : k.size ≤ 12)
    (hD : Cap W D0 (PD d) 25) (hK : Cap W N0 (.string k) 9) (hF : Cap W F0 (.string t) 9)
    (hb : W.heap[b]? = some (.cells #[.func (.func 33) #[] #[PD D0, PD N0, PD F0], .func (.func 35) #[] #[PD D0, PD N0]] 64 (0, 0))) :
    Calls Tryz.prog 21 #[.slice (some ⟨b, 0, none⟩) 2 2] W (ErrOut B W d (WL.both (DM.append k.data.toList t.data.toList s) (DM.sync k.data.toList)) (N + 2) M) :=
  h.firsts hN hb (cf_enter Tryz.func33 (by kernel_rfl) (by kernel_rfl) _) (cf_enter Tryz.func35 (by kernel_rfl) (by kernel_rfl) _) _ _
    (cl_append hD.cell hK.cell hF.cell (ended_of (h.append (by omega) k t (by omega) rfl)))
    (fun _ _ hl => by rw [Array.empty_append]; exact cl_sync (hD.moved hl.moves (by decide)).cell (hK.moved hl.moves (by decide)).cell (ended_of (hl.sync (by omega) k (by omega) rfl)))

set_option maxRecDepth 100000 in
theorem Live.wappend {B : Nat} {w0 w : World} {d : Nat} {s : St} {N M : Nat} (h : Live B w0 w d s N M) (hN : N + 2 < 1000000000) (n : Int) (hn : -9223372036854775808 ≤ n ∧ n ≤ 9223372036854775807) (ht : Tab w) (t : ByteArray) (hts : t.size ≤ 140737488355328) {r : Int × St} (hr : WL.append n t.data.toList s = r) :
    Calls Tryz.prog 10 #[.pointer (some ⟨d, 0, none⟩), .int .i64 n, .string t] w (ErrOut B w0 d r (N + 2) M) := by
  have HNM := Lib.hid (fun W hW => wname_any n W hn hW)
  have HL := Lib.hid h
  have HT := Lib.hid ht
  clear h ht
  obtain ⟨k, hk, hkl⟩ := encS_text (l := WN.file [108, 111, 103] n)
  have hks : k.size ≤ 12 := by rw [← size_list, hkl]; exact WL.k_len n
  go_enter Tryz.func10, Tryz.ntmps10
  go_wp2_with fail
  have HL1 : Hid (Live B w0 (w.alloc (.cells #[.pointer (some ⟨d, 0, none⟩)] 25)) d s N M) := Lib.hid (HL.out.still ((Below.refl _ _).alloc (Nat.le_refl _) _))
  have HT1 : Hid (Tab (w.alloc (.cells #[.pointer (some ⟨d, 0, none⟩)] 25))) := Lib.hid (HT.out.below ((Below.refl _ _).alloc (Nat.le_refl _) _))
  have HC1 : Hid (Cap (w.alloc (.cells #[.pointer (some ⟨d, 0, none⟩)] 25)) w.heap.size (.pointer (some ⟨d, 0, none⟩)) 25) := Lib.hid (heap_alloc_new w _)
  generalize (w.alloc (.cells #[.pointer (some ⟨d, 0, none⟩)] 25)) = W1 at HL1 HT1 HC1 ⊢
  obtain ⟨D0, hD0⟩ : ∃ D0, w.heap.size = D0 := ⟨_, rfl⟩
  rw [hD0] at HC1 ⊢
  clear hD0 HL HT
  refine (HNM.out _ HT1.out).mono ?_
  rintro e w2 ⟨he, hB⟩
  have he : e = .returned (.string k) := he.trans (by rw [← hk])
  subst he
  have hal := (Below.refl w2.heap.size w2).alloc (Nat.le_refl _) (.cells #[.string k] 9)
  have HL2 := Lib.hid ((HL1.out.still hB).still hal)
  have HD2 := Lib.hid ((HC1.out.below hB).below hal)
  have HK2 : Hid (Cap (w2.alloc (.cells #[.string k] 9)) w2.heap.size (.string k) 9) := Lib.hid (heap_alloc_new w2 _)
  clear hB HL1 HT1 HC1 hal
  by_cases hz : k = ⟨#[]⟩
  · have hr0 : r = (2, s) := by
      rw [← hr]
      unfold WL.append WL.K
      rw [if_pos (by rw [← hkl, hz])]
    subst hr0
    subst hz
    clear hr hk hkl HNM
    go_wp2
    go_ret
    exact ⟨rfl, HL2.out.more (by omega) hN⟩
  · have hne : WL.K n ≠ [] := fun e => hz (str_ext (by rw [hkl]; exact e))
    have e1 : k.toList.isEmpty = false := by
      rw [Lib.toList_data]
      cases hkc : k.data.toList with
      | nil => exact absurd (hkl.symm.trans hkc) hne
      | cons a r => rfl
    have z1 : (w2.alloc (.cells #[.string k] 9)).cell? ⟨D0, 0, none⟩ = some (.pointer (some ⟨d, 0, none⟩)) := HD2.out.cell
    have HPUT := Lib.hid (fun W => fput_any t W (by omega))
    have HTL := Lib.hid (size_list t)
    by_cases hbig : 65535 < t.size
    · have hr0 : r = (5, s) := by
        rw [← hr]
        unfold WL.append
        rw [if_neg hne, if_pos (by rw [HTL.out]; exact hbig)]
      subst hr0
      rw [putOut_long hbig] at HPUT
      clear hr hne hz hkl hk HNM hbig
      go_wp2_with fail
      refine (HPUT.out _).mono ?_
      rintro e w3 ⟨rfl, hB⟩
      have HL3 := Lib.hid (HL2.out.still hB)
      clear hB
      go_wp2
      go_ret
      exact ⟨rfl, (HL3.out.still ((Below.refl _ _).alloc (Nat.le_refl _) _)).more (by omega) hN⟩
    · obtain ⟨f, hf⟩ : ∃ f : ByteArray, (⟨(FM.frame t.data.toList).toArray⟩ : ByteArray) = f := ⟨_, rfl⟩
      have hfl : f.data.toList = FM.frame t.data.toList := by rw [← hf]
      have hr0 : WL.both (DM.append k.data.toList f.data.toList s) (DM.sync k.data.toList) = r := by
        rw [← hr]
        unfold WL.append
        rw [if_neg hne, if_neg (by rw [HTL.out]; exact hbig), hkl, hfl]
        rfl
      rw [putOut_good (by omega), hf] at HPUT
      have HF : Hid (∀ W' b F0, Below (w2.alloc (.cells #[.string k] 9)).heap.size (w2.alloc (.cells #[.string k] 9)) W' → Cap W' F0 (.string f) 9 → W'.heap[b]? = some (.cells #[.func (.func 33) #[] #[PD D0, PD w2.heap.size, PD F0], .func (.func 35) #[] #[PD D0, PD w2.heap.size]] 64 (0, 0)) →
          Calls Tryz.prog 21 #[.slice (some ⟨b, 0, none⟩) 2 2] W' (ErrOut B w0 d r (N + 2) M)) := Lib.hid fun W' b F0 hb hfc hbl => by
        have hl := HL2.out.still hb
        rw [← hr0]
        exact (hl.here.fappend hN hks (HD2.out.below hb) (HK2.out.below hb) hfc hbl).mono fun e w' ⟨he, h⟩ => ⟨he, hl.moves' h⟩
      clear hr hr0 hne hz hkl hk HNM HL2 HD2 HK2 hf hfl hbig HTL
      go_wp2_with fail
      refine (HPUT.out _).mono ?_
      rintro e w3 ⟨rfl, hB⟩
      have HB3 := Lib.hid hB
      clear hB z1
      go_wp2_with fail
      have HB4 := Lib.hid (HB3.out.alloc HB3.out.size (.cells #[.string f] 9))
      have HF4 : Hid (Cap (w3.alloc (.cells #[.string f] 9)) w3.heap.size (.string f) 9) := Lib.hid (heap_alloc_new w3 _)
      refine (HF.out _ _ w3.heap.size (HB4.out.alloc HB4.out.size _) (HF4.out.below ((Below.refl _ _).alloc (Nat.le_refl _) _)) (alloc_two _ _ _)).mono ?_
      rintro e w4 ⟨rfl, h⟩
      have H4 := Lib.hid h
      clear h HF HB3 HB4 HF4
      go_wp2
      go_ret
      exact ⟨rfl, H4.out⟩

set_option maxRecDepth 100000 in
theorem Live.wcreate {B : Nat} {w0 w : World} {d : Nat} {s : St} {N M : Nat} (h : Live B w0 w d s N M) (hN : N + 2 < 1000000000) (n : Int) (hn : -9223372036854775808 ≤ n ∧ n ≤ 9223372036854775807) (ht : Tab w) {r : Int × St} (hr : WL.create n s = r) :
    Calls Tryz.prog 6 #[.pointer (some ⟨d, 0, none⟩), .int .i64 n] w (ErrOut B w0 d r (N + 2) M) := by
  have HNM := Lib.hid (fun W hW => wname_any n W hn hW)
  have HL := Lib.hid h
  have HT := Lib.hid ht
  clear h ht
  obtain ⟨k, hk, hkl⟩ := encS_text (l := WN.file [108, 111, 103] n)
  have hks : k.size ≤ 12 := by rw [← size_list, hkl]; exact WL.k_len n
  go_enter Tryz.func6, Tryz.ntmps6
  go_wp2_with fail
  have HL1 : Hid (Live B w0 (w.alloc (.cells #[.pointer (some ⟨d, 0, none⟩)] 25)) d s N M) := Lib.hid (HL.out.still ((Below.refl _ _).alloc (Nat.le_refl _) _))
  have HT1 : Hid (Tab (w.alloc (.cells #[.pointer (some ⟨d, 0, none⟩)] 25))) := Lib.hid (HT.out.below ((Below.refl _ _).alloc (Nat.le_refl _) _))
  have HC1 : Hid (Cap (w.alloc (.cells #[.pointer (some ⟨d, 0, none⟩)] 25)) w.heap.size (.pointer (some ⟨d, 0, none⟩)) 25) := Lib.hid (heap_alloc_new w _)
  generalize (w.alloc (.cells #[.pointer (some ⟨d, 0, none⟩)] 25)) = W1 at HL1 HT1 HC1 ⊢
  obtain ⟨D0, hD0⟩ : ∃ D0, w.heap.size = D0 := ⟨_, rfl⟩
  rw [hD0] at HC1 ⊢
  clear hD0 HL HT
  refine (HNM.out _ HT1.out).mono ?_
  rintro e w2 ⟨he, hB⟩
  have he : e = .returned (.string k) := he.trans (by rw [← hk])
  subst he
  have hal := (Below.refl w2.heap.size w2).alloc (Nat.le_refl _) (.cells #[.string k] 9)
  have HL2 := Lib.hid ((HL1.out.still hB).still hal)
  have HD2 := Lib.hid ((HC1.out.below hB).below hal)
  have HK2 : Hid (Cap (w2.alloc (.cells #[.string k] 9)) w2.heap.size (.string k) 9) := Lib.hid (heap_alloc_new w2 _)
  clear hB HL1 HT1 HC1 hal
  by_cases hz : k = ⟨#[]⟩
  · have hr0 : r = (2, s) := by
      rw [← hr]
      unfold WL.create WL.K
      rw [if_pos (by rw [← hkl, hz])]
    subst hr0
    subst hz
    clear hr hk hkl HNM
    go_wp2
    go_ret
    exact ⟨rfl, HL2.out.more (by omega) hN⟩
  · have hne : WL.K n ≠ [] := fun e => hz (str_ext (by rw [hkl]; exact e))
    have e1 : k.toList.isEmpty = false := by
      rw [Lib.toList_data]
      cases hkc : k.data.toList with
      | nil => exact absurd (hkl.symm.trans hkc) hne
      | cons a r => rfl
    have hr0 : WL.both (DM.create k.data.toList s) DM.syncDir = r := by
      rw [← hr]
      unfold WL.create
      rw [if_neg hne, hkl]
      rfl
    have HF : Hid (∀ W' b, Below (w2.alloc (.cells #[.string k] 9)).heap.size (w2.alloc (.cells #[.string k] 9)) W' → W'.heap[b]? = some (.cells #[.func (.func 22) #[] #[PD D0, PD w2.heap.size], .func (.func 24) #[PD d] #[]] 64 (0, 0)) →
        Calls Tryz.prog 21 #[.slice (some ⟨b, 0, none⟩) 2 2] W' (ErrOut B w0 d r (N + 2) M)) := Lib.hid fun W' b hb hbl => by
      have hl := HL2.out.still hb
      rw [← hr0]
      exact (hl.here.fcreate hN hks (HD2.out.below hb) (HK2.out.below hb) hbl).mono fun e w' ⟨he, h⟩ => ⟨he, hl.moves' h⟩
    have z1 : (w2.alloc (.cells #[.string k] 9)).cell? ⟨D0, 0, none⟩ = some (.pointer (some ⟨d, 0, none⟩)) := HD2.out.cell
    clear hr hr0 hne hz hkl hk HNM HL2 HD2 HK2
    go_wp2_with fail
    refine (HF.out _ _ ((Below.refl _ _).alloc (Nat.le_refl _) _) (alloc_two _ _ _)).mono ?_
    rintro e w3 ⟨rfl, h⟩
    have H3 := Lib.hid h
    clear h HF z1
    go_wp2
    go_ret
    exact ⟨rfl, H3.out⟩
end Go.Proofs.YtjkofciohehgfaaGreatDoor.L8


