/- Texts joined by bundle.py: Wq, Wr. -/
import Derived.Test.YtgknkldhjejjmaaGreatDoorZbb
import Derived.Test.YtgknkldhjejjmaaGreatDoorZbc
import Derived.Test.YtgknkldhjejjmaaGreatDoorZbk
import Derived.Test.YtgknkldhjejjmaaGreatDoorZbo
import Derived.Test.YtgknkldhjejjmaaGreatDoorZax

/- The document's log over its disk, beside the program's. -/
namespace Go.Proofs.YtgknkldhjejjmaaGreatDoor
open Go.RowKit Go.Maps
open DM

/-- boxes of steps stay -/
def KS (w w' : World) : Prop := ∀ (x : Nat) (C : Array Value), w.heap[x]? = some (.cells C 32 (0, 0)) → w'.heap[x]? = some (.cells C 32 (0, 0))
theorem KS.refl (w : World) : KS w w := fun _ _ h => h
theorem KS.trans {a b c : World} (h : KS a b) (k : KS b c) : KS a c := fun x C e => k x C (h x C e)
theorem KS.below {w w' : World} (h : Below w.heap.size w w') : KS w w' := fun x _ e => (h.block x (Array.getElem?_eq_some_iff.1 e).1).trans e
theorem KS.moves {B : Nat} {w w' : World} (h : Moves B w w') : KS w w' := fun _ _ e => h.kept _ _ _ _ e (by decide)
theorem KS.movesR {B : Nat} {w w' : World} (h : MovesR B w w') : KS w w' := fun _ _ e => h.kept _ _ e (fun c' t' fr' e => by
    injection e with _ e
    rw [← e]
    decide)

section
variable {B : Nat} {W w w' : World} {d r : Nat} {s s' : St} {N M N' : Nat}
theorem Mid.step (h : Mid none B W w d r s s' N M N') {f : FuncId} {args : Array Value} {x : Int × RS} {c : Int} {s1 : St} {N1 : Nat} (hc : Calls Tryz.prog f args w (ROut B w r x)) (a : Agree x (c, s1)) (ok1 : Ok s1) (lim1 : Lim N1 M s1) :
    Calls Tryz.prog f args w (Num c fun w' => Mid none B W w' d r s1 s' N1 M N' ∧ KS w w') :=
  hc.mono fun _ _ ⟨he, hg, hm⟩ => ⟨by rw [he, a.1], by
    obtain ⟨g, hg⟩ := hg
    obtain ⟨g0, h0⟩ := h.live.rep
    exact ⟨h.below.trans hm.below, ⟨Moves.refl _ _, h.live.ok, h.live.lim, ⟨g0, h0.far hm⟩, Nat.le_trans h.live.le' hm.size, h.live.few⟩, ⟨x.2, g, hg, a.2⟩, ok1, lim1, fun x C e => by cases e⟩, KS.movesR hm⟩

theorem Mid.more (h : Mid none B W w d r s s' N M N') {N1 : Nat} (hN : N ≤ N1) : Mid none B W w d r s s' N1 M N' := ⟨h.below, h.live, h.ref, h.ok, h.lim.mono hN, h.box⟩
theorem Mid.done (h : Mid none B W w d r s s N M N') : Duo none B W w d r s N' M := ⟨h.below, h.live, h.ref, h.box⟩

theorem Mid.create3 (k : ByteArray) (h : Mid none B W w d r s s' N M N') (hN : N + 1 < 1000000000) :
    Calls Tryz.prog 23 #[.pointer (some ⟨r, 0, none⟩), .string k] w (Num (DM.create k.data.toList s).1 fun w' => Mid none B W w' d r (DM.create k.data.toList s).2 s' (N + 1) M N' ∧ KS w w') := by
  obtain ⟨t, g, hr, hs⟩ := h.ref
  have hM := h.live.few.2
  have hf := h.fewT (by omega) hs
  obtain ⟨o1, o2⟩ := create_ok h.ok h.lim k.data.toList
  exact h.step (rcreate_any hr h.live.le' k hf (fun h4 _ => good_create hs h.ok h.lim hN hM _ h4) (fun hc => ⟨hf, hs.bc h.ok, hs.bb h.ok, fun h1 => absurd h1 (by show ¬ (if t.cutLeft = 1 then (1 : Int) else if t.brk = 1 then 2 else 0) = 1; rw [if_neg (fun e => hc (Or.inr e))]; split <;> decide)⟩)) (hs.create h.ok _) o1 o2
theorem Mid.append3 (j k : ByteArray) (h : Mid none B W w d r s s' N M N') (hN : N + 1 < 1000000000) (hk : k.size ≤ 140737488355328) :
    Calls Tryz.prog 31 #[.pointer (some ⟨r, 0, none⟩), .string j, .string k] w (Num (DM.append j.data.toList k.data.toList s).1 fun w' => Mid none B W w' d r (DM.append j.data.toList k.data.toList s).2 s' (N + 1) M N' ∧ KS w w') := by
  obtain ⟨t, g, hr, hs⟩ := h.ref
  have hM := h.live.few.2
  have hf := h.fewT (by omega) hs
  obtain ⟨o1, o2⟩ := append_ok h.ok h.lim j.data.toList k.data.toList
  exact h.step (rappend_any hr h.live.le' j k hk hf (hs.bc h.ok) (hs.bb h.ok) (fun h0 hb hc => good_append hs h.ok h.lim (by omega) hM _ _ h0 hb hc)) (hs.append h.ok _ _) o1 o2
theorem Mid.sync3 (k : ByteArray) (h : Mid none B W w d r s s' N M N') (hN : N + 1 < 1000000000) :
    Calls Tryz.prog 32 #[.pointer (some ⟨r, 0, none⟩), .string k] w (Num (DM.sync k.data.toList s).1 fun w' => Mid none B W w' d r (DM.sync k.data.toList s).2 s' (N + 1) M N' ∧ KS w w') := by
  obtain ⟨t, g, hr, hs⟩ := h.ref
  have hM := h.live.few.2
  have hf := h.fewT (by omega) hs
  obtain ⟨o1, o2⟩ := sync_ok h.ok h.lim k.data.toList
  exact h.step (rsync_any hr h.live.le' k hf (hs.bc h.ok) (hs.bb h.ok) (good_sync hs h.ok h.lim (by omega) hM)) (hs.sync h.ok _) o1 o2
theorem Mid.syncDir3 (h : Mid none B W w d r s s' N M N') (hN : N + 1 < 1000000000) :
    Calls Tryz.prog 24 #[.pointer (some ⟨r, 0, none⟩)] w (Num (DM.syncDir s).1 fun w' => Mid none B W w' d r (DM.syncDir s).2 s' (N + 1) M N' ∧ KS w w') := by
  obtain ⟨t, g, hr, hs⟩ := h.ref
  have hM := h.live.few.2
  have hf := h.fewT (by omega) hs
  obtain ⟨o1, o2⟩ := syncDir_ok h.ok h.lim
  exact h.step (rsyncDir_any hr h.live.le' hf (hs.bc h.ok) (hs.bb h.ok) (good_sync hs h.ok h.lim (by omega) hM)) (hs.syncDir h.ok) o1 o2
theorem Mid.remove3 (k : ByteArray) (h : Mid none B W w d r s s' N M N') (hN : N + 1 < 1000000000) :
    Calls Tryz.prog 39 #[.pointer (some ⟨r, 0, none⟩), .string k] w (Num (DM.remove k.data.toList s).1 fun w' => Mid none B W w' d r (DM.remove k.data.toList s).2 s' (N + 1) M N' ∧ KS w w') := by
  obtain ⟨t, g, hr, hs⟩ := h.ref
  have hM := h.live.few.2
  obtain ⟨o1, o2⟩ := remove_ok h.ok h.lim k.data.toList
  exact h.step (rremove_any hr h.live.le' k (good_remove hs h.ok h.lim hN hM _)) (hs.remove h.ok _) o1 o2
end

/-- what the document's call leaves that answers a number -/
def RNum (B : Nat) (W w : World) (d r : Nat) (q : Int × St) (s' : St) (N M N' : Nat) : Ending → World → Prop := Num q.1 fun w' => Mid none B W w' d r q.2 s' N M N' ∧ KS w w'

theorem empty_of {k : ByteArray} {n : Int} (hkl : k.data.toList = WN.file [108, 111, 103] n) (hz : ¬ k = ⟨#[]⟩) : WL.K n ≠ [] ∧ k.toList.isEmpty = false := by
  have hne : WL.K n ≠ [] := fun e => hz (str_ext (by rw [hkl]; exact e))
  refine ⟨hne, ?_⟩
  rw [Lib.toList_data]
  cases hkc : k.data.toList with
  | nil => exact absurd (hkl.symm.trans hkc) hne
  | cons a r => rfl

set_option maxRecDepth 100000 in
theorem Mid.rcreate8 {B : Nat} {W w : World} {d r : Nat} {s s' : St} {N M N' : Nat} (h : Mid none B W w d r s s' N M N') (hN : N + 2 < 1000000000) (n : Int) (hn : -9223372036854775808 ≤ n ∧ n ≤ 9223372036854775807) {q : Int × St} (hq : WL.create n s = q) :
    Calls Tryz.prog 8 #[.pointer (some ⟨r, 0, none⟩), .int .i64 n] w (RNum B W w d r q s' (N + 2) M N') := by
  have HNM := Lib.hid (rfile_any ⟨#[108, 111, 103]⟩ n w (by decide) hn)
  have HL := Lib.hid h
  clear h
  obtain ⟨k, hk, hkl⟩ := encS_text (l := WN.file [108, 111, 103] n)
  by_cases hz : k = ⟨#[]⟩
  · have hq0 : q = (2, s) := by
      rw [← hq]
      unfold WL.create WL.K
      rw [if_pos (by rw [← hkl, hz])]
    subst hq0
    subst hz
    clear hq hkl
    go_enter Tryz.func8, Tryz.ntmps8
    go_wp2_with fail
    refine HNM.out.mono ?_
    rintro e w2 ⟨he, hB⟩
    have he : e = .returned (.string ⟨#[]⟩) := he.trans (by rw [← hk])
    subst he
    have HL2 := Lib.hid (HL.out.still hB)
    have HK2 := Lib.hid (KS.below hB)
    clear hB HNM hk
    go_wp2
    go_ret
    exact ⟨rfl, HL2.out.more (by omega), HK2.out⟩
  · obtain ⟨hne, e1⟩ := empty_of hkl hz
    have HQ : Hid (WL.both (DM.create k.data.toList s) DM.syncDir = q) := by
      rw [← hq]
      unfold WL.create
      rw [if_neg hne, hkl]
      exact Lib.hid rfl
    have HCR := Lib.hid (fun W' (hl : Mid none B W W' d r s s' N M N') => hl.create3 k (by omega))
    obtain ⟨c, s1, hcs⟩ : ∃ c s1, DM.create k.data.toList s = (c, s1) := ⟨_, _, rfl⟩
    rw [hcs] at HQ HCR
    clear hcs hq hne hkl hz
    go_enter Tryz.func8, Tryz.ntmps8
    go_wp2_with fail
    refine HNM.out.mono ?_
    rintro e w2 ⟨he, hB⟩
    have he : e = .returned (.string k) := he.trans (by rw [← hk])
    subst he
    have HL2 := Lib.hid (HL.out.still hB)
    have HK2 := Lib.hid (KS.below hB)
    clear hB HNM hk HL
    go_wp2_with fail
    refine (HCR.out _ HL2.out).mono ?_
    rintro e w3 ⟨rfl, hl, hks⟩
    have HL3 := Lib.hid hl
    have HK3 := Lib.hid (HK2.out.trans hks)
    clear hl hks HCR HL2 HK2
    by_cases hc : c = 0
    · subst hc
      have HSY := Lib.hid (HL3.out.syncDir3 (by omega))
      go_wp2_with fail
      refine HSY.out.mono ?_
      rintro e w4 ⟨rfl, hl, hks⟩
      have HL4 := Lib.hid hl
      have HK4 := Lib.hid (HK3.out.trans hks)
      clear hl hks HSY HL3 HK3
      go_wp2
      go_ret
      exact ⟨by rw [← HQ.out, WL.both_go rfl]; rfl, by rw [← HQ.out, WL.both_go rfl]; exact HL4.out, HK4.out⟩
    · go_wp2
      go_ret
      exact ⟨by rw [← HQ.out, WL.both_stop hc]; rfl, by rw [← HQ.out, WL.both_stop hc]; exact HL3.out.more (by omega), HK3.out⟩
set_option maxRecDepth 100000 in
theorem Mid.rremove8 {B : Nat} {W w : World} {d r : Nat} {s s' : St} {N M N' : Nat} (h : Mid none B W w d r s s' N M N') (hN : N + 2 < 1000000000) (n : Int) (hn : -9223372036854775808 ≤ n ∧ n ≤ 9223372036854775807) {q : Int × St} (hq : WL.remove n s = q) :
    Calls Tryz.prog 14 #[.pointer (some ⟨r, 0, none⟩), .int .i64 n] w (RNum B W w d r q s' (N + 2) M N') := by
  have HNM := Lib.hid (rfile_any ⟨#[108, 111, 103]⟩ n w (by decide) hn)
  have HL := Lib.hid h
  clear h
  obtain ⟨k, hk, hkl⟩ := encS_text (l := WN.file [108, 111, 103] n)
  by_cases hz : k = ⟨#[]⟩
  · have hq0 : q = (2, s) := by
      rw [← hq]
      unfold WL.remove WL.K
      rw [if_pos (by rw [← hkl, hz])]
    subst hq0
    subst hz
    clear hq hkl
    go_enter Tryz.func14, Tryz.ntmps14
    go_wp2_with fail
    refine HNM.out.mono ?_
    rintro e w2 ⟨he, hB⟩
    have he : e = .returned (.string ⟨#[]⟩) := he.trans (by rw [← hk])
    subst he
    have HL2 := Lib.hid (HL.out.still hB)
    have HK2 := Lib.hid (KS.below hB)
    clear hB HNM hk
    go_wp2
    go_ret
    exact ⟨rfl, HL2.out.more (by omega), HK2.out⟩
  · obtain ⟨hne, e1⟩ := empty_of hkl hz
    have HQ : Hid (WL.both (DM.remove k.data.toList s) DM.syncDir = q) := by
      rw [← hq]
      unfold WL.remove
      rw [if_neg hne, hkl]
      exact Lib.hid rfl
    have HCR := Lib.hid (fun W' (hl : Mid none B W W' d r s s' N M N') => hl.remove3 k (by omega))
    obtain ⟨c, s1, hcs⟩ : ∃ c s1, DM.remove k.data.toList s = (c, s1) := ⟨_, _, rfl⟩
    rw [hcs] at HQ HCR
    clear hcs hq hne hkl hz
    go_enter Tryz.func14, Tryz.ntmps14
    go_wp2_with fail
    refine HNM.out.mono ?_
    rintro e w2 ⟨he, hB⟩
    have he : e = .returned (.string k) := he.trans (by rw [← hk])
    subst he
    have HL2 := Lib.hid (HL.out.still hB)
    have HK2 := Lib.hid (KS.below hB)
    clear hB HNM hk HL
    go_wp2_with fail
    refine (HCR.out _ HL2.out).mono ?_
    rintro e w3 ⟨rfl, hl, hks⟩
    have HL3 := Lib.hid hl
    have HK3 := Lib.hid (HK2.out.trans hks)
    clear hl hks HCR HL2 HK2
    by_cases hc : c = 0
    · subst hc
      have HSY := Lib.hid (HL3.out.syncDir3 (by omega))
      go_wp2_with fail
      refine HSY.out.mono ?_
      rintro e w4 ⟨rfl, hl, hks⟩
      have HL4 := Lib.hid hl
      have HK4 := Lib.hid (HK3.out.trans hks)
      clear hl hks HSY HL3 HK3
      go_wp2
      go_ret
      exact ⟨by rw [← HQ.out, WL.both_go rfl]; rfl, by rw [← HQ.out, WL.both_go rfl]; exact HL4.out, HK4.out⟩
    · go_wp2
      go_ret
      exact ⟨by rw [← HQ.out, WL.both_stop hc]; rfl, by rw [← HQ.out, WL.both_stop hc]; exact HL3.out.more (by omega), HK3.out⟩
set_option maxRecDepth 100000 in
theorem Mid.rappend8 {B : Nat} {W w : World} {d r : Nat} {s s' : St} {N M N' : Nat} (h : Mid none B W w d r s s' N M N') (hN : N + 2 < 1000000000) (n : Int) (hn : -9223372036854775808 ≤ n ∧ n ≤ 9223372036854775807) (t : ByteArray) (hts : t.size ≤ 140737488355328) {q : Int × St} (hq : WL.append n t.data.toList s = q) :
    Calls Tryz.prog 10 #[.pointer (some ⟨r, 0, none⟩), .int .i64 n, .string t] w (RNum B W w d r q s' (N + 2) M N') := by
  have HNM := Lib.hid (rfile_any ⟨#[108, 111, 103]⟩ n w (by decide) hn)
  have HL := Lib.hid h
  clear h
  obtain ⟨k, hk, hkl⟩ := encS_text (l := WN.file [108, 111, 103] n)
  by_cases hz : k = ⟨#[]⟩
  · have hq0 : q = (2, s) := by
      rw [← hq]
      unfold WL.append WL.K
      rw [if_pos (by rw [← hkl, hz])]
    subst hq0
    subst hz
    clear hq hkl
    go_enter Tryz.func10, Tryz.ntmps10
    go_wp2_with fail
    refine HNM.out.mono ?_
    rintro e w2 ⟨he, hB⟩
    have he : e = .returned (.string ⟨#[]⟩) := he.trans (by rw [← hk])
    subst he
    have HL2 := Lib.hid (HL.out.still hB)
    have HK2 := Lib.hid (KS.below hB)
    clear hB HNM hk
    go_wp2
    go_ret
    exact ⟨rfl, HL2.out.more (by omega), HK2.out⟩
  · obtain ⟨hne, e1⟩ := empty_of hkl hz
    have HPUT := Lib.hid (fun W => frput_any t W (by omega))
    have HTL := Lib.hid (size_list t)
    by_cases hbig : 65535 < t.size
    · have hq0 : q = (5, s) := by
        rw [← hq]
        unfold WL.append
        rw [if_neg hne, if_pos (by rw [HTL.out]; exact hbig)]
      subst hq0
      rw [putOut_long hbig] at HPUT
      clear hq hne hz hkl hbig
      go_enter Tryz.func10, Tryz.ntmps10
      go_wp2_with fail
      refine HNM.out.mono ?_
      rintro e w2 ⟨he, hB⟩
      have he : e = .returned (.string k) := he.trans (by rw [← hk])
      subst he
      have HL2 := Lib.hid (HL.out.still hB)
      have HK2 := Lib.hid (KS.below hB)
      clear hB HNM hk HL
      go_wp2_with fail
      refine (HPUT.out _).mono ?_
      rintro e w3 ⟨rfl, hB⟩
      have HL3 := Lib.hid (HL2.out.still hB)
      have HK3 := Lib.hid (HK2.out.trans (KS.below hB))
      clear hB
      go_wp2
      go_ret
      exact ⟨rfl, HL3.out.more (by omega), HK3.out⟩
    · obtain ⟨f, hf⟩ : ∃ f : ByteArray, (⟨(FM.frame t.data.toList).toArray⟩ : ByteArray) = f := ⟨_, rfl⟩
      have hfl : f.data.toList = FM.frame t.data.toList := by rw [← hf]
      have hfs : f.size ≤ 140737488355328 := by rw [← size_list, hfl, FM.frame_len, HTL.out]; omega
      have HQ : Hid (WL.both (DM.append k.data.toList f.data.toList s) (DM.sync k.data.toList) = q) := by
        rw [← hq]
        unfold WL.append
        rw [if_neg hne, if_neg (by rw [HTL.out]; exact hbig), hkl, hfl]
        exact Lib.hid rfl
      rw [putOut_good (by omega), hf] at HPUT
      have HCR := Lib.hid (fun W' (hl : Mid none B W W' d r s s' N M N') => hl.append3 k f (by omega) hfs)
      obtain ⟨c, s1, hcs⟩ : ∃ c s1, DM.append k.data.toList f.data.toList s = (c, s1) := ⟨_, _, rfl⟩
      rw [hcs] at HQ HCR
      clear hcs hq hne hkl hz hf hfl hfs hbig HTL
      go_enter Tryz.func10, Tryz.ntmps10
      go_wp2_with fail
      refine HNM.out.mono ?_
      rintro e w2 ⟨he, hB⟩
      have he : e = .returned (.string k) := he.trans (by rw [← hk])
      subst he
      have HL2 := Lib.hid (HL.out.still hB)
      have HK2 := Lib.hid (KS.below hB)
      clear hB HNM hk HL
      go_wp2_with fail
      refine (HPUT.out _).mono ?_
      rintro e w3 ⟨rfl, hB⟩
      have HL3 := Lib.hid (HL2.out.still hB)
      have HK3 := Lib.hid (HK2.out.trans (KS.below hB))
      clear hB HL2 HK2 HPUT
      go_wp2_with fail
      refine (HCR.out _ HL3.out).mono ?_
      rintro e w4 ⟨rfl, hl, hks⟩
      have HL4 := Lib.hid hl
      have HK4 := Lib.hid (HK3.out.trans hks)
      clear hl hks HCR HL3 HK3
      by_cases hc : c = 0
      · subst hc
        have HSY := Lib.hid (HL4.out.sync3 k (by omega))
        go_wp2_with fail
        refine HSY.out.mono ?_
        rintro e w5 ⟨rfl, hl, hks⟩
        have HL5 := Lib.hid hl
        have HK5 := Lib.hid (HK4.out.trans hks)
        clear hl hks HSY HL4 HK4
        go_wp2
        go_ret
        exact ⟨by rw [← HQ.out, WL.both_go rfl]; rfl, by rw [← HQ.out, WL.both_go rfl]; exact HL5.out, HK5.out⟩
      · go_wp2
        go_ret
        exact ⟨by rw [← HQ.out, WL.both_stop hc]; rfl, by rw [← HQ.out, WL.both_stop hc]; exact HL4.out.more (by omega), HK4.out⟩

end Go.Proofs.YtgknkldhjejjmaaGreatDoor

/- The log that is read, by the document. -/
namespace Go.Proofs.YtgknkldhjejjmaaGreatDoor
open Go.RowKit Go.Maps
open DM

theorem get_code (l : Bs) : (FM.get l).2.2 = 0 ∨ (FM.get l).2.2 = 3 ∨ (FM.get l).2.2 = 4 ∨ (FM.get l).2.2 = 6 ∨ (FM.get l).2.2 = 10 := by
  have hm : (FM.meas l).2 = 0 ∨ (FM.meas l).2 = 3 ∨ (FM.meas l).2 = 4 ∨ (FM.meas l).2 = 6 ∨ (FM.meas l).2 = 10 := by
    unfold FM.meas
    split
    · exact .inr (.inr (.inr (.inr rfl)))
    split
    · exact .inr (.inl rfl)
    split
    · exact .inr (.inr (.inl rfl))
    split
    · exact .inr (.inl rfl)
    · exact .inl rfl
  unfold FM.get
  split
  · exact hm
  split
  · exact .inr (.inr (.inr (.inl rfl)))
  · exact .inl rfl
theorem all_code : ∀ (f : Nat) (l : Bs), (FM.all f l).2.2 = 3 ∨ (FM.all f l).2.2 = 4 ∨ (FM.all f l).2.2 = 6 ∨ (FM.all f l).2.2 = 10
  | 0, _ => .inr (.inr (.inr rfl))
  | f + 1, l => by
    unfold FM.all
    split
    · rename_i h
      exact (get_code l).resolve_left h
    · exact all_code f _

/-- what the document's Read leaves -/
def LogR (w : World) (B : Nat) (W : World) (d r : Nat) (s : St) (N M : Nat) (x : List Bs × Bool × Int) (e : Ending) (w' : World) : Prop :=
  ∃ v, e = .returned (.tuple #[v, .bool x.2.1, .int .i64 x.2.2]) ∧ w'.ownsRow w.heap.size 9 1 v x.1.length (strs x.1) ∧ Duo none B W w' d r s N M ∧ Below w.heap.size w w'
theorem LogR.none {w : World} {B : Nat} {W : World} {d r : Nat} {s : St} {N M : Nat} {x : List Bs × Bool × Int} {c : Int} {w' : World} (hr : x = ([], false, c)) (h : Duo none B W w' d r s N M) (hb : Below w.heap.size w w') :
    LogR w B W d r s N M x (.returned (.tuple #[.slice none 0 0, .bool false, .int .i64 c])) w' := by
  subst hr
  exact ⟨_, rfl, World.ownsRow_nil _ _ _ _, h, hb⟩

theorem Duo.read4 {B : Nat} {W w : World} {d r : Nat} {s : St} {N M : Nat} (h : Duo none B W w d r s N M) (k : ByteArray) :
    Calls Tryz.prog 35 #[.pointer (some ⟨r, 0, none⟩), .string k] w fun e w' => e = .returned (.tuple #[encS (DM.read k.data.toList s).1, .int .i64 (DM.read k.data.toList s).2]) ∧ Duo none B W w' d r s N M ∧ Below w.heap.size w w' := by
  obtain ⟨t, g, hr, hs⟩ := h.ref
  rw [← hs.read]
  exact (rread_any hr (h.fewT hs) k).mono fun _ _ ⟨he, hb⟩ => ⟨he, h.still hb, hb⟩

set_option maxRecDepth 100000 in
theorem Duo.rread8 {B : Nat} {W w : World} {d r : Nat} {s : St} {N M : Nat} (h : Duo none B W w d r s N M) (n : Int) (hn : -9223372036854775808 ≤ n ∧ n ≤ 9223372036854775807) {x : List Bs × Bool × Int} (hx : WL.read n s = x) :
    Calls Tryz.prog 12 #[.pointer (some ⟨r, 0, none⟩), .int .i64 n] w (LogR w B W d r s N M x) := by
  have HNM := Lib.hid (rfile_any ⟨#[108, 111, 103]⟩ n w (by decide) hn)
  have HL := Lib.hid h
  have HOK := Lib.hid h.live.ok
  clear h
  obtain ⟨k, hk, hkl⟩ := encS_text (l := WN.file [108, 111, 103] n)
  by_cases hz : k = ⟨#[]⟩
  · have hx0 : Hid (x = ([], false, 2)) := by
      rw [← hx]
      unfold WL.read WL.K
      rw [if_pos (by rw [← hkl, hz])]
      exact Lib.hid rfl
    clear hx hkl
    go_enter Tryz.func12, Tryz.ntmps12
    go_wp2_with fail
    refine HNM.out.mono ?_
    rintro e w2 ⟨he, hB⟩
    have he : e = .returned (.string ⟨#[]⟩) := he.trans (by rw [← hz, ← hk])
    subst he
    have HL2 := Lib.hid (HL.out.still hB)
    have HB2 := Lib.hid hB
    clear hB hz hk HNM
    go_wp2
    go_ret3
    exact LogR.none hx0.out HL2.out HB2.out
  · obtain ⟨hne, e1⟩ := empty_of hkl hz
    obtain ⟨y, c, hrd⟩ : ∃ y c, DM.read k.data.toList s = (y, c) := ⟨_, _, rfl⟩
    have hyl : y.length ≤ 1048576 := by
      have := read_len HOK.out k.data.toList
      rw [hrd] at this
      exact this
    have HR : Hid (WL.readOf (y, c) = x) := by
      rw [← hx]
      unfold WL.read
      rw [if_neg hne]
      have : DM.read (WL.K n) s = (y, c) := by rw [← hrd, hkl]; rfl
      rw [this]
      exact Lib.hid rfl
    obtain ⟨t, ht, htl⟩ := encS_text (l := y)
    have hts : t.size ≤ 1048576 := by rw [← size_list, htl]; exact hyl
    have HRD := Lib.hid (fun W' (hl : Duo none B W W' d r s N M) => hl.read4 k)
    rw [hrd] at HRD
    clear hx hkl hne hrd hyl hz
    by_cases hc : c = 0
    · subst hc
      obtain ⟨X, m, a, hall⟩ : ∃ X m a, alls t = (X, m, a) := ⟨_, _, _, rfl⟩
      have hcode : a = 3 ∨ a = 4 ∨ a = 6 ∨ a = 10 := by
        have := all_code (t.size + 1) t.data.toList
        unfold alls at hall
        rw [hall] at this
        exact this
      have HEND : Hid ((if a = 4 ∨ a = 6 then ([], false, 6) else (X, decide (a = 3), 0)) = x) := by
        rw [← HR.out]
        refine Lib.hid (WL.readOf_end (k := m) ?_).symm
        rw [← htl, size_list]
        exact hall
      have HA := Lib.hid (fun W => frall_any t W (by omega))
      unfold AllOut at HA
      rw [hall] at HA
      clear hall HR htl
      go_enter Tryz.func12, Tryz.ntmps12
      go_wp2_with fail
      refine HNM.out.mono ?_
      rintro e w2 ⟨he, hB⟩
      have he : e = .returned (.string k) := he.trans (by rw [← hk])
      subst he
      have HB2 := Lib.hid hB
      have HL2 := Lib.hid (HL.out.still hB)
      clear hB hk HL HNM HOK
      go_wp2_with fail
      refine (HRD.out _ HL2.out).mono ?_
      rintro e w3 ⟨he, hl, hB⟩
      have he : e = .returned (.tuple #[.string t, .int .i64 0]) := he.trans (by rw [← ht])
      subst he
      have HL3 := Lib.hid hl
      have HB3 := Lib.hid (HB2.out.trans (hB.mono HB2.out.size))
      clear hl hB HRD HL2 ht HB2
      go_wp2_with fail
      refine (HA.out _).mono ?_
      rintro e w4 ⟨v, rfl, hown, hB⟩
      have HL4 := Lib.hid (HL3.out.still hB)
      have HOWN : Hid (w4.ownsRow w.heap.size 9 1 v X.length (strs X)) := Lib.hid (World.ownsRow.mono hown HB3.out.size)
      have HB4 := Lib.hid (HB3.out.trans (hB.mono HB3.out.size))
      obtain ⟨A, C, rfl⟩ := own_slice hown
      clear hown hB HL3 HA
      rcases hcode with rfl | rfl | rfl | rfl
      · have hr0 : Hid (x = (X, true, 0)) := Lib.hid (by rw [← HEND.out, if_neg (by decide)]; rfl)
        go_wp2
        go_ret3
        exact ⟨_, by rw [hr0.out]; rfl, by rw [hr0.out]; exact HOWN.out, HL4.out, HB4.out⟩
      · have hr0 : Hid (x = ([], false, 6)) := Lib.hid (by rw [← HEND.out, if_pos (by decide)])
        go_wp2
        go_ret3
        exact LogR.none hr0.out HL4.out HB4.out
      · have hr0 : Hid (x = ([], false, 6)) := Lib.hid (by rw [← HEND.out, if_pos (by decide)])
        go_wp2
        go_ret3
        exact LogR.none hr0.out HL4.out HB4.out
      · have hr0 : Hid (x = (X, false, 0)) := Lib.hid (by rw [← HEND.out, if_neg (by decide)]; rfl)
        go_wp2
        go_ret3
        exact ⟨_, by rw [hr0.out]; rfl, by rw [hr0.out]; exact HOWN.out, HL4.out, HB4.out⟩
    · have hr0 : Hid (x = ([], false, c)) := by
        rw [← HR.out]
        unfold WL.readOf
        rw [if_pos hc]
        exact Lib.hid rfl
      clear HR htl
      go_enter Tryz.func12, Tryz.ntmps12
      go_wp2_with fail
      refine HNM.out.mono ?_
      rintro e w2 ⟨he, hB⟩
      have he : e = .returned (.string k) := he.trans (by rw [← hk])
      subst he
      have HL2 := Lib.hid (HL.out.still hB)
      have HB2 := Lib.hid hB
      clear hB hk HL HNM HOK
      go_wp2_with fail
      refine (HRD.out _ HL2.out).mono ?_
      rintro e w3 ⟨he, hl, hB⟩
      have he : e = .returned (.tuple #[.string t, .int .i64 c]) := he.trans (by rw [← ht])
      subst he
      have HL3 := Lib.hid hl
      have HB3 := Lib.hid (HB2.out.trans (hB.mono HB2.out.size))
      clear hl hB HRD HL2 HB2 ht
      go_wp2
      go_ret3
      exact LogR.none hr0.out HL3.out HB3.out
end Go.Proofs.YtgknkldhjejjmaaGreatDoor

