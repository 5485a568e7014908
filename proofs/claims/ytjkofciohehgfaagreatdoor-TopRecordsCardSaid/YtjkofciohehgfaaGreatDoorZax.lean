/- Texts joined by bundle.py: YDWc. -/
import Derived.Test.YtjkofciohehgfaaGreatDoorZaw
import Derived.Test.YtjkofciohehgfaaGreatDoorZau
import Derived.Deep.Onto

/- The log that is read, over a disk; the log that wakes makes. -/
namespace Go.Proofs.YtjkofciohehgfaaGreatDoor.L8
open Go.RowKit Go.Maps
open DM

theorem read_len {s : St} (h : Ok s) (k : Bs) : (DM.read k s).1.length ≤ 1048576 := by
  unfold DM.read
  split
  · simp
  · split
    · simp
    · exact h.lens_le _

/-- what a log's Read leaves -/
def LogOut (w : World) (B : Nat) (w0 : World) (d : Nat) (s : St) (N M : Nat) (r : List Bs × Bool × Int) (e : Ending) (w' : World) : Prop :=
  ∃ v, e = .returned (.tuple #[v, .bool r.2.1, .int .i64 r.2.2]) ∧ w'.ownsRow w.heap.size 9 1 v r.1.length (strs r.1) ∧ Live B w0 w' d s N M

theorem LogOut.none {w : World} {B : Nat} {w0 : World} {d : Nat} {s : St} {N M : Nat} {r : List Bs × Bool × Int} {c : Int} {w' : World} (hr : r = ([], false, c)) (h : Live B w0 w' d s N M) :
    LogOut w B w0 d s N M r (.returned (.tuple #[.slice none 0 0, .bool false, .int .i64 c])) w' := by
  subst hr
  exact ⟨_, rfl, World.ownsRow_nil _ _ _ _, h⟩

set_option maxRecDepth 100000 in
theorem Live.wread {B : Nat} {w0 w : World} {d : Nat} {s : St} {N M : Nat} (h : Live B w0 w d s N M) (n : Int) (hn : -9223372036854775808 ≤ n ∧ n ≤ 9223372036854775807) (ht : Tab w) {r : List Bs × Bool × Int} (hr : WL.read n s = r) :
    Calls Tryz.prog 12 #[.pointer (some ⟨d, 0, none⟩), .int .i64 n] w (LogOut w B w0 d s N M r) := by
  have HNM := Lib.hid (fun W hW => wname_any n W hn hW)
  have HL := Lib.hid h
  have HT := Lib.hid ht
  have HOK := Lib.hid h.ok
  clear h ht
  obtain ⟨k, hk, hkl⟩ := encS_text (l := WN.file [108, 111, 103] n)
  have hks : k.size ≤ 12 := by rw [← size_list, hkl]; exact WL.k_len n
  by_cases hz : k = ⟨#[]⟩
  · have hr0 : Hid (r = ([], false, 2)) := by
      rw [← hr]
      unfold WL.read WL.K
      rw [if_pos (by rw [← hkl, hz])]
      exact Lib.hid rfl
    clear hr hkl hks
    go_enter Tryz.func12, Tryz.ntmps12
    go_wp2_with fail
    refine (HNM.out _ HT.out).mono ?_
    rintro e w2 ⟨he, hB⟩
    have he : e = .returned (.string ⟨#[]⟩) := he.trans (by rw [hk, hz])
    subst he
    have HL2 := Lib.hid (HL.out.still hB)
    clear hB hz hk
    go_wp2
    go_ret3
    exact LogOut.none hr0.out HL2.out
  · have hne : WL.K n ≠ [] := fun e => hz (str_ext (by rw [hkl]; exact e))
    have e1 : k.toList.isEmpty = false := by
      rw [Lib.toList_data]
      cases hkc : k.data.toList with
      | nil => exact absurd (hkl.symm.trans hkc) hne
      | cons a r => rfl
    obtain ⟨x, c, hrd⟩ : ∃ x c, DM.read k.data.toList s = (x, c) := ⟨_, _, rfl⟩
    have hxl : x.length ≤ 1048576 := by
      have := read_len HOK.out k.data.toList
      rw [hrd] at this
      exact this
    have HR : Hid (WL.readOf (x, c) = r) := by
      rw [← hr]
      unfold WL.read
      rw [if_neg hne]
      have : DM.read (WL.K n) s = (x, c) := by rw [← hrd, hkl]; rfl
      rw [this]
      exact Lib.hid rfl
    obtain ⟨t, ht, htl⟩ := encS_text (l := x)
    have hts : t.size ≤ 1048576 := by rw [← size_list, htl]; exact hxl
    have HRD : Hid (∀ W, Live B w0 W d s N M → Calls Tryz.prog 39 #[.pointer (some ⟨d, 0, none⟩), .string k] W fun e w' => e = .returned (.tuple #[encS x, .int .i64 c]) ∧ Live B w0 w' d s N M ∧ W.heap.size ≤ w'.heap.size) :=
      Lib.hid fun W hl => (hl.here.read k (by omega) hrd).mono fun e w' ⟨he, h⟩ => ⟨he, hl.moves' h, h.moves.size⟩
    clear hr hkl hne hrd hxl hz
    by_cases hc : c = 0
    · subst hc
      obtain ⟨X, m, a, hall⟩ : ∃ X m a, alls t = (X, m, a) := ⟨_, _, _, rfl⟩
      have HEND : Hid ((if a = 4 ∨ a = 6 then ([], false, 6) else (X, decide (a = 3), 0)) = r) := by
        rw [← HR.out]
        refine Lib.hid (WL.readOf_end (k := m) ?_).symm
        rw [← htl, size_list]
        exact hall
      have HA := Lib.hid (fun W => fall_any t W (by omega))
      unfold AllOut at HA
      rw [hall] at HA
      clear hall HR htl
      go_enter Tryz.func12, Tryz.ntmps12
      go_wp2_with fail
      refine (HNM.out _ HT.out).mono ?_
      rintro e w2 ⟨he, hB⟩
      have he : e = .returned (.string k) := he.trans (by rw [hk])
      subst he
      have HB2 := Lib.hid hB
      have HL2 := Lib.hid (HL.out.still hB)
      clear hB hk HL HT HNM HOK
      go_wp2_with fail
      refine (HRD.out _ HL2.out).mono ?_
      rintro e w3 ⟨he, hl, hsz⟩
      have he : e = .returned (.tuple #[.string t, .int .i64 0]) := he.trans (by rw [ht])
      subst he
      have HL3 := Lib.hid hl
      have HSZ : Hid (w.heap.size ≤ w3.heap.size) := Lib.hid (Nat.le_trans HB2.out.size hsz)
      clear hl hsz HRD HL2 ht HB2
      go_wp2_with fail
      refine (HA.out _).mono ?_
      rintro e w4 ⟨v, rfl, hown, hB⟩
      have HL4 := Lib.hid (HL3.out.still hB)
      have HOWN := Lib.hid (hown.mono HSZ.out)
      obtain ⟨A, C, rfl⟩ := own_slice hown
      clear hown hB HL3 HA
      by_cases h4 : a = 4 ∨ a = 6
      · have hr0 : Hid (r = ([], false, 6)) := Lib.hid (by rw [← HEND.out, if_pos h4])
        rcases h4 with rfl | rfl
        · go_wp2
          go_ret3
          exact LogOut.none hr0.out HL4.out
        · go_wp2
          go_ret3
          exact LogOut.none hr0.out HL4.out
      · have hr0 : Hid (r = (X, decide (a = 3), 0)) := Lib.hid (by rw [← HEND.out, if_neg h4])
        have n4 : ¬ a = 4 := fun e => h4 (.inl e)
        have n6 : ¬ a = 6 := fun e => h4 (.inr e)
        clear h4
        by_cases h3 : a = 3
        · subst h3
          go_wp2
          go_ret3
          exact ⟨_, by rw [hr0.out]; rfl, by rw [hr0.out]; exact HOWN.out, HL4.out⟩
        · have hd : decide (a = 3) = false := decide_eq_false h3
          rw [hd] at hr0
          have hq : (a == 3) = false := beq_eq_false_iff_ne.2 h3
          go_wp2
          go_ret3
          exact ⟨_, by rw [hr0.out]; rfl, by rw [hr0.out]; exact HOWN.out, HL4.out⟩
    · have hr0 : Hid (r = ([], false, c)) := by
        rw [← HR.out]
        unfold WL.readOf
        rw [if_pos hc]
        exact Lib.hid rfl
      clear HR htl
      go_enter Tryz.func12, Tryz.ntmps12
      go_wp2_with fail
      refine (HNM.out _ HT.out).mono ?_
      rintro e w2 ⟨he, hB⟩
      have he : e = .returned (.string k) := he.trans (by rw [hk])
      subst he
      have HL2 := Lib.hid (HL.out.still hB)
      clear hB hk HL HT HNM HOK
      go_wp2_with fail
      refine (HRD.out _ HL2.out).mono ?_
      rintro e w3 ⟨he, hl, -⟩
      have he : e = .returned (.tuple #[.string t, .int .i64 c]) := he.trans (by rw [ht])
      subst he
      have HL3 := Lib.hid hl
      clear hl HRD HL2 ht
      go_wp2
      go_ret3
      exact LogOut.none hr0.out HL3.out
end Go.Proofs.YtjkofciohehgfaaGreatDoor.L8


