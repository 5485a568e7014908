/- The number of a name: the program's Number, the document's File and Number. -/
import Derived.Test.YtgknkldhjejjmaaDoorWl
import Derived.Test.YtgknkldhjejjmaaDoorFGet
import Derived.Lib.AtoiErrMem
namespace Go.Proofs.YtgknkldhjejjmaaDoor
open Go.RowKit
open DM (Bs)

/-- the two errors of strconv's that ParseInt reads -/
def Errs (w : World) : Prop := ∃ t1 p1 t2 p2, w.var? Tryd.prog "strconv.ErrSyntax" = some #[.iface t1 p1] ∧ w.var? Tryd.prog "strconv.ErrRange" = some #[.iface t2 p2]
theorem Errs.below {w w' : World} (h : Errs w) (hb : Below w.heap.size w w') : Errs w' := by
  obtain ⟨t1, p1, t2, p2, h1, h2⟩ := h
  exact ⟨t1, p1, t2, p2, var_below h1 hb, var_below h2 hb⟩

def NumOut (w : World) (r : Int × Bool) (e : Ending) (w' : World) : Prop := e = .returned (.tuple #[.int .i64 r.1, .bool r.2]) ∧ Below w.heap.size w w'

theorem NumOut.of {w w' : World} {r q : Int × Bool} (h : r = q) (hb : Below w.heap.size w w') : NumOut w r (.returned (.tuple #[.int .i64 q.1, .bool q.2])) w' := by subst h; exact ⟨rfl, hb⟩



theorem list_ne {a b : ByteArray} (h : a.data.toList ≠ b.data.toList) : (a.toList == b.toList) = false := by
  rw [beq_eq_false_iff_ne, Lib.toList_data, Lib.toList_data]
  exact h

set_option maxRecDepth 100000 in
theorem wnumber_any (k name : ByteArray) (w : World) (hk : k.size ≤ 140737488355328) (hn : name.size ≤ 140737488355328) (ht : Tab w) (he : Errs w) :
    Calls Tryd.prog 7 #[.string k, .string name] w (NumOut w (WN.number k.data.toList name.data.toList)) := by
  have HNL := Lib.hid (size_list name)
  by_cases h8 : name.size < 8
  · have HO := Lib.hid (WN.number_short (k := k.data.toList) (name := name.data.toList) (by rw [HNL.out]; exact h8))
    have h9 : ((name.size : Int) - 8) < 0 := by omega
    go_enter Tryd.func7, Tryd.ntmps7
    go_wp2
    go_ret2
    exact NumOut.of HO.out (Below.refl _ _)
  · obtain ⟨a, ha⟩ : ∃ a, name.size - 8 = a := ⟨_, rfl⟩
    have haI : (name.size : Int) - 8 = (a : Int) := by omega
    have hle : a ≤ name.size := by omega
    have h0 : ¬ ((a : Int) < 0) := by omega
    have htl := fun W => fstr_tail W name a hle
    obtain ⟨z, hz⟩ : ∃ z, name.extract a name.size = z := ⟨_, rfl⟩
    have hzl : z.data.toList = name.data.toList.drop a := by rw [← hz]; exact tail_list name a
    have hzs : z.size ≤ 140737488355328 := by rw [← size_list, hzl, List.length_drop, HNL.out]; omega
    simp only [hz] at htl
    have hdrop : name.data.toList.drop (name.data.toList.length - 8) = z.data.toList := by rw [HNL.out, ha, hzl]
    have h8' : 8 ≤ name.data.toList.length := by rw [HNL.out]; omega
    obtain ⟨t1, p1, t2, p2, v1, v2⟩ := he
    have HTB := Lib.hid ht
    clear ht hle hz ha
    cases hp : Lib.parseIntB 64 z.data.toList with
    | «syntax» =>
      have HO : Hid (WN.number k.data.toList name.data.toList = (0, false)) := Lib.hid (WN.number_bad fun v hv => by rw [hdrop, hp] at hv; cases hv)
      have HP := Lib.hid (Tryd.strconv_ParseInt_10_at64_syntax_var z (by omega) hp t1 p1 w v1)
      clear hp hdrop h8' hzl v1 v2
      go_enter Tryd.func7, Tryd.ntmps7
      go_wp2_with (go_at_call 21; refine HP.out.mono ?_; rintro e w1 ⟨N, rfl, -, -, hB⟩)
      go_ret2
      exact NumOut.of HO.out hB
    | range =>
      have HO : Hid (WN.number k.data.toList name.data.toList = (0, false)) := Lib.hid (WN.number_bad fun v hv => by rw [hdrop, hp] at hv; cases hv)
      have HP := Lib.hid (Tryd.strconv_ParseInt_10_at64_range_var z (by omega) hp t2 p2 w v2)
      clear hp hdrop h8' hzl v1 v2
      go_enter Tryd.func7, Tryd.ntmps7
      go_wp2_with (go_at_call 21; refine HP.out.mono ?_; rintro e w1 ⟨N, rfl, -, -, hB⟩)
      go_ret2
      exact NumOut.of HO.out hB
    | ok v =>
      have HP := Lib.hid (Tryd.strconv_ParseInt_10_at64_ok z (by omega) v hp w)
      obtain ⟨b1, b2⟩ := Lib.parseIntB_bounds hp
      have b3 : (2 : Nat) ^ (64 - 1) = 9223372036854775808 := by decide
      rw [b3] at b1 b2
      have HF := Lib.hid (fun W (hW : Tab W) => wfile_any k v W hk (by omega) hW)
      obtain ⟨f, hf, hfl⟩ := encS_text (l := WN.file k.data.toList v)
      by_cases hs : WN.file k.data.toList v = name.data.toList
      · have HO : Hid (WN.number k.data.toList name.data.toList = (v, true)) := Lib.hid (WN.number_same h8' hs)
        obtain rfl : f = name := str_ext (hfl.trans hs)
        clear hs hp hdrop h8' hzl v1 v2 b1 b2 b3 hfl
        go_enter Tryd.func7, Tryd.ntmps7
        go_wp2_with (go_at_call 21; refine HP.out.mono ?_; rintro e w1 ⟨rfl, hw⟩)
        have HB1 : Hid (Below w.heap.size w w1) := by
          rcases hw with rfl | ⟨t, rfl⟩
          · exact Lib.hid (Below.refl _ _)
          · exact Lib.hid (Lib.bytesWorld_below _ _ _)
        have HT1 := Lib.hid (HTB.out.below HB1.out)
        clear hw
        go_wp2_with (go_at_call 10; refine (HF.out _ HT1.out).mono ?_; rintro e w2 ⟨he, hB⟩; have he : e = .returned (.string f) := he.trans (by rw [← hf]); subst he)
        go_ret2
        exact NumOut.of HO.out (HB1.out.trans (hB.mono HB1.out.size))
      · have HO : Hid (WN.number k.data.toList name.data.toList = (0, false)) := Lib.hid (WN.number_other (by rw [hdrop]; exact hp) hs)
        have hne := list_ne (a := f) (b := name) (by rw [hfl]; exact hs)
        clear hs hp hdrop h8' hzl v1 v2 b1 b2 b3 hfl
        go_enter Tryd.func7, Tryd.ntmps7
        go_wp2_with (go_at_call 21; refine HP.out.mono ?_; rintro e w1 ⟨rfl, hw⟩)
        have HB1 : Hid (Below w.heap.size w w1) := by
          rcases hw with rfl | ⟨t, rfl⟩
          · exact Lib.hid (Below.refl _ _)
          · exact Lib.hid (Lib.bytesWorld_below _ _ _)
        have HT1 := Lib.hid (HTB.out.below HB1.out)
        clear hw
        go_wp2_with (go_at_call 10; refine (HF.out _ HT1.out).mono ?_; rintro e w2 ⟨he, hB⟩; have he : e = .returned (.string f) := he.trans (by rw [← hf]); subst he)
        go_ret2
        exact NumOut.of HO.out (HB1.out.trans (hB.mono HB1.out.size))
end Go.Proofs.YtgknkldhjejjmaaDoor
