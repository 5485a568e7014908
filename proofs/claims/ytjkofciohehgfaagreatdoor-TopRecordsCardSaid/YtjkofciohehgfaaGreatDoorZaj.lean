/- Texts joined by bundle.py: YDWl. -/
import Derived.Test.YtjkofciohehgfaaGreatDoorZae
import Derived.Test.YtjkofciohehgfaaGreatDoorZah
import Derived.Test.YtjkofciohehgfaaGreatDoorZai
import Derived.Lib.LaidTab
import Derived.Deep.QuietTactic

/- The names of a log: goodKind, File, Name, Number. -/
namespace Go.Proofs.YtjkofciohehgfaaGreatDoor.L8
open Go.RowKit
open DM (Bs)

/-- the table of powers of ten, that the walks of a numeral ask for -/
def Tab (w : World) : Prop := Lib.TabIs Tryz.prog w "internal/strconv.uint64pow10" .u64 Lib.pow10Tab
theorem var_below {x : String} {w w' : World} {cs : Array Value} (h : w.var? Tryz.prog x = some cs) (hb : Below w.heap.size w w') : w'.var? Tryz.prog x = some cs := by
  unfold World.var? at h ⊢
  cases hg : Tryz.prog.globalNamed x with
  | none => rw [hg] at h; cases h
  | some g =>
    rw [hg] at h
    simp only [Option.bind_some] at h ⊢
    have hlt : g < w.heap.size := by
      rcases Nat.lt_or_ge g w.heap.size with h' | h'
      · exact h'
      · rw [Array.getElem?_eq_none h'] at h; cases h
    rw [hb.block g hlt]
    exact h
theorem Tab.below {w w' : World} (h : Tab w) (hb : Below w.heap.size w w') : Tab w' := var_below h hb

theorem all_take {p : UInt8 → Bool} {l : Bs} {j : Nat} (h : (l.take j).all p = true) (hj : j < l.length) (hp : p l[j] = true) : (l.take (j + 1)).all p = true := by
  rw [List.take_succ_eq_append_getElem hj, List.all_append, h]
  simp [hp]
theorem all_bad {p : UInt8 → Bool} {l : Bs} {j : Nat} (hj : j < l.length) (hp : p l[j] = false) : l.all p = false := by
  rw [← Bool.not_eq_true, List.all_eq_true]
  intro h
  have := h l[j] (List.getElem_mem hj)
  rw [hp] at this
  cases this

def letter (c : UInt8) : Bool := decide (97 ≤ c.toNat) && decide (c.toNat ≤ 122)
theorem goodKind_def (k : Bs) : WN.goodKind k = (!k.isEmpty && k.all letter) := rfl

set_option maxRecDepth 100000 in
theorem goodKind_any (k : ByteArray) (w : World) (hk : k.size ≤ 140737488355328) :
    Calls Tryz.prog 102 #[.string k] w fun e w' => e = .returned (.bool (WN.goodKind k.data.toList)) ∧ Below w.heap.size w w' := by
  have HSL := Lib.hid (size_list k)
  go_enter Tryz.func102, Tryz.ntmps102
  go_wp2_with fail
  go_loopw [6] (fun v wr => ∃ j : Nat, j ≤ k.size ∧ v = .int .i64 j ∧ Hid ((k.data.toList.take j).all letter = true) ∧ Below w.heap.size w wr) (fun v _ => k.size - (intOf v).toNat)
  case atStart => exact ⟨0, by omega, rfl, by rw [List.take_zero]; exact Lib.hid rfl, Below.refl _ _⟩
  case round =>
    obtain ⟨j, hj, rfl, HA, hB⟩ := hrel
    have HB := Lib.hid hB
    clear hB
    by_cases hlt : j < k.size
    · have hjl : j < k.data.toList.length := by rw [HSL.out]; exact hlt
      have i0 : (0 : Int) ≤ (j : Int) := by omega
      have i1 : (j : Int) < (k.size : Int) := by omega
      have hx1 := byte_of k j hlt
      obtain ⟨x, hx⟩ : ∃ x, k[j] = x := ⟨_, rfl⟩
      rw [hx] at hx1
      by_cases c1 : x.toNat < 97
      · have HO : Hid (WN.goodKind k.data.toList = false) := by
          rw [goodKind_def, all_bad hjl (by rw [hx1]; unfold letter; simp; omega), Bool.and_false]
          exact Lib.hid rfl
        go_wp2
        go_ret
        exact ⟨by rw [HO.out]; rfl, (by first | exact HB.out | exact below_drewN HB.out _ | exact below_drewN (below_drewN HB.out _) _)⟩
      · by_cases c2 : 122 < x.toNat
        · have HO : Hid (WN.goodKind k.data.toList = false) := by
            rw [goodKind_def, all_bad hjl (by rw [hx1]; unfold letter; simp; omega), Bool.and_false]
            exact Lib.hid rfl
          go_wp2
          go_ret
          exact ⟨by rw [HO.out]; rfl, (by first | exact HB.out | exact below_drewN HB.out _ | exact below_drewN (below_drewN HB.out _) _)⟩
        · have HST : Hid ((k.data.toList.take (j + 1)).all letter = true) := Lib.hid (all_take HA.out hjl (by rw [hx1]; unfold letter; simp; omega))
          go_wp2
          go_roundw
          case rel => exact ⟨j + 1, by omega, by go_num, HST, (by first | exact HB.out | exact below_drewN HB.out _ | exact below_drewN (below_drewN HB.out _) _)⟩
          case measure => simp [intOf]; omega
    · obtain rfl : j = k.size := by omega
      have hall : k.data.toList.all letter = true := by
        have := HA.out
        rwa [← HSL.out, List.take_length] at this
      by_cases hz : k = ⟨#[]⟩
      · subst hz
        go_wp2
        go_ret
        exact ⟨rfl, HB.out⟩
      · have hne : k.data.toList ≠ [] := fun e => hz (str_ext (by rw [e]))
        have HO : Hid (WN.goodKind k.data.toList = true) := by
          rw [goodKind_def, hall, Bool.and_true]
          cases hkl : k.data.toList with
          | nil => exact absurd hkl hne
          | cons a r => exact Lib.hid rfl
        have e1 : k.toList.isEmpty = false := by
          rw [Lib.toList_data]
          cases hk : k.data.toList with
          | nil => exact absurd hk hne
          | cons a r => rfl
        clear hz hne hall
        go_wp2
        go_ret
        exact ⟨by rw [HO.out]; rfl, HB.out⟩

theorem encS_text {l : Bs} : ∃ r : ByteArray, encS l = .string r ∧ r.data.toList = l := ⟨⟨l.toArray⟩, rfl, rfl⟩

/-- what a call leaves that answers a name -/
def NameOut (w : World) (l : Bs) (e : Ending) (w' : World) : Prop := e = .returned (encS l) ∧ Below w.heap.size w w'

theorem below_grow {B : Nat} {w w' : World} (h : Below B w w') (k : Nat) (os : Array Obj) (hB : B ≤ w'.heap.size) : Below B w (Go.Sort.grow (w'.drewN k) os) := by
  refine h.trans ⟨rfl, rfl, rfl, by show w'.heap.size ≤ (w'.heap ++ os).size; rw [Array.size_append]; omega, fun b hb => ?_⟩
  show (w'.heap ++ os)[b]? = w'.heap[b]?
  rw [Array.getElem?_append_left (by omega)]

set_option maxRecDepth 100000 in
theorem wfile_any (k : ByteArray) (n : Int) (w : World) (hk : k.size ≤ 140737488355328) (hn : -9223372036854775808 ≤ n ∧ n ≤ 9223372036854775807) (ht : Tab w) :
    Calls Tryz.prog 64 #[.string k, .int .i64 n] w (NameOut w (WN.file k.data.toList n)) := by
  obtain ⟨hn0, hn1⟩ := hn
  have HG := Lib.hid (goodKind_any k w hk)
  obtain ⟨g, hg⟩ : ∃ g, WN.goodKind k.data.toList = g := ⟨_, rfl⟩
  rw [hg] at HG
  by_cases hbad : g = false ∨ n < 0 ∨ 100000000 ≤ n
  · have HO : Hid (WN.file k.data.toList n = []) := Lib.hid (WN.file_none (by rw [hg]; exact hbad))
    rw [HO.out]
    cases g with
    | false =>
      clear hbad
      go_enter Tryz.func64, Tryz.ntmps64
      go_wp2_with (go_at_call 102; refine HG.out.mono ?_; rintro e w1 ⟨rfl, hB⟩)
      go_ret
      exact ⟨rfl, hB⟩
    | true =>
      by_cases h0 : n < 0
      · clear hbad
        go_enter Tryz.func64, Tryz.ntmps64
        go_wp2_with (go_at_call 102; refine HG.out.mono ?_; rintro e w1 ⟨rfl, hB⟩)
        go_ret
        exact ⟨rfl, hB⟩
      · have h1 : (99999999 : Int) < n := by
          rcases hbad with h | h | h
          · cases h
          · exact absurd h h0
          · omega
        clear hbad
        go_enter Tryz.func64, Tryz.ntmps64
        go_wp2_with (go_at_call 102; refine HG.out.mono ?_; rintro e w1 ⟨rfl, hB⟩)
        go_ret
        exact ⟨rfl, hB⟩
  · have hgt : g = true := by cases g with
      | true => rfl
      | false => exact absurd (Or.inl rfl) hbad
    subst hgt
    have h0 : ¬ n < 0 := fun h => hbad (.inr (.inl h))
    have h1 : ¬ (99999999 : Int) < n := fun h => hbad (.inr (.inr (by omega)))
    clear hbad
    have hfile := WN.file_some hg (n := n) (by omega) (by omega)
    obtain ⟨m, rfl⟩ : ∃ m : Nat, n = m := ⟨n.toNat, by omega⟩
    obtain ⟨q1, q2⟩ := WN.numeral m (by omega)
    have hit : Lib.itoa (m : Int) = Lib.decDigits m := by
      unfold Lib.itoa
      rw [if_neg (by omega)]
      rfl
    have HF := Lib.hid (fun W (hW : Tab W) => Tryz.strconv_FormatInt_10 (m : Int) (by omega) (by omega) W hW)
    obtain ⟨t, htt⟩ : ∃ t : ByteArray, (⟨(Lib.itoa (m : Int)).toArray⟩ : ByteArray) = t := ⟨_, rfl⟩
    have htl : t.data.toList = Lib.decDigits m := by rw [← htt, hit]
    have hts : t.size = (Lib.decDigits m).length := by rw [← size_list, htl]
    obtain ⟨c, hc⟩ : ∃ c, 8 - t.size = c := ⟨_, rfl⟩
    have HR := Lib.hid (fun W => Tryz.strings_Repeat ⟨#[48]⟩ c W (by omega) (by show 1 * c ≤ _; omega))
    obtain ⟨r, hrr⟩ : ∃ r : ByteArray, (⟨(Lib.repeatL (⟨#[48]⟩ : ByteArray).data.toList c).toArray⟩ : ByteArray) = r := ⟨_, rfl⟩
    have hrl : r.data.toList = Lib.repeatL [48] c := by rw [← hrr]
    have hrs : r.size = c := by rw [← size_list, hrl, WN.repeat_one, List.length_replicate]
    simp only [htt] at HF
    simp only [hrr] at HR
    have HO : Hid (encS (WN.file k.data.toList (m : Int)) = .string (k ++ ⟨#[45]⟩ ++ r ++ t)) := by
      rw [hfile]
      unfold encS
      refine Lib.hid ?_
      congr 1
      refine str_ext ?_
      rw [str_app, str_app, str_app, hrl, htl, ← hc, hts]
      have e2 : Lib.repeatL [48] (8 - (Lib.decDigits m).length) ++ Lib.decDigits m = WN.digs 8 (m : Int).toNat := q2
      rw [← e2]
      simp
    have hts8 : t.size ≤ 8 := by omega
    have hsub : (8 : Int) - (t.size : Int) = (c : Int) := by omega
    clear hfile q1 q2 hit htt htl hts hrr hrl hg hc
    have HTB := Lib.hid ht
    go_enter Tryz.func64, Tryz.ntmps64
    go_wp2_with (go_at_call 102; refine HG.out.mono ?_; rintro e w1 ⟨rfl, hB⟩)
    have HB1 := Lib.hid hB
    have HT1 := Lib.hid (HTB.out.below hB)
    clear hB
    go_wp2_with (go_at_call 103; refine (HF.out _ HT1.out).mono ?_; rintro e w2 ⟨rfl, kk, os, hw2⟩)
    have HB2 := Lib.hid (below_grow HB1.out kk os HB1.out.size)
    subst hw2
    go_wp2_with (go_at_call 104; refine (HR.out _).mono ?_; rintro e w3 ⟨rfl, hB3⟩)
    go_ret
    exact ⟨by rw [HO.out]; rfl, HB2.out.trans (hB3.mono HB2.out.size)⟩

/-- Name: that of the log of a number -/
theorem wname_any (n : Int) (w : World) (hn : -9223372036854775808 ≤ n ∧ n ≤ 9223372036854775807) (ht : Tab w) :
    Calls Tryz.prog 20 #[.int .i64 n] w (NameOut w (WN.file [108, 111, 103] n)) := by
  have HF := Lib.hid (wfile_any ⟨#[108, 111, 103]⟩ n w (by decide) hn ht)
  obtain ⟨r, hr⟩ : ∃ r, encS (WN.file [108, 111, 103] n) = .string r := ⟨_, rfl⟩
  go_enter Tryz.func20, Tryz.ntmps20
  go_wp2_with (go_at_call 64; refine HF.out.mono ?_; rintro e w1 ⟨he, hB⟩; have he : e = .returned (.string r) := he.trans (by rw [← hr]); subst he)
  go_ret
  exact ⟨by rw [hr]; rfl, hB⟩
end Go.Proofs.YtjkofciohehgfaaGreatDoor.L8


