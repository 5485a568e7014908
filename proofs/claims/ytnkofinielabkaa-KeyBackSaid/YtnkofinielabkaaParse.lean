/- The walks of getPart, Parse. -/
import Derived.Test.YtnkofinielabkaaGet
import Derived.Test.YtnkofinielabkaaTwo
namespace Go.Proofs.Ytnkofinielabkaa
open Go.RowKit

theorem head_of {s : ByteArray} (h : 0 < s.size) : ∃ r, s.data.toList = s[0] :: r ∧ r.length + 1 = s.size := by
  have h1 : 0 < s.data.toList.length := by rw [size_list]; exact h
  refine ⟨s.data.toList.drop 1, ?_, ?_⟩
  · have := List.drop_eq_getElem_cons h1
    rw [List.drop_zero] at this
    exact this
  · rw [List.length_drop, size_list]; omega

set_option maxRecDepth 100000 in
theorem getPart_any (s : ByteArray) (w : World) (hs : s.size ≤ 140737488355328) (h0 : 0 < s.size) :
    Calls Try.prog 25 #[.string s] w fun e w' => GpOut s e ∧ Below w.heap.size w w' := by
  obtain ⟨r, hr, -⟩ := head_of h0
  obtain ⟨x, hx⟩ : ∃ x, s[0] = x := ⟨_, rfl⟩
  rw [hx] at hr
  have hxl := x.toNat_lt
  by_cases h1 : x = 1
  · have t1 : ((x.toNat : Int) == 1) = true := by rw [h1]; rfl
    rw [h1] at hr
    have HG := Lib.hid (fun W => getNumber_any s r W (by omega) hr)
    unfold GpOut at HG ⊢
    obtain ⟨p, a, b, hv⟩ : ∃ p a b, gpv s = (p, a, b) := ⟨_, _, _, rfl⟩
    rw [hv] at HG ⊢
    clear hr h1 hv
    go_enter Try.func25, Try.ntmps25
    go_wp2_with fail
    refine (HG.out _).mono ?_
    rintro e w2 ⟨rfl, hB2⟩
    have hB0 : Below w.heap.size w w2 := ((Below.refl _ _).alloc (Nat.le_refl _) _).trans (hB2.mono (by simp))
    have HB0 := Lib.hid hB0
    have hc := fun o => hB2.cell (p := ⟨w.heap.size, o, none⟩) (by simp)
    have hf := fun o => hB2.frozen (p := ⟨w.heap.size, o, none⟩) (by simp)
    clear hB0
    go_wp2
    refine bodyPost_ret (v := .tuple #[.agg #[.bool p.t, .int .i64 p.n, .string p.s], .int .i64 a, .int .i64 b]) (by simp [results, Try.results25, go_sem, hc]) rfl ⟨rfl, ?_⟩
    exact ((HB0.out.setCell (p := ⟨w.heap.size, 0, none⟩) (Nat.le_refl _) _).setCell (p := ⟨w.heap.size, 1, none⟩) (Nat.le_refl _) _).setCell (p := ⟨w.heap.size, 2, none⟩) (Nat.le_refl _) _
  · have hn1 : x.toNat ≠ 1 := fun h => h1 (UInt8.toNat_inj.1 h)
    have t1 : ((x.toNat : Int) == 1) = false := beq_eq_false_iff_ne.2 (by omega)
    by_cases h2 : x = 2
    · have t2 : ((x.toNat : Int) == 2) = true := by rw [h2]; rfl
      rw [h2] at hr
      have HG := Lib.hid (fun W => getText_any s r W hs hr)
      unfold GpOut at HG ⊢
      obtain ⟨p, a, b, hv⟩ : ∃ p a b, gpv s = (p, a, b) := ⟨_, _, _, rfl⟩
      rw [hv] at HG ⊢
      clear hr h1 h2 hv
      go_enter Try.func25, Try.ntmps25
      go_wp2_with fail
      refine (HG.out _).mono ?_
      rintro e w2 ⟨rfl, hB2⟩
      have hB0 : Below w.heap.size w w2 := ((Below.refl _ _).alloc (Nat.le_refl _) _).trans (hB2.mono (by simp))
      have HB0 := Lib.hid hB0
      have hc := fun o => hB2.cell (p := ⟨w.heap.size, o, none⟩) (by simp)
      have hf := fun o => hB2.frozen (p := ⟨w.heap.size, o, none⟩) (by simp)
      clear hB0
      go_wp2
      refine bodyPost_ret (v := .tuple #[.agg #[.bool p.t, .int .i64 p.n, .string p.s], .int .i64 a, .int .i64 b]) (by simp [results, Try.results25, go_sem, hc]) rfl ⟨rfl, ?_⟩
      exact ((HB0.out.setCell (p := ⟨w.heap.size, 0, none⟩) (Nat.le_refl _) _).setCell (p := ⟨w.heap.size, 1, none⟩) (Nat.le_refl _) _).setCell (p := ⟨w.heap.size, 2, none⟩) (Nat.le_refl _) _
    · have hn2 : x.toNat ≠ 2 := fun h => h2 (UInt8.toNat_inj.1 h)
      have t2 : ((x.toNat : Int) == 2) = false := beq_eq_false_iff_ne.2 (by omega)
      have ho : gpv s = (KM.noPart, 0, 4) := by
        have e : KM.gp s.data.toList = (KM.noPart, [], 4) := by rw [hr, KM.gp, if_neg h1, if_neg h2]
        unfold gpv; rw [e]; rfl
      have HO := Lib.hid ho
      clear hr h1 h2 ho
      go_enter Try.func25, Try.ntmps25
      go_wp2
      refine bodyPost_ret (v := .tuple #[.agg #[.bool false, .int .i64 0, .string ⟨#[]⟩], .int .i64 0, .int .i64 4]) (by simp [results, Try.results25, go_sem]) rfl ⟨gpOut HO.out, ?_⟩
      exact (Below.refl _ _).alloc (Nat.le_refl _) _

def ParseOut (s : ByteArray) (w : World) (e : Ending) (w' : World) : Prop :=
  ∃ v, e = .returned (.tuple #[v, .int .i64 (KM.parse s.size s.data.toList []).2]) ∧
    w'.ownsRow w.heap.size 34 3 v (KM.parse s.size s.data.toList []).1.length (partCells (KM.parse s.size s.data.toList []).1) ∧ Below w.heap.size w w'

theorem parseOut_err {s : ByteArray} {w w' : World} {c : Int} (h : KM.parse s.size s.data.toList [] = ([], c)) (hB : Below w.heap.size w w') : ParseOut s w (.returned (.tuple #[.slice none 0 0, .int .i64 c])) w' := by
  refine ⟨_, by rw [h], ?_, hB⟩
  rw [h]; exact World.ownsRow_nil _ _ _ _

set_option maxRecDepth 100000 in
set_option maxHeartbeats 2000000 in
theorem parse_any (s : ByteArray) (w : World) (hs : s.size ≤ 140737488355328) :
    Calls Try.prog 16 #[.string s] w fun e w' => ParseOut s w e w' := by
  obtain ⟨i0, hi, hz0, hz1, hz2⟩ := info_parts info_part
  go_enter Try.func16, Try.ntmps16
  go_wp2_with fail
  go_loopw [4, 5] (fun v t wr => ∃ (R : ByteArray) (X : List KM.KP) (f : Nat), t = .string R ∧ R.size ≤ f ∧ f ≤ s.size ∧ X.length ≤ 16 ∧ Hid (KM.parse s.size s.data.toList [] = KM.parse f R.data.toList X) ∧
      wr.ownsRow w.heap.size 34 3 v X.length (partCells X) ∧ Below w.heap.size w wr) (fun _ t _ => match t with | .string R => R.size | _ => 0)
  case atStart => exact ⟨s, [], s.size, rfl, Nat.le_refl _, Nat.le_refl _, by simp, Lib.hid rfl, World.ownsRow_nil _ _ _ _, Below.refl _ _⟩
  case round =>
    obtain ⟨R, X, f, rfl, hRf, hfs, hX, HP, hown, hB⟩ := hrel
    have hBs := hB.size
    obtain ⟨A, cp, rfl⟩ := own_slice hown
    rcases Nat.eq_zero_or_pos R.size with hr | hr
    · have hR : R = ⟨#[]⟩ := by
        apply ByteArray.ext
        exact Array.eq_empty_of_size_eq_zero hr
      subst hR
      have hP : KM.parse s.size s.data.toList [] = (X, 0) := by
        rw [HP.out]
        cases f <;> simp [KM.parse]
      have HP2 := Lib.hid hP
      have HOWN := Lib.hid hown
      have HB := Lib.hid hB
      clear hown hB hP hr
      go_wp2
      go_ret2
      refine ⟨_, by rw [HP2.out]; rfl, ?_, HB.out⟩
      rw [HP2.out]; exact HOWN.out
    · obtain ⟨f, rfl⟩ : ∃ g, f = g + 1 := ⟨f - 1, by omega⟩
      have hne : R.toList.isEmpty = false := by
        rw [Lib.toList_data]
        cases hh : R.data.toList with
        | nil => have := size_list R; rw [hh] at this; simp at this; omega
        | cons a b => rfl
      have hne0 : R.data.toList ≠ [] := by
        intro hh; have := size_list R; rw [hh] at this; simp at this; omega
      have HOWN := Lib.hid hown
      have HB := Lib.hid hB
      clear hown hB
      by_cases h16 : X.length = 16
      · have hP : KM.parse s.size s.data.toList [] = ([], 5) := by
          rw [HP.out, KM.parse, if_neg hne0, if_pos h16]
        have HP2 := Lib.hid hP
        have t1 : ((X.length : Int) == 16) = true := by rw [h16]; rfl
        clear hP h16 hne0
        go_wp2
        go_ret2
        exact parseOut_err HP2.out HB.out
      · have t1 : ((X.length : Int) == 16) = false := beq_eq_false_iff_ne.2 (by omega)
        have hX16 : X.length < 16 := by omega
        obtain ⟨p, rest, c, hg⟩ : ∃ p rest c, KM.gp R.data.toList = (p, rest, c) := ⟨_, _, _, rfl⟩
        have HGP := Lib.hid (fun W => getPart_any R W (by omega) hr)
        unfold GpOut gpv at HGP
        rw [hg] at HGP
        by_cases hc : c = 0
        · subst hc
          obtain ⟨hl, -, hpr, hlt, -⟩ := KM.gp_ok hg
          simp only [if_true] at HGP
          have hsz : R.size = (KM.penc p).length + rest.length := by rw [← size_list R, hl, List.length_append]
          obtain ⟨m, hm⟩ : ∃ m, (KM.penc p).length = m := ⟨_, rfl⟩
          rw [hm] at hsz
          have ha : (R.size : Int) - (rest.length : Int) = (m : Int) := by omega
          rw [ha] at HGP
          have hmR : m ≤ R.size := by omega
          have hm0 : 0 < m := by
            rw [size_list, ] at hlt
            omega
          have HX : Hid (R.extract m R.size = ⟨rest.toArray⟩) := by
            apply str_ext
            rw [Lib.extract_data, hl, ← hm, List.drop_left, List.take_of_length_le (by omega)]
          have HPN : Hid (KM.parse s.size s.data.toList [] = KM.parse f rest (X ++ [p])) := by
            rw [HP.out, KM.parse, if_neg hne0, if_neg h16, hg, if_neg (by simp)]; exact Lib.hid rfl
          have hrs : rest.length ≤ f := by omega
          have HCS : Hid (partCells (X ++ [p]) = partCells X ++ cells3 p) := by
            unfold partCells; rw [List.flatMap_append]; simp [Hid]
          have HRR := Lib.hid hmR
          have hlt2 : rest.length < R.size := by omega
          clear hl hg hsz hm ha hne0 h16 hlt
          go_wp2_with fail
          refine (HGP.out _).mono ?_
          rintro e w2 ⟨rfl, hB2⟩
          have hs2 := hB2.size
          have HB2 := Lib.hid (HB.out.trans (hB2.mono hBs))
          have HO2 := Lib.hid (own_below HOWN.out hB2)
          clear hB2
          go_wp2_with (at_builtin; refine wpList_append_own _ rfl _ _ 23 rfl w.heap.size 34 i0 _ 3 32 Try.underlying23 hi hz0 hz1 hz2 rfl (by decide) _ _ _ rfl ((HO2.out.alloc _).alloc _) ⟨w2.heap.size + 1, 0, none⟩ 1 1 (cells3 p) rfl ?c1 ?c2 ?c3 ?c4 ?c5 ?c6 ?_)
          case c1 => rfl
          case c2 =>
            refine World.news_of_block (cs := (cells3 p).toArray) (t := 34) (fr := (0, 0)) ?_
            exact alloc_at _ _ _ (by simp)
          case c3 => simp [cells3, Value.oneCell']
          case c4 => unfold maxLen; omega
          case c5 => omega
          case c6 => simp; omega
          intro v3 w3 hown3 hgrow hnil
          clear hnil
          have hB3 : Below w.heap.size w w3 := ((HB2.out.alloc (by omega) _).alloc (by simp; omega) _).grown hgrow (by simp; omega) (fun g hg => (HO2.out.lt g hg).1)
          have HB3 := Lib.hid hB3
          have HR : Hid (w3.ownsRow w.heap.size 34 3 v3 (X ++ [p]).length (partCells (X ++ [p]))) := by
            rw [HCS.out, List.length_append]; exact hown3
          clear hown3 hgrow hB3
          go_wp2
          go_roundw
          case rel => exact ⟨⟨rest.toArray⟩, X ++ [p], f, by rw [HX.out], by simpa [ByteArray.size] using hrs, by omega, by simp; omega, HPN, HR, HB3.out⟩
          case measure => simp [ByteArray.size_extract]; omega
        · have t2 : (c == 0) = false := beq_eq_false_iff_ne.2 hc
          have t2' : (c != 0) = true := by rw [bne_iff_ne]; exact hc
          simp only [if_neg hc] at HGP
          have hP : KM.parse s.size s.data.toList [] = ([], c) := by
            rw [HP.out, KM.parse, if_neg hne0, if_neg h16, hg, if_pos hc]
          have HP2 := Lib.hid hP
          clear hP hg hne0 h16 hc
          go_wp2_with fail
          refine (HGP.out _).mono ?_
          rintro e w2 ⟨rfl, hB2⟩
          have HB2 := Lib.hid (HB.out.trans (hB2.mono hBs))
          have hs2 := hB2.size
          clear hB2
          go_wp2
          go_ret2
          exact parseOut_err HP2.out (HB2.out.alloc (by omega) _)
end Go.Proofs.Ytnkofinielabkaa
