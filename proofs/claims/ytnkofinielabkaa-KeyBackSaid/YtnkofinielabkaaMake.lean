/- The walks of Num, Text, Make. -/
import Derived.Test.YtnkofinielabkaaPut
namespace Go.Proofs.Ytnkofinielabkaa
open Go.RowKit

/-- a slice of parts that lies below block B: nil and empty ones too -/
def PartsIn (w : World) (B : Nat) (A : Option Addr) (l : List KM.KP) : Prop :=
  (∀ p ∈ l, -9223372036854775808 ≤ p.n ∧ p.n ≤ 9223372036854775807) ∧
  (0 < l.length → ∃ b off, A = some ⟨b, off, none⟩ ∧ b < B ∧ ∀ j, (h : j < l.length) →
    w.cell? ⟨b, off + j * 3, none⟩ = some (.bool l[j].t) ∧ w.cell? ⟨b, off + j * 3 + 1, none⟩ = some (.int .i64 l[j].n) ∧ w.cell? ⟨b, off + j * 3 + 2, none⟩ = some (.string l[j].s))

theorem PartsIn.below {w w' : World} {B : Nat} {A : Option Addr} {l : List KM.KP} (h : PartsIn w B A l) (hb : Below B w w') : PartsIn w' B A l := by
  refine ⟨h.1, fun hn => ?_⟩
  obtain ⟨b, off, hA, hlt, hc⟩ := h.2 hn
  exact ⟨b, off, hA, hlt, fun j hj => ⟨(hb.cell (p := ⟨b, off + j * 3, none⟩) hlt).trans (hc j hj).1, (hb.cell (p := ⟨b, off + j * 3 + 1, none⟩) hlt).trans (hc j hj).2.1, (hb.cell (p := ⟨b, off + j * 3 + 2, none⟩) hlt).trans (hc j hj).2.2⟩⟩

theorem PartsIn.more {w : World} {B B' : Nat} {A : Option Addr} {l : List KM.KP} (h : PartsIn w B A l) (hB : B ≤ B') : PartsIn w B' A l :=
  ⟨h.1, fun hn => by
    obtain ⟨b, off, hA, hlt, hc⟩ := h.2 hn
    exact ⟨b, off, hA, by omega, hc⟩⟩

def part (p : KM.KP) : Value := .agg #[.bool p.t, .int .i64 p.n, .string p.s]

theorem num_any (n : Int) (w : World) :
    Calls Try.prog 11 #[.int .i64 n] w fun e w' => e = .returned (.agg #[.bool false, .int .i64 n, .string ⟨#[]⟩]) ∧ Below w.heap.size w w' := by
  go_enter Try.func11, Try.ntmps11
  go_wp2
  exact bodyPost_ret (v := .agg #[.bool false, .int .i64 n, .string ⟨#[]⟩]) (by simp [results, Try.results11, go_sem]) rfl ⟨rfl, ((Below.refl _ _).alloc (Nat.le_refl _) _)⟩

theorem mk_long {l : List KM.KP} (h : 16 < l.length) : KM.mk l = ([], 5) := by unfold KM.mk; rw [if_pos (Or.inl h)]
theorem mk_bad {l : List KM.KP} (p : KM.KP) (hp : p ∈ l) (h : KM.bad p = true) : KM.mk l = ([], 5) := by
  unfold KM.mk; rw [if_pos (Or.inr (List.any_eq_true.2 ⟨p, hp, h⟩))]
theorem mk_good {l : List KM.KP} (h : l.length ≤ 16) (hb : l.any KM.bad = false) : KM.mk l = (l.flatMap KM.penc, 0) := by
  unfold KM.mk; rw [if_neg]; rintro (h1 | h1)
  · omega
  · rw [hb] at h1; simp at h1

theorem encs_len (l : List KM.KP) (h : l.any KM.bad = false) : (l.flatMap KM.penc).length ≤ 8195 * l.length := by
  induction l with
  | nil => simp
  | cons p l ih =>
    simp only [List.any_cons, Bool.or_eq_false_iff] at h
    have h1 := KM.penc_len p h.1
    have h2 := ih h.2
    simp only [List.flatMap_cons, List.length_append, List.length_cons]
    omega

theorem encs_step {l : List KM.KP} {k : Nat} {p : KM.KP} (h : k < l.length) (hp : l[k] = p) : (l.take (k + 1)).flatMap KM.penc = (l.take k).flatMap KM.penc ++ KM.penc p := by
  rw [List.take_succ_eq_append_getElem h, List.flatMap_append, hp]; simp

theorem bad_step {l : List KM.KP} {k : Nat} {p : KM.KP} (h : k < l.length) (hp : l[k] = p) (hb : (l.take k).any KM.bad = false) (h1 : KM.bad p = false) : (l.take (k + 1)).any KM.bad = false := by
  rw [List.take_succ_eq_append_getElem h, List.any_append, hp, hb]; simp [h1]

set_option maxRecDepth 100000 in
theorem make_any (A : Option Addr) (n cap : Nat) (l : List KM.KP) (w : World) (hn : l.length = n) (hz : PartsIn w w.heap.size A l) (hm : n ≤ 9223372036854775807) :
    Calls Try.prog 9 #[.slice A n cap] w fun e w' => e = .returned (.tuple #[.string ⟨(KM.mk l).1.toArray⟩, .int .i64 (KM.mk l).2]) ∧ Below w.heap.size w w' := by
  have HZ := Lib.hid hz
  have HN := Lib.hid hn
  clear hz hn
  by_cases h16 : 16 < n
  · have HO := Lib.hid (mk_long (l := l) (by rw [HN.out]; exact h16))
    have h16i : (16 : Int) < (n : Int) := by omega
    go_enter Try.func9, Try.ntmps9
    go_wp2
    go_ret2
    exact ⟨by rw [HO.out]; rfl, Below.refl _ _⟩
  · have h16' : n ≤ 16 := by omega
    go_enter Try.func9, Try.ntmps9
    go_wp2
    go_loopw [4, 12] (fun b i wr => ∃ k : Nat, k ≤ n ∧ i = .int .i64 k ∧ Hid ((l.take k).any KM.bad = false) ∧ wr.ownsRow w.heap.size 5 1 b ((l.take k).flatMap KM.penc).length (Lib.byteCells ((l.take k).flatMap KM.penc)) ∧ Below w.heap.size w wr) (fun _ i _ => n - (intOf i).toNat)
    case atStart => exact ⟨0, by omega, rfl, by simp [Hid], World.ownsRow_nil _ _ _ _, Below.refl _ _⟩
    case round =>
      obtain ⟨k, hk, rfl, HBAD, hown, hB⟩ := hrel
      have hll := encs_len _ HBAD.out
      have htl : (l.take k).length ≤ k := List.length_take_le _ _
      by_cases hlt : k < n
      · have hkl : k < l.length := by rw [HN.out]; exact hlt
        obtain ⟨b, off, hA, hbl, hc⟩ := (HZ.out.below hB).2 (by omega)
        obtain ⟨hc0, hc1, hc2⟩ := hc k hkl
        obtain ⟨p, hp⟩ : ∃ p, l[k] = p := ⟨_, rfl⟩
        have hrange := HZ.out.1 p (by rw [← hp]; exact List.getElem_mem hkl)
        have HMEM := Lib.hid (show p ∈ l by rw [← hp]; exact List.getElem_mem hkl)
        rw [hp] at hc0 hc1 hc2
        have HST := Lib.hid (encs_step hkl hp)
        have HBD := Lib.hid (bad_step hkl hp HBAD.out)
        obtain ⟨L, hL⟩ : ∃ L, (l.take k).flatMap KM.penc = L := ⟨_, rfl⟩
        rw [hL] at hown HST hll
        have hll' : L.length ≤ 1048576 := by omega
        have HOWN := Lib.hid hown
        have HB := Lib.hid hB
        have hBs := hB.size
        clear hown hB hc hp hll htl hL HBAD
        subst hA
        obtain ⟨t, z, s⟩ := p
        simp only at hc0 hc1 hc2 hrange
        cases t with
        | false =>
          have HB2 := Lib.hid (HBD.out rfl)
          clear HBD
          have hal : Below wr.heap.size wr (wr.alloc (.cells #[.bool false, .int .i64 z, .string s] 34)) := (Below.refl _ _).alloc (Nat.le_refl _) _
          have HPN := Lib.hid (fun W h1 h2 => putNumber_any w.heap.size u4 L z W h1 h2 hll' hrange.1 hrange.2)
          clear hrange
          go_wp2_with fail
          refine (HPN.out _ (own_below HOWN.out hal) (by simp; omega)).mono ?_
          rintro e w2 ⟨v2, rfl, hown2, hB2⟩
          have HR : Hid (w2.ownsRow w.heap.size 5 1 v2 ((l.take (k + 1)).flatMap KM.penc).length (Lib.byteCells ((l.take (k + 1)).flatMap KM.penc))) := by
            rw [HST.out]; exact hown2
          have HBB := Lib.hid ((HB.out.alloc (by omega) (.cells #[.bool false, .int .i64 z, .string s] 34)).trans hB2)
          clear hown2 hB2
          go_wp2
          go_roundw
          case rel => exact ⟨k + 1, by omega, by go_num, HB2.out, HR.out, HBB.out⟩
          case measure => simp [intOf]; omega
        | true =>
          by_cases hlong : 4096 < s.size
          · have HO := Lib.hid (mk_bad (l := l) _ HMEM.out (by simp [KM.bad, hlong]))
            have hlongi : (4096 : Int) < (s.size : Int) := by omega
            go_wp2
            go_ret2
            exact ⟨by rw [HO.out]; rfl, HB.out.alloc (by omega) _⟩
          · have HB2 := Lib.hid (HBD.out (by simp [KM.bad]; omega))
            clear HBD
            have hal : Below wr.heap.size wr (wr.alloc (.cells #[.bool true, .int .i64 z, .string s] 34)) := (Below.refl _ _).alloc (Nat.le_refl _) _
            have HPT := Lib.hid (fun W h1 h2 => putText_any w.heap.size u4 L s W h1 h2 hll' (by omega))
            have hshort : s.size ≤ 4096 := by omega
            clear hrange
            go_wp2_with fail
            refine (HPT.out _ (own_below HOWN.out hal) (by simp; omega)).mono ?_
            rintro e w2 ⟨v2, rfl, hown2, hB2⟩
            have HR : Hid (w2.ownsRow w.heap.size 5 1 v2 ((l.take (k + 1)).flatMap KM.penc).length (Lib.byteCells ((l.take (k + 1)).flatMap KM.penc))) := by
              rw [HST.out]; exact hown2
            have HBB := Lib.hid ((HB.out.alloc (by omega) (.cells #[.bool true, .int .i64 z, .string s] 34)).trans hB2)
            clear hown2 hB2
            go_wp2
            go_roundw
            case rel => exact ⟨k + 1, by omega, by go_num, HB2.out, HR.out, HBB.out⟩
            case measure => simp [intOf]; omega
      · have hkn : k = n := by omega
        have htk : l.take k = l := List.take_of_length_le (by rw [HN.out]; omega)
        rw [htk] at hown HBAD
        have hcv := own_string hown
        have HO := Lib.hid (mk_good (by rw [HN.out]; exact h16') HBAD.out)
        have HB := Lib.hid hB
        clear hown htk hB hkn hll htl
        go_wp2
        go_ret2
        exact ⟨by rw [HO.out]; rfl, HB.out⟩
end Go.Proofs.Ytnkofinielabkaa
