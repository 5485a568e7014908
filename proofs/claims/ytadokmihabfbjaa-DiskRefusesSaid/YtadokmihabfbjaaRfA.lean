/- The reference: rest, Find. Its lists of names as pairs; a pair whose number is -1 takes a name away. -/
import Derived.Test.YtadokmihabfbjaaDkW
namespace Go.Proofs.Ytadokmihabfbjaa
open Go.RowKit Go.Maps
open DM

set_option maxHeartbeats 400000 in
theorem rrest_any (n : Int) (b : Nat) (w : World) (hn : fits n) (hb : 0 < b) (hb2 : b ≤ 4611686018427387904) :
    Calls Try.prog 58 #[.int .i64 n, .int .i64 b] w fun e w' => e = .returned (.int .i64 (rest n b)) ∧ w = w' := by
  unfold fits at hn
  obtain ⟨h1, h2⟩ := hn
  have hb1 : (1 : Int) ≤ (b : Int) := by omega
  by_cases h0 : n < 0
  · have hr : ((rest n b : Nat) : Int) = (-(n + 1)) % (b : Int) := by
      unfold rest
      rw [if_pos h0, Int.natCast_emod]
      congr 1
      omega
    have HR := Lib.hid hr
    obtain ⟨m, hm⟩ : ∃ m, -(n + 1) = m := ⟨_, rfl⟩
    have h3 : 0 ≤ m := by omega
    rw [hm] at HR
    clear hr
    go_enter Try.func58, Try.ntmps58
    go_wp2
    go_ret
    exact ⟨ret_int HR.out.symm, rfl⟩
  · have hr : ((rest n b : Nat) : Int) = n % (b : Int) := by
      unfold rest
      rw [if_neg h0, Int.natCast_emod]
      congr 1
      omega
    have HR := Lib.hid hr
    clear hr
    have h0' : 0 ≤ n := by omega
    go_enter Try.func58, Try.ntmps58
    go_wp2
    go_ret
    exact ⟨ret_int HR.out.symm, rfl⟩

/-! ### pairs -/
abbrev RP := Bs × Int
def pc (l : List RP) : List Value := l.flatMap fun p => [encS p.1, .int .i64 p.2]
theorem pc_len (l : List RP) : (pc l).length = l.length * 2 := by
  induction l with
  | nil => rfl
  | cons p r ih => show ([encS p.1, Value.int .i64 p.2] ++ pc r).length = _; rw [List.length_append, ih, List.length_cons]; simp; omega
theorem pc_snoc (l : List RP) (p : RP) : pc (l ++ [p]) = pc l ++ [encS p.1, .int .i64 p.2] := by simp [pc]
theorem pc_at : ∀ (l : List RP) (j : Nat) (h : j < l.length), (pc l)[j * 2]? = some (encS l[j].1) ∧ (pc l)[j * 2 + 1]? = some (.int .i64 l[j].2)
  | p :: r, 0, _ => ⟨rfl, rfl⟩
  | p :: r, j + 1, h => by
    have := pc_at r j (by simpa using h)
    have e1 : (j + 1) * 2 = j * 2 + 1 + 1 := by omega
    have e2 : (j + 1) * 2 + 1 = j * 2 + 1 + 1 + 1 := by omega
    rw [e1]
    show (encS p.1 :: Value.int .i64 p.2 :: pc r)[j * 2 + 1 + 1]? = _ ∧ (encS p.1 :: Value.int .i64 p.2 :: pc r)[j * 2 + 1 + 1 + 1]? = _
    simpa using this

abbrev Prs (B : Nat) (w : World) (v : Value) (l : List RP) : Prop := w.ownsRow B 58 2 v l.length (pc l)

theorem Prs.slice {B : Nat} {w : World} {v : Value} {l : List RP} (h : Prs B w v l) : ∃ A c, v = .slice A l.length c ∧ (0 < l.length → ∃ b, A = some ⟨b, 0, none⟩ ∧ B ≤ b ∧ b < w.heap.size ∧ ∀ w' : World, w'.heap[b]? = w.heap[b]? → ∀ j, (hj : j < l.length) → w'.cell? ⟨b, j * 2, none⟩ = some (encS l[j].1) ∧ w'.cell? ⟨b, j * 2 + 1, none⟩ = some (.int .i64 l[j].2)) := by
  rcases h.2 with ⟨e, h0⟩ | ⟨b, c, cur, e, hb, hg, h1, h2, h3, h4⟩
  · exact ⟨none, 0, by rw [e, h0], fun hp => by omega⟩
  · refine ⟨_, c, e, fun _ => ⟨b, rfl, hb, (Array.getElem?_eq_some_iff.1 hg).1, fun w' hw j hj => ?_⟩⟩
    obtain ⟨p1, p2⟩ := pc_at l j hj
    rw [← h4] at p1 p2
    rw [List.getElem?_take_of_lt (by omega), Array.getElem?_toList] at p1 p2
    rw [cell_of_row _ _ _ _ _ _ (hw.trans hg), cell_of_row _ _ _ _ _ _ (hw.trans hg)]
    exact ⟨p1, p2⟩

def rfind (l : List RP) (k : Bs) : Int := match l.find? (fun p => p.1 == k) with | some p => p.2 | none => -1

theorem rfind_drop {l : List RP} {k : Bs} {j : Nat} (hj : j < l.length) : rfind (l.drop j) k = if l[j].1 = k then l[j].2 else rfind (l.drop (j + 1)) k := by
  rw [List.drop_eq_getElem_cons hj]
  unfold rfind
  rw [List.find?_cons]
  by_cases h : l[j].1 = k
  · rw [if_pos h]
    have : (l[j].1 == k) = true := by simpa using h
    rw [this]
  · rw [if_neg h]
    have : (l[j].1 == k) = false := by simpa using h
    rw [this]

set_option maxRecDepth 100000 in
set_option maxHeartbeats 1000000 in
theorem rfind_any {B : Nat} (v : Value) (l : List RP) (k : ByteArray) (w : World) (hv : Prs B w v l) (hl : l.length ≤ 1099511627776) :
    Calls Try.prog 54 #[v, .string k] w fun e w' => e = .returned (.int .i64 (rfind l k.data.toList)) ∧ Below w.heap.size w w' := by
  obtain ⟨A, c, rfl, hz⟩ := hv.slice
  have HZ := Lib.hid hz
  obtain ⟨n, hn⟩ : ∃ n, l.length = n := ⟨_, rfl⟩
  rw [hn] at hl ⊢
  have HN := Lib.hid hn
  clear hv hz hn
  go_enter Try.func54, Try.ntmps54
  go_wp2_with fail
  go_loopw [5] (fun i wr => ∃ j : Nat, j ≤ n ∧ i = .int .i64 j ∧ Hid (rfind l k.data.toList = rfind (l.drop j) k.data.toList) ∧ Below w.heap.size w wr) (fun i _ => n - (intOf i).toNat)
  case atStart => exact ⟨0, by omega, rfl, rfl, Below.refl _ _⟩
  case round =>
    obtain ⟨j, hj, rfl, HF, hB⟩ := hrel
    have HB := Lib.hid hB
    clear hB
    by_cases hlt : j < n
    · have hjl : j < l.length := by rw [HN.out]; exact hlt
      obtain ⟨b, rfl, hbB, hbw, hc⟩ := HZ.out (by omega)
      obtain ⟨z1, z2⟩ := hc wr (HB.out.block b hbw) j hjl
      have hd := rfind_drop (k := k.data.toList) hjl
      obtain ⟨p, hp⟩ : ∃ p, l[j] = p := ⟨_, rfl⟩
      rw [hp] at z1 z2 hd
      obtain ⟨t, ht, htl⟩ : ∃ t : ByteArray, encS p.1 = .string t ∧ t.data.toList = p.1 := ⟨⟨p.1.toArray⟩, rfl, by simp⟩
      rw [ht] at z1
      have i0 : (0 : Int) ≤ (j : Int) := by omega
      have i1 : (j : Int) < (n : Int) := by omega
      by_cases he : p.1 = k.data.toList
      · have htk : t = k := str_ext (htl.trans he)
        rw [if_pos he] at hd
        have HR : Hid (rfind l k.data.toList = p.2) := HF.out.trans hd
        subst htk
        clear hd hp ht htl he hc HF
        go_wp2
        go_ret
        exact ⟨ret_int HR.out.symm, HB.out⟩
      · have hne : (t.toList == k.toList) = false := by
          rw [beq_eq_false_iff_ne]
          intro hx
          rw [ByteArray.toList_eq, ByteArray.toList_eq] at hx
          exact he (htl.symm.trans hx)
        rw [if_neg he] at hd
        have HF2 : Hid (rfind l k.data.toList = rfind (l.drop (j + 1)) k.data.toList) := HF.out.trans hd
        clear hd hp ht htl he hc HF
        go_wp2
        go_roundw
        case rel => exact ⟨j + 1, by omega, by go_num, HF2, HB.out⟩
        case measure => simp [intOf]; omega
    · have HR : Hid (rfind l k.data.toList = -1) := by
        have : rfind (l.drop j) k.data.toList = -1 := by rw [List.drop_eq_nil_of_le (by rw [HN.out]; omega)]; rfl
        exact HF.out.trans this
      clear HF
      go_wp2
      go_ret
      exact ⟨ret_int HR.out.symm, HB.out⟩
end Go.Proofs.Ytadokmihabfbjaa
