/- Apply. -/
import Derived.Test.YtfodbblcflolgaaVn
namespace Go.Proofs.Ytfodbblcflolgaa
open Go.RowKit
open VS
attribute [local go_sem ↓] Go.wp_at_zero Go.wp_at_succ

/-- a version's value -/
abbrev verV (A : Nat → Option Addr) (N C : Nat → Nat) (lg nx sq : Int) : Value := .agg #[.slice (A 0) (N 0) (C 0), .slice (A 1) (N 1) (C 1), .slice (A 2) (N 2) (C 2), .slice (A 3) (N 3) (C 3), .int .i64 lg, .int .i64 nx, .int .i64 sq]
/-- an edit's value -/
abbrev edV (A : Option Addr) (n c : Nat) (D : Option Addr) (m d : Nat) (lg nx sq : Int) : Value := .agg #[.slice A n c, .slice D m d, .int .i64 lg, .int .i64 nx, .int .i64 sq]

structure EdIn (w : World) (A : Option Addr) (n c : Nat) (D : Option Addr) (m d : Nat) (e : Ed) : Prop where
  add : In5 w A e.add
  alen : e.add.length = n
  acap : n ≤ c
  drop : IntsIn w w.heap.size D e.drop
  dlen : e.drop.length = m
  dcap : m ≤ d
  log : i64 e.log
  next : i64 e.next
  seq : i64 e.seq

theorem EdIn.below {w w' : World} {A : Option Addr} {n c : Nat} {D : Option Addr} {m d : Nat} {e : Ed} (h : EdIn w A n c D m d e) (hb : Below w.heap.size w w') : EdIn w' A n c D m d e :=
  ⟨h.add.below hb, h.alen, h.acap, h.drop.mono hb, h.dlen, h.dcap, h.log, h.next, h.seq⟩

def nilA : Nat → Option Addr := fun _ => none
def nilN : Nat → Nat := fun _ => 0
theorem VerIn.nil (w : World) : VerIn w nilA nilN nilN V.none.L := ⟨fun k _ => by simp [nilN, V.none, lev], fun k _ => by simp [nilN], fun k _ => by simp [V.none, lev]; exact In4.nil _ _⟩

/-- what Apply answers -/
def ApplyOut (B : Nat) (v : V) (e : Ed) (r : Ending) (w' : World) : Prop :=
  ∃ (A : Nat → Option Addr) (N C : Nat → Nat), r = .returned (.tuple #[verV A N C (apply v e).1.log (apply v e).1.next (apply v e).1.seq, .int .i64 (apply v e).2]) ∧ VerIn w' A N C (apply v e).1.L ∧ ∀ k, k < 4 → ∀ a, A k = some a → B ≤ a.block

theorem ApplyOut.bad {B : Nat} {v : V} {e : Ed} (h : apply v e = (V.none, 17)) {w' : World} : ApplyOut B v e (.returned (.tuple #[.agg #[.slice none 0 0, .slice none 0 0, .slice none 0 0, .slice none 0 0, .int .i64 0, .int .i64 0, .int .i64 0], .int .i64 17])) w' :=
  ⟨nilA, nilN, nilN, by rw [h]; rfl, by rw [h]; exact VerIn.nil w', fun k _ a ha => by cases ha⟩

set_option maxRecDepth 100000 in
set_option maxHeartbeats 8000000 in
theorem apply_any (A : Nat → Option Addr) (N C : Nat → Nat) (v : V) (A2 : Option Addr) (n2 c2 : Nat) (D : Option Addr) (m2 d2 : Nat) (e : Ed) (w : World) (h : VerIn w A N C v.L) (hok : Ok v) (hL : v.L.length ≤ 2000000) (he : EdIn w A2 n2 c2 D m2 d2 e) (hn2 : n2 ≤ 2000000) (hm2 : m2 ≤ 2000000) :
    Calls Try.prog 10 #[verV A N C v.log v.next v.seq, edV A2 n2 c2 D m2 d2 e.log e.next e.seq] w fun r w' => ApplyOut w.heap.size v e r w' ∧ Below w.heap.size w w' := by
  have HV := Lib.hid h
  have HOK := Lib.hid hok
  have HE := Lib.hid he
  have HSM : Hid (v.L.length ≤ 2000000 ∧ n2 ≤ 2000000 ∧ m2 ≤ 2000000) := Lib.hid ⟨hL, hn2, hm2⟩
  have HFA := Lib.hid (fun W (h : VerIn W A N C v.L) => fates_any A N C v.L v.log v.next v.seq W h (by omega))
  have HFF : Hid (front v.L 4 = v.L) := Lib.hid (by rw [front_four]; exact hok.levs)
  have HLT := Lib.hid (fun W => leads_any (.slice (A 0) (N 0) (C 0)) (.slice (A 1) (N 1) (C 1)) (.slice (A 2) (N 2) (C 2)) (.slice (A 3) (N 3) (C 3)) (.slice A2 n2 c2) (.slice D m2 d2) v.log v.next v.seq e.log e.next e.seq W)
  have HHD : Hid (headB v.log v.next v.seq e.log e.next e.seq = headOk v e) := Lib.hid rfl
  rw [HFF.out] at HFA
  rw [HHD.out] at HLT
  obtain ⟨vl, hvl⟩ : ∃ x, v.log = x := ⟨_, rfl⟩
  obtain ⟨vn, hvn⟩ : ∃ x, v.next = x := ⟨_, rfl⟩
  obtain ⟨vs, hvs⟩ : ∃ x, v.seq = x := ⟨_, rfl⟩
  obtain ⟨el, hel⟩ : ∃ x, e.log = x := ⟨_, rfl⟩
  obtain ⟨en, hen⟩ : ∃ x, e.next = x := ⟨_, rfl⟩
  obtain ⟨es, hes⟩ : ∃ x, e.seq = x := ⟨_, rfl⟩
  rw [hvl, hvn, hvs] at HFA HLT
  rw [hel, hen, hes] at HLT
  have HEN : Hid (e.log = el ∧ e.next = en ∧ e.seq = es) := Lib.hid ⟨hel, hen, hes⟩
  simp only [verV, edV]
  rw [hvl, hvn, hvs, hel, hen, hes]
  clear h hok he hL hn2 hm2 hvl hvn hvs hel hen hes HHD
  go_enter Try.func10, Try.ntmps10
  go_wp2_with fail
  have hb0 : Below w.heap.size w (((w.alloc (.cells #[.slice (A 0) (N 0) (C 0), .slice (A 1) (N 1) (C 1), .slice (A 2) (N 2) (C 2), .slice (A 3) (N 3) (C 3), .int .i64 vl, .int .i64 vn, .int .i64 vs] 26)).alloc (.cells #[.slice A2 n2 c2, .slice D m2 d2, .int .i64 el, .int .i64 en, .int .i64 es] 36)).alloc (.cells #[.slice none 0 0, .slice none 0 0, .slice none 0 0, .slice none 0 0, .int .i64 0, .int .i64 0, .int .i64 0] 26)) := (((Below.refl _ w).alloc (Nat.le_refl _) _).alloc (by simp) _).alloc (by simp; omega) _
  have hs0 : (((w.alloc (.cells #[.slice (A 0) (N 0) (C 0), .slice (A 1) (N 1) (C 1), .slice (A 2) (N 2) (C 2), .slice (A 3) (N 3) (C 3), .int .i64 vl, .int .i64 vn, .int .i64 vs] 26)).alloc (.cells #[.slice A2 n2 c2, .slice D m2 d2, .int .i64 el, .int .i64 en, .int .i64 es] 36)).alloc (.cells #[.slice none 0 0, .slice none 0 0, .slice none 0 0, .slice none 0 0, .int .i64 0, .int .i64 0, .int .i64 0] 26)).heap.size = w.heap.size + 3 := by simp
  have hrv : (((w.alloc (.cells #[.slice (A 0) (N 0) (C 0), .slice (A 1) (N 1) (C 1), .slice (A 2) (N 2) (C 2), .slice (A 3) (N 3) (C 3), .int .i64 vl, .int .i64 vn, .int .i64 vs] 26)).alloc (.cells #[.slice A2 n2 c2, .slice D m2 d2, .int .i64 el, .int .i64 en, .int .i64 es] 36)).alloc (.cells #[.slice none 0 0, .slice none 0 0, .slice none 0 0, .slice none 0 0, .int .i64 0, .int .i64 0, .int .i64 0] 26)).heap[w.heap.size]? = some (.cells #[.slice (A 0) (N 0) (C 0), .slice (A 1) (N 1) (C 1), .slice (A 2) (N 2) (C 2), .slice (A 3) (N 3) (C 3), .int .i64 vl, .int .i64 vn, .int .i64 vs] 26 (0, 0)) := by
    rw [Below.heap_alloc _ _ _ (by simp <;> omega), Below.heap_alloc _ _ _ (by simp <;> omega)]
    exact heap_alloc_new w _
  have hre : (((w.alloc (.cells #[.slice (A 0) (N 0) (C 0), .slice (A 1) (N 1) (C 1), .slice (A 2) (N 2) (C 2), .slice (A 3) (N 3) (C 3), .int .i64 vl, .int .i64 vn, .int .i64 vs] 26)).alloc (.cells #[.slice A2 n2 c2, .slice D m2 d2, .int .i64 el, .int .i64 en, .int .i64 es] 36)).alloc (.cells #[.slice none 0 0, .slice none 0 0, .slice none 0 0, .slice none 0 0, .int .i64 0, .int .i64 0, .int .i64 0] 26)).heap[w.heap.size + 1]? = some (.cells #[.slice A2 n2 c2, .slice D m2 d2, .int .i64 el, .int .i64 en, .int .i64 es] 36 (0, 0)) := by
    rw [Below.heap_alloc _ _ _ (by simp <;> omega)]
    have := heap_alloc_new (w.alloc (.cells #[.slice (A 0) (N 0) (C 0), .slice (A 1) (N 1) (C 1), .slice (A 2) (N 2) (C 2), .slice (A 3) (N 3) (C 3), .int .i64 vl, .int .i64 vn, .int .i64 vs] 26)) (.cells #[.slice A2 n2 c2, .slice D m2 d2, .int .i64 el, .int .i64 en, .int .i64 es] 36)
    simpa using this
  have hrz : (((w.alloc (.cells #[.slice (A 0) (N 0) (C 0), .slice (A 1) (N 1) (C 1), .slice (A 2) (N 2) (C 2), .slice (A 3) (N 3) (C 3), .int .i64 vl, .int .i64 vn, .int .i64 vs] 26)).alloc (.cells #[.slice A2 n2 c2, .slice D m2 d2, .int .i64 el, .int .i64 en, .int .i64 es] 36)).alloc (.cells #[.slice none 0 0, .slice none 0 0, .slice none 0 0, .slice none 0 0, .int .i64 0, .int .i64 0, .int .i64 0] 26)).heap[w.heap.size + 2]? = some (.cells #[.slice none 0 0, .slice none 0 0, .slice none 0 0, .slice none 0 0, .int .i64 0, .int .i64 0, .int .i64 0] 26 (0, 0)) := by
    have := heap_alloc_new ((w.alloc (.cells #[.slice (A 0) (N 0) (C 0), .slice (A 1) (N 1) (C 1), .slice (A 2) (N 2) (C 2), .slice (A 3) (N 3) (C 3), .int .i64 vl, .int .i64 vn, .int .i64 vs] 26)).alloc (.cells #[.slice A2 n2 c2, .slice D m2 d2, .int .i64 el, .int .i64 en, .int .i64 es] 36)) (.cells #[.slice none 0 0, .slice none 0 0, .slice none 0 0, .slice none 0 0, .int .i64 0, .int .i64 0, .int .i64 0] 26)
    simpa using this
  generalize (((w.alloc (.cells #[.slice (A 0) (N 0) (C 0), .slice (A 1) (N 1) (C 1), .slice (A 2) (N 2) (C 2), .slice (A 3) (N 3) (C 3), .int .i64 vl, .int .i64 vn, .int .i64 vs] 26)).alloc (.cells #[.slice A2 n2 c2, .slice D m2 d2, .int .i64 el, .int .i64 en, .int .i64 es] 36)).alloc (.cells #[.slice none 0 0, .slice none 0 0, .slice none 0 0, .slice none 0 0, .int .i64 0, .int .i64 0, .int .i64 0] 26)) = w0 at hb0 hs0 hrv hre hrz ⊢
  obtain ⟨x, hx⟩ : ∃ x, w.heap.size = x := ⟨_, rfl⟩
  have HX := Lib.hid hx
  have HV0 := Lib.hid (HV.out.below hb0)
  have HE0 := Lib.hid (HE.out.below hb0)
  rw [hx] at hb0 hs0 hrv hre hrz ⊢
  have HRV := Lib.hid hrv
  have HRE := Lib.hid hre
  have HRZ := Lib.hid hrz
  have HS0 := Lib.hid hs0
  have HLOW : Hid (∀ W, Below (x + 3) w0 W → Below w.heap.size w W) := Lib.hid fun W h => by
    rw [hx]
    exact hb0.trans (h.mono (by omega))
  have HFA0 := Lib.hid (HFA.out w0 HV0.out)
  clear hb0 hs0 hrv hre hrz hx HFA
  refine HFA0.out.mono ?_
  rintro r w1 ⟨b, nf, rfl, hbge, hnf, hfm, hb1⟩
  have HB1 : Hid (Below (x + 3) w0 w1) := Lib.hid (by have := HS0.out; rw [← this]; exact hb1)
  have HFM1 := Lib.hid hfm
  have HBG : Hid (x + 3 ≤ b ∧ nf ≤ 40000000) := Lib.hid (by have := HS0.out; omega)
  have rv := (HB1.out.block x (by omega)).trans HRV.out
  have re := (HB1.out.block (x + 1) (by omega)).trans HRE.out
  have cv0 : w1.cell? ⟨x, 0, none⟩ = some (.slice (A 0) (N 0) (C 0)) := cell_of_row _ _ _ _ _ _ rv
  have cv1 : w1.cell? ⟨x, 1, none⟩ = some (.slice (A 1) (N 1) (C 1)) := cell_of_row _ _ _ _ _ _ rv
  have cv2 : w1.cell? ⟨x, 2, none⟩ = some (.slice (A 2) (N 2) (C 2)) := cell_of_row _ _ _ _ _ _ rv
  have cv3 : w1.cell? ⟨x, 3, none⟩ = some (.slice (A 3) (N 3) (C 3)) := cell_of_row _ _ _ _ _ _ rv
  have cv4 : w1.cell? ⟨x, 4, none⟩ = some (.int .i64 vl) := cell_of_row _ _ _ _ _ _ rv
  have cv5 : w1.cell? ⟨x, 5, none⟩ = some (.int .i64 vn) := cell_of_row _ _ _ _ _ _ rv
  have cv6 : w1.cell? ⟨x, 6, none⟩ = some (.int .i64 vs) := cell_of_row _ _ _ _ _ _ rv
  have ce0 : w1.cell? ⟨x + 1, 0, none⟩ = some (.slice A2 n2 c2) := cell_of_row _ _ _ _ _ _ re
  have ce1 : w1.cell? ⟨x + 1, 1, none⟩ = some (.slice D m2 d2) := cell_of_row _ _ _ _ _ _ re
  have ce2 : w1.cell? ⟨x + 1, 2, none⟩ = some (.int .i64 el) := cell_of_row _ _ _ _ _ _ re
  have ce3 : w1.cell? ⟨x + 1, 3, none⟩ = some (.int .i64 en) := cell_of_row _ _ _ _ _ _ re
  have ce4 : w1.cell? ⟨x + 1, 4, none⟩ = some (.int .i64 es) := cell_of_row _ _ _ _ _ _ re
  clear hbge hnf hfm hb1 rv re HFA0
  go_wp2_with fail
  refine (HLT.out w1).mono ?_
  rintro r w2 ⟨rfl, hb2⟩
  have HB2 : Hid (Below (x + 3) w0 w2) := Lib.hid (HB1.out.trans (hb2.mono (by have := HB1.out.size; have := HS0.out; omega)))
  have HFM2 := Lib.hid (HFM1.out.below hb2)
  clear hb2 cv0 cv1 cv2 cv3 cv4 cv5 cv6 ce0 ce1 ce2 ce3 ce4 HLT
  cases hh : headOk v e with
  | false =>
    have HHD := Lib.hid hh
    clear hh
    have rz := (HB2.out.block (x + 2) (by omega)).trans HRZ.out
    have z0 : w2.cell? ⟨x + 2, 0, none⟩ = some (.slice none 0 0) := cell_of_row _ _ _ _ _ _ rz
    have z1 : w2.cell? ⟨x + 2, 1, none⟩ = some (.slice none 0 0) := cell_of_row _ _ _ _ _ _ rz
    have z2 : w2.cell? ⟨x + 2, 2, none⟩ = some (.slice none 0 0) := cell_of_row _ _ _ _ _ _ rz
    have z3 : w2.cell? ⟨x + 2, 3, none⟩ = some (.slice none 0 0) := cell_of_row _ _ _ _ _ _ rz
    have z4 : w2.cell? ⟨x + 2, 4, none⟩ = some (.int .i64 0) := cell_of_row _ _ _ _ _ _ rz
    have z5 : w2.cell? ⟨x + 2, 5, none⟩ = some (.int .i64 0) := cell_of_row _ _ _ _ _ _ rz
    have z6 : w2.cell? ⟨x + 2, 6, none⟩ = some (.int .i64 0) := cell_of_row _ _ _ _ _ _ rz
    have f0 : w2.frozen? ⟨x + 2, 0, none⟩ = false := frozen_of_row _ _ _ _ _ rz
    have f1 : w2.frozen? ⟨x + 2, 1, none⟩ = false := frozen_of_row _ _ _ _ _ rz
    have f2 : w2.frozen? ⟨x + 2, 2, none⟩ = false := frozen_of_row _ _ _ _ _ rz
    have f3 : w2.frozen? ⟨x + 2, 3, none⟩ = false := frozen_of_row _ _ _ _ _ rz
    have f4 : w2.frozen? ⟨x + 2, 4, none⟩ = false := frozen_of_row _ _ _ _ _ rz
    have f5 : w2.frozen? ⟨x + 2, 5, none⟩ = false := frozen_of_row _ _ _ _ _ rz
    have f6 : w2.frozen? ⟨x + 2, 6, none⟩ = false := frozen_of_row _ _ _ _ _ rz
    have HBS : Hid (∀ u0 u1 u2 u3 u4 u5 u6, Below w.heap.size w (((((((w2.setCell ⟨x + 2, 0, none⟩ u0).setCell ⟨x + 2, 1, none⟩ u1).setCell ⟨x + 2, 2, none⟩ u2).setCell ⟨x + 2, 3, none⟩ u3).setCell ⟨x + 2, 4, none⟩ u4).setCell ⟨x + 2, 5, none⟩ u5).setCell ⟨x + 2, 6, none⟩ u6)) := Lib.hid fun u0 u1 u2 u3 u4 u5 u6 => by
      have hle : w.heap.size ≤ x + 2 := by have := HX.out; omega
      exact (((((((HLOW.out _ HB2.out).setCell (p := ⟨x + 2, 0, none⟩) hle u0).setCell (p := ⟨x + 2, 1, none⟩) hle u1).setCell (p := ⟨x + 2, 2, none⟩) hle u2).setCell (p := ⟨x + 2, 3, none⟩) hle u3).setCell (p := ⟨x + 2, 4, none⟩) hle u4).setCell (p := ⟨x + 2, 5, none⟩) hle u5).setCell (p := ⟨x + 2, 6, none⟩) hle u6
    have HAP := Lib.hid (apply_bad1 HHD.out)
    clear rz
    go_wp2
    exact bodyPost_ret (v := .tuple #[.agg #[.slice none 0 0, .slice none 0 0, .slice none 0 0, .slice none 0 0, .int .i64 0, .int .i64 0, .int .i64 0], .int .i64 17]) (by simp [results, Try.results10, go_sem, *]) rfl ⟨ApplyOut.bad HAP.out, HBS.out _ _ _ _ _ _ _⟩
  | true =>
    have re := (HB2.out.block (x + 1) (by omega)).trans HRE.out
    have ce0 : w2.cell? ⟨x + 1, 0, none⟩ = some (.slice A2 n2 c2) := cell_of_row _ _ _ _ _ _ re
    have ce1 : w2.cell? ⟨x + 1, 1, none⟩ = some (.slice D m2 d2) := cell_of_row _ _ _ _ _ _ re
    have ce2 : w2.cell? ⟨x + 1, 2, none⟩ = some (.int .i64 el) := cell_of_row _ _ _ _ _ _ re
    have ce3 : w2.cell? ⟨x + 1, 3, none⟩ = some (.int .i64 en) := cell_of_row _ _ _ _ _ _ re
    have ce4 : w2.cell? ⟨x + 1, 4, none⟩ = some (.int .i64 es) := cell_of_row _ _ _ _ _ _ re
    have HHD := Lib.hid hh
    have HD := Lib.hid (drop_any b D m2 d2 e.drop (files v.L) nf w2 HE.out.dlen ((HE0.out.drop).mono (HB2.out.mono (by have := HS0.out; omega))) (by have := HSM.out; omega) (by have := HBG.out; omega) (by rw [gone_nil]; exact HFM2.out) (fun hl a ha => by
      obtain ⟨c, off, hA, hbl, -⟩ := HE.out.drop.2 hl
      rw [ha] at hA
      injection hA with hA
      subst hA
      have := HX.out
      have := HBG.out
      simp only
      omega))
    clear re hh
    go_wp2_with fail
    refine HD.out.mono ?_
    rintro r w3 ⟨rfl, hb3, hd3⟩
    have HB3 : Hid (Below (x + 3) w0 w3) := Lib.hid (HB2.out.trans (hb3.mono HBG.out.1))
    have HD3 := Lib.hid hd3
    clear hb3 hd3 ce0 ce1 ce2 ce3 ce4 HD
    cases hdo : dropOk (files v.L) [] e.drop with
    | false =>
      have HDO := Lib.hid hdo
      clear hdo
      have rz := (HB3.out.block (x + 2) (by omega)).trans HRZ.out
      have z0 : w3.cell? ⟨x + 2, 0, none⟩ = some (.slice none 0 0) := cell_of_row _ _ _ _ _ _ rz
      have z1 : w3.cell? ⟨x + 2, 1, none⟩ = some (.slice none 0 0) := cell_of_row _ _ _ _ _ _ rz
      have z2 : w3.cell? ⟨x + 2, 2, none⟩ = some (.slice none 0 0) := cell_of_row _ _ _ _ _ _ rz
      have z3 : w3.cell? ⟨x + 2, 3, none⟩ = some (.slice none 0 0) := cell_of_row _ _ _ _ _ _ rz
      have z4 : w3.cell? ⟨x + 2, 4, none⟩ = some (.int .i64 0) := cell_of_row _ _ _ _ _ _ rz
      have z5 : w3.cell? ⟨x + 2, 5, none⟩ = some (.int .i64 0) := cell_of_row _ _ _ _ _ _ rz
      have z6 : w3.cell? ⟨x + 2, 6, none⟩ = some (.int .i64 0) := cell_of_row _ _ _ _ _ _ rz
      have f0 : w3.frozen? ⟨x + 2, 0, none⟩ = false := frozen_of_row _ _ _ _ _ rz
      have f1 : w3.frozen? ⟨x + 2, 1, none⟩ = false := frozen_of_row _ _ _ _ _ rz
      have f2 : w3.frozen? ⟨x + 2, 2, none⟩ = false := frozen_of_row _ _ _ _ _ rz
      have f3 : w3.frozen? ⟨x + 2, 3, none⟩ = false := frozen_of_row _ _ _ _ _ rz
      have f4 : w3.frozen? ⟨x + 2, 4, none⟩ = false := frozen_of_row _ _ _ _ _ rz
      have f5 : w3.frozen? ⟨x + 2, 5, none⟩ = false := frozen_of_row _ _ _ _ _ rz
      have f6 : w3.frozen? ⟨x + 2, 6, none⟩ = false := frozen_of_row _ _ _ _ _ rz
      have HBS : Hid (∀ u0 u1 u2 u3 u4 u5 u6, Below w.heap.size w (((((((w3.setCell ⟨x + 2, 0, none⟩ u0).setCell ⟨x + 2, 1, none⟩ u1).setCell ⟨x + 2, 2, none⟩ u2).setCell ⟨x + 2, 3, none⟩ u3).setCell ⟨x + 2, 4, none⟩ u4).setCell ⟨x + 2, 5, none⟩ u5).setCell ⟨x + 2, 6, none⟩ u6)) := Lib.hid fun u0 u1 u2 u3 u4 u5 u6 => by
        have hle : w.heap.size ≤ x + 2 := by have := HX.out; omega
        exact (((((((HLOW.out _ HB3.out).setCell (p := ⟨x + 2, 0, none⟩) hle u0).setCell (p := ⟨x + 2, 1, none⟩) hle u1).setCell (p := ⟨x + 2, 2, none⟩) hle u2).setCell (p := ⟨x + 2, 3, none⟩) hle u3).setCell (p := ⟨x + 2, 4, none⟩) hle u4).setCell (p := ⟨x + 2, 5, none⟩) hle u5).setCell (p := ⟨x + 2, 6, none⟩) hle u6
      have HAP := Lib.hid (apply_bad2 HDO.out)
      clear rz
      go_wp2
      exact bodyPost_ret (v := .tuple #[.agg #[.slice none 0 0, .slice none 0 0, .slice none 0 0, .slice none 0 0, .int .i64 0, .int .i64 0, .int .i64 0], .int .i64 17]) (by simp [results, Try.results10, go_sem, *]) rfl ⟨ApplyOut.bad HAP.out, HBS.out _ _ _ _ _ _ _⟩
    | true =>
      have HDO := Lib.hid hdo
      obtain ⟨n3, hn3, hf3⟩ := HD3.out hdo
      have re := (HB3.out.block (x + 1) (by omega)).trans HRE.out
      have ce0 : w3.cell? ⟨x + 1, 0, none⟩ = some (.slice A2 n2 c2) := cell_of_row _ _ _ _ _ _ re
      have ce1 : w3.cell? ⟨x + 1, 1, none⟩ = some (.slice D m2 d2) := cell_of_row _ _ _ _ _ _ re
      have ce2 : w3.cell? ⟨x + 1, 2, none⟩ = some (.int .i64 el) := cell_of_row _ _ _ _ _ _ re
      have ce3 : w3.cell? ⟨x + 1, 3, none⟩ = some (.int .i64 en) := cell_of_row _ _ _ _ _ _ re
      have ce4 : w3.cell? ⟨x + 1, 4, none⟩ = some (.int .i64 es) := cell_of_row _ _ _ _ _ _ re
      have HAD := Lib.hid (add_any b A2 n2 c2 e.add (.slice D m2 d2) el en es (files v.L) e.drop n3 w3 HE.out.alen (HE0.out.add.below (HB3.out.mono (by have := HS0.out; omega))) (by have := HSM.out; omega) (by have := HBG.out; have := HSM.out; omega) (fun z hz => (((dropOk_iff _ _ _).1 hdo).1 z hz).1) hf3 (fun hl a ha => by
        obtain ⟨c, off, hA, hbl, -⟩ := HE.out.add.at_ hl
        rw [ha] at hA
        injection hA with hA
        subst hA
        have := HX.out
        have := HBG.out
        simp only
        omega))
      have hen := HEN.out.2.1
      rw [← hen] at HAD
      have HAD2 : Hid (Calls Try.prog 29 #[.map (some b), .agg #[.slice A2 n2 c2, .slice D m2 d2, .int .i64 el, .int .i64 en, .int .i64 es]] w3 fun r w' => r = .returned (.bool (addOk e.next (files v.L) [] e.add)) ∧ Below b w3 w' ∧ (addOk e.next (files v.L) [] e.add = true → ∃ n1, n1 ≤ n3 + n2 ∧ Fm w' b n1 (came (files v.L) e.drop (files e.add)))) := Lib.hid (by rw [hen] at HAD ⊢; exact HAD.out)
      have HN3 : Hid (n3 ≤ nf + m2) := Lib.hid hn3
      clear re hdo hf3 hn3 HAD hen
      go_wp2_with fail
      refine HAD2.out.mono ?_
      rintro r w4 ⟨rfl, hb4, ha4⟩
      have HB4 : Hid (Below (x + 3) w0 w4) := Lib.hid (HB3.out.trans (hb4.mono HBG.out.1))
      have HA4 := Lib.hid ha4
      clear hb4 ha4 ce0 ce1 ce2 ce3 ce4 HAD2
      cases hao : addOk e.next (files v.L) [] e.add with
      | false =>
        have HAO := Lib.hid hao
        clear hao
        have rz := (HB4.out.block (x + 2) (by omega)).trans HRZ.out
        have z0 : w4.cell? ⟨x + 2, 0, none⟩ = some (.slice none 0 0) := cell_of_row _ _ _ _ _ _ rz
        have z1 : w4.cell? ⟨x + 2, 1, none⟩ = some (.slice none 0 0) := cell_of_row _ _ _ _ _ _ rz
        have z2 : w4.cell? ⟨x + 2, 2, none⟩ = some (.slice none 0 0) := cell_of_row _ _ _ _ _ _ rz
        have z3 : w4.cell? ⟨x + 2, 3, none⟩ = some (.slice none 0 0) := cell_of_row _ _ _ _ _ _ rz
        have z4 : w4.cell? ⟨x + 2, 4, none⟩ = some (.int .i64 0) := cell_of_row _ _ _ _ _ _ rz
        have z5 : w4.cell? ⟨x + 2, 5, none⟩ = some (.int .i64 0) := cell_of_row _ _ _ _ _ _ rz
        have z6 : w4.cell? ⟨x + 2, 6, none⟩ = some (.int .i64 0) := cell_of_row _ _ _ _ _ _ rz
        have f0 : w4.frozen? ⟨x + 2, 0, none⟩ = false := frozen_of_row _ _ _ _ _ rz
        have f1 : w4.frozen? ⟨x + 2, 1, none⟩ = false := frozen_of_row _ _ _ _ _ rz
        have f2 : w4.frozen? ⟨x + 2, 2, none⟩ = false := frozen_of_row _ _ _ _ _ rz
        have f3 : w4.frozen? ⟨x + 2, 3, none⟩ = false := frozen_of_row _ _ _ _ _ rz
        have f4 : w4.frozen? ⟨x + 2, 4, none⟩ = false := frozen_of_row _ _ _ _ _ rz
        have f5 : w4.frozen? ⟨x + 2, 5, none⟩ = false := frozen_of_row _ _ _ _ _ rz
        have f6 : w4.frozen? ⟨x + 2, 6, none⟩ = false := frozen_of_row _ _ _ _ _ rz
        have HBS : Hid (∀ u0 u1 u2 u3 u4 u5 u6, Below w.heap.size w (((((((w4.setCell ⟨x + 2, 0, none⟩ u0).setCell ⟨x + 2, 1, none⟩ u1).setCell ⟨x + 2, 2, none⟩ u2).setCell ⟨x + 2, 3, none⟩ u3).setCell ⟨x + 2, 4, none⟩ u4).setCell ⟨x + 2, 5, none⟩ u5).setCell ⟨x + 2, 6, none⟩ u6)) := Lib.hid fun u0 u1 u2 u3 u4 u5 u6 => by
          have hle : w.heap.size ≤ x + 2 := by have := HX.out; omega
          exact (((((((HLOW.out _ HB4.out).setCell (p := ⟨x + 2, 0, none⟩) hle u0).setCell (p := ⟨x + 2, 1, none⟩) hle u1).setCell (p := ⟨x + 2, 2, none⟩) hle u2).setCell (p := ⟨x + 2, 3, none⟩) hle u3).setCell (p := ⟨x + 2, 4, none⟩) hle u4).setCell (p := ⟨x + 2, 5, none⟩) hle u5).setCell (p := ⟨x + 2, 6, none⟩) hle u6
        have HAP := Lib.hid (apply_bad3 HAO.out)
        clear rz
        go_wp2
        exact bodyPost_ret (v := .tuple #[.agg #[.slice none 0 0, .slice none 0 0, .slice none 0 0, .slice none 0 0, .int .i64 0, .int .i64 0, .int .i64 0], .int .i64 17]) (by simp [results, Try.results10, go_sem, *]) rfl ⟨ApplyOut.bad HAP.out, HBS.out _ _ _ _ _ _ _⟩
      | true =>
        have HAO := Lib.hid hao
        have rv := (HB4.out.block x (by omega)).trans HRV.out
        have re := (HB4.out.block (x + 1) (by omega)).trans HRE.out
        have cv0 : w4.cell? ⟨x, 0, none⟩ = some (.slice (A 0) (N 0) (C 0)) := cell_of_row _ _ _ _ _ _ rv
        have cv1 : w4.cell? ⟨x, 1, none⟩ = some (.slice (A 1) (N 1) (C 1)) := cell_of_row _ _ _ _ _ _ rv
        have cv2 : w4.cell? ⟨x, 2, none⟩ = some (.slice (A 2) (N 2) (C 2)) := cell_of_row _ _ _ _ _ _ rv
        have cv3 : w4.cell? ⟨x, 3, none⟩ = some (.slice (A 3) (N 3) (C 3)) := cell_of_row _ _ _ _ _ _ rv
        have cv4 : w4.cell? ⟨x, 4, none⟩ = some (.int .i64 vl) := cell_of_row _ _ _ _ _ _ rv
        have cv5 : w4.cell? ⟨x, 5, none⟩ = some (.int .i64 vn) := cell_of_row _ _ _ _ _ _ rv
        have cv6 : w4.cell? ⟨x, 6, none⟩ = some (.int .i64 vs) := cell_of_row _ _ _ _ _ _ rv
        have ce0 : w4.cell? ⟨x + 1, 0, none⟩ = some (.slice A2 n2 c2) := cell_of_row _ _ _ _ _ _ re
        have ce1 : w4.cell? ⟨x + 1, 1, none⟩ = some (.slice D m2 d2) := cell_of_row _ _ _ _ _ _ re
        have ce2 : w4.cell? ⟨x + 1, 2, none⟩ = some (.int .i64 el) := cell_of_row _ _ _ _ _ _ re
        have ce3 : w4.cell? ⟨x + 1, 3, none⟩ = some (.int .i64 en) := cell_of_row _ _ _ _ _ _ re
        have ce4 : w4.cell? ⟨x + 1, 4, none⟩ = some (.int .i64 es) := cell_of_row _ _ _ _ _ _ re
        obtain ⟨n4, hn4, hf4⟩ := HA4.out hao
        have hai := (addOk_iff _ _ _ _).1 hao
        have HCH := Lib.hid (changed_any A N C v.L vl vn vs A2 n2 c2 e.add (.slice D m2 d2) el en es b n4 (came (files v.L) e.drop (files e.add)) e.drop w4 (HV0.out.below (HB4.out.mono (by have := HS0.out; omega))) (by have := HSM.out; omega) (HE0.out.add.below (HB4.out.mono (by have := HS0.out; omega))) HE.out.alen (by have := HSM.out; omega)
          (fun m hm => ⟨(fine_num (hai.1 m hm).1).1, (fine_num (hai.1 m hm).1).2.1⟩) hf4 (fun m hm => by
            have hmo : m.file ∈ files v.L := List.mem_map.2 ⟨m, hm, rfl⟩
            have hna : m.file ∉ files e.add := fun h => by
              obtain ⟨k, hk, hke⟩ := List.mem_map.1 h
              exact (hai.1 k hk).2.1 (hke ▸ hmo)
            rw [came_stays hna]
            simp [keepB, hmo]))
        clear re rv hao hn4 hf4 hai
        go_wp2_with fail
        refine HCH.out.mono ?_
        rintro r w5 ⟨A', N', C', S, rfl, hS, hv5, hnew, hb5⟩
        have HB5 : Hid (Below (x + 3) w0 w5) := Lib.hid (HB4.out.trans (hb5.mono (by have := HB4.out.size; have := HS0.out; omega)))
        have HEND := Lib.hid (made_end HOK.out HHD.out HDO.out HAO.out hS)
        have HV5 := Lib.hid hv5
        have HNEW : Hid (∀ k, k < 4 → ∀ a, A' k = some a → x + 3 ≤ a.block) := Lib.hid fun k hk a ha => by have := hnew k hk a ha; have := HB4.out.size; have := HS0.out; omega
        have HLEN : Hid ((S 0 ++ S 1 ++ S 2 ++ S 3).length ≤ 10000000) := Lib.hid (by
          have := made_len HOK.out (headOk_num HHD.out).2.1 HAO.out hS
          have h2 := HE.out.alen
          have h3 := HSM.out
          omega)
        obtain ⟨L', hL'⟩ : ∃ L', S 0 ++ S 1 ++ S 2 ++ S 3 = L' := ⟨_, rfl⟩
        rw [hL'] at HEND HV5 HLEN
        clear hS hv5 hb5 hL' hnew cv0 cv1 cv2 cv3 cv4 cv5 cv6 ce0 ce1 ce2 ce3 ce4 HCH
        go_wp2_with fail
        have hal5 := (Below.refl w5.heap.size w5).alloc (Nat.le_refl _) (.cells #[.slice (A' 0) (N' 0) (C' 0), .slice (A' 1) (N' 1) (C' 1), .slice (A' 2) (N' 2) (C' 2), .slice (A' 3) (N' 3) (C' 3), .int .i64 el, .int .i64 en, .int .i64 es] 26)
        have hr5 := heap_alloc_new w5 (.cells #[.slice (A' 0) (N' 0) (C' 0), .slice (A' 1) (N' 1) (C' 1), .slice (A' 2) (N' 2) (C' 2), .slice (A' 3) (N' 3) (C' 3), .int .i64 el, .int .i64 en, .int .i64 es] 26)
        have hsz5 : (w5.alloc (.cells #[.slice (A' 0) (N' 0) (C' 0), .slice (A' 1) (N' 1) (C' 1), .slice (A' 2) (N' 2) (C' 2), .slice (A' 3) (N' 3) (C' 3), .int .i64 el, .int .i64 en, .int .i64 es] 26)).heap.size = w5.heap.size + 1 := by simp
        have HV6 := Lib.hid (HV5.out.below hal5)
        have HB6 : Hid (Below (x + 3) w0 (w5.alloc (.cells #[.slice (A' 0) (N' 0) (C' 0), .slice (A' 1) (N' 1) (C' 1), .slice (A' 2) (N' 2) (C' 2), .slice (A' 3) (N' 3) (C' 3), .int .i64 el, .int .i64 en, .int .i64 es] 26))) := Lib.hid (HB5.out.alloc (by have := HB5.out.size; have := HS0.out; omega) _)
        generalize w5.alloc (.cells #[.slice (A' 0) (N' 0) (C' 0), .slice (A' 1) (N' 1) (C' 1), .slice (A' 2) (N' 2) (C' 2), .slice (A' 3) (N' 3) (C' 3), .int .i64 el, .int .i64 en, .int .i64 es] 26) = w6 at hal5 hr5 hsz5 HV6 HB6 ⊢
        obtain ⟨y, hy⟩ : ∃ y, w5.heap.size = y := ⟨_, rfl⟩
        rw [hy] at hr5 hsz5 ⊢
        have HY : Hid (x + 3 ≤ y ∧ y + 1 = w6.heap.size) := Lib.hid (by have := HB5.out.size; have := HS0.out; omega)
        have HR6 := Lib.hid hr5
        have cy0 : w6.cell? ⟨y, 0, none⟩ = some (.slice (A' 0) (N' 0) (C' 0)) := cell_of_row _ _ _ _ _ _ hr5
        have cy1 : w6.cell? ⟨y, 1, none⟩ = some (.slice (A' 1) (N' 1) (C' 1)) := cell_of_row _ _ _ _ _ _ hr5
        have cy2 : w6.cell? ⟨y, 2, none⟩ = some (.slice (A' 2) (N' 2) (C' 2)) := cell_of_row _ _ _ _ _ _ hr5
        have cy3 : w6.cell? ⟨y, 3, none⟩ = some (.slice (A' 3) (N' 3) (C' 3)) := cell_of_row _ _ _ _ _ _ hr5
        have cy4 : w6.cell? ⟨y, 4, none⟩ = some (.int .i64 el) := cell_of_row _ _ _ _ _ _ hr5
        have cy5 : w6.cell? ⟨y, 5, none⟩ = some (.int .i64 en) := cell_of_row _ _ _ _ _ _ hr5
        have cy6 : w6.cell? ⟨y, 6, none⟩ = some (.int .i64 es) := cell_of_row _ _ _ _ _ _ hr5
        have HAPT := Lib.hid (apart_any A' N' C' L' el en es w6 HV6.out HLEN.out)
        clear hal5 hr5 hsz5 hy
        go_wp2_with fail
        refine HAPT.out.mono ?_
        rintro r w7 ⟨rfl, hb7⟩
        have HB7 : Hid (Below (x + 3) w0 w7) := Lib.hid (HB6.out.trans (hb7.mono (by have := HY.out; omega)))
        have HV7 := Lib.hid (HV6.out.below hb7)
        have HR7 : Hid (w7.heap[y]? = some (.cells #[.slice (A' 0) (N' 0) (C' 0), .slice (A' 1) (N' 1) (C' 1), .slice (A' 2) (N' 2) (C' 2), .slice (A' 3) (N' 3) (C' 3), .int .i64 el, .int .i64 en, .int .i64 es] 26 (0, 0))) := Lib.hid ((hb7.block y (by have := HY.out; omega)).trans HR6.out)
        clear hb7 cy0 cy1 cy2 cy3 cy4 cy5 cy6 HAPT
        cases hra : ra L' 0 with
        | false =>
          have HAQ := Lib.hid (HEND.out.2 hra)
          clear hra
          have rz := (HB7.out.block (x + 2) (by omega)).trans HRZ.out
          have z0 : w7.cell? ⟨x + 2, 0, none⟩ = some (.slice none 0 0) := cell_of_row _ _ _ _ _ _ rz
          have z1 : w7.cell? ⟨x + 2, 1, none⟩ = some (.slice none 0 0) := cell_of_row _ _ _ _ _ _ rz
          have z2 : w7.cell? ⟨x + 2, 2, none⟩ = some (.slice none 0 0) := cell_of_row _ _ _ _ _ _ rz
          have z3 : w7.cell? ⟨x + 2, 3, none⟩ = some (.slice none 0 0) := cell_of_row _ _ _ _ _ _ rz
          have z4 : w7.cell? ⟨x + 2, 4, none⟩ = some (.int .i64 0) := cell_of_row _ _ _ _ _ _ rz
          have z5 : w7.cell? ⟨x + 2, 5, none⟩ = some (.int .i64 0) := cell_of_row _ _ _ _ _ _ rz
          have z6 : w7.cell? ⟨x + 2, 6, none⟩ = some (.int .i64 0) := cell_of_row _ _ _ _ _ _ rz
          have f0 : w7.frozen? ⟨x + 2, 0, none⟩ = false := frozen_of_row _ _ _ _ _ rz
          have f1 : w7.frozen? ⟨x + 2, 1, none⟩ = false := frozen_of_row _ _ _ _ _ rz
          have f2 : w7.frozen? ⟨x + 2, 2, none⟩ = false := frozen_of_row _ _ _ _ _ rz
          have f3 : w7.frozen? ⟨x + 2, 3, none⟩ = false := frozen_of_row _ _ _ _ _ rz
          have f4 : w7.frozen? ⟨x + 2, 4, none⟩ = false := frozen_of_row _ _ _ _ _ rz
          have f5 : w7.frozen? ⟨x + 2, 5, none⟩ = false := frozen_of_row _ _ _ _ _ rz
          have f6 : w7.frozen? ⟨x + 2, 6, none⟩ = false := frozen_of_row _ _ _ _ _ rz
          have HBS : Hid (∀ u0 u1 u2 u3 u4 u5 u6, Below w.heap.size w (((((((w7.setCell ⟨x + 2, 0, none⟩ u0).setCell ⟨x + 2, 1, none⟩ u1).setCell ⟨x + 2, 2, none⟩ u2).setCell ⟨x + 2, 3, none⟩ u3).setCell ⟨x + 2, 4, none⟩ u4).setCell ⟨x + 2, 5, none⟩ u5).setCell ⟨x + 2, 6, none⟩ u6)) := Lib.hid fun u0 u1 u2 u3 u4 u5 u6 => by
            have hle : w.heap.size ≤ x + 2 := by have := HX.out; omega
            exact (((((((HLOW.out _ HB7.out).setCell (p := ⟨x + 2, 0, none⟩) hle u0).setCell (p := ⟨x + 2, 1, none⟩) hle u1).setCell (p := ⟨x + 2, 2, none⟩) hle u2).setCell (p := ⟨x + 2, 3, none⟩) hle u3).setCell (p := ⟨x + 2, 4, none⟩) hle u4).setCell (p := ⟨x + 2, 5, none⟩) hle u5).setCell (p := ⟨x + 2, 6, none⟩) hle u6
          have HAP := Lib.hid (HAQ.out)
          clear rz
          go_wp2
          exact bodyPost_ret (v := .tuple #[.agg #[.slice none 0 0, .slice none 0 0, .slice none 0 0, .slice none 0 0, .int .i64 0, .int .i64 0, .int .i64 0], .int .i64 17]) (by simp [results, Try.results10, go_sem, *]) rfl ⟨ApplyOut.bad HAP.out, HBS.out _ _ _ _ _ _ _⟩
        | true =>
          have HAQ : Hid (apply v e = (⟨L', el, en, es⟩, 0)) := Lib.hid (by
            rw [HEND.out.1 hra, HEN.out.1, HEN.out.2.1, HEN.out.2.2])
          have ry := HR7.out
          have rz := (HB7.out.block (x + 2) (by omega)).trans HRZ.out
          have cy0 : w7.cell? ⟨y, 0, none⟩ = some (.slice (A' 0) (N' 0) (C' 0)) := cell_of_row _ _ _ _ _ _ ry
          have cy1 : w7.cell? ⟨y, 1, none⟩ = some (.slice (A' 1) (N' 1) (C' 1)) := cell_of_row _ _ _ _ _ _ ry
          have cy2 : w7.cell? ⟨y, 2, none⟩ = some (.slice (A' 2) (N' 2) (C' 2)) := cell_of_row _ _ _ _ _ _ ry
          have cy3 : w7.cell? ⟨y, 3, none⟩ = some (.slice (A' 3) (N' 3) (C' 3)) := cell_of_row _ _ _ _ _ _ ry
          have cy4 : w7.cell? ⟨y, 4, none⟩ = some (.int .i64 el) := cell_of_row _ _ _ _ _ _ ry
          have cy5 : w7.cell? ⟨y, 5, none⟩ = some (.int .i64 en) := cell_of_row _ _ _ _ _ _ ry
          have cy6 : w7.cell? ⟨y, 6, none⟩ = some (.int .i64 es) := cell_of_row _ _ _ _ _ _ ry
          have z0 : w7.cell? ⟨x + 2, 0, none⟩ = some (.slice none 0 0) := cell_of_row _ _ _ _ _ _ rz
          have z1 : w7.cell? ⟨x + 2, 1, none⟩ = some (.slice none 0 0) := cell_of_row _ _ _ _ _ _ rz
          have z2 : w7.cell? ⟨x + 2, 2, none⟩ = some (.slice none 0 0) := cell_of_row _ _ _ _ _ _ rz
          have z3 : w7.cell? ⟨x + 2, 3, none⟩ = some (.slice none 0 0) := cell_of_row _ _ _ _ _ _ rz
          have z4 : w7.cell? ⟨x + 2, 4, none⟩ = some (.int .i64 0) := cell_of_row _ _ _ _ _ _ rz
          have z5 : w7.cell? ⟨x + 2, 5, none⟩ = some (.int .i64 0) := cell_of_row _ _ _ _ _ _ rz
          have z6 : w7.cell? ⟨x + 2, 6, none⟩ = some (.int .i64 0) := cell_of_row _ _ _ _ _ _ rz
          have f0 : w7.frozen? ⟨x + 2, 0, none⟩ = false := frozen_of_row _ _ _ _ _ rz
          have f1 : w7.frozen? ⟨x + 2, 1, none⟩ = false := frozen_of_row _ _ _ _ _ rz
          have f2 : w7.frozen? ⟨x + 2, 2, none⟩ = false := frozen_of_row _ _ _ _ _ rz
          have f3 : w7.frozen? ⟨x + 2, 3, none⟩ = false := frozen_of_row _ _ _ _ _ rz
          have f4 : w7.frozen? ⟨x + 2, 4, none⟩ = false := frozen_of_row _ _ _ _ _ rz
          have f5 : w7.frozen? ⟨x + 2, 5, none⟩ = false := frozen_of_row _ _ _ _ _ rz
          have f6 : w7.frozen? ⟨x + 2, 6, none⟩ = false := frozen_of_row _ _ _ _ _ rz
          have HBS : Hid (∀ u0 u1 u2 u3 u4 u5 u6, Below w.heap.size w (((((((w7.setCell ⟨x + 2, 0, none⟩ u0).setCell ⟨x + 2, 1, none⟩ u1).setCell ⟨x + 2, 2, none⟩ u2).setCell ⟨x + 2, 3, none⟩ u3).setCell ⟨x + 2, 4, none⟩ u4).setCell ⟨x + 2, 5, none⟩ u5).setCell ⟨x + 2, 6, none⟩ u6)) := Lib.hid fun u0 u1 u2 u3 u4 u5 u6 => by
            have hle : w.heap.size ≤ x + 2 := by have := HX.out; omega
            exact (((((((HLOW.out _ HB7.out).setCell (p := ⟨x + 2, 0, none⟩) hle u0).setCell (p := ⟨x + 2, 1, none⟩) hle u1).setCell (p := ⟨x + 2, 2, none⟩) hle u2).setCell (p := ⟨x + 2, 3, none⟩) hle u3).setCell (p := ⟨x + 2, 4, none⟩) hle u4).setCell (p := ⟨x + 2, 5, none⟩) hle u5).setCell (p := ⟨x + 2, 6, none⟩) hle u6
          have HVS : Hid (∀ u0 u1 u2 u3 u4 u5 u6, VerIn (((((((w7.setCell ⟨x + 2, 0, none⟩ u0).setCell ⟨x + 2, 1, none⟩ u1).setCell ⟨x + 2, 2, none⟩ u2).setCell ⟨x + 2, 3, none⟩ u3).setCell ⟨x + 2, 4, none⟩ u4).setCell ⟨x + 2, 5, none⟩ u5).setCell ⟨x + 2, 6, none⟩ u6) A' N' C' L') := Lib.hid fun u0 u1 u2 u3 u4 u5 u6 => by
            have hq : ∀ k, k < 4 → ∀ a, A' k = some a → a.block ≠ x + 2 := fun k hk a ha => by have := HNEW.out k hk a ha; omega
            exact (((((((HV7.out.grown (grownBy_setCell _ _ _) hq).grown (grownBy_setCell _ _ _) hq).grown (grownBy_setCell _ _ _) hq).grown (grownBy_setCell _ _ _) hq).grown (grownBy_setCell _ _ _) hq).grown (grownBy_setCell _ _ _) hq).grown (grownBy_setCell _ _ _) hq)
          clear ry rz hra
          go_wp2
          exact bodyPost_ret (v := .tuple #[.agg #[.slice (A' 0) (N' 0) (C' 0), .slice (A' 1) (N' 1) (C' 1), .slice (A' 2) (N' 2) (C' 2), .slice (A' 3) (N' 3) (C' 3), .int .i64 el, .int .i64 en, .int .i64 es], .int .i64 0]) (by simp [results, Try.results10, go_sem, *]) rfl ⟨⟨A', N', C', by rw [HAQ.out], by rw [HAQ.out]; exact HVS.out _ _ _ _ _ _ _, fun k hk a ha => by have := HNEW.out k hk a ha; have := HX.out; omega⟩, HBS.out _ _ _ _ _ _ _⟩
end Go.Proofs.Ytfodbblcflolgaa
