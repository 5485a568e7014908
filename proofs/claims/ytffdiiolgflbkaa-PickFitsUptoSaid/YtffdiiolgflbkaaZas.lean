/- Texts joined by bundle.py: Vo, Ra, Lf. -/
import Derived.Test.YtffdiiolgflbkaaZar
import Derived.Test.YtffdiiolgflbkaaZao
import Derived.Test.YtffdiiolgflbkaaZap

/- Apply. -/
namespace Go.Proofs.Ytffdiiolgflbkaa
open Go.RowKit
open VS
attribute [local go_sem ↓] Go.wp_at_zero Go.wp_at_succ

/-- a version's value -/
abbrev verV (A : Nat → Option Addr) (N C : Nat → Nat) (lg nx sq : Int) : Value := .agg #[.slice (A 0) (N 0) (C 0), .slice (A 1) (N 1) (C 1), .slice (A 2) (N 2) (C 2), .slice (A 3) (N 3) (C 3), .int .i64 lg, .int .i64 nx, .int .i64 sq]
/-- an edit's value -/
abbrev edV (A : Option Addr) (n c : Nat) (D : Option Addr) (m d : Nat) (lg nx sq : Int) : Value := .agg #[.slice A n c, .slice D m d, .int .i64 lg, .int .i64 nx, .int .i64 sq]

structure EdIn (w : World) (A : Option Addr) (n c : Nat) (D : Option Addr) (m d : Nat) (e : Ed) : Prop where
  add : In5 w A e.add
  alen : e.add.length = n
  acap : n ≤ c
  drop : IntsIn w w.heap.size D e.drop
  dlen : e.drop.length = m
  dcap : m ≤ d
  log : i64 e.log
  next : i64 e.next
  seq : i64 e.seq

theorem EdIn.below {w w' : World} {A : Option Addr} {n c : Nat} {D : Option Addr} {m d : Nat} {e : Ed} (h : EdIn w A n c D m d e) (hb : Below w.heap.size w w') : EdIn w' A n c D m d e :=
  ⟨h.add.below hb, h.alen, h.acap, h.drop.mono hb, h.dlen, h.dcap, h.log, h.next, h.seq⟩

def nilA : Nat → Option Addr := fun _ => none
def nilN : Nat → Nat := fun _ => 0
theorem VerIn.nil (w : World) : VerIn w nilA nilN nilN V.none.L := ⟨fun k _ => by simp [nilN, V.none, lev], fun k _ => by simp [nilN], fun k _ => by simp [V.none, lev]; exact In4.nil _ _⟩

/-- what Apply answers -/
def ApplyOut (B : Nat) (v : V) (e : Ed) (r : Ending) (w' : World) : Prop :=
  ∃ (A : Nat → Option Addr) (N C : Nat → Nat), r = .returned (.tuple #[verV A N C (apply v e).1.log (apply v e).1.next (apply v e).1.seq, .int .i64 (apply v e).2]) ∧ VerIn w' A N C (apply v e).1.L ∧ ∀ k, k < 4 → ∀ a, A k = some a → B ≤ a.block

theorem ApplyOut.bad {B : Nat} {v : V} {e : Ed} (h : apply v e = (V.none, 17)) {w' : World} : ApplyOut B v e (.returned (.tuple #[.agg #[.slice none 0 0, .slice none 0 0, .slice none 0 0, .slice none 0 0, .int .i64 0, .int .i64 0, .int .i64 0], .int .i64 17])) w' :=
  ⟨nilA, nilN, nilN, by rw [h]; rfl, by rw [h]; exact VerIn.nil w', fun k _ a ha => by cases ha⟩

set_option maxRecDepth 100000 in
set_option maxHeartbeats 8000000 in
theorem apply_any (A : Nat → Option Addr) (N C : Nat → Nat) (v : V) (A2 : Option Addr) (n2 c2 : Nat) (D : Option Addr) (m2 d2 : Nat) (e : Ed) (w : World) (h : VerIn w A N C v.L) (hok : Ok v) (hL : v.L.length ≤ 2000000) (he : EdIn w A2 n2 c2 D m2 d2 e) (hn2 : n2 ≤ 2000000) (hm2 : m2 ≤ 2000000) :
    Calls Try.prog 10 #[verV A N C v.log v.next v.seq, edV A2 n2 c2 D m2 d2 e.log e.next e.seq] w fun r w' => ApplyOut w.heap.size v e r w' ∧ Below w.heap.size w w' := by
  have HV := Lib.hid h
  have HOK := Lib.hid hok
  have HE := Lib.hid he
  have HSM : Hid (v.L.length ≤ 2000000 ∧ n2 ≤ 2000000 ∧ m2 ≤ 2000000) := Lib.hid ⟨hL, hn2, hm2⟩
  have HFA := Lib.hid (fun W (h : VerIn W A N C v.L) => fates_any A N C v.L v.log v.next v.seq W h (by omega))
  have HFF : Hid (front v.L 4 = v.L) := Lib.hid (by rw [front_four]; exact hok.levs)
  have HLT := Lib.hid (fun W => leads_any (.slice (A 0) (N 0) (C 0)) (.slice (A 1) (N 1) (C 1)) (.slice (A 2) (N 2) (C 2)) (.slice (A 3) (N 3) (C 3)) (.slice A2 n2 c2) (.slice D m2 d2) v.log v.next v.seq e.log e.next e.seq W)
  have HHD : Hid (headB v.log v.next v.seq e.log e.next e.seq = headOk v e) := Lib.hid rfl
  rw [HFF.out] at HFA
  rw [HHD.out] at HLT
  obtain ⟨vl, hvl⟩ : ∃ x, v.log = x := ⟨_, rfl⟩
  obtain ⟨vn, hvn⟩ : ∃ x, v.next = x := ⟨_, rfl⟩
  obtain ⟨vs, hvs⟩ : ∃ x, v.seq = x := ⟨_, rfl⟩
  obtain ⟨el, hel⟩ : ∃ x, e.log = x := ⟨_, rfl⟩
  obtain ⟨en, hen⟩ : ∃ x, e.next = x := ⟨_, rfl⟩
  obtain ⟨es, hes⟩ : ∃ x, e.seq = x := ⟨_, rfl⟩
  rw [hvl, hvn, hvs] at HFA HLT
  rw [hel, hen, hes] at HLT
  have HEN : Hid (e.log = el ∧ e.next = en ∧ e.seq = es) := Lib.hid ⟨hel, hen, hes⟩
  simp only [verV, edV]
  rw [hvl, hvn, hvs, hel, hen, hes]
  clear h hok he hL hn2 hm2 hvl hvn hvs hel hen hes HHD
  go_enter Try.func10, Try.ntmps10
  go_wp2_with fail
  have hb0 : Below w.heap.size w (((w.alloc (.cells #[.slice (A 0) (N 0) (C 0), .slice (A 1) (N 1) (C 1), .slice (A 2) (N 2) (C 2), .slice (A 3) (N 3) (C 3), .int .i64 vl, .int .i64 vn, .int .i64 vs] 26)).alloc (.cells #[.slice A2 n2 c2, .slice D m2 d2, .int .i64 el, .int .i64 en, .int .i64 es] 36)).alloc (.cells #[.slice none 0 0, .slice none 0 0, .slice none 0 0, .slice none 0 0, .int .i64 0, .int .i64 0, .int .i64 0] 26)) := (((Below.refl _ w).alloc (Nat.le_refl _) _).alloc (by simp) _).alloc (by simp; omega) _
  have hs0 : (((w.alloc (.cells #[.slice (A 0) (N 0) (C 0), .slice (A 1) (N 1) (C 1), .slice (A 2) (N 2) (C 2), .slice (A 3) (N 3) (C 3), .int .i64 vl, .int .i64 vn, .int .i64 vs] 26)).alloc (.cells #[.slice A2 n2 c2, .slice D m2 d2, .int .i64 el, .int .i64 en, .int .i64 es] 36)).alloc (.cells #[.slice none 0 0, .slice none 0 0, .slice none 0 0, .slice none 0 0, .int .i64 0, .int .i64 0, .int .i64 0] 26)).heap.size = w.heap.size + 3 := by simp
  have hrv : (((w.alloc (.cells #[.slice (A 0) (N 0) (C 0), .slice (A 1) (N 1) (C 1), .slice (A 2) (N 2) (C 2), .slice (A 3) (N 3) (C 3), .int .i64 vl, .int .i64 vn, .int .i64 vs] 26)).alloc (.cells #[.slice A2 n2 c2, .slice D m2 d2, .int .i64 el, .int .i64 en, .int .i64 es] 36)).alloc (.cells #[.slice none 0 0, .slice none 0 0, .slice none 0 0, .slice none 0 0, .int .i64 0, .int .i64 0, .int .i64 0] 26)).heap[w.heap.size]? = some (.cells #[.slice (A 0) (N 0) (C 0), .slice (A 1) (N 1) (C 1), .slice (A 2) (N 2) (C 2), .slice (A 3) (N 3) (C 3), .int .i64 vl, .int .i64 vn, .int .i64 vs] 26 (0, 0)) := by
    rw [Below.heap_alloc _ _ _ (by simp <;> omega), Below.heap_alloc _ _ _ (by simp <;> omega)]
    exact heap_alloc_new w _
  have hre : (((w.alloc (.cells #[.slice (A 0) (N 0) (C 0), .slice (A 1) (N 1) (C 1), .slice (A 2) (N 2) (C 2), .slice (A 3) (N 3) (C 3), .int .i64 vl, .int .i64 vn, .int .i64 vs] 26)).alloc (.cells #[.slice A2 n2 c2, .slice D m2 d2, .int .i64 el, .int .i64 en, .int .i64 es] 36)).alloc (.cells #[.slice none 0 0, .slice none 0 0, .slice none 0 0, .slice none 0 0, .int .i64 0, .int .i64 0, .int .i64 0] 26)).heap[w.heap.size + 1]? = some (.cells #[.slice A2 n2 c2, .slice D m2 d2, .int .i64 el, .int .i64 en, .int .i64 es] 36 (0, 0)) := by
    rw [Below.heap_alloc _ _ _ (by simp <;> omega)]
    have := heap_alloc_new (w.alloc (.cells #[.slice (A 0) (N 0) (C 0), .slice (A 1) (N 1) (C 1), .slice (A 2) (N 2) (C 2), .slice (A 3) (N 3) (C 3), .int .i64 vl, .int .i64 vn, .int .i64 vs] 26)) (.cells #[.slice A2 n2 c2, .slice D m2 d2, .int .i64 el, .int .i64 en, .int .i64 es] 36)
    simpa using this
  have hrz : (((w.alloc (.cells #[.slice (A 0) (N 0) (C 0), .slice (A 1) (N 1) (C 1), .slice (A 2) (N 2) (C 2), .slice (A 3) (N 3) (C 3), .int .i64 vl, .int .i64 vn, .int .i64 vs] 26)).alloc (.cells #[.slice A2 n2 c2, .slice D m2 d2, .int .i64 el, .int .i64 en, .int .i64 es] 36)).alloc (.cells #[.slice none 0 0, .slice none 0 0, .slice none 0 0, .slice none 0 0, .int .i64 0, .int .i64 0, .int .i64 0] 26)).heap[w.heap.size + 2]? = some (.cells #[.slice none 0 0, .slice none 0 0, .slice none 0 0, .slice none 0 0, .int .i64 0, .int .i64 0, .int .i64 0] 26 (0, 0)) := by
    have := heap_alloc_new ((w.alloc (.cells #[.slice (A 0) (N 0) (C 0), .slice (A 1) (N 1) (C 1), .slice (A 2) (N 2) (C 2), .slice (A 3) (N 3) (C 3), .int .i64 vl, .int .i64 vn, .int .i64 vs] 26)).alloc (.cells #[.slice A2 n2 c2, .slice D m2 d2, .int .i64 el, .int .i64 en, .int .i64 es] 36)) (.cells #[.slice none 0 0, .slice none 0 0, .slice none 0 0, .slice none 0 0, .int .i64 0, .int .i64 0, .int .i64 0] 26)
    simpa using this
  generalize (((w.alloc (.cells #[.slice (A 0) (N 0) (C 0), .slice (A 1) (N 1) (C 1), .slice (A 2) (N 2) (C 2), .slice (A 3) (N 3) (C 3), .int .i64 vl, .int .i64 vn, .int .i64 vs] 26)).alloc (.cells #[.slice A2 n2 c2, .slice D m2 d2, .int .i64 el, .int .i64 en, .int .i64 es] 36)).alloc (.cells #[.slice none 0 0, .slice none 0 0, .slice none 0 0, .slice none 0 0, .int .i64 0, .int .i64 0, .int .i64 0] 26)) = w0 at hb0 hs0 hrv hre hrz ⊢
  obtain ⟨x, hx⟩ : ∃ x, w.heap.size = x := ⟨_, rfl⟩
  have HX := Lib.hid hx
  have HV0 := Lib.hid (HV.out.below hb0)
  have HE0 := Lib.hid (HE.out.below hb0)
  rw [hx] at hb0 hs0 hrv hre hrz ⊢
  have HRV := Lib.hid hrv
  have HRE := Lib.hid hre
  have HRZ := Lib.hid hrz
  have HS0 := Lib.hid hs0
  have HLOW : Hid (∀ W, Below (x + 3) w0 W → Below w.heap.size w W) := Lib.hid fun W h => by
    rw [hx]
    exact hb0.trans (h.mono (by omega))
  have HFA0 := Lib.hid (HFA.out w0 HV0.out)
  clear hb0 hs0 hrv hre hrz hx HFA
  refine HFA0.out.mono ?_
  rintro r w1 ⟨b, nf, rfl, hbge, hnf, hfm, hb1⟩
  have HB1 : Hid (Below (x + 3) w0 w1) := Lib.hid (by have := HS0.out; rw [← this]; exact hb1)
  have HFM1 := Lib.hid hfm
  have HBG : Hid (x + 3 ≤ b ∧ nf ≤ 40000000) := Lib.hid (by have := HS0.out; omega)
  have rv := (HB1.out.block x (by omega)).trans HRV.out
  have re := (HB1.out.block (x + 1) (by omega)).trans HRE.out
  have cv0 : w1.cell? ⟨x, 0, none⟩ = some (.slice (A 0) (N 0) (C 0)) := cell_of_row _ _ _ _ _ _ rv
  have cv1 : w1.cell? ⟨x, 1, none⟩ = some (.slice (A 1) (N 1) (C 1)) := cell_of_row _ _ _ _ _ _ rv
  have cv2 : w1.cell? ⟨x, 2, none⟩ = some (.slice (A 2) (N 2) (C 2)) := cell_of_row _ _ _ _ _ _ rv
  have cv3 : w1.cell? ⟨x, 3, none⟩ = some (.slice (A 3) (N 3) (C 3)) := cell_of_row _ _ _ _ _ _ rv
  have cv4 : w1.cell? ⟨x, 4, none⟩ = some (.int .i64 vl) := cell_of_row _ _ _ _ _ _ rv
  have cv5 : w1.cell? ⟨x, 5, none⟩ = some (.int .i64 vn) := cell_of_row _ _ _ _ _ _ rv
  have cv6 : w1.cell? ⟨x, 6, none⟩ = some (.int .i64 vs) := cell_of_row _ _ _ _ _ _ rv
  have ce0 : w1.cell? ⟨x + 1, 0, none⟩ = some (.slice A2 n2 c2) := cell_of_row _ _ _ _ _ _ re
  have ce1 : w1.cell? ⟨x + 1, 1, none⟩ = some (.slice D m2 d2) := cell_of_row _ _ _ _ _ _ re
  have ce2 : w1.cell? ⟨x + 1, 2, none⟩ = some (.int .i64 el) := cell_of_row _ _ _ _ _ _ re
  have ce3 : w1.cell? ⟨x + 1, 3, none⟩ = some (.int .i64 en) := cell_of_row _ _ _ _ _ _ re
  have ce4 : w1.cell? ⟨x + 1, 4, none⟩ = some (.int .i64 es) := cell_of_row _ _ _ _ _ _ re
  clear hbge hnf hfm hb1 rv re HFA0
  go_wp2_with fail
  refine (HLT.out w1).mono ?_
  rintro r w2 ⟨rfl, hb2⟩
  have HB2 : Hid (Below (x + 3) w0 w2) := Lib.hid (HB1.out.trans (hb2.mono (by have := HB1.out.size; have := HS0.out; omega)))
  have HFM2 := Lib.hid (HFM1.out.below hb2)
  clear hb2 cv0 cv1 cv2 cv3 cv4 cv5 cv6 ce0 ce1 ce2 ce3 ce4 HLT
  cases hh : headOk v e with
  | false =>
    have HHD := Lib.hid hh
    clear hh
    have rz := (HB2.out.block (x + 2) (by omega)).trans HRZ.out
    have z0 : w2.cell? ⟨x + 2, 0, none⟩ = some (.slice none 0 0) := cell_of_row _ _ _ _ _ _ rz
    have z1 : w2.cell? ⟨x + 2, 1, none⟩ = some (.slice none 0 0) := cell_of_row _ _ _ _ _ _ rz
    have z2 : w2.cell? ⟨x + 2, 2, none⟩ = some (.slice none 0 0) := cell_of_row _ _ _ _ _ _ rz
    have z3 : w2.cell? ⟨x + 2, 3, none⟩ = some (.slice none 0 0) := cell_of_row _ _ _ _ _ _ rz
    have z4 : w2.cell? ⟨x + 2, 4, none⟩ = some (.int .i64 0) := cell_of_row _ _ _ _ _ _ rz
    have z5 : w2.cell? ⟨x + 2, 5, none⟩ = some (.int .i64 0) := cell_of_row _ _ _ _ _ _ rz
    have z6 : w2.cell? ⟨x + 2, 6, none⟩ = some (.int .i64 0) := cell_of_row _ _ _ _ _ _ rz
    have f0 : w2.frozen? ⟨x + 2, 0, none⟩ = false := frozen_of_row _ _ _ _ _ rz
    have f1 : w2.frozen? ⟨x + 2, 1, none⟩ = false := frozen_of_row _ _ _ _ _ rz
    have f2 : w2.frozen? ⟨x + 2, 2, none⟩ = false := frozen_of_row _ _ _ _ _ rz
    have f3 : w2.frozen? ⟨x + 2, 3, none⟩ = false := frozen_of_row _ _ _ _ _ rz
    have f4 : w2.frozen? ⟨x + 2, 4, none⟩ = false := frozen_of_row _ _ _ _ _ rz
    have f5 : w2.frozen? ⟨x + 2, 5, none⟩ = false := frozen_of_row _ _ _ _ _ rz
    have f6 : w2.frozen? ⟨x + 2, 6, none⟩ = false := frozen_of_row _ _ _ _ _ rz
    have HBS : Hid (∀ u0 u1 u2 u3 u4 u5 u6, Below w.heap.size w (((((((w2.setCell ⟨x + 2, 0, none⟩ u0).setCell ⟨x + 2, 1, none⟩ u1).setCell ⟨x + 2, 2, none⟩ u2).setCell ⟨x + 2, 3, none⟩ u3).setCell ⟨x + 2, 4, none⟩ u4).setCell ⟨x + 2, 5, none⟩ u5).setCell ⟨x + 2, 6, none⟩ u6)) := Lib.hid fun u0 u1 u2 u3 u4 u5 u6 => by
      have hle : w.heap.size ≤ x + 2 := by have := HX.out; omega
      exact (((((((HLOW.out _ HB2.out).setCell (p := ⟨x + 2, 0, none⟩) hle u0).setCell (p := ⟨x + 2, 1, none⟩) hle u1).setCell (p := ⟨x + 2, 2, none⟩) hle u2).setCell (p := ⟨x + 2, 3, none⟩) hle u3).setCell (p := ⟨x + 2, 4, none⟩) hle u4).setCell (p := ⟨x + 2, 5, none⟩) hle u5).setCell (p := ⟨x + 2, 6, none⟩) hle u6
    have HAP := Lib.hid (apply_bad1 HHD.out)
    clear rz
    go_wp2
    exact bodyPost_ret (v := .tuple #[.agg #[.slice none 0 0, .slice none 0 0, .slice none 0 0, .slice none 0 0, .int .i64 0, .int .i64 0, .int .i64 0], .int .i64 17]) (by simp [results, Try.results10, go_sem, *]) rfl ⟨ApplyOut.bad HAP.out, HBS.out _ _ _ _ _ _ _⟩
  | true =>
    have re := (HB2.out.block (x + 1) (by omega)).trans HRE.out
    have ce0 : w2.cell? ⟨x + 1, 0, none⟩ = some (.slice A2 n2 c2) := cell_of_row _ _ _ _ _ _ re
    have ce1 : w2.cell? ⟨x + 1, 1, none⟩ = some (.slice D m2 d2) := cell_of_row _ _ _ _ _ _ re
    have ce2 : w2.cell? ⟨x + 1, 2, none⟩ = some (.int .i64 el) := cell_of_row _ _ _ _ _ _ re
    have ce3 : w2.cell? ⟨x + 1, 3, none⟩ = some (.int .i64 en) := cell_of_row _ _ _ _ _ _ re
    have ce4 : w2.cell? ⟨x + 1, 4, none⟩ = some (.int .i64 es) := cell_of_row _ _ _ _ _ _ re
    have HHD := Lib.hid hh
    have HD := Lib.hid (drop_any b D m2 d2 e.drop (files v.L) nf w2 HE.out.dlen ((HE0.out.drop).mono (HB2.out.mono (by have := HS0.out; omega))) (by have := HSM.out; omega) (by have := HBG.out; omega) (by rw [gone_nil]; exact HFM2.out) (fun hl a ha => by
      obtain ⟨c, off, hA, hbl, -⟩ := HE.out.drop.2 hl
      rw [ha] at hA
      injection hA with hA
      subst hA
      have := HX.out
      have := HBG.out
      simp only
      omega))
    clear re hh
    go_wp2_with fail
    refine HD.out.mono ?_
    rintro r w3 ⟨rfl, hb3, hd3⟩
    have HB3 : Hid (Below (x + 3) w0 w3) := Lib.hid (HB2.out.trans (hb3.mono HBG.out.1))
    have HD3 := Lib.hid hd3
    clear hb3 hd3 ce0 ce1 ce2 ce3 ce4 HD
    cases hdo : dropOk (files v.L) [] e.drop with
    | false =>
      have HDO := Lib.hid hdo
      clear hdo
      have rz := (HB3.out.block (x + 2) (by omega)).trans HRZ.out
      have z0 : w3.cell? ⟨x + 2, 0, none⟩ = some (.slice none 0 0) := cell_of_row _ _ _ _ _ _ rz
      have z1 : w3.cell? ⟨x + 2, 1, none⟩ = some (.slice none 0 0) := cell_of_row _ _ _ _ _ _ rz
      have z2 : w3.cell? ⟨x + 2, 2, none⟩ = some (.slice none 0 0) := cell_of_row _ _ _ _ _ _ rz
      have z3 : w3.cell? ⟨x + 2, 3, none⟩ = some (.slice none 0 0) := cell_of_row _ _ _ _ _ _ rz
      have z4 : w3.cell? ⟨x + 2, 4, none⟩ = some (.int .i64 0) := cell_of_row _ _ _ _ _ _ rz
      have z5 : w3.cell? ⟨x + 2, 5, none⟩ = some (.int .i64 0) := cell_of_row _ _ _ _ _ _ rz
      have z6 : w3.cell? ⟨x + 2, 6, none⟩ = some (.int .i64 0) := cell_of_row _ _ _ _ _ _ rz
      have f0 : w3.frozen? ⟨x + 2, 0, none⟩ = false := frozen_of_row _ _ _ _ _ rz
      have f1 : w3.frozen? ⟨x + 2, 1, none⟩ = false := frozen_of_row _ _ _ _ _ rz
      have f2 : w3.frozen? ⟨x + 2, 2, none⟩ = false := frozen_of_row _ _ _ _ _ rz
      have f3 : w3.frozen? ⟨x + 2, 3, none⟩ = false := frozen_of_row _ _ _ _ _ rz
      have f4 : w3.frozen? ⟨x + 2, 4, none⟩ = false := frozen_of_row _ _ _ _ _ rz
      have f5 : w3.frozen? ⟨x + 2, 5, none⟩ = false := frozen_of_row _ _ _ _ _ rz
      have f6 : w3.frozen? ⟨x + 2, 6, none⟩ = false := frozen_of_row _ _ _ _ _ rz
      have HBS : Hid (∀ u0 u1 u2 u3 u4 u5 u6, Below w.heap.size w (((((((w3.setCell ⟨x + 2, 0, none⟩ u0).setCell ⟨x + 2, 1, none⟩ u1).setCell ⟨x + 2, 2, none⟩ u2).setCell ⟨x + 2, 3, none⟩ u3).setCell ⟨x + 2, 4, none⟩ u4).setCell ⟨x + 2, 5, none⟩ u5).setCell ⟨x + 2, 6, none⟩ u6)) := Lib.hid fun u0 u1 u2 u3 u4 u5 u6 => by
        have hle : w.heap.size ≤ x + 2 := by have := HX.out; omega
        exact (((((((HLOW.out _ HB3.out).setCell (p := ⟨x + 2, 0, none⟩) hle u0).setCell (p := ⟨x + 2, 1, none⟩) hle u1).setCell (p := ⟨x + 2, 2, none⟩) hle u2).setCell (p := ⟨x + 2, 3, none⟩) hle u3).setCell (p := ⟨x + 2, 4, none⟩) hle u4).setCell (p := ⟨x + 2, 5, none⟩) hle u5).setCell (p := ⟨x + 2, 6, none⟩) hle u6
      have HAP := Lib.hid (apply_bad2 HDO.out)
      clear rz
      go_wp2
      exact bodyPost_ret (v := .tuple #[.agg #[.slice none 0 0, .slice none 0 0, .slice none 0 0, .slice none 0 0, .int .i64 0, .int .i64 0, .int .i64 0], .int .i64 17]) (by simp [results, Try.results10, go_sem, *]) rfl ⟨ApplyOut.bad HAP.out, HBS.out _ _ _ _ _ _ _⟩
    | true =>
      have HDO := Lib.hid hdo
      obtain ⟨n3, hn3, hf3⟩ := HD3.out hdo
      have re := (HB3.out.block (x + 1) (by omega)).trans HRE.out
      have ce0 : w3.cell? ⟨x + 1, 0, none⟩ = some (.slice A2 n2 c2) := cell_of_row _ _ _ _ _ _ re
      have ce1 : w3.cell? ⟨x + 1, 1, none⟩ = some (.slice D m2 d2) := cell_of_row _ _ _ _ _ _ re
      have ce2 : w3.cell? ⟨x + 1, 2, none⟩ = some (.int .i64 el) := cell_of_row _ _ _ _ _ _ re
      have ce3 : w3.cell? ⟨x + 1, 3, none⟩ = some (.int .i64 en) := cell_of_row _ _ _ _ _ _ re
      have ce4 : w3.cell? ⟨x + 1, 4, none⟩ = some (.int .i64 es) := cell_of_row _ _ _ _ _ _ re
      have HAD := Lib.hid (add_any b A2 n2 c2 e.add (.slice D m2 d2) el en es (files v.L) e.drop n3 w3 HE.out.alen (HE0.out.add.below (HB3.out.mono (by have := HS0.out; omega))) (by have := HSM.out; omega) (by have := HBG.out; have := HSM.out; omega) (fun z hz => (((dropOk_iff _ _ _).1 hdo).1 z hz).1) hf3 (fun hl a ha => by
        obtain ⟨c, off, hA, hbl, -⟩ := HE.out.add.at_ hl
        rw [ha] at hA
        injection hA with hA
        subst hA
        have := HX.out
        have := HBG.out
        simp only
        omega))
      have hen := HEN.out.2.1
      rw [← hen] at HAD
      have HAD2 : Hid (Calls Try.prog 29 #[.map (some b), .agg #[.slice A2 n2 c2, .slice D m2 d2, .int .i64 el, .int .i64 en, .int .i64 es]] w3 fun r w' => r = .returned (.bool (addOk e.next (files v.L) [] e.add)) ∧ Below b w3 w' ∧ (addOk e.next (files v.L) [] e.add = true → ∃ n1, n1 ≤ n3 + n2 ∧ Fm w' b n1 (came (files v.L) e.drop (files e.add)))) := Lib.hid (by rw [hen] at HAD ⊢; exact HAD.out)
      have HN3 : Hid (n3 ≤ nf + m2) := Lib.hid hn3
      clear re hdo hf3 hn3 HAD hen
      go_wp2_with fail
      refine HAD2.out.mono ?_
      rintro r w4 ⟨rfl, hb4, ha4⟩
      have HB4 : Hid (Below (x + 3) w0 w4) := Lib.hid (HB3.out.trans (hb4.mono HBG.out.1))
      have HA4 := Lib.hid ha4
      clear hb4 ha4 ce0 ce1 ce2 ce3 ce4 HAD2
      cases hao : addOk e.next (files v.L) [] e.add with
      | false =>
        have HAO := Lib.hid hao
        clear hao
        have rz := (HB4.out.block (x + 2) (by omega)).trans HRZ.out
        have z0 : w4.cell? ⟨x + 2, 0, none⟩ = some (.slice none 0 0) := cell_of_row _ _ _ _ _ _ rz
        have z1 : w4.cell? ⟨x + 2, 1, none⟩ = some (.slice none 0 0) := cell_of_row _ _ _ _ _ _ rz
        have z2 : w4.cell? ⟨x + 2, 2, none⟩ = some (.slice none 0 0) := cell_of_row _ _ _ _ _ _ rz
        have z3 : w4.cell? ⟨x + 2, 3, none⟩ = some (.slice none 0 0) := cell_of_row _ _ _ _ _ _ rz
        have z4 : w4.cell? ⟨x + 2, 4, none⟩ = some (.int .i64 0) := cell_of_row _ _ _ _ _ _ rz
        have z5 : w4.cell? ⟨x + 2, 5, none⟩ = some (.int .i64 0) := cell_of_row _ _ _ _ _ _ rz
        have z6 : w4.cell? ⟨x + 2, 6, none⟩ = some (.int .i64 0) := cell_of_row _ _ _ _ _ _ rz
        have f0 : w4.frozen? ⟨x + 2, 0, none⟩ = false := frozen_of_row _ _ _ _ _ rz
        have f1 : w4.frozen? ⟨x + 2, 1, none⟩ = false := frozen_of_row _ _ _ _ _ rz
        have f2 : w4.frozen? ⟨x + 2, 2, none⟩ = false := frozen_of_row _ _ _ _ _ rz
        have f3 : w4.frozen? ⟨x + 2, 3, none⟩ = false := frozen_of_row _ _ _ _ _ rz
        have f4 : w4.frozen? ⟨x + 2, 4, none⟩ = false := frozen_of_row _ _ _ _ _ rz
        have f5 : w4.frozen? ⟨x + 2, 5, none⟩ = false := frozen_of_row _ _ _ _ _ rz
        have f6 : w4.frozen? ⟨x + 2, 6, none⟩ = false := frozen_of_row _ _ _ _ _ rz
        have HBS : Hid (∀ u0 u1 u2 u3 u4 u5 u6, Below w.heap.size w (((((((w4.setCell ⟨x + 2, 0, none⟩ u0).setCell ⟨x + 2, 1, none⟩ u1).setCell ⟨x + 2, 2, none⟩ u2).setCell ⟨x + 2, 3, none⟩ u3).setCell ⟨x + 2, 4, none⟩ u4).setCell ⟨x + 2, 5, none⟩ u5).setCell ⟨x + 2, 6, none⟩ u6)) := Lib.hid fun u0 u1 u2 u3 u4 u5 u6 => by
          have hle : w.heap.size ≤ x + 2 := by have := HX.out; omega
          exact (((((((HLOW.out _ HB4.out).setCell (p := ⟨x + 2, 0, none⟩) hle u0).setCell (p := ⟨x + 2, 1, none⟩) hle u1).setCell (p := ⟨x + 2, 2, none⟩) hle u2).setCell (p := ⟨x + 2, 3, none⟩) hle u3).setCell (p := ⟨x + 2, 4, none⟩) hle u4).setCell (p := ⟨x + 2, 5, none⟩) hle u5).setCell (p := ⟨x + 2, 6, none⟩) hle u6
        have HAP := Lib.hid (apply_bad3 HAO.out)
        clear rz
        go_wp2
        exact bodyPost_ret (v := .tuple #[.agg #[.slice none 0 0, .slice none 0 0, .slice none 0 0, .slice none 0 0, .int .i64 0, .int .i64 0, .int .i64 0], .int .i64 17]) (by simp [results, Try.results10, go_sem, *]) rfl ⟨ApplyOut.bad HAP.out, HBS.out _ _ _ _ _ _ _⟩
      | true =>
        have HAO := Lib.hid hao
        have rv := (HB4.out.block x (by omega)).trans HRV.out
        have re := (HB4.out.block (x + 1) (by omega)).trans HRE.out
        have cv0 : w4.cell? ⟨x, 0, none⟩ = some (.slice (A 0) (N 0) (C 0)) := cell_of_row _ _ _ _ _ _ rv
        have cv1 : w4.cell? ⟨x, 1, none⟩ = some (.slice (A 1) (N 1) (C 1)) := cell_of_row _ _ _ _ _ _ rv
        have cv2 : w4.cell? ⟨x, 2, none⟩ = some (.slice (A 2) (N 2) (C 2)) := cell_of_row _ _ _ _ _ _ rv
        have cv3 : w4.cell? ⟨x, 3, none⟩ = some (.slice (A 3) (N 3) (C 3)) := cell_of_row _ _ _ _ _ _ rv
        have cv4 : w4.cell? ⟨x, 4, none⟩ = some (.int .i64 vl) := cell_of_row _ _ _ _ _ _ rv
        have cv5 : w4.cell? ⟨x, 5, none⟩ = some (.int .i64 vn) := cell_of_row _ _ _ _ _ _ rv
        have cv6 : w4.cell? ⟨x, 6, none⟩ = some (.int .i64 vs) := cell_of_row _ _ _ _ _ _ rv
        have ce0 : w4.cell? ⟨x + 1, 0, none⟩ = some (.slice A2 n2 c2) := cell_of_row _ _ _ _ _ _ re
        have ce1 : w4.cell? ⟨x + 1, 1, none⟩ = some (.slice D m2 d2) := cell_of_row _ _ _ _ _ _ re
        have ce2 : w4.cell? ⟨x + 1, 2, none⟩ = some (.int .i64 el) := cell_of_row _ _ _ _ _ _ re
        have ce3 : w4.cell? ⟨x + 1, 3, none⟩ = some (.int .i64 en) := cell_of_row _ _ _ _ _ _ re
        have ce4 : w4.cell? ⟨x + 1, 4, none⟩ = some (.int .i64 es) := cell_of_row _ _ _ _ _ _ re
        obtain ⟨n4, hn4, hf4⟩ := HA4.out hao
        have hai := (addOk_iff _ _ _ _).1 hao
        have HCH := Lib.hid (changed_any A N C v.L vl vn vs A2 n2 c2 e.add (.slice D m2 d2) el en es b n4 (came (files v.L) e.drop (files e.add)) e.drop w4 (HV0.out.below (HB4.out.mono (by have := HS0.out; omega))) (by have := HSM.out; omega) (HE0.out.add.below (HB4.out.mono (by have := HS0.out; omega))) HE.out.alen (by have := HSM.out; omega)
          (fun m hm => ⟨(fine_num (hai.1 m hm).1).1, (fine_num (hai.1 m hm).1).2.1⟩) hf4 (fun m hm => by
            have hmo : m.file ∈ files v.L := List.mem_map.2 ⟨m, hm, rfl⟩
            have hna : m.file ∉ files e.add := fun h => by
              obtain ⟨k, hk, hke⟩ := List.mem_map.1 h
              exact (hai.1 k hk).2.1 (hke ▸ hmo)
            rw [came_stays hna]
            simp [keepB, hmo]))
        clear re rv hao hn4 hf4 hai
        go_wp2_with fail
        refine HCH.out.mono ?_
        rintro r w5 ⟨A', N', C', S, rfl, hS, hv5, hnew, hb5⟩
        have HB5 : Hid (Below (x + 3) w0 w5) := Lib.hid (HB4.out.trans (hb5.mono (by have := HB4.out.size; have := HS0.out; omega)))
        have HEND := Lib.hid (made_end HOK.out HHD.out HDO.out HAO.out hS)
        have HV5 := Lib.hid hv5
        have HNEW : Hid (∀ k, k < 4 → ∀ a, A' k = some a → x + 3 ≤ a.block) := Lib.hid fun k hk a ha => by have := hnew k hk a ha; have := HB4.out.size; have := HS0.out; omega
        have HLEN : Hid ((S 0 ++ S 1 ++ S 2 ++ S 3).length ≤ 10000000) := Lib.hid (by
          have := made_len HOK.out (headOk_num HHD.out).2.1 HAO.out hS
          have h2 := HE.out.alen
          have h3 := HSM.out
          omega)
        obtain ⟨L', hL'⟩ : ∃ L', S 0 ++ S 1 ++ S 2 ++ S 3 = L' := ⟨_, rfl⟩
        rw [hL'] at HEND HV5 HLEN
        clear hS hv5 hb5 hL' hnew cv0 cv1 cv2 cv3 cv4 cv5 cv6 ce0 ce1 ce2 ce3 ce4 HCH
        go_wp2_with fail
        have hal5 := (Below.refl w5.heap.size w5).alloc (Nat.le_refl _) (.cells #[.slice (A' 0) (N' 0) (C' 0), .slice (A' 1) (N' 1) (C' 1), .slice (A' 2) (N' 2) (C' 2), .slice (A' 3) (N' 3) (C' 3), .int .i64 el, .int .i64 en, .int .i64 es] 26)
        have hr5 := heap_alloc_new w5 (.cells #[.slice (A' 0) (N' 0) (C' 0), .slice (A' 1) (N' 1) (C' 1), .slice (A' 2) (N' 2) (C' 2), .slice (A' 3) (N' 3) (C' 3), .int .i64 el, .int .i64 en, .int .i64 es] 26)
        have hsz5 : (w5.alloc (.cells #[.slice (A' 0) (N' 0) (C' 0), .slice (A' 1) (N' 1) (C' 1), .slice (A' 2) (N' 2) (C' 2), .slice (A' 3) (N' 3) (C' 3), .int .i64 el, .int .i64 en, .int .i64 es] 26)).heap.size = w5.heap.size + 1 := by simp
        have HV6 := Lib.hid (HV5.out.below hal5)
        have HB6 : Hid (Below (x + 3) w0 (w5.alloc (.cells #[.slice (A' 0) (N' 0) (C' 0), .slice (A' 1) (N' 1) (C' 1), .slice (A' 2) (N' 2) (C' 2), .slice (A' 3) (N' 3) (C' 3), .int .i64 el, .int .i64 en, .int .i64 es] 26))) := Lib.hid (HB5.out.alloc (by have := HB5.out.size; have := HS0.out; omega) _)
        generalize w5.alloc (.cells #[.slice (A' 0) (N' 0) (C' 0), .slice (A' 1) (N' 1) (C' 1), .slice (A' 2) (N' 2) (C' 2), .slice (A' 3) (N' 3) (C' 3), .int .i64 el, .int .i64 en, .int .i64 es] 26) = w6 at hal5 hr5 hsz5 HV6 HB6 ⊢
        obtain ⟨y, hy⟩ : ∃ y, w5.heap.size = y := ⟨_, rfl⟩
        rw [hy] at hr5 hsz5 ⊢
        have HY : Hid (x + 3 ≤ y ∧ y + 1 = w6.heap.size) := Lib.hid (by have := HB5.out.size; have := HS0.out; omega)
        have HR6 := Lib.hid hr5
        have cy0 : w6.cell? ⟨y, 0, none⟩ = some (.slice (A' 0) (N' 0) (C' 0)) := cell_of_row _ _ _ _ _ _ hr5
        have cy1 : w6.cell? ⟨y, 1, none⟩ = some (.slice (A' 1) (N' 1) (C' 1)) := cell_of_row _ _ _ _ _ _ hr5
        have cy2 : w6.cell? ⟨y, 2, none⟩ = some (.slice (A' 2) (N' 2) (C' 2)) := cell_of_row _ _ _ _ _ _ hr5
        have cy3 : w6.cell? ⟨y, 3, none⟩ = some (.slice (A' 3) (N' 3) (C' 3)) := cell_of_row _ _ _ _ _ _ hr5
        have cy4 : w6.cell? ⟨y, 4, none⟩ = some (.int .i64 el) := cell_of_row _ _ _ _ _ _ hr5
        have cy5 : w6.cell? ⟨y, 5, none⟩ = some (.int .i64 en) := cell_of_row _ _ _ _ _ _ hr5
        have cy6 : w6.cell? ⟨y, 6, none⟩ = some (.int .i64 es) := cell_of_row _ _ _ _ _ _ hr5
        have HAPT := Lib.hid (apart_any A' N' C' L' el en es w6 HV6.out HLEN.out)
        clear hal5 hr5 hsz5 hy
        go_wp2_with fail
        refine HAPT.out.mono ?_
        rintro r w7 ⟨rfl, hb7⟩
        have HB7 : Hid (Below (x + 3) w0 w7) := Lib.hid (HB6.out.trans (hb7.mono (by have := HY.out; omega)))
        have HV7 := Lib.hid (HV6.out.below hb7)
        have HR7 : Hid (w7.heap[y]? = some (.cells #[.slice (A' 0) (N' 0) (C' 0), .slice (A' 1) (N' 1) (C' 1), .slice (A' 2) (N' 2) (C' 2), .slice (A' 3) (N' 3) (C' 3), .int .i64 el, .int .i64 en, .int .i64 es] 26 (0, 0))) := Lib.hid ((hb7.block y (by have := HY.out; omega)).trans HR6.out)
        clear hb7 cy0 cy1 cy2 cy3 cy4 cy5 cy6 HAPT
        cases hra : ra L' 0 with
        | false =>
          have HAQ := Lib.hid (HEND.out.2 hra)
          clear hra
          have rz := (HB7.out.block (x + 2) (by omega)).trans HRZ.out
          have z0 : w7.cell? ⟨x + 2, 0, none⟩ = some (.slice none 0 0) := cell_of_row _ _ _ _ _ _ rz
          have z1 : w7.cell? ⟨x + 2, 1, none⟩ = some (.slice none 0 0) := cell_of_row _ _ _ _ _ _ rz
          have z2 : w7.cell? ⟨x + 2, 2, none⟩ = some (.slice none 0 0) := cell_of_row _ _ _ _ _ _ rz
          have z3 : w7.cell? ⟨x + 2, 3, none⟩ = some (.slice none 0 0) := cell_of_row _ _ _ _ _ _ rz
          have z4 : w7.cell? ⟨x + 2, 4, none⟩ = some (.int .i64 0) := cell_of_row _ _ _ _ _ _ rz
          have z5 : w7.cell? ⟨x + 2, 5, none⟩ = some (.int .i64 0) := cell_of_row _ _ _ _ _ _ rz
          have z6 : w7.cell? ⟨x + 2, 6, none⟩ = some (.int .i64 0) := cell_of_row _ _ _ _ _ _ rz
          have f0 : w7.frozen? ⟨x + 2, 0, none⟩ = false := frozen_of_row _ _ _ _ _ rz
          have f1 : w7.frozen? ⟨x + 2, 1, none⟩ = false := frozen_of_row _ _ _ _ _ rz
          have f2 : w7.frozen? ⟨x + 2, 2, none⟩ = false := frozen_of_row _ _ _ _ _ rz
          have f3 : w7.frozen? ⟨x + 2, 3, none⟩ = false := frozen_of_row _ _ _ _ _ rz
          have f4 : w7.frozen? ⟨x + 2, 4, none⟩ = false := frozen_of_row _ _ _ _ _ rz
          have f5 : w7.frozen? ⟨x + 2, 5, none⟩ = false := frozen_of_row _ _ _ _ _ rz
          have f6 : w7.frozen? ⟨x + 2, 6, none⟩ = false := frozen_of_row _ _ _ _ _ rz
          have HBS : Hid (∀ u0 u1 u2 u3 u4 u5 u6, Below w.heap.size w (((((((w7.setCell ⟨x + 2, 0, none⟩ u0).setCell ⟨x + 2, 1, none⟩ u1).setCell ⟨x + 2, 2, none⟩ u2).setCell ⟨x + 2, 3, none⟩ u3).setCell ⟨x + 2, 4, none⟩ u4).setCell ⟨x + 2, 5, none⟩ u5).setCell ⟨x + 2, 6, none⟩ u6)) := Lib.hid fun u0 u1 u2 u3 u4 u5 u6 => by
            have hle : w.heap.size ≤ x + 2 := by have := HX.out; omega
            exact (((((((HLOW.out _ HB7.out).setCell (p := ⟨x + 2, 0, none⟩) hle u0).setCell (p := ⟨x + 2, 1, none⟩) hle u1).setCell (p := ⟨x + 2, 2, none⟩) hle u2).setCell (p := ⟨x + 2, 3, none⟩) hle u3).setCell (p := ⟨x + 2, 4, none⟩) hle u4).setCell (p := ⟨x + 2, 5, none⟩) hle u5).setCell (p := ⟨x + 2, 6, none⟩) hle u6
          have HAP := Lib.hid (HAQ.out)
          clear rz
          go_wp2
          exact bodyPost_ret (v := .tuple #[.agg #[.slice none 0 0, .slice none 0 0, .slice none 0 0, .slice none 0 0, .int .i64 0, .int .i64 0, .int .i64 0], .int .i64 17]) (by simp [results, Try.results10, go_sem, *]) rfl ⟨ApplyOut.bad HAP.out, HBS.out _ _ _ _ _ _ _⟩
        | true =>
          have HAQ : Hid (apply v e = (⟨L', el, en, es⟩, 0)) := Lib.hid (by
            rw [HEND.out.1 hra, HEN.out.1, HEN.out.2.1, HEN.out.2.2])
          have ry := HR7.out
          have rz := (HB7.out.block (x + 2) (by omega)).trans HRZ.out
          have cy0 : w7.cell? ⟨y, 0, none⟩ = some (.slice (A' 0) (N' 0) (C' 0)) := cell_of_row _ _ _ _ _ _ ry
          have cy1 : w7.cell? ⟨y, 1, none⟩ = some (.slice (A' 1) (N' 1) (C' 1)) := cell_of_row _ _ _ _ _ _ ry
          have cy2 : w7.cell? ⟨y, 2, none⟩ = some (.slice (A' 2) (N' 2) (C' 2)) := cell_of_row _ _ _ _ _ _ ry
          have cy3 : w7.cell? ⟨y, 3, none⟩ = some (.slice (A' 3) (N' 3) (C' 3)) := cell_of_row _ _ _ _ _ _ ry
          have cy4 : w7.cell? ⟨y, 4, none⟩ = some (.int .i64 el) := cell_of_row _ _ _ _ _ _ ry
          have cy5 : w7.cell? ⟨y, 5, none⟩ = some (.int .i64 en) := cell_of_row _ _ _ _ _ _ ry
          have cy6 : w7.cell? ⟨y, 6, none⟩ = some (.int .i64 es) := cell_of_row _ _ _ _ _ _ ry
          have z0 : w7.cell? ⟨x + 2, 0, none⟩ = some (.slice none 0 0) := cell_of_row _ _ _ _ _ _ rz
          have z1 : w7.cell? ⟨x + 2, 1, none⟩ = some (.slice none 0 0) := cell_of_row _ _ _ _ _ _ rz
          have z2 : w7.cell? ⟨x + 2, 2, none⟩ = some (.slice none 0 0) := cell_of_row _ _ _ _ _ _ rz
          have z3 : w7.cell? ⟨x + 2, 3, none⟩ = some (.slice none 0 0) := cell_of_row _ _ _ _ _ _ rz
          have z4 : w7.cell? ⟨x + 2, 4, none⟩ = some (.int .i64 0) := cell_of_row _ _ _ _ _ _ rz
          have z5 : w7.cell? ⟨x + 2, 5, none⟩ = some (.int .i64 0) := cell_of_row _ _ _ _ _ _ rz
          have z6 : w7.cell? ⟨x + 2, 6, none⟩ = some (.int .i64 0) := cell_of_row _ _ _ _ _ _ rz
          have f0 : w7.frozen? ⟨x + 2, 0, none⟩ = false := frozen_of_row _ _ _ _ _ rz
          have f1 : w7.frozen? ⟨x + 2, 1, none⟩ = false := frozen_of_row _ _ _ _ _ rz
          have f2 : w7.frozen? ⟨x + 2, 2, none⟩ = false := frozen_of_row _ _ _ _ _ rz
          have f3 : w7.frozen? ⟨x + 2, 3, none⟩ = false := frozen_of_row _ _ _ _ _ rz
          have f4 : w7.frozen? ⟨x + 2, 4, none⟩ = false := frozen_of_row _ _ _ _ _ rz
          have f5 : w7.frozen? ⟨x + 2, 5, none⟩ = false := frozen_of_row _ _ _ _ _ rz
          have f6 : w7.frozen? ⟨x + 2, 6, none⟩ = false := frozen_of_row _ _ _ _ _ rz
          have HBS : Hid (∀ u0 u1 u2 u3 u4 u5 u6, Below w.heap.size w (((((((w7.setCell ⟨x + 2, 0, none⟩ u0).setCell ⟨x + 2, 1, none⟩ u1).setCell ⟨x + 2, 2, none⟩ u2).setCell ⟨x + 2, 3, none⟩ u3).setCell ⟨x + 2, 4, none⟩ u4).setCell ⟨x + 2, 5, none⟩ u5).setCell ⟨x + 2, 6, none⟩ u6)) := Lib.hid fun u0 u1 u2 u3 u4 u5 u6 => by
            have hle : w.heap.size ≤ x + 2 := by have := HX.out; omega
            exact (((((((HLOW.out _ HB7.out).setCell (p := ⟨x + 2, 0, none⟩) hle u0).setCell (p := ⟨x + 2, 1, none⟩) hle u1).setCell (p := ⟨x + 2, 2, none⟩) hle u2).setCell (p := ⟨x + 2, 3, none⟩) hle u3).setCell (p := ⟨x + 2, 4, none⟩) hle u4).setCell (p := ⟨x + 2, 5, none⟩) hle u5).setCell (p := ⟨x + 2, 6, none⟩) hle u6
          have HVS : Hid (∀ u0 u1 u2 u3 u4 u5 u6, VerIn (((((((w7.setCell ⟨x + 2, 0, none⟩ u0).setCell ⟨x + 2, 1, none⟩ u1).setCell ⟨x + 2, 2, none⟩ u2).setCell ⟨x + 2, 3, none⟩ u3).setCell ⟨x + 2, 4, none⟩ u4).setCell ⟨x + 2, 5, none⟩ u5).setCell ⟨x + 2, 6, none⟩ u6) A' N' C' L') := Lib.hid fun u0 u1 u2 u3 u4 u5 u6 => by
            have hq : ∀ k, k < 4 → ∀ a, A' k = some a → a.block ≠ x + 2 := fun k hk a ha => by have := HNEW.out k hk a ha; omega
            exact (((((((HV7.out.grown (grownBy_setCell _ _ _) hq).grown (grownBy_setCell _ _ _) hq).grown (grownBy_setCell _ _ _) hq).grown (grownBy_setCell _ _ _) hq).grown (grownBy_setCell _ _ _) hq).grown (grownBy_setCell _ _ _) hq).grown (grownBy_setCell _ _ _) hq)
          clear ry rz hra
          go_wp2
          exact bodyPost_ret (v := .tuple #[.agg #[.slice (A' 0) (N' 0) (C' 0), .slice (A' 1) (N' 1) (C' 1), .slice (A' 2) (N' 2) (C' 2), .slice (A' 3) (N' 3) (C' 3), .int .i64 el, .int .i64 en, .int .i64 es], .int .i64 0]) (by simp [results, Try.results10, go_sem, *]) rfl ⟨⟨A', N', C', by rw [HAQ.out], by rw [HAQ.out]; exact HVS.out _ _ _ _ _ _ _, fun k hk a ha => by have := HNEW.out k hk a ha; have := HX.out; omega⟩, HBS.out _ _ _ _ _ _ _⟩
end Go.Proofs.Ytffdiiolgflbkaa

/- The document's has, files, ahead. -/
namespace Go.Proofs.Ytffdiiolgflbkaa
open Go.RowKit
open VS
attribute [local go_sem ↓] Go.wp_at_zero Go.wp_at_succ

set_option maxRecDepth 100000 in
set_option maxHeartbeats 2000000 in
theorem has_any (D : Option Addr) (m d : Nat) (l : List Int) (z : Int) (w : World) (hm : l.length = m) (hin : IntsIn w w.heap.size D l) (hb : m ≤ 100000000) :
    Calls Try.prog 33 #[.slice D m d, .int .i64 z] w fun r w' => r = .returned (.bool (decide (z ∈ l))) ∧ w = w' := by
  have HM := Lib.hid hm
  have HIN := Lib.hid hin
  obtain ⟨R, hR⟩ : ∃ R, decide (z ∈ l) = R := ⟨_, rfl⟩
  rw [hR]
  have HR := Lib.hid hR
  clear hm hin hR
  go_enter Try.func33, Try.ntmps33
  go_wp2
  go_loopw [5] (fun i wr => ∃ j : Nat, j ≤ m ∧ i = .int .i64 j ∧ w = wr ∧ Hid (z ∉ l.take j)) (fun i _ => m - (intOf i).toNat)
  case atStart => exact ⟨0, by omega, rfl, rfl, Lib.hid (by simp)⟩
  case round =>
    obtain ⟨j, hj, rfl, rfl, HS⟩ := hrel
    by_cases hlt : j < m
    · have hjl : j < l.length := by rw [HM.out]; exact hlt
      obtain ⟨c, off, hA, hbl, hc⟩ := HIN.out.2 (by omega)
      have c0 := hc j hjl
      have HTK := Lib.hid (List.take_succ_eq_append_getElem hjl)
      have HMEM := Lib.hid (List.getElem_mem hjl)
      obtain ⟨y, hy⟩ : ∃ y, l[j] = y := ⟨_, rfl⟩
      rw [hy] at c0 HTK HMEM
      subst hA
      clear hc hy
      by_cases heq : y = z
      · have HRT : Hid (true = R) := Lib.hid (by rw [← HR.out, decide_eq_true (heq ▸ HMEM.out)])
        subst heq
        go_wp2
        go_ret
        exact ⟨by rw [← HRT.out]; rfl, rfl⟩
      · have hne : (y == z) = false := by simpa using heq
        have HS2 : Hid (z ∉ l.take (j + 1)) := Lib.hid (by rw [HTK.out]; simp only [List.mem_append, List.mem_singleton, not_or]; exact ⟨HS.out, fun e => heq e.symm⟩)
        clear heq
        go_wp2
        go_roundw
        case rel => exact ⟨j + 1, by omega, by go_num, trivial, HS2⟩
        case measure => simp [intOf]; omega
    · obtain rfl : j = m := by omega
      have htk : l.take j = l := List.take_of_length_le (by rw [HM.out]; exact Nat.le_refl _)
      have HRF : Hid (false = R) := Lib.hid (by rw [← HR.out, decide_eq_false (by have := HS.out; rwa [htk] at this)])
      clear htk
      go_wp2
      go_ret
      exact ⟨by rw [← HRF.out]; rfl, rfl⟩

theorem files_snoc (l : List M) (j : Nat) (h : j < l.length) : nums (files (l.take (j + 1))) = nums (files (l.take j)) ++ [.int .i64 l[j].file] := by
  rw [files_take h, nums_snoc]

set_option maxRecDepth 100000 in
set_option maxHeartbeats 2000000 in
theorem files_any (A : Option Addr) (n c : Nat) (l : List M) (w : World) (hn : l.length = n) (hin : In5 w A l) (hb : n ≤ 100000000) :
    Calls Try.prog 32 #[.slice A n c] w fun r w' => ∃ B d, r = .returned (.slice B n d) ∧ IntsIn w' w'.heap.size B (files l) ∧ Below w.heap.size w w' := by
  obtain ⟨i0, hi, hz0, hz1, hz2⟩ := info_parts info_i64
  have HN := Lib.hid hn
  have HIN := Lib.hid hin
  clear hn hin
  go_enter Try.func32, Try.ntmps32
  go_wp2
  go_loopw [3, 4] (fun v i wr => ∃ j : Nat, j ≤ n ∧ i = .int .i64 j ∧ wr.ownsRow w.heap.size 2 1 v j (nums (files (l.take j))) ∧ Below w.heap.size w wr) (fun _ i _ => n - (intOf i).toNat)
  case atStart => exact ⟨0, by omega, rfl, World.ownsRow_nil _ _ _ _, Below.refl _ _⟩
  case round =>
    obtain ⟨j, hj, rfl, hown, hbw⟩ := hrel
    by_cases hlt : j < n
    · have hjl : j < l.length := by rw [HN.out]; exact hlt
      obtain ⟨cb, off, hA, hbl, hc⟩ := (HIN.out.below hbw).at_ (by omega)
      obtain ⟨-, c1, -, -, -⟩ := hc j hjl
      have HSN := Lib.hid (files_snoc l j hjl)
      obtain ⟨q, hq⟩ : ∃ q, l[j].file = q := ⟨_, rfl⟩
      rw [hq] at c1 HSN
      obtain ⟨X, hX⟩ : ∃ X, nums (files (l.take j)) = X := ⟨_, rfl⟩
      rw [hX] at hown HSN
      have HB := Lib.hid hbw
      subst hA
      clear hc hq hX hbw
      go_wp2_with (at_builtin; refine wpList_append_own _ rfl _ _ 31 rfl w.heap.size 2 i0 _ 1 8 Try.underlying31 hi hz0 hz1 hz2 rfl (by decide) _ _ _ rfl (hown.alloc _) ⟨wr.heap.size, 0, none⟩ 1 1 [.int .i64 q] rfl ?c1 ?c2 ?c3 ?c4 ?c5 ?c6 ?_)
      case c1 => rfl
      case c2 => exact cell_one_new _ _ _
      case c3 => simp [Value.oneCell']
      case c4 => unfold maxLen; omega
      case c5 => omega
      case c6 => have := HB.out.size; simp; omega
      intro v' w6 hown6 hgrow6 hnil6
      have HO6 : Hid (w6.ownsRow w.heap.size 2 1 v' (j + 1) (nums (files (l.take (j + 1))))) := Lib.hid (by rw [HSN.out]; exact hown6)
      have HB6 : Hid (Below w.heap.size w w6) := Lib.hid ((HB.out.alloc HB.out.size _).grown hgrow6 (by have := HB.out.size; simp; omega) (fun g hg => (hown.lt g hg).1))
      clear hown6 hgrow6 hnil6 hown
      go_wp2
      go_roundw
      case rel => exact ⟨j + 1, by omega, by go_num, HO6.out, HB6.out⟩
      case measure => simp [intOf]; omega
    · obtain rfl : j = n := by omega
      have htk : l.take j = l := List.take_of_length_le (by rw [HN.out]; exact Nat.le_refl _)
      rw [htk] at hown
      have hfi : ∀ x ∈ files l, i64 x := fun x hx => by
        obtain ⟨m, hm, rfl⟩ := List.mem_map.1 hx
        exact (HIN.out.wf m hm).file
      obtain ⟨B, d, rfl, hints, -, -⟩ := own_nums hfi (by simpa [files] using HN.out) hown
      have HI := Lib.hid hints
      have HB := Lib.hid hbw
      clear hown htk hints hbw
      go_wp2
      go_ret
      exact ⟨B, d, rfl, HI.out, HB.out⟩

set_option maxRecDepth 100000 in
set_option maxHeartbeats 2000000 in
theorem ahead_any (a b : M) (w : World) :
    Calls Try.prog 57 #[.agg #[.int .i64 a.lvl, .int .i64 a.file, .int .i64 a.size, .string a.lo, .string a.hi], .agg #[.int .i64 b.lvl, .int .i64 b.file, .int .i64 b.size, .string b.lo, .string b.hi]] w fun r w' => r = .returned (.bool (VS.ahead a b)) ∧ Below w.heap.size w w' := by
  obtain ⟨R, hR⟩ : ∃ R, VS.ahead a b = R := ⟨_, rfl⟩
  rw [hR]
  obtain ⟨l1, f1, z1, s1, t1⟩ := a
  obtain ⟨l2, f2, z2, s2, t2⟩ := b
  have hend : Hid (Below w.heap.size w ((w.alloc (.cells #[.int .i64 l1, .int .i64 f1, .int .i64 z1, .string s1, .string t1] 66)).alloc (.cells #[.int .i64 l2, .int .i64 f2, .int .i64 z2, .string s2, .string t2] 66))) := Lib.hid (((Below.refl _ w).alloc (Nat.le_refl _) _).alloc (by simp) _)
  unfold VS.ahead at hR
  simp only at hR ⊢
  by_cases h1 : l1 = l2
  · subst h1
    rw [if_pos rfl] at hR
    by_cases h0 : l1 = 0
    · subst h0
      rw [if_pos rfl] at hR
      have HR := Lib.hid hR
      clear hR
      go_enter Try.func57, Try.ntmps57
      go_wp2
      go_ret
      exact ⟨by rw [← HR.out]; rfl, hend.out⟩
    · rw [if_neg h0] at hR
      have hne : (l1 == 0) = false := by simpa using h0
      have HR : Hid (Op.bytesLess s1.toList s2.toList = R) := Lib.hid (by rw [text_less]; exact hR)
      clear hR h0
      go_enter Try.func57, Try.ntmps57
      go_wp2
      go_ret
      exact ⟨by rw [← HR.out]; rfl, hend.out⟩
  · rw [if_neg h1] at hR
    have hne : (l1 == l2) = false := by simpa using h1
    have hne2 : (l1 != l2) = true := by simpa using h1
    have HR := Lib.hid hR
    clear hR h1
    go_enter Try.func57, Try.ntmps57
    go_wp2
    go_ret
    exact ⟨by rw [← HR.out]; rfl, hend.out⟩
end Go.Proofs.Ytffdiiolgflbkaa

/- Files: the files of a version, in order. -/
namespace Go.Proofs.Ytffdiiolgflbkaa
open Go.RowKit Go.Maps
open VS
attribute [local go_sem ↓] Go.wp_at_zero Go.wp_at_succ

set_option maxRecDepth 100000 in
set_option maxHeartbeats 4000000 in
theorem pfiles_any (A : Nat → Option Addr) (N C : Nat → Nat) (L : List M) (lg nx sq : Int) (w : World) (h : VerIn w A N C L) (hL : L.length ≤ 10000000) :
    Calls Try.prog 22 #[.agg #[.slice (A 0) (N 0) (C 0), .slice (A 1) (N 1) (C 1), .slice (A 2) (N 2) (C 2), .slice (A 3) (N 3) (C 3), .int .i64 lg, .int .i64 nx, .int .i64 sq]] w fun r w' => ∃ v ys, r = .returned v ∧ ys.Perm (files (front L 4)) ∧ ys.Pairwise (fun a b => a ≤ b) ∧ w'.ownsRow w.heap.size 2 1 v (front L 4).length (nums ys) ∧ Below w.heap.size w w' := by
  obtain ⟨i0, hi, hz0, hz1, hz2⟩ := info_parts info_i64
  have HIX := Lib.hid (fun (k : Nat) (hk : k < 4) W => arr_index A N C hk W)
  have HV := Lib.hid h
  have HFL := Lib.hid (fun k : Nat => front_len L k)
  have HLL := Lib.hid hL
  obtain ⟨S0, hS0⟩ : ∃ S0, Value.slice (A 0) (N 0) (C 0) = S0 := ⟨_, rfl⟩
  obtain ⟨S1, hS1⟩ : ∃ S1, Value.slice (A 1) (N 1) (C 1) = S1 := ⟨_, rfl⟩
  obtain ⟨S2, hS2⟩ : ∃ S2, Value.slice (A 2) (N 2) (C 2) = S2 := ⟨_, rfl⟩
  obtain ⟨S3, hS3⟩ : ∃ S3, Value.slice (A 3) (N 3) (C 3) = S3 := ⟨_, rfl⟩
  rw [hS0, hS1, hS2, hS3] at HIX
  rw [hS0, hS1, hS2, hS3]
  clear hS0 hS1 hS2 hS3 h hL
  go_enter Try.func22, Try.ntmps22
  go_wp2_with fail
  have hal : Below w.heap.size w (w.alloc (.cells #[S0, S1, S2, S3, .int .i64 lg, .int .i64 nx, .int .i64 sq] 26)) := (Below.refl _ w).alloc (Nat.le_refl _) _
  have hr0 := heap_alloc_new w (.cells #[S0, S1, S2, S3, .int .i64 lg, .int .i64 nx, .int .i64 sq] 26)
  generalize w.alloc (.cells #[S0, S1, S2, S3, .int .i64 lg, .int .i64 nx, .int .i64 sq] 26) = w0 at hal hr0 ⊢
  have q0 : w0.cell? ⟨w.heap.size, 0, none⟩ = some S0 := cell_of_row _ _ _ _ _ _ hr0
  have q1 : w0.cell? ⟨w.heap.size, 1, none⟩ = some S1 := cell_of_row _ _ _ _ _ _ hr0
  have q2 : w0.cell? ⟨w.heap.size, 2, none⟩ = some S2 := cell_of_row _ _ _ _ _ _ hr0
  have q3 : w0.cell? ⟨w.heap.size, 3, none⟩ = some S3 := cell_of_row _ _ _ _ _ _ hr0
  have HAL := Lib.hid hal
  clear hal hr0
  go_wp2_with fail
  go_loopw [3, 10] (fun v i wr => ∃ k : Nat, k ≤ 4 ∧ i = .int .i64 k ∧ wr.ownsRow w.heap.size 2 1 v (front L k).length (nums (files (front L k))) ∧ Below w.heap.size w wr) (fun _ i _ => 4 - (intOf i).toNat)
  case atStart => exact ⟨0, by omega, rfl, World.ownsRow_nil _ _ _ _, HAL.out⟩
  case round =>
    obtain ⟨k, hk, rfl, hown, hbw⟩ := hrel
    clear q0 q1 q2 q3
    by_cases hk4 : k < 4
    · have hd4 : decide ((k : Int) < 4) = true := decide_eq_true (by omega)
      have hd4' : decide (k < 4) = true := decide_eq_true hk4
      have hix := HIX.out k hk4
      have hlen := HV.out.len k hk4
      have HIN := Lib.hid (HV.out.at_ k hk4)
      have HFK : Hid (front L (k + 1) = front L k ++ lev k L) := Lib.hid rfl
      have HB0 := Lib.hid hbw
      have HOW := Lib.hid hown
      have hfl := HFL.out k
      obtain ⟨F, hF⟩ : ∃ F, front L k = F := ⟨_, rfl⟩
      obtain ⟨l, hl⟩ : ∃ l, lev k L = l := ⟨_, rfl⟩
      have hll : l.length ≤ 10000000 := by rw [← hl]; exact Nat.le_trans (lev_len _ _) HLL.out
      have hF4 : F.length ≤ 40000000 := by
        rw [← hF]
        have := HLL.out
        have h2 : k * L.length ≤ 4 * L.length := Nat.mul_le_mul_right _ (by omega)
        omega
      rw [hF] at HOW
      rw [hF, hl] at HFK
      rw [hl] at HIN hlen
      obtain ⟨ak, hak⟩ : ∃ x, A k = x := ⟨_, rfl⟩
      obtain ⟨nk, hnk⟩ : ∃ x, N k = x := ⟨_, rfl⟩
      obtain ⟨ck, hck⟩ : ∃ x, C k = x := ⟨_, rfl⟩
      rw [hak, hnk, hck] at hix
      rw [hak] at HIN
      rw [hnk] at hlen
      have HLEN := Lib.hid hlen
      have HSM : Hid (l.length ≤ 10000000 ∧ F.length ≤ 40000000) := Lib.hid ⟨hll, hF4⟩
      have hnb : nk ≤ 10000000 := by omega
      clear hown hbw hlen hF hl hak hnk hck hfl hll hF4
      go_wp2_with fail
      go_loopw [3, 15] (fun v i wr => ∃ j : Nat, j ≤ nk ∧ i = .int .i64 j ∧ wr.ownsRow w.heap.size 2 1 v (F.length + j) (nums (files (F ++ l.take j))) ∧ Below w.heap.size w wr) (fun _ i _ => nk - (intOf i).toNat)
      case atStart => exact ⟨0, by omega, rfl, by simpa using HOW.out, HB0.out⟩
      case round =>
        obtain ⟨j, hj, rfl, hown, hbw⟩ := hrel
        have HB := Lib.hid hbw
        by_cases hlt : j < nk
        · have hjl : j < l.length := by rw [← HLEN.out]; exact hlt
          obtain ⟨c, off, hA, hbl, hc⟩ := (HIN.out.below hbw).at_ (by omega)
          obtain ⟨c0, c1, c2, c3⟩ := hc j hjl
          have HTK : Hid (nums (files (F ++ l.take (j + 1))) = nums (files (F ++ l.take j)) ++ [.int .i64 l[j].file]) := Lib.hid (by rw [List.take_succ_eq_append_getElem hjl, ← List.append_assoc, files_append]; simp [files, nums])
          obtain ⟨e, he⟩ : ∃ e, l[j] = e := ⟨_, rfl⟩
          rw [he] at c0 c1 c2 c3 HTK
          obtain ⟨lv, q, g, s, t⟩ := e
          simp only at c0 c1 c2 c3 HTK
          have hal := (Below.refl wr.heap.size wr).alloc (Nat.le_refl _) (.cells #[.int .i64 q, .int .i64 g, .string s, .string t] 64)
          have hra := heap_alloc_new wr (.cells #[.int .i64 q, .int .i64 g, .string s, .string t] 64)
          have hmb : F.length + j ≤ 50000000 := by have := HSM.out; omega
          subst hA
          clear hc he hbw
          go_upto_region 8 with fail
          generalize wr.alloc (.cells #[.int .i64 q, .int .i64 g, .string s, .string t] 64) = wa at hal hra ⊢
          have y0 : wa.cell? ⟨wr.heap.size, 0, none⟩ = some (.int .i64 q) := cell_of_row _ _ _ _ _ _ hra
          have HBA : Hid (Below w.heap.size w wa) := Lib.hid (HB.out.trans (hal.mono HB.out.size))
          have hoa := own_below hown hal
          obtain ⟨X, hX⟩ : ∃ X, nums (files (F ++ l.take j)) = X := ⟨_, rfl⟩
          rw [hX] at hoa HTK
          clear hal hra c0 c1 c2 c3 hX
          go_wp2_with (at_builtin; refine wpList_append_own _ rfl _ _ 31 rfl w.heap.size 2 i0 _ 1 8 Try.underlying31 hi hz0 hz1 hz2 rfl (by decide) _ _ _ rfl (hoa.alloc _) ⟨wa.heap.size, 0, none⟩ 1 1 [.int .i64 q] rfl ?c1 ?c2 ?c3 ?c4 ?c5 ?c6 ?_)
          case c1 => rfl
          case c2 => exact cell_one_new _ _ _
          case c3 => simp [Value.oneCell']
          case c4 => unfold maxLen; omega
          case c5 => omega
          case c6 => have := HBA.out.size; simp; omega
          intro v' w6 hown6 hgrow6 _
          have HO6 : Hid (w6.ownsRow w.heap.size 2 1 v' (F.length + (j + 1)) (nums (files (F ++ l.take (j + 1))))) := Lib.hid (by rw [HTK.out]; exact hown6)
          have HB6 : Hid (Below w.heap.size w w6) := Lib.hid ((HBA.out.alloc HBA.out.size _).grown hgrow6 (by have := HBA.out.size; simp; omega) (fun g hg => (hoa.lt g hg).1))
          clear hown6 hgrow6 hoa hown y0
          go_wp2
          go_roundw
          case rel => exact ⟨j + 1, by omega, by go_num, HO6.out, HB6.out⟩
          case measure => simp [intOf]; omega
        · obtain rfl : j = nk := by omega
          have htk : l.take j = l := List.take_of_length_le (by rw [← HLEN.out]; exact Nat.le_refl _)
          rw [htk] at hown
          have HO3 : Hid (wr.ownsRow w.heap.size 2 1 _ (front L (k + 1)).length (nums (files (front L (k + 1))))) := Lib.hid (by rw [HFK.out, List.length_append, ← HLEN.out]; exact hown)
          have HB3 := Lib.hid hbw
          clear hown hbw htk
          go_wp2
          go_roundw
          case rel => exact ⟨k + 1, by omega, by go_num, HO3.out, HB3.out⟩
          case measure => simp [intOf]; omega
    · obtain rfl : k = 4 := by omega
      have h4 : (front L 4).length ≤ 40000000 := by have := HFL.out 4; have := HLL.out; omega
      have HSO := Lib.hid (fun v (ho : wr.ownsRow w.heap.size 2 1 v (front L 4).length (nums (files (front L 4)))) => sort64_any w.heap.size v (front L 4).length (files (front L 4)) wr (by simp [files]) ho hbw.size (by omega))
      have HOW := Lib.hid hown
      have HB3 := Lib.hid hbw
      clear hbw hown
      go_wp2_with fail
      refine (HSO.out _ HOW.out).mono ?_
      rintro r w9 ⟨rfl, ⟨ys, hp, hs, ho9⟩, hb9⟩
      have HEND : Hid (ys.Perm (files (front L 4)) ∧ ys.Pairwise (fun a b => a ≤ b) ∧ Below w.heap.size w w9) := Lib.hid ⟨hp, hs, HB3.out.trans hb9⟩
      have HO9 := Lib.hid ho9
      clear hp hs ho9 hb9
      go_wp2
      go_ret
      exact ⟨_, ys, rfl, HEND.out.1, HEND.out.2.1, HO9.out, HEND.out.2.2⟩
end Go.Proofs.Ytffdiiolgflbkaa

