/- Texts joined by bundle.py: Ky, En. -/
import Derived.Test.YtnglaolbfpdgoaaGreatZax
import Derived.Test.YtnglaolbfpdgoaaGreatZaz
import Derived.Deep.CutRange

/- Reading: a key, whose beginning may be that of the one ahead. -/
namespace Go.Proofs.YtnglaolbfpdgoaaGreat
open Go.RowKit
open SK

theorem str_head (W : World) (s : ByteArray) (b : Nat) (h : b ≤ s.size) :
    (Instr.slice 9 (.string s) none (some (.int .i64 (b : Int))) none).run Tryz.prog W = .ok (.string (s.extract 0 b)) W := by
  have i1 : (0 : Int) ≤ (b : Int) := by omega
  have i4 : (b : Int) ≤ (s.size : Int) := by omega
  simp [Instr.slice, run_underlying Tryz.underlying9, Instr.sliceBounds, run_sliceBound, i1, i4]

set_option maxRecDepth 100000 in
set_option maxHeartbeats 2000000 in
theorem key_any (w : World) (r p : Nat) (s : ByteArray) (A : Option Addr) (n cap : Nat) (a : List E) (h : RdAt w r s p) (hs : s.size ≤ 281474976710656) (hp : p ≤ s.size) (hn : a.length = n) (hin : EntsIn w A a) (hb : n ≤ 4096) (hk : (BK.lastKey a).size ≤ 64) :
    Calls Tryz.prog 121 #[.pointer (some ⟨r, 0, none⟩), .slice A n cap] w fun e w' => Out textV r s w (BK.rKey s.data.toList p (BK.lastKey a)) e w' := by
  have HN := Lib.hid (number_any w r p s h hs hp)
  have hlast : ∀ m, n = m + 1 → ∃ (hm : m < a.length), BK.lastKey a = a[m].key := fun m hm => by
    have h1 : m < a.length := by omega
    refine ⟨h1, ?_⟩
    have h2 : a = a.take m ++ [a[m]] := by rw [← List.take_succ_eq_append_getElem h1, List.take_of_length_le (by omega)]
    conv => lhs; rw [h2, BK.lastKey_snoc]
  have hnil : n = 0 → BK.lastKey a = ⟨#[]⟩ := fun h => by rw [List.length_eq_zero_iff.1 (hn.trans h)]; rfl
  have HTX : Hid (∀ q W, q ≤ s.size → RdAt W r s q → Calls Tryz.prog 122 #[.pointer (some ⟨r, 0, none⟩)] W fun e w' => Out textV r s W (BK.rText s.data.toList q) e w') := Lib.hid (fun q W hq h => text_any W r q s h hs hq)
  obtain ⟨K, hK⟩ : ∃ K, BK.lastKey a = K := ⟨_, rfl⟩
  rw [hK] at hk hnil ⊢
  simp only [hK] at hlast
  have HX0 : Hid (BK.rKey s.data.toList p K = match BK.rNum s.data.toList p with | .error c => .error c | .ok (n, q) => BK.rRest s.data.toList K n q) := Lib.hid rfl
  obtain ⟨X, hX⟩ : ∃ X, BK.rKey s.data.toList p K = X := ⟨_, rfl⟩
  rw [hX] at HX0 ⊢
  have HIN := Lib.hid hin
  have HLAST := Lib.hid hlast
  have HNIL := Lib.hid hnil
  clear hin hlast hnil hK h hp hX
  go_enter Tryz.func121, Tryz.ntmps121
  go_upto_if 12 with fail
  go_cut [5] from 9 (fun x wc => x = .string K ∧ w = wc)
  case first =>
    by_cases h0 : n = 0
    · have hK0 := HNIL.out h0
      subst h0
      go_wp2
      go_meet
      exact ⟨by rw [hK0], rfl⟩
    · obtain ⟨m, hm⟩ : ∃ m, n = m + 1 := ⟨n - 1, by omega⟩
      obtain ⟨hml, hKm⟩ := HLAST.out m hm
      obtain ⟨b, off, hA, hbl, hc⟩ := HIN.out.at_ (by omega)
      obtain ⟨z0, -, -, -, -⟩ := hc m hml
      rw [← hKm] at z0
      subst hA
      have hwr : IntKind.i64.wrap ((n : Int) - 1) = (m : Int) := by rw [IntWalk.i64_in _ ⟨by omega, by omega⟩]; omega
      have g0 : (0 : Int) ≤ (m : Int) := by omega
      have g1 : (m : Int) < (n : Int) := by omega
      have g2 : 0 < n := by omega
      have g3 : (0 : Int) < (n : Int) := by omega
      clear hm hKm hc hbl hml HN HTX HLAST HNIL
      go_wp2
      go_meet
      exact ⟨rfl, rfl⟩
  case rest =>
  obtain ⟨rfl, rfl⟩ := hcut
  clear HIN HLAST HNIL
  cases hx : BK.rNum s.data.toList p with
  | error c =>
    rw [hx] at HN HX0
    clear hx
    go_wp2_with fail
    refine HN.out.mono ?_
    rintro e w1 ⟨hg, rfl⟩
    exact ⟨rfl, hg, by rw [HX0.out]⟩
  | ok x =>
    obtain ⟨z, q⟩ := x
    have hql : q ≤ s.size := by have := BK.num_le hx; rwa [size_list] at this
    rw [hx] at HN HX0
    clear hx
    have HR : Hid (X = if z < 0 ∨ (K.size : Int) < z then .error 4 else
      match BK.rText s.data.toList q with
      | .error c => .error c
      | .ok (t, q) => .ok (K.extract 0 z.toNat ++ t, q)) := Lib.hid HX0.out
    clear HX0
    by_cases h1 : z < 0
    · have HF : Hid (X = .error 4) := Lib.hid (by rw [HR.out, if_pos (Or.inl h1)])
      go_wp2_with fail
      refine HN.out.mono ?_
      rintro e w1 ⟨hg, rfl, hr⟩
      simp only [numV]
      go_wp2_with fail
      refine (leave_bad 4 _ (by decide)).mono ?_
      rintro e w2 ⟨rfl, rfl⟩
      exact ⟨rfl, hg, by rw [HF.out]⟩
    by_cases h2 : (K.size : Int) < z
    · have HF : Hid (X = .error 4) := Lib.hid (by rw [HR.out, if_pos (Or.inr h2)])
      go_wp2_with fail
      refine HN.out.mono ?_
      rintro e w1 ⟨hg, rfl, hr⟩
      simp only [numV]
      go_wp2_with fail
      refine (leave_bad 4 _ (by decide)).mono ?_
      rintro e w2 ⟨rfl, rfl⟩
      exact ⟨rfl, hg, by rw [HF.out]⟩
    obtain ⟨Z, rfl⟩ := Int.eq_ofNat_of_zero_le (show 0 ≤ z by omega)
    have HT := Lib.hid (fun W h => HTX.out q W hql h)
    have HR2 : Hid (X = match BK.rText s.data.toList q with | .error c => .error c | .ok (t, q) => .ok (K.extract 0 Z ++ t, q)) := Lib.hid (by rw [HR.out, if_neg (by omega), Int.toNat_natCast])
    clear HR HTX
    cases ht : BK.rText s.data.toList q with
    | error c =>
      rw [ht] at HT HR2
      clear ht
      go_wp2_with fail
      refine HN.out.mono ?_
      rintro e w1 ⟨hg, rfl, hr⟩
      have HG := Lib.hid hg
      have HRD := Lib.hid hr
      clear hg hr
      simp only [numV]
      go_wp2_with fail
      refine (HT.out _ HRD.out).mono ?_
      rintro e w2 ⟨hg, rfl⟩
      exact ⟨rfl, grown_trans HG.out hg, by rw [HR2.out]⟩
    | ok y =>
      obtain ⟨t, q2⟩ := y
      have hts := (BK.text_le ht).1
      rw [ht] at HT HR2
      clear ht
      have hsl := fun W => str_head W K Z (by omega)
      have hes : (K.extract 0 Z).size ≤ 64 := by rw [ByteArray.size_extract]; omega
      obtain ⟨KH, hKH⟩ : ∃ KH, K.extract 0 Z = KH := ⟨_, rfl⟩
      rw [hKH] at HR2 hes
      simp only [hKH] at hsl
      have HCL := Lib.hid (fun W => clone_any KH W (by omega))
      have k1 : ¬ 9223372036854775807 < KH.size + t.size := by omega
      have hz0 : (0 : Int) ≤ (Z : Int) := by omega
      clear hKH
      go_wp2_with fail
      refine HN.out.mono ?_
      rintro e w1 ⟨hg, rfl, hr⟩
      have HG := Lib.hid hg
      have HRD := Lib.hid hr
      clear hg hr
      simp only [numV]
      go_wp2_with fail
      refine (HT.out _ HRD.out).mono ?_
      rintro e w2 ⟨hg, rfl, hr⟩
      have HG2 := Lib.hid (grown_trans HG.out hg)
      have HRD2 := Lib.hid hr
      clear hg hr
      simp only [textV]
      go_wp2_with fail
      refine (HCL.out _).mono ?_
      rintro e w3 ⟨rfl, hb⟩
      have HG3 := Lib.hid (grown_trans HG2.out (grown_below hb))
      have HRD3 := Lib.hid (HRD2.out.below hb)
      clear hb
      go_wp2
      go_ret
      exact ⟨HG3.out, by rw [HR2.out]; exact ⟨rfl, HRD3.out⟩⟩
end Go.Proofs.YtnglaolbfpdgoaaGreat

/- Reading: an entry. Made by gen_en.py. -/
namespace Go.Proofs.YtnglaolbfpdgoaaGreat
open Go.RowKit
open SK

def rowE (e : E) : Array Value := #[.string e.key, .int .i64 e.seq, .bool e.gone, .string e.value, .int .i64 e.til]
def entV (e : E) : Value := e.val

/-- in the middle of entry: the reader in r, the entry in y, the result in x (still nought) -/
structure EnAt (w0 w : World) (r p x y : Nat) (s : ByteArray) (e : E) : Prop where
  rd : RdAt w r s p
  ent : w.heap[y]? = some (.cells (rowE e) 57 (0, 0))
  res : w.heap[x]? = some (.cells (rowE E.zero) 57 (0, 0))
  gr : w0.grownBy w (some r)
  xle : w0.heap.size ≤ x
  xy : x < y
  rx : r < x

section
variable {w0 w w' : World} {r p q x y : Nat} {s : ByteArray} {e : E}
theorem EnAt.call (h : EnAt w0 w r p x y s e) (hg : w.grownBy w' (some r)) (hr : RdAt w' r s q) : EnAt w0 w' r q x y s e :=
  ⟨hr, (hg.block y (Array.getElem?_eq_some_iff.1 h.ent).1 (by have := h.xy; have := h.rx; simp; omega)).trans h.ent, (hg.block x (Array.getElem?_eq_some_iff.1 h.res).1 (by have := h.rx; simp; omega)).trans h.res, grown_trans h.gr hg, h.xle, h.xy, h.rx⟩
theorem EnAt.below (h : EnAt w0 w r p x y s e) (hb : Below w.heap.size w w') : EnAt w0 w' r p x y s e := h.call (grown_below hb) (h.rd.below hb)
theorem EnAt.set (h : EnAt w0 w r p x y s e) (i : Nat) (u : Value) (e' : E) (he : rowE e' = (rowE e).setIfInBounds i u) : EnAt w0 (w.setCell ⟨y, i, none⟩ u) r p x y s e' :=
  ⟨(Below.heap_setCell _ _ _ _ (by have := h.xy; have := h.rx; simp; omega)).trans h.rd, by rw [he]; exact heap_set_fr h.ent i u, (Below.heap_setCell _ _ _ _ (by have := h.xy; simp; omega)).trans h.res, grown_new h.gr _ _ _ (by have := h.xle; have := h.xy; omega), h.xle, h.xy, h.rx⟩
theorem EnAt.cell (h : EnAt w0 w r p x y s e) (i : Nat) : w.cell? ⟨y, i, none⟩ = (rowE e)[i]? := cell_of_row _ _ _ _ _ _ h.ent
theorem EnAt.frozen (h : EnAt w0 w r p x y s e) (i : Nat) : w.frozen? ⟨y, i, none⟩ = false := frozen_of_row _ _ _ _ _ h.ent
theorem EnAt.ents {A : Option Addr} {a : List E} (h : EnAt w0 w r p x y s e) (hin : EntsIn w0 A a) (hr : ∀ x ∈ fb A, x ≠ r) : EntsIn w A a := hin.grown h.gr hr
end

/-- what is left of an entry behind its Until: nothing is left to be read but the value -/
theorem one_eq (l : List UInt8) (p : Nat) (k : ByteArray) : BK.rOne l p k =
  match BK.rKey l p k with
  | .error c => .error c
  | .ok (k, p1) =>
    match BK.rNum l p1 with
    | .error c => .error c
    | .ok (s, p2) =>
      match BK.rNum l p2 with
      | .error c => .error c
      | .ok (n, p3) => if n < 0 then .error 4 else if n = 0 then .ok (⟨k, s, true, ⟨#[]⟩, 0⟩, p3) else
        match BK.rText l p3 with
        | .error c => .error c
        | .ok (v, q) => .ok (⟨k, s, false, v, n - 1⟩, q) := rfl

set_option maxRecDepth 100000 in
set_option maxHeartbeats 4000000 in
theorem entry_any (w : World) (r p : Nat) (s : ByteArray) (A : Option Addr) (n cap : Nat) (a : List E) (h : RdAt w r s p) (hs : s.size ≤ 281474976710656) (hp : p ≤ s.size) (hn : a.length = n) (hin : EntsIn w A a) (hA : ∀ x ∈ fb A, x ≠ r) (hb : n ≤ 4096) (hk : (BK.lastKey a).size ≤ 64) :
    Calls Tryz.prog 118 #[.pointer (some ⟨r, 0, none⟩), .slice A n cap] w fun e w' => Out entV r s w (BK.rEnt s.data.toList p a) e w' := by
  have hlt := h.lt
  have HX0 : Hid (BK.rEnt s.data.toList p a = BK.rFin a (BK.rOne s.data.toList p (BK.lastKey a))) := Lib.hid rfl
  have HONE := Lib.hid (one_eq s.data.toList p (BK.lastKey a))
  have HWF : Hid (∀ e q, BK.rOne s.data.toList p (BK.lastKey a) = .ok (e, q) → e.wf) := Lib.hid (fun e q h => (BK.one_wf h (by omega)).1)
  have HKEY : Hid (∀ W, RdAt W r s p → EntsIn W A a → Calls Tryz.prog 121 #[.pointer (some ⟨r, 0, none⟩), .slice A n cap] W fun e w' => Out textV r s W (BK.rKey s.data.toList p (BK.lastKey a)) e w') := Lib.hid (fun W h1 h2 => key_any W r p s A n cap a h1 hs hp hn h2 hb hk)
  have HNUM : Hid (∀ q W, q ≤ s.size → RdAt W r s q → Calls Tryz.prog 120 #[.pointer (some ⟨r, 0, none⟩)] W fun e w' => Out numV r s W (BK.rNum s.data.toList q) e w') := Lib.hid (fun q W hq h => number_any W r q s h hs hq)
  have HTXT : Hid (∀ q W, q ≤ s.size → RdAt W r s q → Calls Tryz.prog 122 #[.pointer (some ⟨r, 0, none⟩)] W fun e w' => Out textV r s W (BK.rText s.data.toList q) e w') := Lib.hid (fun q W hq h => text_any W r q s h hs hq)
  have HFIT : Hid (∀ e W, e.wf → EntsIn W A a → Calls Tryz.prog 46 #[.slice A n cap, e.val] W fun r w' => r = .returned (.int .i64 (BK.nb a e)) ∧ Below W.heap.size W w') := Lib.hid (fun e W he h => fits_any A n cap a e W hn h he (by omega))
  obtain ⟨X, hX⟩ : ∃ X, BK.rEnt s.data.toList p a = X := ⟨_, rfl⟩
  obtain ⟨O, hO⟩ : ∃ O, BK.rOne s.data.toList p (BK.lastKey a) = O := ⟨_, rfl⟩
  rw [hX] at HX0 ⊢
  rw [hO] at HX0 HONE
  simp only [hO] at HWF
  obtain ⟨x, hx⟩ : ∃ x, w.heap.size = x := ⟨_, rfl⟩
  have HEN : Hid (EnAt w ((w.alloc (.cells (rowE E.zero) 57)).alloc (.cells (rowE E.zero) 57)) r p x (x + 1) s E.zero) := Lib.hid
    { rd := (Below.heap_alloc _ _ _ (by simp; omega)).trans ((Below.heap_alloc _ _ _ hlt).trans h)
      ent := by have := heap_alloc_new (w.alloc (.cells (rowE E.zero) 57)) (.cells (rowE E.zero) 57); rw [← hx]; simpa using this
      res := by rw [← hx]; exact (Below.heap_alloc _ _ _ (by simp)).trans (heap_alloc_new w _)
      gr := grown_trans (grown_alloc _ _ _) (grown_alloc _ _ _)
      xle := by omega
      xy := by omega
      rx := by omega }
  have HIN := Lib.hid hin
  have HA := Lib.hid hA
  have HPL := Lib.hid hp
  clear hX hO hin hA h hlt hp hn hb hk
  simp only [rowE, E.zero] at HEN
  go_enter Tryz.func118, Tryz.ntmps118
  go_wp2_with fail
  generalize (w.alloc (.cells #[Value.string ⟨#[]⟩, .int .i64 0, .bool false, .string ⟨#[]⟩, .int .i64 0] 57)).alloc (.cells #[Value.string ⟨#[]⟩, .int .i64 0, .bool false, .string ⟨#[]⟩, .int .i64 0] 57) = w1 at HEN ⊢
  clear hx
  obtain ⟨y, hy⟩ : ∃ y, x + 1 = y := ⟨_, rfl⟩
  rw [hy] at HEN ⊢
  clear hy
  refine (HKEY.out _ HEN.out.rd (HEN.out.ents HIN.out HA.out)).mono ?_
  rintro e w2 ⟨hg, he⟩
  have HG2 := Lib.hid hg
  cases hk : BK.rKey s.data.toList p (BK.lastKey a) with
  | error c =>
    rw [hk] at he HONE
    subst he
    have HF : Hid (X = .error c) := Lib.hid (by rw [HX0.out, HONE.out]; rfl)
    exact ⟨rfl, grown_trans HEN.out.gr HG2.out, by rw [HF.out]⟩
  | ok z =>
    obtain ⟨k, p1⟩ := z
    have hp1 : p1 ≤ s.size := by have := (BK.key_le hk).2; rwa [size_list] at this
    rw [hk] at he HONE
    obtain ⟨rfl, hr⟩ := he
    have HE2 := Lib.hid (HEN.out.call HG2.out hr)
    have HE3 := Lib.hid (HE2.out.set 0 (.string k) ⟨k, 0, false, ⟨#[]⟩, 0⟩ rfl)
    have c0 : w2.cell? ⟨y, 0, none⟩ = some (.string ⟨#[]⟩) := HE2.out.cell 0
    have f0 : w2.frozen? ⟨y, 0, none⟩ = false := HE2.out.frozen 0
    clear hk hr hg HG2 HEN HKEY
    simp only [textV]
    go_wp2_with fail
    generalize w2.setCell ⟨y, 0, none⟩ (.string k) = w3 at HE3 ⊢
    refine (HNUM.out p1 _ hp1 HE3.out.rd).mono ?_
    rintro e w4 ⟨hg, he⟩
    have HG4 := Lib.hid hg
    clear HE2 c0 f0 hg
    cases hq : BK.rNum s.data.toList p1 with
    | error c =>
      rw [hq] at he
      subst he
      have HF : Hid (X = .error c) := Lib.hid (by rw [HX0.out, HONE.out, hq]; rfl)
      exact ⟨rfl, grown_trans HE3.out.gr HG4.out, by rw [HF.out]⟩
    | ok z =>
      obtain ⟨q0, p2⟩ := z
      have hp2 : p2 ≤ s.size := by have := BK.num_le hq; rwa [size_list] at this
      simp only [hq] at he HONE
      obtain ⟨rfl, hr⟩ := he
      have HE4 := Lib.hid (HE3.out.call HG4.out hr)
      have HE5 := Lib.hid (HE4.out.set 1 (.int .i64 q0) ⟨k, q0, false, ⟨#[]⟩, 0⟩ rfl)
      have c1 : w4.cell? ⟨y, 1, none⟩ = some (.int .i64 0) := HE4.out.cell 1
      have f1 : w4.frozen? ⟨y, 1, none⟩ = false := HE4.out.frozen 1
      clear hq hr HG4 HE3
      simp only [numV]
      go_wp2_with fail
      generalize w4.setCell ⟨y, 1, none⟩ (.int .i64 q0) = w5 at HE5 ⊢
      refine (HNUM.out p2 _ hp2 HE5.out.rd).mono ?_
      rintro e w6 ⟨hg, he⟩
      have HG6 := Lib.hid hg
      clear HE4 c1 f1 hg
      cases hm : BK.rNum s.data.toList p2 with
      | error c =>
        rw [hm] at he
        subst he
        have HF : Hid (X = .error c) := Lib.hid (by rw [HX0.out, HONE.out, hm]; rfl)
        exact ⟨rfl, grown_trans HE5.out.gr HG6.out, by rw [HF.out]⟩
      | ok z =>
        obtain ⟨m, p3⟩ := z
        have hmm := BK.num_ok hm
        have hm0 := hmm.1
        have hm1 := hmm.2.1
        have hp3 : p3 ≤ s.size := by have := hmm.2.2.1; rwa [size_list] at this
        simp only [hm] at he HONE
        obtain ⟨rfl, hr⟩ := he
        have HE6 := Lib.hid (HE5.out.call HG6.out hr)
        clear hm hmm hr HG6 HE5
        simp only [numV]
        by_cases h1 : m < 0
        · have HF : Hid (X = .error 4) := Lib.hid (by rw [HX0.out, HONE.out, if_pos h1]; rfl)
          go_wp2_with fail
          refine (leave_bad 4 _ (by decide)).mono ?_
          rintro e w7 ⟨rfl, rfl⟩
          exact ⟨rfl, HE6.out.gr, by rw [HF.out]⟩
        · by_cases h2 : m = 0
          · have HO2 : Hid (O = .ok (⟨k, q0, true, ⟨#[]⟩, 0⟩, p3)) := Lib.hid (by rw [HONE.out, if_neg h1, if_pos h2])
            have hbe : (m == 0) = true := by simpa using h2
            have c2 : w6.cell? ⟨y, 2, none⟩ = some (.bool false) := HE6.out.cell 2
            have f2 : w6.frozen? ⟨y, 2, none⟩ = false := HE6.out.frozen 2
            have HE7 := Lib.hid (HE6.out.set 2 (.bool true) ⟨k, q0, true, ⟨#[]⟩, 0⟩ rfl)
            obtain ⟨w7, hw7⟩ : ∃ w7, w6.setCell ⟨y, 2, none⟩ (.bool true) = w7 := ⟨_, rfl⟩
            rw [hw7] at HE7
            clear HE6 HNUM HTXT HONE
            have HWE := Lib.hid (HWF.out _ _ HO2.out)
            have HFT := Lib.hid (fun W h => HFIT.out _ W HWE.out h)
            have HX1 : Hid (X = if BK.nb a ⟨k, q0, true, ⟨#[]⟩, 0⟩ = 0 then .ok (⟨k, q0, true, ⟨#[]⟩, 0⟩, p3) else .error (BK.nb a ⟨k, q0, true, ⟨#[]⟩, 0⟩)) := Lib.hid (by rw [HX0.out, HO2.out]; rfl)
            obtain ⟨G, hG⟩ : ∃ G, BK.nb a (⟨k, q0, true, ⟨#[]⟩, 0⟩ : E) = G := ⟨_, rfl⟩
            simp only [hG] at HFT HX1
            simp only [E.val] at HFT
            clear hG HO2 HX0 HWF HFIT HWE
            have e0 : w7.cell? ⟨y, 0, none⟩ = some (.string k) := HE7.out.cell 0
            have e1 : w7.cell? ⟨y, 1, none⟩ = some (.int .i64 q0) := HE7.out.cell 1
            have e2 : w7.cell? ⟨y, 2, none⟩ = some (.bool true) := HE7.out.cell 2
            have e3 : w7.cell? ⟨y, 3, none⟩ = some (.string ⟨#[]⟩) := HE7.out.cell 3
            have e4 : w7.cell? ⟨y, 4, none⟩ = some (.int .i64 0) := HE7.out.cell 4
            go_wp2_with fail
            refine (HFT.out _ (HE7.out.ents HIN.out HA.out)).mono ?_
            rintro e w8 ⟨rfl, hb⟩
            have HE8 := Lib.hid (HE7.out.below hb)
            clear hb HE7 e0 e1 e2 e3 e4 hw7 HFT
            by_cases h0 : G = 0
            · subst h0
              have HF : Hid (X = .ok (⟨k, q0, true, ⟨#[]⟩, 0⟩, p3)) := Lib.hid (by rw [HX1.out, if_pos rfl])
              have e0 : w8.cell? ⟨y, 0, none⟩ = some (.string k) := HE8.out.cell 0
              have e1 : w8.cell? ⟨y, 1, none⟩ = some (.int .i64 q0) := HE8.out.cell 1
              have e2 : w8.cell? ⟨y, 2, none⟩ = some (.bool true) := HE8.out.cell 2
              have e3 : w8.cell? ⟨y, 3, none⟩ = some (.string ⟨#[]⟩) := HE8.out.cell 3
              have e4 : w8.cell? ⟨y, 4, none⟩ = some (.int .i64 0) := HE8.out.cell 4
              have z0 : w8.cell? ⟨x, 0, none⟩ = some (.string ⟨#[]⟩) := cell_of_row _ _ _ _ _ _ HE8.out.res
              have z1 : w8.cell? ⟨x, 1, none⟩ = some (.int .i64 0) := cell_of_row _ _ _ _ _ _ HE8.out.res
              have z2 : w8.cell? ⟨x, 2, none⟩ = some (.bool false) := cell_of_row _ _ _ _ _ _ HE8.out.res
              have z3 : w8.cell? ⟨x, 3, none⟩ = some (.string ⟨#[]⟩) := cell_of_row _ _ _ _ _ _ HE8.out.res
              have z4 : w8.cell? ⟨x, 4, none⟩ = some (.int .i64 0) := cell_of_row _ _ _ _ _ _ HE8.out.res
              have y0 : w8.frozen? ⟨x, 0, none⟩ = false := frozen_of_row _ _ _ _ _ HE8.out.res
              have y1 : w8.frozen? ⟨x, 1, none⟩ = false := frozen_of_row _ _ _ _ _ HE8.out.res
              have y2 : w8.frozen? ⟨x, 2, none⟩ = false := frozen_of_row _ _ _ _ _ HE8.out.res
              have y3 : w8.frozen? ⟨x, 3, none⟩ = false := frozen_of_row _ _ _ _ _ HE8.out.res
              have y4 : w8.frozen? ⟨x, 4, none⟩ = false := frozen_of_row _ _ _ _ _ HE8.out.res
              have HSZ : Hid (w.heap.size ≤ x) := Lib.hid HE8.out.xle
              have HRR : Hid (r ≠ x) := Lib.hid (by have := HE8.out.rx; omega)
              go_wp2_with fail
              refine (leave_ok _).mono ?_
              rintro e w9 ⟨rfl, rfl⟩
              have HX9 : Hid ((((((w8.setCell ⟨x, 0, none⟩ (.string k)).setCell ⟨x, 1, none⟩ (.int .i64 q0)).setCell ⟨x, 2, none⟩ (.bool true)).setCell ⟨x, 3, none⟩ (.string ⟨#[]⟩)).setCell ⟨x, 4, none⟩ (.int .i64 0)).heap[x]? = some (.cells #[.string k, .int .i64 q0, .bool true, .string ⟨#[]⟩, .int .i64 0] 57 (0, 0))) := Lib.hid (heap_set_fr (heap_set_fr (heap_set_fr (heap_set_fr (heap_set_fr HE8.out.res 0 (.string k)) 1 (.int .i64 q0)) 2 (.bool true)) 3 (.string ⟨#[]⟩)) 4 (.int .i64 0))
              have HG9 : Hid (w.grownBy (((((w8.setCell ⟨x, 0, none⟩ (.string k)).setCell ⟨x, 1, none⟩ (.int .i64 q0)).setCell ⟨x, 2, none⟩ (.bool true)).setCell ⟨x, 3, none⟩ (.string ⟨#[]⟩)).setCell ⟨x, 4, none⟩ (.int .i64 0)) (some r)) := Lib.hid (grown_new (grown_new (grown_new (grown_new (grown_new HE8.out.gr _ _ _ HSZ.out) _ _ _ HSZ.out) _ _ _ HSZ.out) _ _ _ HSZ.out) _ _ _ HSZ.out)
              have HR9 : Hid (RdAt (((((w8.setCell ⟨x, 0, none⟩ (.string k)).setCell ⟨x, 1, none⟩ (.int .i64 q0)).setCell ⟨x, 2, none⟩ (.bool true)).setCell ⟨x, 3, none⟩ (.string ⟨#[]⟩)).setCell ⟨x, 4, none⟩ (.int .i64 0)) r s p3) := Lib.hid ((Below.heap_setCell _ _ _ _ HRR.out).trans ((Below.heap_setCell _ _ _ _ HRR.out).trans ((Below.heap_setCell _ _ _ _ HRR.out).trans ((Below.heap_setCell _ _ _ _ HRR.out).trans ((Below.heap_setCell _ _ _ _ HRR.out).trans HE8.out.rd)))))
              clear HE8
              go_wp2
              generalize (((((w8.setCell ⟨x, 0, none⟩ (.string k)).setCell ⟨x, 1, none⟩ (.int .i64 q0)).setCell ⟨x, 2, none⟩ (.bool true)).setCell ⟨x, 3, none⟩ (.string ⟨#[]⟩)).setCell ⟨x, 4, none⟩ (.int .i64 0)) = wz at HX9 HG9 HR9 ⊢
              have d0 : wz.cell? ⟨x, 0, none⟩ = some (.string k) := cell_of_row _ _ _ _ _ _ HX9.out
              have d1 : wz.cell? ⟨x, 1, none⟩ = some (.int .i64 q0) := cell_of_row _ _ _ _ _ _ HX9.out
              have d2 : wz.cell? ⟨x, 2, none⟩ = some (.bool true) := cell_of_row _ _ _ _ _ _ HX9.out
              have d3 : wz.cell? ⟨x, 3, none⟩ = some (.string ⟨#[]⟩) := cell_of_row _ _ _ _ _ _ HX9.out
              have d4 : wz.cell? ⟨x, 4, none⟩ = some (.int .i64 0) := cell_of_row _ _ _ _ _ _ HX9.out
              refine bodyPost_ret (v := .agg #[.string k, .int .i64 q0, .bool true, .string ⟨#[]⟩, .int .i64 0]) (by simp [results, Tryz.results118, go_sem, d0, d1, d2, d3, d4]) rfl ⟨HG9.out, ?_⟩
              rw [HF.out]
              exact ⟨rfl, HR9.out⟩
            · have HF : Hid (X = .error G) := Lib.hid (by rw [HX1.out, if_neg h0])
              go_wp2_with fail
              refine (leave_bad G _ h0).mono ?_
              rintro e w9 ⟨rfl, rfl⟩
              exact ⟨rfl, HE8.out.gr, by rw [HF.out]⟩
          · have HH1 := Lib.hid h1
            have HH2 := Lib.hid h2
            have hbe : (m == 0) = false := by simpa using h2
            have hwr : IntKind.i64.wrap (m - 1) = m - 1 := IntWalk.i64_in _ ⟨by omega, by omega⟩
            have c4 : w6.cell? ⟨y, 4, none⟩ = some (.int .i64 0) := HE6.out.cell 4
            have f4 : w6.frozen? ⟨y, 4, none⟩ = false := HE6.out.frozen 4
            have HEa := Lib.hid (HE6.out.set 4 (.int .i64 (m - 1)) ⟨k, q0, false, ⟨#[]⟩, m - 1⟩ rfl)
            have HTX := Lib.hid (fun W h => HTXT.out p3 W hp3 h)
            clear HNUM HTXT
            go_wp2_with fail
            generalize w6.setCell ⟨y, 4, none⟩ (.int .i64 (m - 1)) = wa at HEa ⊢
            refine (HTX.out _ HEa.out.rd).mono ?_
            rintro e wb ⟨hg, he⟩
            have HGb := Lib.hid hg
            clear HE6 c4 f4 hg
            cases hv : BK.rText s.data.toList p3 with
            | error c =>
              rw [hv] at he
              subst he
              have HF : Hid (X = .error c) := Lib.hid (by rw [HX0.out, HONE.out, if_neg (by have := HH1.out; omega), if_neg (by have := HH2.out; omega), hv]; rfl)
              exact ⟨rfl, grown_trans HEa.out.gr HGb.out, by rw [HF.out]⟩
            | ok z =>
              obtain ⟨v, p4⟩ := z
              rw [hv] at he
              obtain ⟨rfl, hr⟩ := he
              have HO2 : Hid (O = .ok (⟨k, q0, false, v, m - 1⟩, p4)) := Lib.hid (by rw [HONE.out, if_neg (by have := HH1.out; omega), if_neg (by have := HH2.out; omega), hv])
              have HEb := Lib.hid (HEa.out.call HGb.out hr)
              have c3 : wb.cell? ⟨y, 3, none⟩ = some (.string ⟨#[]⟩) := HEb.out.cell 3
              have f3 : wb.frozen? ⟨y, 3, none⟩ = false := HEb.out.frozen 3
              have HE7 := Lib.hid (HEb.out.set 3 (.string v) ⟨k, q0, false, v, m - 1⟩ rfl)
              obtain ⟨w7, hw7⟩ : ∃ w7, wb.setCell ⟨y, 3, none⟩ (.string v) = w7 := ⟨_, rfl⟩
              rw [hw7] at HE7
              clear HEa HGb HEb hv hr HTX HONE
              simp only [textV]
              have HWE := Lib.hid (HWF.out _ _ HO2.out)
              have HFT := Lib.hid (fun W h => HFIT.out _ W HWE.out h)
              have HX1 : Hid (X = if BK.nb a ⟨k, q0, false, v, (m - 1)⟩ = 0 then .ok (⟨k, q0, false, v, (m - 1)⟩, p4) else .error (BK.nb a ⟨k, q0, false, v, (m - 1)⟩)) := Lib.hid (by rw [HX0.out, HO2.out]; rfl)
              obtain ⟨G, hG⟩ : ∃ G, BK.nb a (⟨k, q0, false, v, (m - 1)⟩ : E) = G := ⟨_, rfl⟩
              simp only [hG] at HFT HX1
              simp only [E.val] at HFT
              clear hG HO2 HX0 HWF HFIT HWE
              have e0 : w7.cell? ⟨y, 0, none⟩ = some (.string k) := HE7.out.cell 0
              have e1 : w7.cell? ⟨y, 1, none⟩ = some (.int .i64 q0) := HE7.out.cell 1
              have e2 : w7.cell? ⟨y, 2, none⟩ = some (.bool false) := HE7.out.cell 2
              have e3 : w7.cell? ⟨y, 3, none⟩ = some (.string v) := HE7.out.cell 3
              have e4 : w7.cell? ⟨y, 4, none⟩ = some (.int .i64 (m - 1)) := HE7.out.cell 4
              go_wp2_with fail
              refine (HFT.out _ (HE7.out.ents HIN.out HA.out)).mono ?_
              rintro e w8 ⟨rfl, hb⟩
              have HE8 := Lib.hid (HE7.out.below hb)
              clear hb HE7 e0 e1 e2 e3 e4 hw7 HFT
              by_cases h0 : G = 0
              · subst h0
                have HF : Hid (X = .ok (⟨k, q0, false, v, (m - 1)⟩, p4)) := Lib.hid (by rw [HX1.out, if_pos rfl])
                have e0 : w8.cell? ⟨y, 0, none⟩ = some (.string k) := HE8.out.cell 0
                have e1 : w8.cell? ⟨y, 1, none⟩ = some (.int .i64 q0) := HE8.out.cell 1
                have e2 : w8.cell? ⟨y, 2, none⟩ = some (.bool false) := HE8.out.cell 2
                have e3 : w8.cell? ⟨y, 3, none⟩ = some (.string v) := HE8.out.cell 3
                have e4 : w8.cell? ⟨y, 4, none⟩ = some (.int .i64 (m - 1)) := HE8.out.cell 4
                have z0 : w8.cell? ⟨x, 0, none⟩ = some (.string ⟨#[]⟩) := cell_of_row _ _ _ _ _ _ HE8.out.res
                have z1 : w8.cell? ⟨x, 1, none⟩ = some (.int .i64 0) := cell_of_row _ _ _ _ _ _ HE8.out.res
                have z2 : w8.cell? ⟨x, 2, none⟩ = some (.bool false) := cell_of_row _ _ _ _ _ _ HE8.out.res
                have z3 : w8.cell? ⟨x, 3, none⟩ = some (.string ⟨#[]⟩) := cell_of_row _ _ _ _ _ _ HE8.out.res
                have z4 : w8.cell? ⟨x, 4, none⟩ = some (.int .i64 0) := cell_of_row _ _ _ _ _ _ HE8.out.res
                have y0 : w8.frozen? ⟨x, 0, none⟩ = false := frozen_of_row _ _ _ _ _ HE8.out.res
                have y1 : w8.frozen? ⟨x, 1, none⟩ = false := frozen_of_row _ _ _ _ _ HE8.out.res
                have y2 : w8.frozen? ⟨x, 2, none⟩ = false := frozen_of_row _ _ _ _ _ HE8.out.res
                have y3 : w8.frozen? ⟨x, 3, none⟩ = false := frozen_of_row _ _ _ _ _ HE8.out.res
                have y4 : w8.frozen? ⟨x, 4, none⟩ = false := frozen_of_row _ _ _ _ _ HE8.out.res
                have HSZ : Hid (w.heap.size ≤ x) := Lib.hid HE8.out.xle
                have HRR : Hid (r ≠ x) := Lib.hid (by have := HE8.out.rx; omega)
                go_wp2_with fail
                refine (leave_ok _).mono ?_
                rintro e w9 ⟨rfl, rfl⟩
                have HX9 : Hid ((((((w8.setCell ⟨x, 0, none⟩ (.string k)).setCell ⟨x, 1, none⟩ (.int .i64 q0)).setCell ⟨x, 2, none⟩ (.bool false)).setCell ⟨x, 3, none⟩ (.string v)).setCell ⟨x, 4, none⟩ (.int .i64 (m - 1))).heap[x]? = some (.cells #[.string k, .int .i64 q0, .bool false, .string v, .int .i64 (m - 1)] 57 (0, 0))) := Lib.hid (heap_set_fr (heap_set_fr (heap_set_fr (heap_set_fr (heap_set_fr HE8.out.res 0 (.string k)) 1 (.int .i64 q0)) 2 (.bool false)) 3 (.string v)) 4 (.int .i64 (m - 1)))
                have HG9 : Hid (w.grownBy (((((w8.setCell ⟨x, 0, none⟩ (.string k)).setCell ⟨x, 1, none⟩ (.int .i64 q0)).setCell ⟨x, 2, none⟩ (.bool false)).setCell ⟨x, 3, none⟩ (.string v)).setCell ⟨x, 4, none⟩ (.int .i64 (m - 1))) (some r)) := Lib.hid (grown_new (grown_new (grown_new (grown_new (grown_new HE8.out.gr _ _ _ HSZ.out) _ _ _ HSZ.out) _ _ _ HSZ.out) _ _ _ HSZ.out) _ _ _ HSZ.out)
                have HR9 : Hid (RdAt (((((w8.setCell ⟨x, 0, none⟩ (.string k)).setCell ⟨x, 1, none⟩ (.int .i64 q0)).setCell ⟨x, 2, none⟩ (.bool false)).setCell ⟨x, 3, none⟩ (.string v)).setCell ⟨x, 4, none⟩ (.int .i64 (m - 1))) r s p4) := Lib.hid ((Below.heap_setCell _ _ _ _ HRR.out).trans ((Below.heap_setCell _ _ _ _ HRR.out).trans ((Below.heap_setCell _ _ _ _ HRR.out).trans ((Below.heap_setCell _ _ _ _ HRR.out).trans ((Below.heap_setCell _ _ _ _ HRR.out).trans HE8.out.rd)))))
                clear HE8
                go_wp2
                generalize (((((w8.setCell ⟨x, 0, none⟩ (.string k)).setCell ⟨x, 1, none⟩ (.int .i64 q0)).setCell ⟨x, 2, none⟩ (.bool false)).setCell ⟨x, 3, none⟩ (.string v)).setCell ⟨x, 4, none⟩ (.int .i64 (m - 1))) = wz at HX9 HG9 HR9 ⊢
                have d0 : wz.cell? ⟨x, 0, none⟩ = some (.string k) := cell_of_row _ _ _ _ _ _ HX9.out
                have d1 : wz.cell? ⟨x, 1, none⟩ = some (.int .i64 q0) := cell_of_row _ _ _ _ _ _ HX9.out
                have d2 : wz.cell? ⟨x, 2, none⟩ = some (.bool false) := cell_of_row _ _ _ _ _ _ HX9.out
                have d3 : wz.cell? ⟨x, 3, none⟩ = some (.string v) := cell_of_row _ _ _ _ _ _ HX9.out
                have d4 : wz.cell? ⟨x, 4, none⟩ = some (.int .i64 (m - 1)) := cell_of_row _ _ _ _ _ _ HX9.out
                refine bodyPost_ret (v := .agg #[.string k, .int .i64 q0, .bool false, .string v, .int .i64 (m - 1)]) (by simp [results, Tryz.results118, go_sem, d0, d1, d2, d3, d4]) rfl ⟨HG9.out, ?_⟩
                rw [HF.out]
                exact ⟨rfl, HR9.out⟩
              · have HF : Hid (X = .error G) := Lib.hid (by rw [HX1.out, if_neg h0])
                go_wp2_with fail
                refine (leave_bad G _ h0).mono ?_
                rintro e w9 ⟨rfl, rfl⟩
                exact ⟨rfl, HE8.out.gr, by rw [HF.out]⟩
end Go.Proofs.YtnglaolbfpdgoaaGreat

