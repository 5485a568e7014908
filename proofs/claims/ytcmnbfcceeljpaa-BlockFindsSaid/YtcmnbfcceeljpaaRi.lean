/- Reading: count. -/
import Derived.Test.YtcmnbfcceeljpaaRd
namespace Go.Proofs.Ytcmnbfcceeljpaa
open Go.RowKit
open SK

namespace BK
/-- how many entries there are said to be -/
def rCount (l : List UInt8) (p : Nat) : Except Int (Int × Nat) :=
  match rNum l p with
  | .error c => .error c
  | .ok (n, q) => if 4096 < n then .error 5 else if n < 0 then .error 4 else .ok (n, q)
theorem get_count (l : List UInt8) : getOut l = match rCount l 0 with
    | .error c => .error c
    | .ok (n, p) => rEnd l (rEnts l n.toNat p []) := by
  unfold getOut rCount
  cases rNum l 0 with
  | error c => rfl
  | ok x =>
    obtain ⟨n, p⟩ := x
    simp only
    split
    · rfl
    · split
      · rfl
      · rfl
theorem count_ok {l : List UInt8} {p q : Nat} {n : Int} (h : rCount l p = .ok (n, q)) : 0 ≤ n ∧ n ≤ 4096 ∧ q ≤ l.length := by
  unfold rCount at h
  cases hn : rNum l p with
  | error c => rw [hn] at h; cases h
  | ok x =>
    obtain ⟨m, b⟩ := x
    rw [hn] at h
    simp only at h
    split at h
    · cases h
    · split at h
      · cases h
      · simp only [Except.ok.injEq, Prod.mk.injEq] at h
        obtain ⟨rfl, rfl⟩ := h
        exact ⟨by omega, by omega, num_le hn⟩
end BK

theorem Out.after {α : Type} {enc : α → Value} {r : Nat} {s : ByteArray} {w w1 w' : World} {x : Except Int (α × Nat)} {e : Ending} (h : Out enc r s w1 x e w') (hg : w.grownBy w1 (some r)) : Out enc r s w x e w' :=
  ⟨grown_trans hg h.1, h.2⟩

set_option maxRecDepth 100000 in
theorem count_any (w : World) (r p : Nat) (s : ByteArray) (h : RdAt w r s p) (hs : s.size ≤ 281474976710656) (hp : p ≤ s.size) :
    Calls Try.prog 44 #[.pointer (some ⟨r, 0, none⟩)] w fun e w' => Out numV r s w (BK.rCount s.data.toList p) e w' := by
  have HN := Lib.hid (number_any w r p s h hs hp)
  unfold BK.rCount
  cases hx : BK.rNum s.data.toList p with
  | error c =>
    rw [hx] at HN
    go_enter Try.func44, Try.ntmps44
    go_wp2_with fail
    refine HN.out.mono ?_
    rintro e w1 ⟨hg, rfl⟩
    exact ⟨rfl, hg, rfl⟩
  | ok x =>
    obtain ⟨n, q⟩ := x
    rw [hx] at HN
    clear hx
    simp only
    by_cases h1 : 4096 < n
    · rw [if_pos h1]
      go_enter Try.func44, Try.ntmps44
      go_wp2_with fail
      refine HN.out.mono ?_
      rintro e w1 ⟨hg, rfl, hr⟩
      simp only [numV]
      go_wp2_with fail
      refine (leave_bad 5 _ (by decide)).mono ?_
      rintro e w2 ⟨rfl, rfl⟩
      exact ⟨rfl, hg, rfl⟩
    · rw [if_neg h1]
      by_cases h2 : n < 0
      · rw [if_pos h2]
        go_enter Try.func44, Try.ntmps44
        go_wp2_with fail
        refine HN.out.mono ?_
        rintro e w1 ⟨hg, rfl, hr⟩
        simp only [numV]
        go_wp2_with fail
        refine (leave_bad 4 _ (by decide)).mono ?_
        rintro e w2 ⟨rfl, rfl⟩
        exact ⟨rfl, hg, rfl⟩
      · rw [if_neg h2]
        go_enter Try.func44, Try.ntmps44
        go_wp2_with fail
        refine HN.out.mono ?_
        rintro e w1 ⟨hg, rfl, hr⟩
        have HG := Lib.hid hg
        have HR := Lib.hid hr
        clear hg hr
        simp only [numV]
        go_wp2
        go_ret
        exact ⟨HG.out, rfl, HR.out⟩


theorem grown_alloc (w : World) (o : Obj) (r : Option Nat) : w.grownBy (w.alloc o) r :=
  ⟨rfl, rfl, rfl, by simp, fun k hk _ => Below.heap_alloc w o k hk⟩
theorem RdAt.grown {w w' : World} {r p : Nat} {s : ByteArray} (h : RdAt w r s p) (hg : w.grownBy w' none) : RdAt w' r s p := (hg.block r h.lt (by simp)).trans h
theorem grown_new {a b : World} {r : Option Nat} (h : a.grownBy b r) (x j : Nat) (u : Value) (hx : a.heap.size ≤ x) : a.grownBy (b.setCell ⟨x, j, none⟩ u) r :=
  ⟨h.os, h.tape, h.output, Nat.le_trans h.size (by simp [World.setCell]), fun k hk hr => (Below.heap_setCell _ _ _ _ (by intro e; subst e; exact absurd hk (by simp; omega))).trans (h.block k hk hr)⟩
theorem EntsIn.grown {w w' : World} {A : Option Addr} {a : List E} {r : Nat} (h : EntsIn w A a) (hg : w.grownBy w' (some r)) (hr : ∀ x ∈ fb A, x ≠ r) : EntsIn w' A a :=
  ⟨h.wf, fun hn => by
    obtain ⟨b, off, hA, hlt, hc⟩ := h.at_ hn
    have hbr : b ≠ r := hr b (by rw [hA]; simp [fb])
    have hblk := hg.block b hlt (by simpa using hbr)
    have hcell : ∀ o, w'.cell? ⟨b, o, none⟩ = w.cell? ⟨b, o, none⟩ := fun o => by simp only [World.cell?, hblk]
    refine ⟨b, off, hA, Nat.lt_of_lt_of_le hlt hg.size, fun j hj => ?_⟩
    obtain ⟨c0, c1, c2, c3, c4⟩ := hc j hj
    exact ⟨(hcell _).trans c0, (hcell _).trans c1, (hcell _).trans c2, (hcell _).trans c3, (hcell _).trans c4⟩⟩
end Go.Proofs.Ytcmnbfcceeljpaa
