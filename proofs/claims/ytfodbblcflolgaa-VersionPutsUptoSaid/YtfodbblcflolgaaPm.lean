/- Plain mathematics of an edit's bytes: how they are put, and what is read of bytes. -/
import Derived.Test.YtfodbblcflolgaaLo
import Derived.Test.YtfodbblcflolgaaVarP
import Derived.Test.YtfodbblcflolgaaVarG
namespace Go.Proofs.Ytfodbblcflolgaa
open Go.RowKit
namespace VS

/-! ### put -/
def textL (s : ByteArray) : List UInt8 := VM.enc s.size ++ s.data.toList
def encM (m : M) : List UInt8 := VM.enc m.lvl ++ VM.enc m.file ++ VM.enc m.size ++ textL m.lo ++ textL m.hi
def encMs (l : List M) : List UInt8 := l.flatMap encM
def encE (e : Ed) : List UInt8 := encAll [e.log, e.next, e.seq, (e.drop.length : Int)] ++ encAll e.drop ++ VM.enc e.add.length ++ encMs e.add

theorem textL_len (s : ByteArray) (h : s.size ≤ 140737488351232) : 1 ≤ (textL s).length ∧ (textL s).length ≤ 10 + s.size := by
  have h1 := VM.enc_len (n := (s.size : Int)) (by omega) (by omega)
  have h2 : s.data.toList.length = s.size := by simp
  unfold textL
  rw [List.length_append, h2]
  omega
theorem encM_len {m : M} (h : m.wf) : (encM m).length ≤ 50 * m.wt := by
  have h1 := VM.enc_len h.lvl.1 h.lvl.2
  have h2 := VM.enc_len h.file.1 h.file.2
  have h3 := VM.enc_len h.size.1 h.size.2
  have h4 := textL_len m.lo h.lo
  have h5 := textL_len m.hi h.hi
  unfold encM M.wt
  simp only [List.length_append]
  omega
theorem encMs_snoc (l : List M) (k : Nat) (h : k < l.length) : encMs (l.take (k + 1)) = encMs (l.take k) ++ encM l[k] := by
  rw [List.take_succ_eq_append_getElem h]
  unfold encMs
  rw [List.flatMap_append]
  congr 1
  show encM l[k] ++ [] = _
  rw [List.append_nil]
theorem encMs_len : ∀ (l : List M), (∀ m ∈ l, m.wf) → (encMs l).length ≤ 50 * (l.map M.wt).sum
  | [], _ => by simp [encMs]
  | m :: l, h => by
    have h1 := encMs_len l fun x hx => h x (List.mem_cons_of_mem _ hx)
    have h2 := encM_len (h m (List.mem_cons_self ..))
    have e : encMs (m :: l) = encM m ++ encMs l := by simp [encMs]
    rw [e, List.length_append, List.map_cons, List.sum_cons]
    omega
theorem take_sum : ∀ (l : List M) (k : Nat), ((l.take k).map M.wt).sum ≤ (l.map M.wt).sum
  | [], k => by simp
  | m :: l, 0 => by simp
  | m :: l, k + 1 => by
    have := take_sum l k
    simp only [List.take_succ_cons, List.map_cons, List.sum_cons]
    omega

/-! ### read -/
abbrev RS := Except Int Int
/-- what a reader's state may be -/
def Fair (l : List UInt8) : RS → Prop
  | .ok a => 0 ≤ a ∧ a ≤ (l.length : Int)
  | .error c => 1 ≤ c ∧ c ≤ 5

def rn (l : List UInt8) : RS → Int × RS
  | .error c => (0, .error c)
  | .ok a => if (VM.vget l a).2.2 = 0 then ((VM.vget l a).1, .ok (VM.vget l a).2.1) else (0, .error (VM.vget l a).2.2)
def rbk (most n : Int) : RS → Int × RS
  | .error c => (0, .error c)
  | .ok a => if n < 0 ∨ most < n then (0, .error 4) else (n, .ok a)
def rb (l : List UInt8) (most : Int) (st : RS) : Int × RS := rbk most (rn l st).1 (rn l st).2
def rt (l : List UInt8) : RS → ByteArray × RS
  | .error c => (⟨#[]⟩, .error c)
  | .ok a => if (vtext l a).2.2 = 0 then (⟨(vtext l a).1.toArray⟩, .ok (vtext l a).2.1) else (⟨#[]⟩, .error (vtext l a).2.2)
def rp (l : List UInt8) (st : RS) : M × RS :=
  (⟨(rb l 3 st).1, (rn l (rb l 3 st).2).1, (rn l (rn l (rb l 3 st).2).2).1, (rt l (rn l (rn l (rb l 3 st).2).2).2).1, (rt l (rt l (rn l (rn l (rb l 3 st).2).2).2).2).1⟩, (rt l (rt l (rn l (rn l (rb l 3 st).2).2).2).2).2)
def rds (l : List UInt8) : Nat → RS → List Int × RS
  | 0, st => ([], st)
  | _ + 1, .error c => ([], .error c)
  | n + 1, .ok a => ((rn l (.ok a)).1 :: (rds l n (rn l (.ok a)).2).1, (rds l n (rn l (.ok a)).2).2)
def rps (l : List UInt8) : Nat → RS → List M × RS
  | 0, st => ([], st)
  | _ + 1, .error c => ([], .error c)
  | n + 1, .ok a => ((rp l (.ok a)).1 :: (rps l n (rp l (.ok a)).2).1, (rps l n (rp l (.ok a)).2).2)
def re (l : List UInt8) : Ed × RS :=
  let x0 := rn l (.ok 0)
  let x1 := rn l x0.2
  let x2 := rn l x1.2
  let x3 := rb l 4096 x2.2
  let x4 := rds l x3.1.toNat x3.2
  let x5 := rb l 4096 x4.2
  let x6 := rps l x5.1.toNat x5.2
  (⟨x6.1, x4.1, x0.1, x1.1, x2.1⟩, x6.2)
def noEd : Ed := ⟨[], [], 0, 0, 0⟩
def rgetk (l : List UInt8) (e : Ed) : RS → Ed × Int
  | .error c => (noEd, c)
  | .ok a => if a < (l.length : Int) then (noEd, 4) else (e, 0)
def rget (l : List UInt8) : Ed × Int := rgetk l (re l).1 (re l).2

theorem meas_err (l : List UInt8) : (VM.meas l).2 = 0 ∨ (VM.meas l).2 = 3 ∨ (VM.meas l).2 = 4 := by
  unfold VM.meas
  split
  · simp
  · split
    · simp
    · split
      · simp
      · split <;> simp
theorem vget_err (l : List UInt8) (a : Int) : (VM.vget l a).2.2 = 0 ∨ (VM.vget l a).2.2 = 2 ∨ (VM.vget l a).2.2 = 3 ∨ (VM.vget l a).2.2 = 4 := by
  unfold VM.vget
  split
  · simp
  · split
    · simp
    · have := meas_err (l.drop a.toNat)
      simp only
      omega
theorem i64_zero : i64 0 := ⟨by decide, by decide⟩
theorem vget_i64 {l : List UInt8} {a : Int} (h : (VM.vget l a).2.2 = 0) : i64 (VM.vget l a).1 := by
  obtain ⟨h0, h1, k, -, -, -, hb, h3, h4, -⟩ := VM.vget_ok h
  exact ⟨h3, h4⟩
theorem rn_fair {l : List UInt8} {st : RS} (h : Fair l st) : Fair l (rn l st).2 ∧ i64 (rn l st).1 := by
  cases st with
  | error c => exact ⟨h, i64_zero⟩
  | ok a =>
    unfold rn
    by_cases h0 : (VM.vget l a).2.2 = 0
    · simp only [h0, if_true]
      obtain ⟨-, hp, k, -, -, hk, hb, -⟩ := VM.vget_ok h0
      refine ⟨?_, vget_i64 h0⟩
      show 0 ≤ (VM.vget l a).2.1 ∧ (VM.vget l a).2.1 ≤ (l.length : Int)
      have := h.1
      omega
    · simp only [h0, if_false]
      have := vget_err l a
      refine ⟨?_, i64_zero⟩
      show 1 ≤ (VM.vget l a).2.2 ∧ (VM.vget l a).2.2 ≤ 5
      omega
theorem rn_step {l : List UInt8} {st : RS} {b : Int} (h : (rn l st).2 = .ok b) : ∃ a, st = .ok a ∧ a + 1 ≤ b := by
  cases st with
  | error c => cases h
  | ok a =>
    refine ⟨a, rfl, ?_⟩
    unfold rn at h
    by_cases h0 : (VM.vget l a).2.2 = 0
    · simp only [h0, if_true, Except.ok.injEq] at h
      obtain ⟨-, hp, k, hk1, -, hk, hb, -⟩ := VM.vget_ok h0
      omega
    · simp only [h0, if_false] at h
      cases h
theorem rbk_fair {l : List UInt8} {most n : Int} (hm : 0 ≤ most) {st : RS} (h : Fair l st) : Fair l (rbk most n st).2 ∧ 0 ≤ (rbk most n st).1 ∧ (rbk most n st).1 ≤ most := by
  cases st with
  | error c => exact ⟨h, Int.le_refl _, hm⟩
  | ok a =>
    unfold rbk
    simp only
    split
    · exact ⟨⟨by decide, by decide⟩, Int.le_refl _, hm⟩
    · exact ⟨h, by simp only; omega, by simp only; omega⟩
theorem rbk_step {most n : Int} {st : RS} {b : Int} (h : (rbk most n st).2 = .ok b) : st = .ok b := by
  cases st with
  | error c => cases h
  | ok a =>
    unfold rbk at h
    simp only at h
    split at h
    · cases h
    · exact h
theorem rb_fair {l : List UInt8} {most : Int} (hm : 0 ≤ most) {st : RS} (h : Fair l st) : Fair l (rb l most st).2 ∧ 0 ≤ (rb l most st).1 ∧ (rb l most st).1 ≤ most := rbk_fair hm (rn_fair h).1
theorem rb_step {l : List UInt8} {most : Int} {st : RS} {b : Int} (h : (rb l most st).2 = .ok b) : ∃ a, st = .ok a ∧ a + 1 ≤ b := rn_step (rbk_step h)
theorem vtext_facts {l : List UInt8} {a : Int} : ((vtext l a).2.2 = 0 → 0 ≤ (vtext l a).2.1 ∧ a + ((vtext l a).1.length : Int) + 1 ≤ (vtext l a).2.1 ∧ (vtext l a).2.1 ≤ (l.length : Int) ∧ (vtext l a).1.length ≤ 65535) ∧ ((vtext l a).2.2 ≠ 0 → 1 ≤ (vtext l a).2.2 ∧ (vtext l a).2.2 ≤ 5) := by
  unfold vtext
  by_cases h0 : (VM.vget l a).2.2 = 0
  · obtain ⟨ha, hp, k, hk1, -, hk, hb, -⟩ := VM.vget_ok h0
    simp only [h0, ne_eq, not_true_eq_false, if_false]
    by_cases h1 : (VM.vget l a).1 < 0
    · simp [h1]
    · simp only [h1, if_false]
      by_cases h2 : 65535 < (VM.vget l a).1
      · simp [h2]
      · simp only [h2, if_false]
        by_cases h3 : (l.length : Int) - (VM.vget l a).2.1 < (VM.vget l a).1
        · simp [h3]
        · simp only [h3, if_false, not_true_eq_false, false_implies, and_true, true_implies]
          rw [List.length_take, List.length_drop]
          omega
  · have := vget_err l a
    simp only [h0, ne_eq, not_false_eq_true, if_true]
    exact ⟨fun h => h.elim, fun _ => by omega⟩
theorem rt_fair {l : List UInt8} {st : RS} (h : Fair l st) : Fair l (rt l st).2 ∧ (rt l st).1.size ≤ 65535 := by
  cases st with
  | error c => exact ⟨h, by show (0 : Nat) ≤ _; omega⟩
  | ok a =>
    obtain ⟨h1, h2⟩ := vtext_facts (l := l) (a := a)
    unfold rt
    by_cases h0 : (vtext l a).2.2 = 0
    · simp only [h0, if_true]
      obtain ⟨b1, b2, b3, b4⟩ := h1 h0
      refine ⟨⟨b1, b3⟩, ?_⟩
      show (vtext l a).1.toArray.size ≤ _
      rw [List.size_toArray]; exact b4
    · simp only [h0, if_false]
      exact ⟨h2 h0, by show (0 : Nat) ≤ _; omega⟩
theorem rt_step {l : List UInt8} {st : RS} {b : Int} (h : (rt l st).2 = .ok b) : ∃ a, st = .ok a ∧ a + ((rt l st).1.size : Int) + 1 ≤ b := by
  cases st with
  | error c => cases h
  | ok a =>
    refine ⟨a, rfl, ?_⟩
    obtain ⟨h1, -⟩ := vtext_facts (l := l) (a := a)
    unfold rt at h ⊢
    by_cases h0 : (vtext l a).2.2 = 0
    · simp only [h0, if_true, Except.ok.injEq] at h ⊢
      obtain ⟨b1, b2, b3, b4⟩ := h1 h0
      have : (⟨(vtext l a).1.toArray⟩ : ByteArray).size = (vtext l a).1.length := by show (vtext l a).1.toArray.size = _; rw [List.size_toArray]
      rw [this]
      omega
    · simp only [h0, if_false] at h
      cases h
theorem rp_fair {l : List UInt8} {st : RS} (h : Fair l st) : Fair l (rp l st).2 ∧ (rp l st).1.wf := by
  have h0 := rb_fair (most := 3) (by decide) h
  have h1 := rn_fair h0.1
  have h2 := rn_fair h1.1
  have h3 := rt_fair h2.1
  have h4 := rt_fair h3.1
  exact ⟨h4.1, ⟨⟨by show _ ≤ (rb l 3 st).1; omega, by show (rb l 3 st).1 ≤ _; omega⟩, h1.2, h2.2, Nat.le_trans h3.2 (by decide), Nat.le_trans h4.2 (by decide)⟩⟩
theorem rp_step {l : List UInt8} {st : RS} {b : Int} (h : (rp l st).2 = .ok b) : ∃ a, st = .ok a ∧ a + ((rp l st).1.wt : Int) ≤ b := by
  obtain ⟨a4, h4, k4⟩ := rt_step h
  obtain ⟨a3, h3, k3⟩ := rt_step h4
  obtain ⟨a2, h2, k2⟩ := rn_step h3
  obtain ⟨a1, h1, k1⟩ := rn_step h2
  obtain ⟨a0, h0, k0⟩ := rb_step h1
  refine ⟨a0, h0, ?_⟩
  have e : (rp l st).1.wt = (rt l (rn l (rn l (rb l 3 st).2).2).2).1.size + (rt l (rt l (rn l (rn l (rb l 3 st).2).2).2).2).1.size + 1 := rfl
  rw [e]
  omega
theorem rds_fair {l : List UInt8} : ∀ (n : Nat) {st : RS}, Fair l st → Fair l (rds l n st).2 ∧ (∀ z ∈ (rds l n st).1, i64 z) ∧ (rds l n st).1.length ≤ n
  | 0, st, h => ⟨h, by simp [rds], by simp [rds]⟩
  | n + 1, .error c, h => ⟨h, by simp [rds], by simp [rds]⟩
  | n + 1, .ok a, h => by
    have h1 := rn_fair h
    have h2 := rds_fair n h1.1
    refine ⟨h2.1, fun z hz => ?_, ?_⟩
    · rcases List.mem_cons.1 hz with rfl | hz
      · exact h1.2
      · exact h2.2.1 z hz
    · show ((rn l (.ok a)).1 :: (rds l n (rn l (.ok a)).2).1).length ≤ n + 1
      rw [List.length_cons]; exact Nat.succ_le_succ h2.2.2
theorem rps_fair {l : List UInt8} : ∀ (n : Nat) {st : RS}, Fair l st → Fair l (rps l n st).2 ∧ (∀ m ∈ (rps l n st).1, m.wf) ∧ (rps l n st).1.length ≤ n
  | 0, st, h => ⟨h, by simp [rps], by simp [rps]⟩
  | n + 1, .error c, h => ⟨h, by simp [rps], by simp [rps]⟩
  | n + 1, .ok a, h => by
    have h1 := rp_fair h
    have h2 := rps_fair n h1.1
    refine ⟨h2.1, fun z hz => ?_, ?_⟩
    · rcases List.mem_cons.1 hz with rfl | hz
      · exact h1.2
      · exact h2.2.1 z hz
    · show ((rp l (.ok a)).1 :: (rps l n (rp l (.ok a)).2).1).length ≤ n + 1
      rw [List.length_cons]; exact Nat.succ_le_succ h2.2.2
theorem rps_step {l : List UInt8} : ∀ (n : Nat) {st : RS} {b : Int}, (rps l n st).2 = .ok b → ∃ a, st = .ok a ∧ a + ((((rps l n st).1.map M.wt).sum : Nat) : Int) ≤ b
  | 0, st, b, h => ⟨b, h, by simp [rps]⟩
  | n + 1, .error c, b, h => by cases h
  | n + 1, .ok a, b, h => by
    obtain ⟨a1, h1, k1⟩ := rps_step n (st := (rp l (.ok a)).2) h
    obtain ⟨a0, h0, k0⟩ := rp_step h1
    cases h0
    refine ⟨a, rfl, ?_⟩
    have e : (((rps l (n + 1) (.ok a)).1.map M.wt).sum) = (rp l (.ok a)).1.wt + ((rps l n (rp l (.ok a)).2).1.map M.wt).sum := by
      show ((((rp l (.ok a)).1 :: (rps l n (rp l (.ok a)).2).1)).map M.wt).sum = _
      rw [List.map_cons, List.sum_cons]
    rw [e]
    omega
/-- one more -/
theorem rds_more (l : List UInt8) (n : Nat) (a : Int) : rds l (n + 1) (.ok a) = ((rn l (.ok a)).1 :: (rds l n (rn l (.ok a)).2).1, (rds l n (rn l (.ok a)).2).2) := rfl
theorem rps_more (l : List UInt8) (n : Nat) (a : Int) : rps l (n + 1) (.ok a) = ((rp l (.ok a)).1 :: (rps l n (rp l (.ok a)).2).1, (rps l n (rp l (.ok a)).2).2) := rfl
theorem rds_bad (l : List UInt8) (n : Nat) (c : Int) : rds l n (.error c) = ([], .error c) := by cases n <;> rfl
theorem rps_bad (l : List UInt8) (n : Nat) (c : Int) : rps l n (.error c) = ([], .error c) := by cases n <;> rfl

/-- what an edit that was read is -/
structure EdOk (B : Nat) (e : Ed) : Prop where
  add : ∀ m ∈ e.add, m.wf
  alen : e.add.length ≤ 4096
  drop : ∀ z ∈ e.drop, i64 z
  dlen : e.drop.length ≤ 4096
  log : i64 e.log
  next : i64 e.next
  seq : i64 e.seq
theorem re_fair (l : List UInt8) : Fair l (re l).2 ∧ EdOk l.length (re l).1 := by
  have f0 : Fair l (.ok 0) := ⟨by omega, by omega⟩
  have f1 := rn_fair f0
  have f2 := rn_fair f1.1
  have f3 := rn_fair f2.1
  have f4 := rb_fair (most := 4096) (by decide) f3.1
  have f5 := rds_fair (rb l 4096 (rn l (rn l (rn l (.ok 0)).2).2).2).1.toNat f4.1
  have f6 := rb_fair (most := 4096) (by decide) f5.1
  have f7 := rps_fair (rb l 4096 (rds l (rb l 4096 (rn l (rn l (rn l (.ok 0)).2).2).2).1.toNat (rb l 4096 (rn l (rn l (rn l (.ok 0)).2).2).2).2).2).1.toNat f6.1
  exact ⟨f7.1, ⟨f7.2.1, Nat.le_trans f7.2.2 (by omega), f5.2.1, Nat.le_trans f5.2.2 (by omega), f1.2, f2.2, f3.2⟩⟩
theorem re_sum {l : List UInt8} {b : Int} (h : (re l).2 = .ok b) : (((((re l).1.add.map M.wt).sum : Nat) : Int)) ≤ b := by
  obtain ⟨a, ha, hk⟩ := rps_step _ h
  have f := rb_fair (l := l) (most := 4096) (by decide) (rds_fair (rb l 4096 (rn l (rn l (rn l (.ok 0)).2).2).2).1.toNat (rb_fair (most := 4096) (by decide) (rn_fair (rn_fair (rn_fair (st := .ok 0) (l := l) ⟨by omega, by omega⟩).1).1).1).1).1
  rw [ha] at f
  have f0 : 0 ≤ a := f.1.1
  have e : (re l).1.add = (rps l (rb l 4096 (rds l (rb l 4096 (rn l (rn l (rn l (.ok 0)).2).2).2).1.toNat (rb l 4096 (rn l (rn l (rn l (.ok 0)).2).2).2).2).2).1.toNat (rb l 4096 (rds l (rb l 4096 (rn l (rn l (rn l (.ok 0)).2).2).2).1.toNat (rb l 4096 (rn l (rn l (rn l (.ok 0)).2).2).2).2).2).2).1 := rfl
  rw [e]
  omega
theorem noEd_ok (B : Nat) : EdOk B noEd := ⟨by simp [noEd], by simp [noEd], by simp [noEd], by simp [noEd], i64_zero, i64_zero, i64_zero⟩
theorem rget_ok (l : List UInt8) : EdOk l.length (rget l).1 ∧ ((rget l).1.add.map M.wt).sum ≤ l.length := by
  obtain ⟨h1, h2⟩ := re_fair l
  unfold rget
  cases hs : (re l).2 with
  | error c => exact ⟨noEd_ok _, by simp [rgetk, noEd]⟩
  | ok a =>
    rw [hs] at h1
    unfold rgetk
    simp only
    split
    · exact ⟨noEd_ok _, by simp [noEd]⟩
    · have := re_sum hs
      have := h1.2
      exact ⟨h2, by show ((re l).1.add.map M.wt).sum ≤ _; omega⟩
end VS
end Go.Proofs.Ytfodbblcflolgaa
