/- A strings.Builder beside rows of other elements: what a write leaves as it is (taken over from stage 11). -/
import Derived.Test.YtfodbblcflolgaaBu
namespace Go.Proofs.Ytfodbblcflolgaa
open Go.RowKit

theorem Bld.kept {B b : Nat} {l : List UInt8} {w w' : World} (h : Bld B b l w) (hb : Below w.heap.size w w') : Bld B b l w' := by
  have hat : ∀ p, Lib.BuilderAt 104 5 B b p (Lib.byteCells l) w → Lib.BuilderAt 104 5 B b p (Lib.byteCells l) w' := fun p ⟨h1, v, h2, h3, h4⟩ =>
    ⟨h1, v, (hb.block b (Array.getElem?_eq_some_iff.1 h2).1).trans h2, own_below h3 hb, h4⟩
  rcases h with h | h
  · exact Or.inl (hat _ h)
  · exact Or.inr (hat _ h)

/-- all rows but those of bytes and of builders are as they were -/
def ApartB (w w' : World) : Prop := ∀ (k : Nat) (cs : Array Value) (t : TypeId) (fr : Nat × Nat), w.heap[k]? = some (.cells cs t fr) → t ≠ 5 → t ≠ 104 → w'.heap[k]? = some (.cells cs t fr)

theorem ApartB.refl (w : World) : ApartB w w := fun _ _ _ _ h _ _ => h
theorem ApartB.trans {a b c : World} (h : ApartB a b) (k : ApartB b c) : ApartB a c := fun i cs t fr hi h1 h2 => k i cs t fr (h i cs t fr hi h1 h2) h1 h2
theorem ApartB.below {w w' : World} (h : Below w.heap.size w w') : ApartB w w' := fun i _ _ _ hi _ _ => (h.block i (Array.getElem?_eq_some_iff.1 hi).1).trans hi
theorem apart_set2 {w : World} {b : Nat} {cs : Array Value} {fr : Nat × Nat} (h : w.heap[b]? = some (.cells cs 104 fr)) (j : Nat) (u : Value) : ApartB w (w.setCell ⟨b, j, none⟩ u) := fun i cs' t fr' hi _ h2 =>
  (Below.heap_setCell _ _ _ _ (by
    show i ≠ b
    intro he
    rw [he, h] at hi
    injection hi with hi
    injection hi with _ ht
    exact h2 ht.symm)).trans hi
theorem apart_set {B b : Nat} {p : Value} {bs : List Value} {w : World} (h : Lib.BuilderAt 104 5 B b p bs w) (j : Nat) (u : Value) : ApartB w (w.setCell ⟨b, j, none⟩ u) := by
  obtain ⟨-, v, hb, -, -⟩ := h
  exact apart_set2 hb j u
theorem apart_grown {w w' : World} {base : Nat} {v : Value} {n : Nat} {xs : List Value} (h : w.ownsRow base 5 1 v n xs) (hg : w.grownBy w' v.ownBlock) : ApartB w w' := fun i cs t fr hi h1 _ =>
  (hg.block i (Array.getElem?_eq_some_iff.1 hi).1 (by
    intro he
    rcases h.2 with ⟨rfl, _⟩ | ⟨g, cap, cur, rfl, _, hgg, _⟩
    · simp [Value.ownBlock] at he
    · simp only [Value.ownBlock, Option.some.injEq] at he
      rw [← he] at hgg
      rw [hi] at hgg
      injection hgg with hgg
      injection hgg with _ ht
      exact h1 ht)).trans hi
/-- a row of other elements stays the call's own -/
theorem own_apartB {w w' : World} {base : Nat} {e : TypeId} {size : Nat} {v : Value} {n : Nat} {xs : List Value} (h : w.ownsRow base e size v n xs) (ha : ApartB w w') (h1 : e ≠ 5) (h2 : e ≠ 104) : w'.ownsRow base e size v n xs := by
  refine ⟨h.1, ?_⟩
  rcases h.2 with hn | ⟨g, cap, cur, rfl, hb, hg, rest⟩
  · exact .inl hn
  · exact .inr ⟨g, cap, cur, rfl, hb, ha g _ _ _ hg h1 h2, rest⟩
/-- a builder stays what it is where a row of other elements grows -/
theorem bld_grown {B b : Nat} {l : List UInt8} {w w' : World} {base : Nat} {e : TypeId} {size : Nat} {v : Value} {n : Nat} {xs : List Value} (h : Bld B b l w) (ho : w.ownsRow base e size v n xs) (hg : w.grownBy w' v.ownBlock) (h1 : e ≠ 5) (h2 : e ≠ 104) : Bld B b l w' := by
  have hne : ∀ k cs t fr, w.heap[k]? = some (.cells cs t fr) → t ≠ e → some k ≠ v.ownBlock := by
    intro k cs t fr hk ht he
    rcases ho.2 with ⟨rfl, _⟩ | ⟨g, cap, cur, rfl, _, hgg, _⟩
    · simp [Value.ownBlock] at he
    · simp only [Value.ownBlock, Option.some.injEq] at he
      rw [← he, hk] at hgg
      injection hgg with hgg
      injection hgg with _ ht'
      exact ht ht'
  have key : ∀ p, Lib.BuilderAt 104 5 B b p (Lib.byteCells l) w → Lib.BuilderAt 104 5 B b p (Lib.byteCells l) w' := by
    rintro p ⟨hB, u, hb, hown, hub⟩
    refine ⟨hB, u, (hg.block b (Array.getElem?_eq_some_iff.1 hb).1 (hne b _ _ _ hb (Ne.symm h2))).trans hb, hown.kept hg ?_, hub⟩
    rcases hown.2 with ⟨rfl, _⟩ | ⟨g, cap, cur, rfl, _, hgg, _⟩
    · exact .inl rfl
    · exact .inr (hne g _ _ _ hgg (Ne.symm h1))
  rcases h with h | h
  · exact .inl (key _ h)
  · exact .inr (key _ h)

set_option maxRecDepth 100000 in
theorem copyCheckA_any (B b : Nat) (bs : List Value) (w : World) (h : Lib.IsBuilder 104 5 B b bs w) :
    Calls Try.prog 63 #[.pointer (some ⟨b, 0, none⟩)] w fun e w' => e = .returned (.tuple #[]) ∧ Lib.BuilderAt 104 5 B b (.pointer (some ⟨b, 0, none⟩)) bs w' ∧ Below B w w' ∧ ApartB w w' := by
  have hsm := bld_same w b
  rcases h with h | h
  · obtain ⟨j, hj, hjs⟩ := Option.map_eq_some_iff.1 bld_size
    have hc := h.cell0
    have hz := h.frozen0
    have hv1 : (convert 101 159 (.pointer (some ⟨b, 0, none⟩))).run Try.prog w = .ok (.pointer (some ⟨b, 0, none⟩)) w :=
      Lib.run_to_unsafe w ⟨b, 0, none⟩ Try.underlying101 Try.underlying159 hj (by rw [hjs]; decide) h.shape (Nat.zero_lt_succ 1)
    have hv2 : (convert 159 101 (.pointer (some ⟨b, 0, none⟩))).run Try.prog w = .ok (.pointer (some ⟨b, 0, none⟩)) w :=
      Lib.run_from_unsafe w ⟨b, 0, none⟩ Try.underlying159 Try.underlying101 hj h.shape bld_lies
    have hne : (callFunc 79 #[.pointer (some ⟨b, 0, none⟩)]).run Try.prog w = .ok (.value (.pointer (some ⟨b, 0, none⟩))) w := by
      rw [run_callFunc_extern Try.func79 (by kernel_rfl) (by kernel_rfl) (by kernel_rfl) (e := Extern.AbiNoEscape.same) (by kernel_rfl), Lib.run_noEscape]
      rfl
    go_enter Try.func63, Try.ntmps63
    go_wp2
    go_end0
    exact ⟨rfl, h.used _, (Below.refl B w).setCell (p := ⟨b, 0, none⟩) h.1 _, apart_set h _ _⟩
  · have hc := h.cell0
    go_enter Try.func63, Try.ntmps63
    go_wp2
    go_end0
    exact ⟨rfl, h, Below.refl B _, ApartB.refl _⟩


set_option maxRecDepth 100000 in
set_option maxHeartbeats 1000000 in
theorem writeA_any (B b : Nat) (l m : List UInt8) (w : World) (h : Bld B b l w) (hm : l.length + m.length ≤ 100000000) (hB : B ≤ w.heap.size) :
    Calls Try.prog 39 #[.pointer (some ⟨b, 0, none⟩), .string ⟨m.toArray⟩] w fun e w' => e = .returned (.tuple #[.int .i64 m.length, .nilIface]) ∧ Bld B b (l ++ m) w' ∧ Below B w w' ∧ ApartB w w' := by
  have HC := Lib.hid (copyCheckA_any B b (Lib.byteCells l) w h)
  obtain ⟨i0, hi, hz0, hz1, hz2⟩ := info_parts info_u8
  have hms : (⟨m.toArray⟩ : ByteArray).size = m.length := by show m.toArray.size = _; rw [List.size_toArray]
  obtain ⟨S, hS⟩ : ∃ S : ByteArray, (⟨m.toArray⟩ : ByteArray) = S := ⟨_, rfl⟩
  have HSC : Hid (Lib.byteCells l ++ Lib.strCells S = Lib.byteCells (l ++ m)) := Lib.hid (by rw [← hS, str_cells, cells_app])
  rw [hS] at hms ⊢
  rw [← hms]
  rw [← hms] at hm
  have HMS := Lib.hid hms
  have hll := Lib.byteCells_length l
  obtain ⟨bs, hbs⟩ : ∃ bs, Lib.byteCells l = bs := ⟨_, rfl⟩
  rw [hbs] at HC hll HSC
  have HLL := Lib.hid hll
  clear hbs hS hms h
  go_enter Try.func39, Try.ntmps39
  go_wp2_with fail
  refine HC.out.mono ?_
  rintro e w1 ⟨rfl, h1, hb1, ha1⟩
  obtain ⟨hBb, v, hbk, hown, hne⟩ := h1
  have c0 : w1.cell? ⟨b, 0, none⟩ = some (.pointer (some ⟨b, 0, none⟩)) := by rw [Lib.cell_of_heap hbk]; rfl
  have c1 : w1.cell? ⟨b, 1, none⟩ = some v := by rw [Lib.cell_of_heap hbk]; rfl
  clear hll HC
  go_wp2_with (at_builtin; refine Lib.wpList_append_own_string _ rfl _ _ 102 9 rfl B 5 i0 Try.underlying102 Try.underlying9 hi hz0 hz1 hz2 _ _ _ rfl hown S rfl ?c3 ?c4 ?c5 ?_)
  case c3 => have := HLL.out; unfold maxLen; omega
  case c4 => have := HLL.out; omega
  case c5 => have := hb1.size; omega
  intro v' w2 hown' hgrow _
  have hlt : b < w1.heap.size := (Array.getElem?_eq_some_iff.1 hbk).1
  have hb2 : w2.heap[b]? = some (.cells #[.pointer (some ⟨b, 0, none⟩), v] 104 (0, 0)) := by
    rw [hgrow.block b hlt (fun e => hne e.symm)]
    exact hbk
  have d1 : w2.cell? ⟨b, 1, none⟩ = some v := by rw [Lib.cell_of_heap hb2]; rfl
  have f1 : w2.frozen? ⟨b, 1, none⟩ = false := Lib.frozen_of_heap hb2 1
  have hbel : Below B w w2 := hb1.grown hgrow (by have := hb1.size; omega) (fun k hk => (hown.lt k hk).1)
  have hput : Lib.BuilderAt 104 5 B b (.pointer (some ⟨b, 0, none⟩)) (Lib.byteCells (l ++ m)) (w2.setCell ⟨b, 1, none⟩ v') := by
    rw [← HSC.out]
    exact Lib.BuilderAt.put (T := 104) (e := 5) hBb hb2 (bs' := bs ++ Lib.strCells S) (by simpa [Lib.strCells_length] using hown') (by decide)
  obtain ⟨ao, n', cap, rfl⟩ : ∃ ao n' cap, v' = .slice ao n' cap := by
    rcases hown'.2 with ⟨hv, _⟩ | ⟨g, cap, cur, hv, _⟩
    · exact ⟨_, _, _, hv⟩
    · exact ⟨_, _, _, hv⟩
  have HAP : Hid (ApartB w (w2.setCell ⟨b, 1, none⟩ (.slice ao n' cap))) := Lib.hid ((ha1.trans (apart_grown hown hgrow)).trans (apart_set2 hb2 _ _))
  clear hgrow hown hown' ha1
  go_wp2
  go_ret2
  exact ⟨rfl, Or.inr hput, hbel.setCell (p := ⟨b, 1, none⟩) hBb _, HAP.out⟩

end Go.Proofs.Ytfodbblcflolgaa
