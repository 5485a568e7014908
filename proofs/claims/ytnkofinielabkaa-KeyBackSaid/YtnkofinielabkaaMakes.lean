/- KeyMakes: every parts have the document's key, or its error; numbers and texts are made as it says. For every list of parts. -/
import Derived.Test.YtnkofinielabkaaTwo
import Derived.Test.YtnkofinielabkaaOpen
import Derived.Test.YtnkofinielabkaaLaw
import Derived.Test.YtnkofinielabkaaRef
import Derived.Laws.StructEq
import Derived.Deep.RegionHeld3
import Derived.Deep.DrawnRows
namespace Go.Proofs.Ytnkofinielabkaa
open Go.ChangeShapes Go.WideShapes Go.ChangeAt Go.RowKit

/-- a row that the call owns, as a slice of parts -/
theorem parts_of_own {w : World} {base : Nat} {e : TypeId} {v : Value} {n : Nat} {l : List KM.KP} (hr : ∀ q ∈ l, -9223372036854775808 ≤ q.n ∧ q.n ≤ 9223372036854775807) (hn : l.length = n) (h : w.ownsRow base e 3 v n (partCells l)) :
    ∃ A c, v = .slice A n c ∧ PartsIn w w.heap.size A l := by
  subst hn
  have h' := h
  rcases h.2 with ⟨rfl, h0⟩ | ⟨g, cap, cur, rfl, _, hg, _, _, _, _⟩
  · exact ⟨none, 0, by rw [h0], hr, fun hn => by omega⟩
  · refine ⟨some ⟨g, 0, none⟩, cap, rfl, hr, fun _ => ⟨g, 0, rfl, (Array.getElem?_eq_some_iff.1 hg).1, fun j hj => ?_⟩⟩
    have hcell : ∀ i x, i < 3 → (cells3 l[j])[i]? = some x → w.cell? ⟨g, 0 + j * 3 + i, none⟩ = some x := by
      intro i x hi hx
      have hc := h'.cells (g := g) rfl (j * 3 + i) x (by
        have : ∀ (l : List KM.KP) (j : Nat) (hj : j < l.length), (cells3 l[j])[i]? = some x → (partCells l)[j * 3 + i]? = some x := by
          intro l
          induction l with
          | nil => intro j hj; simp at hj
          | cons p l ih =>
            intro j hj hx
            have e : partCells (p :: l) = cells3 p ++ partCells l := by simp [partCells]
            rw [e]
            cases j with
            | zero =>
              rw [List.getElem?_append_left (by simp [cells3]; omega)]
              simpa using hx
            | succ j =>
              rw [List.getElem?_append_right (by simp [cells3]; omega)]
              have := ih j (by simpa using hj) (by simpa using hx)
              rw [← this]
              congr 1
              simp [cells3]
              omega
        exact this l j hj hx)
      rw [addr_add0] at hc
      rw [show 0 + j * 3 + i = j * 3 + i by omega]
      exact hc
    exact ⟨hcell 0 _ (by omega) rfl, hcell 1 _ (by omega) rfl, hcell 2 _ (by omega) rfl⟩

theorem part_neq (W : World) (t : Bool) (n : Int) (s : ByteArray) : (binOp .neq 34 (.agg #[.bool t, .int .i64 n, .string s]) (.agg #[.bool t, .int .i64 n, .string s])).run Try.prog W = .ok (.bool false) W := by
  have ub := Try.underlying4
  have ui := Try.underlying2
  have us := Try.underlying9
  rw [run_neq_struct, run_equalIn_agg W 9999 34 _ _ (by kernel_rfl) (by kernel_rfl)]
  unfold Program.fieldsOf
  rw [Try.underlying34]
  have e0 : ∀ W, (Go.part 4 #[.bool t, .int .i64 n, .string s] 0).run Try.prog W = .ok (.bool t) W := fun W => by simp [Go.part, isAgg, run_underlying ub]
  have e1 : ∀ W, (Go.part 2 #[.bool t, .int .i64 n, .string s] 1).run Try.prog W = .ok (.int .i64 n) W := fun W => by simp [Go.part, isAgg, run_underlying ui]
  have e2 : ∀ W, (Go.part 9 #[.bool t, .int .i64 n, .string s] 2).run Try.prog W = .ok (.string s) W := fun W => by simp [Go.part, isAgg, run_underlying us]
  simp [Op.eqFields, e0, e1, e2, run_equalIn_bool' _ _ _ _ _ ub, run_equalIn_int _ _ _ _ _ _ _ ui, run_equalIn_string _ _ _ _ _ us, Result.andThen]

theorem part_guard (W : World) (x y : Operand) (xs ys : Array Value) : (eqGuard .neq 34 x y (.agg xs) (.agg ys)).run Try.prog W = .ok () W :=
  run_eqGuard_agg W _ _ _ _ _ _ (by kernel_rfl)

namespace lawMakes
attribute [local go_sem ↓] Go.wp_at_zero Go.wp_at_succ

set_option maxRecDepth 100000 in
set_option maxHeartbeats 1000000 in
theorem walk (A : Option Addr) (n cap : Nat) (l : List KM.KP) (w : World) (hn : l.length = n) (hz : PartsIn w w.heap.size A l) (hb : n * 32 ≤ reachBytes) (hs : ∀ q ∈ l, q.s.size ≤ reachBytes) :
    Calls Try.prog 3 #[.slice A n cap] w fun e w' => e = .returned (.bool true) ∧ Below w.heap.size w w' := by
  unfold reachBytes at hb hs
  have HS := Lib.hid hs
  have HL := Lib.hid (lists_any A n cap l w hn hz (by omega))
  have HN := Lib.hid hn
  have HZ := Lib.hid hz
  clear hs hn hz
  go_enter Try.func3, Try.ntmps3
  go_wp2_with fail
  refine HL.out.mono ?_
  rintro e w1 ⟨a, b, rfl, hT⟩
  obtain ⟨A1, c1, rfl, hz1⟩ := parts_of_own HZ.out.1 HN.out hT.own1
  obtain ⟨A2, c2, rfl, hz2⟩ := parts_of_own HZ.out.1 HN.out hT.own2
  have HB1 := Lib.hid hT.below
  have HM1 := Lib.hid (make_any A1 n c1 l w1 HN.out hz1 (by omega))
  have HZ2 := Lib.hid hz2
  have hs1 := hT.below.size
  clear hT hz1 hz2
  go_wp2_with fail
  refine HM1.out.mono ?_
  rintro e w2 ⟨rfl, hB2⟩
  have HM2 := Lib.hid (rmake_any A2 n c2 l w2 HN.out ((HZ2.out.below hB2).more hB2.size) (by omega))
  have HB2 := Lib.hid (HB1.out.trans (hB2.mono hs1))
  have hs2 := hB2.size
  obtain ⟨t, c, hmk⟩ : ∃ t c, KM.mk l = (t, c) := ⟨_, _, rfl⟩
  rw [hmk] at HM2 ⊢
  clear hB2 hmk
  go_wp2_with fail
  refine HM2.out.mono ?_
  rintro e w3 ⟨rfl, hB3⟩
  have HB3 := Lib.hid (HB2.out.trans (hB3.mono (by omega)))
  have hs3 := hB3.size
  clear hB3
  go_wp2_with fail
  go_loopw [28] (fun i wr => ∃ k : Nat, k ≤ n ∧ i = .int .i64 k ∧ Below w.heap.size w wr) (fun i _ => n - (intOf i).toNat)
  case atStart => exact ⟨0, by omega, rfl, HB3.out⟩
  case round =>
    obtain ⟨k, hk, rfl, hB⟩ := hrel
    have hBs := hB.size
    by_cases hlt : k < n
    · have hkl : k < l.length := by rw [HN.out]; exact hlt
      obtain ⟨b, off, hA, hbl, hc⟩ := (HZ.out.below hB).2 (by omega)
      obtain ⟨hc0, hc1, hc2⟩ := hc k hkl
      obtain ⟨p, hp⟩ : ∃ p, l[k] = p := ⟨_, rfl⟩
      have hsz := HS.out p (by rw [← hp]; exact List.getElem_mem hkl)
      rw [hp] at hc0 hc1 hc2
      have HB := Lib.hid hB
      clear hc hp hB
      subst hA
      have hB4 : Below wr.heap.size wr wr := Below.refl _ _
      have hB5 : Below wr.heap.size wr wr := Below.refl _ _
      have hq1 := fun W => part_neq W false p.n ⟨#[]⟩
      have hq2 := fun W => part_neq W true 0 p.s
      go_wp2_with fail
      go_region_held3 (fun w' => w'.cell? ⟨wr.heap.size, 0, none⟩ = some (.bool p.t) ∧ w'.cell? ⟨wr.heap.size, 1, none⟩ = some (.int .i64 p.n) ∧ w'.cell? ⟨wr.heap.size, 2, none⟩ = some (.string p.s))
        (first
          | go_keep
          | (go_split_ands; refine ⟨?_, ?_, ?_⟩ <;> (first | (rw [hB5.cell (by first | (simp; done) | (simp; omega) | omega)]; assumption) | (rw [hB4.cell (by first | (simp; done) | (simp; omega) | omega)]; assumption) | fail))
          | fail)
        (first
          | (go_at_call 11; refine (num_any _ _).mono ?_; rintro e w4 ⟨rfl, hB4⟩; have hs4 : wr.heap.size < w4.heap.size := (by have h := hB4.size; simp at h; omega))
          | (go_at_call 12; refine (text_any _ _ (by omega)).mono ?_; rintro e w5 ⟨rfl, hB5⟩)
          | fail)
      have hBB : Below w.heap.size w w5 := ((HB.out.alloc (by omega) _).drew.trans (hB4.mono (by simp; omega))).trans (hB5.mono (by omega))
      have HBB := Lib.hid hBB
      clear hBB hB4 hB5 hq1 hq2
      go_wp2
      go_roundw
      case rel => exact ⟨k + 1, by omega, by go_num, HBB.out⟩
      case measure => simp [intOf]; omega
    · have HB := Lib.hid hB
      clear hB
      go_wp2_with fail
      refine (wakes_any _).mono ?_
      rintro e w4 ⟨rfl, hB4⟩
      go_wp2
      go_ret
      exact ⟨rfl, HB.out.trans (hB4.mono hBs)⟩

theorem contract (H : Type) (enc : TypeId × Value → H) (W : World) (base : Nat) (args : Array Value) (ds gs : List (DataW H)) (before : List MemPlace)
    (hval : ∀ (j : Nat) t v, Try.f3.params[j]? = some t → args[j]? = some v → Value.okWide Try.prog W .any base t v)
    (hW : DataW.Whole enc Try.prog Try.f3.params.toList Rows.keyMakesSpec.vars false W args.toList ds gs before)
    (hz : (DataW.weightsEach Try.prog Try.f3.params.toList (ds ++ gs)).all (· ≤ reachBytes) = true) :
    Calls Try.prog 3 args W fun e W' => ∃ v, e = .returned v ∧ Rows.keyMakesSpec.post enc Try.prog Try.f3 false true false false W args v W' := by
  have hW' := hW
  obtain ⟨p, q, hA0, hV, rfl, hfz, hnd⟩ := hW
  have hA : DataW.TrodAll enc Try.prog W 0 (fun _ => true) true Try.f3.params.toList args.toList ds p := hA0
  rw [Try.params3] at hA hval hz
  obtain ⟨v0, vs0, d0, ds0, p0, q0, hargs, rfl, rfl, h0, r0⟩ := trodAll_cons hA
  obtain ⟨rfl, rfl, rfl⟩ := trodAll_nil r0
  obtain rfl : args = #[v0] := by cases args; simp_all
  obtain ⟨rfl, rfl⟩ := trodVars_none hV
  obtain ⟨lA, lN, lC, l, rfl, hlenl, hinl, hbl, hsl⟩ := open_parts (hval 0 22 v0 rfl rfl) h0 (parts_sized hz (j := 0) rfl rfl)
  refine (walk lA lN lC l W hlenl hinl hbl hsl).mono fun e W' ⟨he, hB⟩ => ?_
  subst he
  exact ⟨_, rfl, law_post Try.laidOut (by kernel_rfl) rfl rfl Try.underlying4 hW' rfl hB⟩

set_option maxRecDepth 100000 in
theorem lifted (os : Os) (started : os.Started) (H : Type) (enc : TypeId × Value → H) :
    ReturnsInHanded {} Try.checked os 3 .any (Rows.keyMakesSpec.pre6 enc Try.prog Try.f3 Rows.keyMakesRow.domain false) (Rows.keyMakesSpec.post enc Try.prog Try.f3 false true false false) := by
  refine returnsInHanded_of_change_sized (C := Try.checked) Try.own started (by kernel_rfl) Try.func3
    (ChangeSpec.witness6 (enc := enc) (C := Try.checked) false ⟨#[], #[.slice none 0 0], []⟩ 8 (by kernel_rfl) (by kernel_rfl) (by kernel_rfl) (by kernel_rfl)) ?_
  intro W base args ds gs before hval hW _ hz _
  exact contract H enc W base args ds gs before hval hW hz

theorem proved : Rows.KeyMakesSaid :=
  OpenClaim.holds_of_wide 3 Try.f3 rfl rfl rfl rfl rfl rfl rfl ⟨rfl, rfl, rfl, rfl, rfl⟩ rfl rfl rfl rfl rfl (by kernel_rfl) Try.func3 (by kernel_rfl)
    (of_decide_eq_true (by kernel_rfl)) (by unfold Func.isWrapper; first | (rw [if_pos (by decide +kernel)]; kernel_rfl) | (rw [if_neg (by decide +kernel)]; exact ⟨rfl, rfl⟩))
    (fun os started H enc _ => lifted os started H enc)
end lawMakes
end Go.Proofs.Ytnkofinielabkaa
