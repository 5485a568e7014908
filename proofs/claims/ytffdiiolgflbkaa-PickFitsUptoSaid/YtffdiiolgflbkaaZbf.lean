/- Texts joined by bundle.py: Ll. -/
import Derived.Test.YtffdiiolgflbkaaZba
import Derived.Test.YtffdiiolgflbkaaZac
import Derived.SizedLaws
import Derived.Deep.CondSized
import Derived.Deep.QuietTactic
import Derived.BigQuiet
import Derived.StillTailTactics

/- VersionLevels: no two tables of a level from 1 on have a key in common. -/
namespace Go.Proofs.Ytffdiiolgflbkaa
open Go.RowKit Go.Maps
open VS
attribute [local go_sem ↓] Go.wp_at_zero Go.wp_at_succ

theorem zeroInt (w : World) : (zeroValue 3).run Try.prog w = .ok (.int .i64 0) w := by kernel_rfl
abbrev OwnI (w : World) (b n : Nat) (D : DataW Unit) : Prop := w.ownsMap Try.prog 2 (plainElem Try.prog 3) b n D

/-- block b is a map that has at each file this fate -/
structure Im (w : World) (b n : Nat) (st : Int → Int) : Prop where
  own : ∃ D, OwnI w b n D ∧ ∀ z, D.atKey (.int .i64 z) (.lit (.int .i64 0)) = .lit (.int .i64 (st z))

theorem Im.made (w : World) : Im (w.alloc (.map #[] 0)) w.heap.size 0 (fun _ => 0) :=
  ⟨⟨_, World.ownsMap_made _ _ _ _, fun _ => rfl⟩⟩
section
variable {w w' : World} {b n : Nat} {st : Int → Int}
theorem Im.lt (h : Im w b n st) : b < w.heap.size := by obtain ⟨D, h1, -⟩ := h.own; exact h1.lt
theorem Im.below (h : Im w b n st) (hb : Below w.heap.size w w') : Im w' b n st := by
  obtain ⟨D, h1, h2⟩ := h.own
  obtain ⟨es, clock, hbk, F, hs, hD⟩ := h1
  exact ⟨⟨D, ⟨es, clock, (hb.block b (Array.getElem?_eq_some_iff.1 hbk).1).trans hbk, F, hs, hD⟩, h2⟩⟩
theorem Im.grown (h : Im w b n st) {r : Option Nat} (hg : w.grownBy w' r) (hr : r ≠ some b) : Im w' b n st := by
  obtain ⟨D, h1, h2⟩ := h.own
  obtain ⟨es, clock, hbk, F, hs, hD⟩ := h1
  exact ⟨⟨D, ⟨es, clock, (hg.block b (Array.getElem?_eq_some_iff.1 hbk).1 hr.symm).trans hbk, F, hs, hD⟩, h2⟩⟩
theorem Im.look (h : Im w b n st) {z : Int} (hz : i64 z) : (Instr.lookup 69 (.map (some b)) (.int .i64 z) false).run Try.prog w = .ok (.int .i64 (st z)) w := by
  obtain ⟨D, h1, h2⟩ := h.own
  obtain ⟨c, hrun, hat, -⟩ := h1.lookup_int keyed64 Try.underlying69 Try.underlying3 (zeroInt w) (keyOf_int_mk Try.underlying2 (wf64 hz))
  rw [hrun]
  rw [h2 z] at hat
  simp only [DataW.lit.injEq, Lit.int.injEq, true_and] at hat
  rw [hat]
theorem Im.put (h : Im w b n st) (hn : n < maxLen) {z : Int} (hz : i64 z) {f : Int} (hf : i64 f) :
    ∃ w', (Instr.mapUpdate 69 (.map (some b)) (.int .i64 z) (.int .i64 f)).run Try.prog w = .ok () w' ∧ Im w' b (n + 1) (fun x => if x = z then f else st x) ∧ w.grownBy w' (some b) := by
  obtain ⟨D, h1, h2⟩ := h.own
  obtain ⟨w', hrun, hown, hg⟩ := h1.update keyed64 Try.underlying69 hn (keyOf_int_mk Try.underlying2 (wf64 hz)) (plainElem_int Try.underlying3 (wf64 hf))
  refine ⟨w', hrun, ⟨⟨_, hown, fun x => ?_⟩⟩, hg⟩
  by_cases hx : x = z
  · subst hx
    rw [if_pos rfl]
    exact Maps.atKey_put_same h1.isMap (by simp [WideAt.IsKeyLit]) _ _
  · rw [if_neg hx, Maps.atKey_put_other (by simpa using hx)]
    exact h2 x
end


namespace VS
theorem lev_facts {v : V} (h : Ok v) {k j : Nat} (hk : k < 4) (hj : j < (lev k v.L).length) :
    ((lev k v.L)[j]).lvl = k ∧ (0 ≤ ((lev k v.L)[j]).file ∧ ((lev k v.L)[j]).file < v.next) ∧ lt ((lev k v.L)[j]).hi ((lev k v.L)[j]).lo = false ∧ ((lev k v.L)[j]).file ∉ files (front v.L k ++ (lev k v.L).take j) := by
  have hf : front v.L 4 = v.L := by rw [front_four]; exact h.levs
  obtain ⟨-, -, h3⟩ := front_get hf hk hj
  have hm : (lev k v.L)[j] ∈ v.L := by
    have : (lev k v.L)[j] ∈ lev k v.L := List.getElem_mem hj
    exact (List.mem_filter.1 this).1
  have hfi := h.fine _ hm
  unfold fine at hfi
  simp only [Bool.and_eq_true, decide_eq_true_eq, Bool.not_eq_true'] at hfi
  refine ⟨h3, ⟨hfi.1.2.2.1, hfi.1.2.2.2.1⟩, hfi.2, fun hmem => ?_⟩
  obtain ⟨r, hr⟩ := front_split v.L hk
  rw [hf] at hr
  have hu := h.uniq
  rw [hr] at hu
  have hsp : lev k v.L = (lev k v.L).take j ++ (lev k v.L)[j] :: (lev k v.L).drop (j + 1) := by
    rw [← List.drop_eq_getElem_cons hj, List.take_append_drop]
  have he : files (front v.L k ++ lev k v.L ++ r) = files (front v.L k ++ (lev k v.L).take j) ++ ((lev k v.L)[j]).file :: files ((lev k v.L).drop (j + 1) ++ r) := by
    have e := congrArg (fun q => files (front v.L k ++ q ++ r)) hsp
    rw [e]
    simp only [files, List.map_append, List.map_cons, List.append_assoc, List.cons_append]
  rw [he] at hu
  have := (List.nodup_append.1 hu).2.2 _ hmem _ (List.mem_cons_self ..)
  exact this rfl
theorem lev_next {v : V} (h : Ok v) {k j : Nat} (hk : k < 4) (hj : j + 1 < (lev k v.L).length) :
    (k = 0 → ((lev k v.L)[j + 1]).file < ((lev k v.L)[j]).file) ∧ (0 < k → lt ((lev k v.L)[j]).hi ((lev k v.L)[j + 1]).lo = true) := by
  have h1 := lev_facts h hk (show j < (lev k v.L).length by omega)
  have h2 := lev_facts h hk hj
  have hj0 : j < (lev k v.L).length := by omega
  have hso : (lev k v.L).Pairwise (fun a b => ahead a b = true) := h.order.sublist List.filter_sublist
  have hsa : (lev k v.L).Pairwise (fun a b => ov a b = false) := List.Pairwise.sublist List.filter_sublist h.apart
  have ho := List.pairwise_iff_getElem.1 hso j (j + 1) hj0 hj (Nat.lt_succ_self j)
  have ha := List.pairwise_iff_getElem.1 hsa j (j + 1) hj0 hj (Nat.lt_succ_self j)
  obtain ⟨a, hae⟩ : ∃ a, (lev k v.L)[j] = a := ⟨_, rfl⟩
  obtain ⟨b, hbe⟩ : ∃ b, (lev k v.L)[j + 1] = b := ⟨_, rfl⟩
  rw [hae] at h1 ho ha ⊢
  rw [hbe] at h2 ho ha ⊢
  unfold ahead at ho
  rw [if_pos (by rw [h1.1, h2.1])] at ho
  refine ⟨fun h0 => ?_, fun h0 => ?_⟩
  · rw [if_pos (by rw [h1.1, h0]; rfl)] at ho
    simpa using ho
  · rw [if_neg (by rw [h1.1]; omega)] at ho
    unfold ov at ha
    have e : decide (0 < a.lvl ∧ a.lvl = b.lvl) = true := decide_eq_true ⟨by rw [h1.1]; omega, by rw [h1.1, h2.1]⟩
    rw [e, Bool.true_and] at ha
    have hna : lt b.hi a.lo = false := by
      cases hc : lt b.hi a.lo with
      | false => rfl
      | true =>
        have := lt_trans hc ho
        rw [h2.2.2.1] at this
        cases this
    rw [hna] at ha
    simpa using ha
end VS
end Go.Proofs.Ytffdiiolgflbkaa

