/- The document's Pin. -/
import Derived.Test.YtlfhjbilnfkabaaRd
namespace Go.Proofs.Ytlfhjbilnfkabaa
open Go.RowKit Go.Maps
open BM CM

section
variable {w w' : World} {B r rb : Nat} {LA : Option Addr} {lc : Nat} {L : Ls} {s : S}
theorem bcs_set : ∀ (L : Ls) (i : Nat) (_ : i < L.length) (v : Nat), (bcs L).set (i * 4 + 3) (.int .i64 v) = bcs (L.modify i fun x => { x with pins := v })
  | x :: r, 0, _, v => by
    show (bcells x ++ bcs r).set 3 _ = bcells { x with pins := v } ++ bcs r
    simp [bcells]
  | x :: r, i + 1, h, v => by
    show (bcells x ++ bcs r).set ((i + 1) * 4 + 3) _ = bcells x ++ bcs (r.modify i _)
    rw [← bcs_set r i (by simpa using h) v, List.set_append_right _ _ (by simp [bcells]; omega)]
    congr 2
    simp [bcells]; omega
theorem Good.pin (g : Good L s) {i v : Nat} (hv : v ≤ 1000000000) : Good (L.modify i fun x => { x with pins := v }) s := by
  refine ⟨g.ok, ?_, fun x hx => ?_, by rw [List.length_modify]; exact g.len⟩
  · unfold totB
    rw [map_keep (fun x : Blk => cost x.data) (fun x : Blk => { x with pins := v }) (fun _ => rfl)]
    exact g.sum
  · obtain ⟨j, hj, rfl⟩ := List.getElem_of_mem hx
    rw [List.length_modify] at hj
    rw [List.getElem_modify]
    have := g.wf _ (List.getElem_mem hj)
    split
    · exact ⟨this.f, this.b, this.d, hv⟩
    · exact this

theorem modify_pin {b : Int} {i v : Nat} (hi : i < L.length) (hv : ((L[i].pins : Int) + b).toNat = v) : (L.modify i fun x => { x with pins := ((x.pins : Int) + b).toNat }) = L.modify i fun x => { x with pins := v } := by
  apply List.ext_getElem?
  intro j
  rw [List.getElem?_modify, List.getElem?_modify]
  by_cases hij : i = j
  · subst hij
    rw [List.getElem?_eq_getElem hi]
    simp [hv]
  · simp [hij]

set_option maxRecDepth 100000 in
set_option maxHeartbeats 4000000 in
theorem rpin_any (h : RRep w B r rb LA lc L s) (g : Good L s) (f k b : Int) (hb : b = 1 ∨ b = -1) (hp : ∀ x ∈ L, x.pins < 1000000000) :
    Calls Try.prog 29 #[.pointer (some ⟨r, 0, none⟩), .int .i64 f, .int .i64 k, .int .i64 b] w fun e w' => e = .returned (.bool (pinB f k b L).1) ∧ RTurn w w' B r rb LA LA lc (pinB f k b L).2 s ∧ Good (pinB f k b L).2 s := by
  have hfd := rfind_any h f k g.len
  have HREP := Lib.hid h
  have HG := Lib.hid g
  unfold pinB
  cases hf : findB f k L with
  | none =>
    rw [hf] at hfd
    have HFD := Lib.hid hfd
    clear hfd hf h g hp
    go_enter Try.func29, Try.ntmps29
    go_wp2_with fail
    refine HFD.out.mono ?_
    rintro e w1 ⟨rfl, rfl⟩
    go_wp2
    go_ret
    exact ⟨rfl, HREP.out.stay (Below.refl _ _), HG.out⟩
  | some i =>
    have hi : i < L.length := by
      unfold findB at hf
      exact (List.findIdx?_eq_some_iff_getElem.1 hf).1
    rw [hf] at hfd
    have HFD := Lib.hid hfd
    simp only [List.getElem?_eq_getElem hi]
    obtain ⟨n, hn⟩ : ∃ n, L.length = n := ⟨_, rfl⟩
    have hn6 : n ≤ 1000000 := by rw [← hn]; exact g.len
    have c0 := h.c0
    rw [hn] at c0
    obtain ⟨gb, hA, hgl, hc⟩ := h.blks (by omega)
    obtain ⟨-, -, -, z3⟩ := hc i hi
    have hpi := hp _ (List.getElem_mem hi)
    have hil : i < n := by omega
    have HGP := Lib.hid (fun (v : Nat) (hv : v ≤ 1000000000) => g.pin (i := i) hv)
    have HBS := Lib.hid (fun v => bcs_set L i hi v)
    have HMO := Lib.hid (fun v hv => modify_pin (b := b) (v := v) hi hv)
    have HML : Hid (∀ v, (L.modify i fun x => { x with pins := v }).length = n) := Lib.hid fun v => by rw [List.length_modify, hn]
    obtain ⟨x, hx⟩ : ∃ x, L[i] = x := ⟨_, rfl⟩
    rw [hx] at z3 hpi HMO
    simp only [hx]
    obtain ⟨p, hpp⟩ : ∃ p, x.pins = p := ⟨_, rfl⟩
    rw [hpp] at z3 hpi HMO
    simp only [hpp]
    have hd0 : decide ((i : Int) < 0) = false := decide_eq_false (by omega)
    have g0 : (0 : Int) ≤ (i : Int) := by omega
    have g1 : (i : Int) < (n : Int) := by omega
    have hw : IntKind.i64.wrap ((p : Int) + b) = (p : Int) + b := IntWalk.i64_in _ ⟨by omega, by omega⟩
    have hrow := h.row
    rw [hn, hA] at hrow
    have fz := hrow.frozenAt (i * 4 + 3)
    have HST := Lib.hid (fun u => World.ownsRow.stored hrow (i * 4 + 3) u)
    have hap := h.apart
    rw [hA] at c0
    have HA := Lib.hid hA
    have HN := Lib.hid hn
    clear hc hx hpp hf hfd hp hn hA hi hgl
    by_cases hneg : (p : Int) + b < 0
    · have hd : decide ((p : Int) + b < 0) = true := decide_eq_true hneg
      rw [if_pos hneg]
      clear hneg hrow fz hap h g
      go_enter Try.func29, Try.ntmps29
      go_wp2_with fail
      refine HFD.out.mono ?_
      rintro e w1 ⟨rfl, rfl⟩
      go_wp2
      go_ret
      exact ⟨rfl, HREP.out.stay (Below.refl _ _), HG.out⟩
    · have hd : decide ((p : Int) + b < 0) = false := decide_eq_false hneg
      rw [if_neg hneg]
      obtain ⟨v, hv⟩ : ∃ v : Nat, (p : Int) + b = v := ⟨((p : Int) + b).toNat, by omega⟩
      have hvt : ((p : Int) + b).toNat = v := by omega
      rw [HMO.out v hvt]
      have hvb : v ≤ 1000000000 := by omega
      have HEND : Hid (∀ W : World, (∀ q, W.heap[q]? = w.heap[q]?) → W.os = w.os → W.tape = w.tape → W.output = w.output → W.heap.size = w.heap.size → RTurn w (W.setCell ⟨gb, i * 4 + 3, none⟩ (.int .i64 ((p : Int) + b))) B r rb (some ⟨gb, 0, none⟩) (some ⟨gb, 0, none⟩) lc (L.modify i fun x => { x with pins := v }) s) := Lib.hid fun W hW h1 h2 h3 h4 => by
        have hrowW : W.ownsRow B 84 4 (.slice (some ⟨gb, 0, none⟩) n lc) n (bcs L) := own_same hrow (fun q _ => hW q)
        obtain ⟨s1, s2⟩ := World.ownsRow.stored hrowW (i * 4 + 3) (.int .i64 ((p : Int) + b))
        rw [hv] at s1 ⊢
        rw [hv] at s2
        rw [HBS.out v] at s1
        have hh := h.head
        rw [HN.out, HA.out] at hh
        have hapA : r ≠ gb ∧ rb ≠ gb := by
          have := hap
          rw [HA.out] at this
          simp [fb] at this
          exact this.2
        refine ⟨⟨?_, ?_, ?_⟩, ?_, fun q hq => .inl hq⟩
        · rw [HML.out]
          exact ((s2.block r (by rw [h4]; exact (Array.getElem?_eq_some_iff.1 hh).1) (fun e => hapA.1 (by cases e; rfl))).trans (hW r)).trans hh
        · rw [HML.out]; exact s1
        · exact ((s2.block rb (by rw [h4]; exact (Array.getElem?_eq_some_iff.1 h.bud).1) (fun e => hapA.2 (by cases e; rfl))).trans (hW rb)).trans h.bud
        · have ho : Only (rown r rb (some ⟨gb, 0, none⟩)) w W := ⟨h1, h2, h3, Nat.le_of_eq h4.symm, fun q _ _ => hW q⟩
          exact ho.trans (Only.of_grown s2 (Or.inr (Or.inr (by simp [fb]))) : Only (rown r rb (some ⟨gb, 0, none⟩)) W _) (fun _ _ h => h)
      have HRES : Hid (Good (L.modify i fun x => { x with pins := v }) s) := Lib.hid (HGP.out v hvb)
      rw [HA.out]
      obtain ⟨M, hM⟩ : ∃ M, (L.modify i fun x => { x with pins := v }) = M := ⟨_, rfl⟩
      rw [hM] at HEND HRES ⊢
      have f3 : w.frozen? ⟨gb, i * 4 + 3, none⟩ = false := fz
      clear hneg hrow fz hap hv hvt hvb h g hM
      go_enter Try.func29, Try.ntmps29
      go_wp2_with fail
      refine HFD.out.mono ?_
      rintro e w1 ⟨rfl, rfl⟩
      go_wp2_with fail
      go_region
      all_goals
        have ht := HEND.out w (fun _ => rfl) rfl rfl rfl rfl
        have HT := Lib.hid (ht.trans (ht.rep.stay ((Below.refl _ _).drew)))
        clear ht f3 z3 c0
        go_wp2
        go_ret
        exact ⟨rfl, HT.out, HRES.out⟩
end
end Go.Proofs.Ytlfhjbilnfkabaa
