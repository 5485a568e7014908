/- oldest. -/
import Derived.Test.YtlfhjbilnfkabaaCh
import Derived.Deep.LoopGhost
import Derived.LaidEqlPtr
namespace Go.Proofs.Ytlfhjbilnfkabaa
open Go.RowKit Go.Maps
open BM CM

def ptrs (Z : Zs) : List Value := Z.map fun x => .pointer (some ⟨x.1, 0, none⟩)
theorem ptrs_len (Z : Zs) : (ptrs Z).length = Z.length := by simp [ptrs]
theorem ptrs_snoc (Z : Zs) (x : Nat × Blk) : ptrs (Z ++ [x]) = ptrs Z ++ [.pointer (some ⟨x.1, 0, none⟩)] := by simp [ptrs]
theorem info_pblock : (Try.prog.info? 74).map (fun i => (i.zero, i.size, i.bytes)) = some (some (.pointer none), 1, 8) := by kernel_rfl
theorem cell1 (w : World) (v : Value) (t : TypeId) : ∀ j u, [v][j]? = some u → (w.alloc (.cells #[v] t)).cell? ((⟨w.heap.size, 0, none⟩ : Addr).add j) = some u := by
  intro j u hj
  rw [addr_add0, cell_of_row _ _ _ _ _ _ (heap_alloc_new w _)]
  simpa using hj
/-- a slice of values of one cell each, in a block of the call's own -/
def Vals (w : World) (B : Nat) (A : Option Addr) (xs : List Value) : Prop := (xs ≠ [] → ∃ g, A = some ⟨g, 0, none⟩ ∧ B ≤ g ∧ g < w.heap.size ∧ ∀ (j : Nat) x, xs[j]? = some x → w.cell? ⟨g, j, none⟩ = some x)
theorem vals_own {w : World} {base : Nat} {e : TypeId} {v : Value} {n : Nat} {xs : List Value} (h : w.ownsRow base e 1 v n xs) : ∃ A c, v = .slice A n c ∧ Vals w base A xs := by
  have h' := h
  rcases h.2 with ⟨rfl, h0⟩ | ⟨g, cap, cur, rfl, hb, hg, _, _, _, _⟩
  · refine ⟨none, 0, by rw [h0], fun hn => ?_⟩
    have h1 := h.1
    subst h0
    exact absurd (List.length_eq_zero_iff.1 (by omega)) hn
  · refine ⟨some ⟨g, 0, none⟩, cap, rfl, fun _ => ⟨g, rfl, hb, (Array.getElem?_eq_some_iff.1 hg).1, fun j x hj => ?_⟩⟩
    have hc := h'.cells (g := g) rfl j x hj
    rw [addr_add0] at hc
    exact hc
theorem Vals.only {w w' : World} {B : Nat} {A : Option Addr} {xs : List Value} {S : Nat → Prop} (h : Vals w B A xs) (ho : Only S w w') (hS : ∀ g, B ≤ g → g < w.heap.size → ¬ S g) : Vals w' B A xs := fun hn => by
  obtain ⟨g, hA, hB, hlt, hc⟩ := h hn
  refine ⟨g, hA, hB, Nat.lt_of_lt_of_le hlt ho.size, fun j x hj => ?_⟩
  rw [← hc j x hj]
  exact World.cell?_of_block (a := ⟨g, j, none⟩) (ho.block g hlt (hS g hB hlt))
theorem Vals.below {w w' : World} {B : Nat} {A : Option Addr} {xs : List Value} (h : Vals w B A xs) (ho : Below w.heap.size w w') : Vals w' B A xs := h.only (S := fun _ => False) (Only.of_below ho) (fun _ _ _ h => h)

theorem info_block : (Try.prog.info? 76).map (·.size) = some 6 := by kernel_rfl
theorem ptr_same (w : World) (a : Addr) : (binOp .neq 74 (.pointer (some a)) (.pointer (some a))).run Try.prog w = .ok (.bool false) w := by
  obtain ⟨j, hj, -⟩ := Option.map_eq_some_iff.1 info_block
  have h : ∀ d : Nat, (Op.equalIn (d + 1) 74 (.pointer (some a)) (.pointer (some a))).run Try.prog w = .ok true w := fun d => by
    simp [Op.equalIn, run_underlying Try.underlying74, sizeOf, typeInfo, hj, run_sameAddr_same]
  simp only [binOp]
  simp [Op.equal, Op.maxDepth, h 9999]
theorem ptr_other {w : World} {a b : Addr} {ca cb : Array Value} {ta tb : TypeId} (hne : a ≠ b) (ha : w.heap[a.block]? = some (.cells ca ta (0, 0))) (hb : w.heap[b.block]? = some (.cells cb tb (0, 0))) :
    (binOp .neq 74 (.pointer (some a)) (.pointer (some b))).run Try.prog w = .ok (.bool true) w := by
  obtain ⟨j, hj, hjs⟩ := Option.map_eq_some_iff.1 info_block
  have hsz : j.size ≠ 0 := by rw [hjs]; decide
  have h : ∀ d : Nat, (Op.equalIn (d + 1) 74 (.pointer (some a)) (.pointer (some b))).run Try.prog w = .ok false w := fun d => by
    simp [Op.equalIn, run_underlying Try.underlying74, sizeOf, typeInfo, hj, hsz, run_sameAddr_other w hne ha hb]
  simp only [binOp]
  simp [Op.equal, Op.maxDepth, h 9999]

section
variable {w : World} {c z b N : Nat} {Z : Zs} {s : S}
theorem Cor.other (h : Cor w c z b N Z) {x : Nat × Blk} (hx : x ∈ Z) : (binOp .neq 74 (.pointer (some ⟨x.1, 0, none⟩)) (.pointer (some ⟨c, 2, none⟩))).run Try.prog w = .ok (.bool true) w := by
  obtain ⟨o, n, h1⟩ := h.head
  obtain ⟨o', n', h2⟩ := h.blks x hx
  exact ptr_other (by simp) h2 h1
theorem Rep.next (h : Rep w c z b N Z s) {j : Nat} (hj : j < Z.length) : w.cell? ⟨Z[j].1, 5, none⟩ = some (nd c (ads Z) (j + 2)).ptr := by
  have h1 := (h.ring (j + 1) (by rw [ads_len]; omega)).1
  rw [nd_in (by rw [ads_len]; exact hj), ads_get hj, cell_nx] at h1
  simpa using h1
theorem Rep.prev (h : Rep w c z b N Z s) {j : Nat} (hj : j < Z.length) : w.cell? ⟨Z[j].1, 4, none⟩ = some (nd c (ads Z) j).ptr := by
  have h1 := (h.ring j (by rw [ads_len]; omega)).2
  rw [nd_in (by rw [ads_len]; exact hj), ads_get hj, cell_pv] at h1
  simpa using h1
theorem Rep.first (h : Rep w c z b N Z s) : w.cell? ⟨c, 7, none⟩ = some (nd c (ads Z) 1).ptr := by
  have h1 := (h.ring 0 (by omega)).1
  rw [cell_nx] at h1
  simpa [nd] using h1
theorem Rep.last (h : Rep w c z b N Z s) : w.cell? ⟨c, 6, none⟩ = some (nd c (ads Z) Z.length).ptr := by
  have h1 := (h.ring Z.length (by rw [ads_len]; omega)).2
  rw [nd_out (by rw [ads_len]; omega), cell_pv] at h1
  simpa using h1
theorem nd_ptr_in {j : Nat} (hj : j < Z.length) : (nd c (ads Z) (j + 1)).ptr = .pointer (some ⟨Z[j].1, 0, none⟩) := by
  rw [nd_in (by rw [ads_len]; exact hj), ads_get hj]; rfl
theorem nd_ptr_out {j : Nat} (hj : Z.length ≤ j) : (nd c (ads Z) (j + 1)).ptr = .pointer (some ⟨c, 2, none⟩) := by
  rw [nd_out (by rw [ads_len]; omega)]; rfl
theorem tot_take_le (Z : Zs) (j : Nat) : tot (Z.take j) ≤ tot Z := tot_sub (List.take_sublist _ _)

set_option maxRecDepth 100000 in
set_option maxHeartbeats 2000000 in
theorem oldest_any (h : Rep w c z b N Z s) (hlen : Z.length ≤ 1000000) (htot : tot Z ≤ 1099511627776) (e : Int) (fn : FuncId) (caps : Array Value) (m : Blk → Bool)
    (hcf : ∀ W q, (callFunc fn (#[.pointer (some ⟨q, 0, none⟩)] ++ caps)).run Try.prog W = .ok (.enter fn (#[.pointer (some ⟨q, 0, none⟩)] ++ caps)) W)
    (hcall : ∀ W, Below w.heap.size w W → ∀ x ∈ Z, Calls Try.prog fn (#[.pointer (some ⟨x.1, 0, none⟩)] ++ caps) W fun r W' => r = .returned (.bool (m x.2)) ∧ Below W.heap.size W W') :
    Calls Try.prog 43 #[.pointer (some ⟨c, 0, none⟩), .int .i64 e, .func (.func fn) #[] caps] w fun r w' => ∃ A cap,
      r = .returned (.tuple #[.slice A (pkb e m 0 Z).length cap, .int .i64 (tot (pkb e m 0 Z) : Nat)]) ∧ Vals w' w.heap.size A (ptrs (pkb e m 0 Z)) ∧ Below w.heap.size w w' := by
  obtain ⟨i0, hi, hz0, hz1, hz2⟩ := info_parts info_pblock
  obtain ⟨n, hn⟩ : ∃ n, Z.length = n := ⟨_, rfl⟩
  have HN := Lib.hid hn
  have HREP := Lib.hid h
  have HCF := Lib.hid hcf
  have HC := Lib.hid hcall
  have HTOT := Lib.hid htot
  obtain ⟨F, hF⟩ : ∃ F, pkb e m 0 Z = F := ⟨_, rfl⟩
  have HF := Lib.hid hF
  have hfst := h.first
  rw [hF]
  rw [hn] at hlen
  clear h hn hcf hcall htot hF
  go_enter Try.func43, Try.ntmps43
  go_wp2
  go_loopg [6, 7, 8] n (fun k o a p wr => ∃ (j acc : Nat) (P : Zs), j ≤ n ∧ n - j ≤ k ∧ p = (nd c (ads Z) (j + 1)).ptr ∧ a = .int .i64 (acc : Nat) ∧ Hid (acc = tot P) ∧ Hid (F = P ++ pkb e m acc (Z.drop j)) ∧ Hid (acc + tot (Z.drop j) ≤ 1099511627776) ∧ P.length ≤ j ∧ Below w.heap.size w wr ∧ wr.ownsRow w.heap.size 74 1 o P.length (ptrs P))
  case atStart => exact ⟨0, 0, [], by omega, by omega, rfl, rfl, Lib.hid rfl, Lib.hid (by rw [← HF.out]; rfl), Lib.hid (by have := HTOT.out; simpa using this), by simp, Below.refl _ _, by simpa [ptrs] using World.ownsRow_nil _ _ _ _⟩
  case round =>
    obtain ⟨j, acc, P, hj, hk, rfl, rfl, hacc, hF, hT, hP, hbel, hown⟩ := hrel
    have HA := hacc
    have HFR := hF
    have HTR := hT
    have HB := Lib.hid hbel
    have HO := Lib.hid hown
    clear hacc hF hT hbel hown hfst
    by_cases hlt : j < n
    · have hjl : j < Z.length := by rw [HN.out]; exact hlt
      have hr := HREP.out.below HB.out
      have c5 := hr.next hjl
      have hxm : Z[j] ∈ Z := List.getElem_mem hjl
      have c2 := hr.cor.p2 hxm
      have cn := hr.cor.other hxm
      rw [nd_ptr_in hjl]
      have hdr : Z.drop j = Z[j] :: Z.drop (j + 1) := List.drop_eq_getElem_cons hjl
      have hf := HFR.out
      have ht := HTR.out
      rw [hdr, pkb] at hf
      rw [hdr, tot_cons] at ht
      have hwf := hr.cor.wf _ hxm
      have HCX := Lib.hid (fun W hW => HC.out W hW _ hxm)
      obtain ⟨x, hx⟩ : ∃ x, Z[j] = x := ⟨_, rfl⟩
      rw [hx] at c5 c2 cn hf ht HCX hwf ⊢
      obtain ⟨p, hp⟩ : ∃ p, x.1 = p := ⟨_, rfl⟩
      obtain ⟨da, hda⟩ : ∃ da, x.2.data = da := ⟨_, rfl⟩
      have hds := hwf.d
      have hDA := hda
      have HDA := Lib.hid hda
      rw [hp] at c5 c2 cn HCX ⊢
      rw [hda] at c2 hf ht hds
      have HCO := Lib.hid (fun W => cost_any da W hds)
      have HXD := Lib.hid hx
      have HPX := Lib.hid hp
      have hcf := HCF.out
      have hsz := HB.out.size
      obtain ⟨q, hq⟩ : ∃ q, nd c (ads Z) (j + 2) = q := ⟨_, rfl⟩
      have HQ := Lib.hid hq
      rw [hq] at c5
      unfold Nd.ptr at c5
      have HJ : Hid (Z.drop j = x :: Z.drop (j + 1)) := Lib.hid (by rw [hdr, hx])
      clear hr hxm hdr hwf hx hp hda hds hq
      obtain ⟨K, hK⟩ : ∃ K, cost da = K := ⟨_, rfl⟩
      rw [hK] at hf ht HCO
      have HK : Hid (tot (P ++ [x]) = tot P + K) := Lib.hid (by rw [tot_snoc, ← hK, hDA])
      clear hK hDA
      by_cases he : (acc : Int) < e
      · rw [if_pos he] at hf
        have d1 : decide ((acc : Int) < e) = true := decide_eq_true he
        have HCW := Lib.hid (HCX.out wr HB.out)
        cases hm : m x.2
        · rw [hm] at HCW
          simp only [hm, Bool.false_eq_true, if_false] at hf
          have HFN := Lib.hid hf
          have HTN := Lib.hid ht
          clear hf ht HCX HCO
          go_wp2_with fail
          refine HCW.out.mono ?_
          rintro r w1 ⟨rfl, hb1⟩
          have HB1 := Lib.hid (HB.out.trans (hb1.mono hsz))
          have HO1 := Lib.hid (own_below HO.out hb1)
          have c5 := (HREP.out.below HB1.out).next hjl
          rw [HXD.out, HPX.out, HQ.out] at c5
          unfold Nd.ptr at c5
          clear hb1
          go_wp2
          go_roundg (n - (j + 1))
          case measure => omega
          case rel => exact ⟨j + 1, acc, P, by omega, by omega, by rw [HQ.out]; rfl, rfl, HA, HFN, Lib.hid (by have := HTN.out; omega), by omega, HB1.out, HO1.out⟩
        · rw [hm] at HCW
          simp only [hm, if_true] at hf
          have HFN : Hid (F = (P ++ [x]) ++ pkb e m (acc + K) (Z.drop (j + 1))) := Lib.hid (by rw [hf]; simp)
          have HTN := Lib.hid ht
          clear hf ht HCX
          go_wp2_with fail
          refine HCW.out.mono ?_
          rintro r w1 ⟨rfl, hb1⟩
          have HB1 := Lib.hid (HB.out.trans (hb1.mono hsz))
          have HO1 := Lib.hid (own_below HO.out hb1)
          have hsz1 := HB1.out.size
          clear hb1 hsz c5 c2 cn HCW
          go_wp2_with (at_builtin; refine wpList_append_own _ rfl _ _ 96 rfl (w.heap.size) 74 i0 _ 1 8 Try.underlying96 hi hz0 hz1 hz2 rfl (by decide) _ _ _ rfl (own_below HO1.out ((Below.refl _ _).alloc (Nat.le_refl _) _)) ⟨w1.heap.size, 0, none⟩ 1 1 [.pointer (some ⟨p, 0, none⟩)] rfl ?c1 ?c2 ?c3 ?c4 ?c5 ?c6 ?_)
          case c1 => rfl
          case c2 => exact cell1 w1 _ _
          case c3 => intro u hu; simp at hu; rw [hu]; rfl
          case c4 => unfold maxLen; omega
          case c5 => omega
          case c6 => simp; try omega
          intro v' w3 hown3 hgrow hnil
          clear hnil
          have HO3 : Hid (w3.ownsRow w.heap.size 74 1 v' (P ++ [x]).length (ptrs (P ++ [x]))) := Lib.hid (by
            rw [ptrs_snoc, HPX.out, List.length_append]
            exact hown3)
          have HB3 : Hid (Below w.heap.size w w3) := Lib.hid ((HB1.out.alloc hsz1 _).grown hgrow (by simp; omega) (fun g hg => (HO1.out.lt g hg).1))
          have hr3 := HREP.out.below HB3.out
          have c5 := hr3.next hjl
          have c2 := hr3.cor.p2 (x := x) (by rw [← HXD.out]; exact List.getElem_mem hjl)
          rw [HXD.out, HPX.out, HQ.out] at c5
          rw [HPX.out, HDA.out] at c2
          unfold Nd.ptr at c5
          have hw : IntKind.i64.wrap ((acc : Int) + (K : Int)) = ((acc + K : Nat) : Int) := by rw [IntWalk.i64_in _ ⟨by have := HTN.out; omega, by have := HTN.out; omega⟩]; omega
          clear hown3 hgrow hr3
          go_wp2_with fail
          refine (HCO.out _).mono ?_
          rintro r w4 ⟨rfl, rfl⟩
          go_wp2
          go_roundg (n - (j + 1))
          case measure => omega
          case rel => exact ⟨j + 1, acc + K, P ++ [x], by omega, by omega, by rw [HQ.out]; rfl, by go_num, Lib.hid (by rw [HK.out, HA.out]), HFN, Lib.hid (by have := HTN.out; omega), by simp; omega, HB3.out, HO3.out⟩
      · rw [if_neg he, List.append_nil] at hf
        have d1 : decide ((acc : Int) < e) = false := decide_eq_false he
        obtain ⟨A, cap, rfl, hv⟩ := vals_own HO.out
        have HV := Lib.hid hv
        have HAC := Lib.hid HA.out
        clear hv HO ht c5 c2
        subst hf
        go_wp2
        go_ret2
        exact ⟨A, ⟨cap, by simp [go_sem, HAC.out]⟩, HV.out, HB.out⟩
    · have hjn : j = n := by omega
      have hf := HFR.out
      rw [List.drop_eq_nil_of_le (by rw [HN.out]; omega), pkb, List.append_nil] at hf
      rw [nd_ptr_out (by rw [HN.out]; omega)]
      have cn := ptr_same wr ⟨c, 2, none⟩
      obtain ⟨A, cap, rfl, hv⟩ := vals_own HO.out
      have HV := Lib.hid hv
      have HAC := Lib.hid HA.out
      clear hv HO
      subst hf
      go_wp2
      go_ret2
      exact ⟨A, cap, by simp [HAC.out], HV.out, HB.out⟩
end
end Go.Proofs.Ytlfhjbilnfkabaa
