/- makeRoom, Shrink, Drop. -/
import Derived.Test.YtlfhjbilnfkabaaCj
namespace Go.Proofs.Ytlfhjbilnfkabaa
open Go.RowKit Go.Maps
open BM CM

theorem cf_enter {P : Program} {f : FuncId} {fn : Func} (hf : P.funcs[f]? = some fn) (hname : (fn.name == "runtime.NumGoroutine") = false) (hb : fn.body.isSome = true) (args : Array Value) (w : World) : (callFunc f args).run P w = .ok (.enter f args) w := by
  have h1 : fn.name ≠ "runtime.NumGoroutine" := by simpa using hname
  obtain ⟨c, hc⟩ := Option.isSome_iff_exists.1 hb
  simp [callFunc, hf, h1, hc]

namespace CM
def loose (x : Blk) : Bool := x.pins == 0
def ofFile (f : Int) (x : Blk) : Bool := x.file == f
/-- so many bytes are given back, if they can be -/
def shr (n : Int) (Z : Zs) (s : S) : Bool × Zs × S :=
  let P := pkb (max n 0 - left s) loose 0 Z
  if (tot P : Int) < max n 0 - left s then (false, Z, s) else (true, gone Z P, rels s P)
def drp (f : Int) (Z : Zs) (s : S) : Zs × S :=
  let P := pkb 9223372036854775807 (ofFile f) 0 Z
  (gone Z P, rels s P)
end CM

section
variable {w : World} {c z b N : Nat} {Z : Zs} {s : S}
theorem Rep.own_lt (h : Rep w c z b N Z s) : ∀ g, own c z b Z g → g < w.heap.size := by
  rintro g (rfl | rfl | rfl | hm)
  · exact h.cor.lt_c
  · exact h.cor.lt_z
  · exact (Array.getElem?_eq_some_iff.1 h.bud).1
  · obtain ⟨x, hx, rfl⟩ := mem_ads.1 hm
    exact h.cor.lt_p hx
theorem pkb_in {e : Int} {m : Blk → Bool} {a : Nat} {x : Nat × Blk} (h : x ∈ pkb e m a Z) : x ∈ Z := (List.mem_filter.1 ((pkb_sub e m a Z).subset h)).1
theorem pkb_nodup {e : Int} {m : Blk → Bool} {a : Nat} (h : (ads Z).Nodup) : (ads (pkb e m a Z)).Nodup := h.sublist (((pkb_sub e m a Z).trans List.filter_sublist).map _)
theorem pkb_len (e : Int) (m : Blk → Bool) (a : Nat) : (pkb e m a Z).length ≤ Z.length := ((pkb_sub e m a Z).trans List.filter_sublist).length_le
theorem Rep.tot_le (h : Rep w c z b N Z s) : tot Z ≤ 1099511627776 := by
  have h0 := h.sum
  obtain ⟨p0, p1, p2, p3, uh, h1, h2⟩ := h.ok
  unfold S.used at uh
  omega
theorem left_range (ok : Ok s) : 0 ≤ left s ∧ left s ≤ 1099511627776 := by
  obtain ⟨p0, p1, p2, p3, uh, h1, h2⟩ := ok
  unfold left
  unfold S.used at uh ⊢
  omega

theorem loose_any {x : Nat × Blk} (h : Cor w c z b N Z) (hx : x ∈ Z) : Calls Try.prog 58 #[.pointer (some ⟨x.1, 0, none⟩)] w fun r w' => r = .returned (.bool (loose x.2)) ∧ w = w' := by
  have c3 := h.p3 hx
  obtain ⟨v, hv⟩ : ∃ v, x.2.pins = v := ⟨_, rfl⟩
  have hl : loose x.2 = decide (v = 0) := by unfold loose; rw [hv]; rfl
  rw [hv] at c3
  rw [hl]
  clear hl hv hx h
  by_cases h0 : v = 0
  · subst h0
    go_enter Try.func58, Try.ntmps58
    go_wp2
    go_ret
    exact ⟨rfl, rfl⟩
  · have hd : ((v : Int) == 0) = false := beq_eq_false_iff_ne.2 (by omega)
    rw [decide_eq_false h0]
    go_enter Try.func58, Try.ntmps58
    go_wp2
    go_ret
    exact ⟨rfl, rfl⟩

set_option maxRecDepth 100000 in
set_option maxHeartbeats 2000000 in
theorem room_any (h : Rep w c z b N Z s) (hlen : Z.length ≤ 1000000) (n : Int) (hn : i64 n) :
    Calls Try.prog 39 #[.pointer (some ⟨c, 0, none⟩), .int .i64 n] w fun r w' => r = .returned (.bool (shr n Z s).1) ∧ Rep w' c z b N (shr n Z s).2.1 (shr n Z s).2.2 ∧ Only (own c z b Z) w w' := by
  have HREP := Lib.hid h
  have c0 := h.cor.c0
  have HLF := Lib.hid (left_any h.bud h.ok)
  have HOK := Lib.hid h.ok
  have HSH : Hid (shr n Z s = if (tot (pkb (max n 0 - left s) loose 0 Z) : Int) < max n 0 - left s then (false, Z, s) else (true, gone Z (pkb (max n 0 - left s) loose 0 Z), rels s (pkb (max n 0 - left s) loose 0 Z))) := Lib.hid rfl
  obtain ⟨R, hR⟩ : ∃ R, shr n Z s = R := ⟨_, rfl⟩
  rw [hR] at HSH ⊢
  obtain ⟨M, hM⟩ : ∃ M, max n 0 = M := ⟨_, rfl⟩
  rw [hM] at HSH
  have HTO := Lib.hid h.tot_le
  obtain ⟨L, hL⟩ : ∃ L, left s = L := ⟨_, rfl⟩
  rw [hL] at HSH
  have hL' : s.lim - s.used = L := hL
  rw [hL'] at HLF
  have hLb : 0 ≤ L ∧ L ≤ 1099511627776 := by have := left_range h.ok; rw [hL] at this; exact this
  have hMb : 0 ≤ M ∧ M ≤ 9223372036854775807 := by unfold i64 at hn; omega
  have hw : IntKind.i64.wrap (M - L) = M - L := IntWalk.i64_in _ ⟨by omega, by omega⟩
  have HMN : Hid (max n 0 = M) := Lib.hid hM
  clear h hR hM hL hL' hn
  go_enter Try.func39, Try.ntmps39
  go_wp2_with fail
  simp only [HMN.out]
  refine HLF.out.mono ?_
  rintro r w1 ⟨rfl, hb1⟩
  have H1 := Lib.hid (HREP.out.below hb1)
  have HO1 : Hid (Only (own c z b Z) w w1) := Lib.hid (Only.of_below hb1)
  obtain ⟨e, he⟩ : ∃ e, M - L = e := ⟨_, rfl⟩
  have hw2 : IntKind.i64.wrap (M - L) = e := hw.trans he
  rw [he] at HSH
  clear hw
  clear hb1 c0 he hLb hMb
  obtain ⟨P, hP⟩ : ∃ P, pkb e loose 0 Z = P := ⟨_, rfl⟩
  rw [hP] at HSH
  have hol := oldest_any H1.out hlen HTO.out e 58 #[] loose
    (fun W q => cf_enter Try.func58 (by kernel_rfl) (by kernel_rfl) _ W)
    (fun W hW x hx => (loose_any (H1.out.below hW).cor hx).mono fun r W' ⟨h1, h2⟩ => ⟨h1, by rw [← h2]; exact Below.refl _ _⟩)
  rw [hP] at hol
  have HOL := Lib.hid hol
  have HPP : Hid ((∀ x ∈ P, x ∈ Z) ∧ (ads P).Nodup ∧ P.length ≤ 1000000 ∧ tot P ≤ 1099511627776) := Lib.hid (by
    rw [← hP]
    exact ⟨fun x hx => pkb_in hx, pkb_nodup HREP.out.cor.nodup, Nat.le_trans (pkb_len _ _ _) hlen, Nat.le_trans (tot_sub ((pkb_sub e loose 0 Z).trans List.filter_sublist)) HTO.out⟩)
  clear hol hP
  go_wp2_with fail
  refine HOL.out.mono ?_
  rintro r w2 ⟨A, cap, rfl, hv, hb2⟩
  have H2 := Lib.hid (H1.out.below hb2)
  have HO2 : Hid (Only (own c z b Z) w w2) := Lib.hid (HO1.out.trans (Only.of_below hb2 : Only (own c z b Z) w1 w2) (fun _ _ h => h))
  have HFG := Lib.hid (forget_any H2.out P HPP.out.1 HPP.out.2.1 HPP.out.2.2.1 A cap w1.heap.size hv H1.out.own_lt)
  clear hv hb2 HOL
  have htp := HPP.out.2.2.2
  by_cases hlt : (tot P : Int) < e
  · have hd : decide ((tot P : Int) < e) = true := decide_eq_true hlt
    have hs := HSH.out
    rw [if_pos hlt] at hs
    subst hs
    clear HSH hlt
    go_wp2
    go_ret
    exact ⟨rfl, H2.out, HO2.out⟩
  · have hd : decide ((tot P : Int) < e) = false := decide_eq_false hlt
    have hs := HSH.out
    rw [if_neg hlt] at hs
    subst hs
    clear HSH hlt
    go_wp2_with fail
    refine HFG.out.mono ?_
    rintro r w3 ⟨rfl, h3, ho3⟩
    have H3 := Lib.hid h3
    have HO3 : Hid (Only (own c z b Z) w w3) := Lib.hid (HO2.out.trans ho3 (fun _ _ h => h))
    clear h3 ho3
    go_wp2
    go_ret
    exact ⟨rfl, H3.out, HO3.out⟩
end
end Go.Proofs.Ytlfhjbilnfkabaa
