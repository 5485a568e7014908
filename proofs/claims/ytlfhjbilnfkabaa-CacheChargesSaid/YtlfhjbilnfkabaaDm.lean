/- Maps by a cache's keys: numbers that are counted up, texts. -/
import Derived.Test.YtlfhjbilnfkabaaDc
import Derived.WideKeyEntry
import Derived.Maps.StringElems
namespace Go.Proofs.Ytlfhjbilnfkabaa
open Go.RowKit Go.Maps Go.ChangeMaps
open BM CM

set_option maxRecDepth 100000 in
theorem keyLawD : WideMaps.KeyLaw Try.prog 42 := deep_law_laid Try.laidOut (m := 2) (by omega) keyRow (by kernel_rfl) keyWide
abbrev OwnI (w : World) (b n : Nat) (D : DataW Unit) : Prop := w.ownsMap Try.prog 42 (plainElem Try.prog 3) b n D
abbrev OwnT (w : World) (b n : Nat) (D : DataW Unit) : Prop := w.ownsMap Try.prog 42 (plainElem Try.prog 9) b n D
theorem zeroInt (w : World) : (zeroValue 3).run Try.prog w = .ok (.int .i64 0) w := by kernel_rfl
theorem zeroText (w : World) : (zeroValue 9).run Try.prog w = .ok (.string ⟨#[]⟩) w := by kernel_rfl
theorem wf64 {v : Int} (h : i64 v) : (Lit.int .i64 v).wf = true := h.wf

theorem lookI {w : World} {b n : Nat} {D : DataW Unit} (h : OwnI w b n D) {f k : Int} (hf : i64 f) (hk : i64 k) {c : Int} (hc : D.atKey (kl f k) (.lit (.int .i64 0)) = .lit (.int .i64 c)) :
    (Instr.lookup 43 (.map (some b)) (keyV f k) false).run Try.prog w = .ok (.int .i64 c) w := by
  obtain ⟨c', hrun, hat, -⟩ := h.lookup_int keyLaw Try.underlying43 Try.underlying3 (zeroInt w) (key_of hf hk)
  rw [hrun]
  rw [hc] at hat
  simp only [DataW.lit.injEq, Lit.int.injEq, true_and] at hat
  rw [hat]

theorem bump_any {w : World} {b n : Nat} {D : DataW Unit} (h : OwnI w b n D) (hn : n < maxLen) {f k : Int} (hf : i64 f) (hk : i64 k) {c : Int} (hc : D.atKey (kl f k) (.lit (.int .i64 0)) = .lit (.int .i64 c)) (v : Int) (hv : i64 v) :
    ∃ (st : Nat) (w1 w2 : World), (Instr.mapEntry 43 (.map (some b)) (keyV f k)).run Try.prog w = .ok (.tuple #[.int .i64 c, .int .i64 st]) w1 ∧
      (Instr.lookup 43 (.map (some b)) (keyV f k) false).run Try.prog w1 = .ok (.int .i64 c) w1 ∧
      (Instr.entryStore 43 (.map (some b)) (.int .i64 st) (.int .i64 v)).run Try.prog w1 = .ok () w2 ∧ OwnI w2 b (n + 1) (D.put (kl f k) (.lit (.int .i64 v))) ∧ w.grownBy w1 (some b) ∧ w.grownBy w2 (some b) := by
  have hL := lookI h hf hk hc
  obtain ⟨es, clock, hb, F, hs, hD⟩ := h
  have hOW : OwnI w b n D := ⟨es, clock, hb, F, hs, hD⟩
  have hkey := key_of hf hk
  have ht := Try.underlying43
  have hgr : ∀ es' ck', w.grownBy (setBlock w b (.map es' ck')) (some b) := fun es' ck' => ⟨rfl, rfl, rfl, by simp [setBlock], fun i _ hi => heap_setBlock_other hb _ (fun e => hi (by rw [e]))⟩
  obtain ⟨v0, st, es1, ck1, hme, -, hst⟩ := WideElems.entry_then_store keyLawD ht (fun u => zeroInt u) hb F hkey
  have key1 : v0 = .int .i64 c ∧ (Instr.lookup 43 (.map (some b)) (keyV f k) false).run Try.prog (setBlock w b (.map es1 ck1)) = .ok (.int .i64 c) (setBlock w b (.map es1 ck1)) := by
    rcases keyLawD.find w hkey es.toList F.keys with ⟨h1, h2⟩ | ⟨j, e0, h1, h2, h3⟩
    · have e : (Instr.mapEntry 43 (.map (some b)) (keyV f k)).run Try.prog w = .ok (.tuple #[.int .i64 0, goInt clock]) (setBlock w b (.map (es.push ⟨keyV f k, .int .i64 0, clock⟩) (clock + 1))) := by
        simp [Instr.mapEntry, run_underlying ht, MapKept.run_getObj_map hb, keyLawD.check w false hkey, h1, MapKept.run_setObj_map _ hb, Result.andThen, setBlock, zeroInt w]
      have e2 : (Instr.mapUpdate 43 (.map (some b)) (keyV f k) (.int .i64 0)).run Try.prog w = .ok () (setBlock w b (.map (es.push ⟨keyV f k, .int .i64 0, clock⟩) (clock + 1))) := by
        simp [Instr.mapUpdate, run_underlying ht, MapKept.run_getObj_map hb, keyLawD.check w false hkey, h1, MapKept.run_setObj_map _ hb, Result.andThen, setBlock]
      have el : (Instr.lookup 43 (.map (some b)) (keyV f k) false).run Try.prog w = .ok (.int .i64 0) w := by
        rcases Maps.fit_look false keyLaw ht (zeroInt w) hb F hkey with ⟨hrun, -, -⟩ | ⟨e1, y, he1, hk1, -⟩
        · exact hrun
        · exact absurd hk1 (h2 e1 he1)
      rw [hL] at el
      injection el with el1 _
      simp only [Value.int.injEq, true_and] at el1
      subst el1
      obtain ⟨w', hrun, hown, -⟩ := hOW.update keyLaw ht hn hkey (plainElem_int Try.underlying3 (a := 0) (by decide))
      rw [e2] at hrun
      injection hrun with _ hw'
      rw [hme] at e
      injection e with ev ew
      simp only [Value.tuple.injEq, Array.mk.injEq, List.cons.injEq, and_true] at ev
      refine ⟨ev.1, ?_⟩
      rw [ew, hw']
      exact lookI hown hf hk (Maps.atKey_put_same hOW.isMap (kl_key hf hk) _ _)
    · have hj : es[j]? = some e0 := by simpa using h2
      have hsame : es.modify j (fun e => { e with key := keyV f k }) = es := by
        apply Array.ext'
        rw [Array.toList_modify, ChangeMaps.modify_eq_set _ _ _ _ h2]
        have : ({ e0 with key := keyV f k } : MapEntry) = e0 := by rw [← h3]
        rw [this]
        exact WideElems.set_self _ _ _ h2
      have e : (Instr.mapEntry 43 (.map (some b)) (keyV f k)).run Try.prog w = .ok (.tuple #[e0.val, goInt e0.born]) (setBlock w b (.map es clock)) := by
        simp [Instr.mapEntry, run_underlying ht, MapKept.run_getObj_map hb, keyLawD.check w false hkey, h1, hj, h3, keyLawD.stays w hkey, hsame, MapKept.run_setObj_map _ hb, Result.andThen, setBlock]
      have hm0 : e0 ∈ es.toList := List.mem_of_getElem? h2
      have el : (Instr.lookup 43 (.map (some b)) (keyV f k) false).run Try.prog w = .ok e0.val w := by
        rcases Maps.fit_look false keyLaw ht (zeroInt w) hb F hkey with ⟨-, hne, -⟩ | ⟨e1, y, he1, hk1, hrun, -⟩
        · exact absurd h3 (hne e0 hm0)
        · have he : e1 = e0 := _root_.Go.entry_eq_of_key ((MapKept.stamped_iff es clock).1 F.stamped).2.2 he1 hm0 (hk1.trans h3.symm)
          rw [← he]; exact hrun
      rw [hL] at el
      injection el with el1 _
      rw [hme] at e
      injection e with ev ew
      simp only [Value.tuple.injEq, Array.mk.injEq, List.cons.injEq, and_true] at ev
      refine ⟨ev.1.trans el1.symm, ?_⟩
      rw [ew]
      exact lookI (n := n) (D := D) ⟨es, clock, heap_setBlock_same hb _, F, hs, hD⟩ hf hk hc
  obtain ⟨hv0, hl1⟩ := key1
  obtain ⟨es', ck', hes, hup⟩ := hst (setBlock w b (.map es1 ck1)) (.int .i64 v) (heap_setBlock_same hb _)
  obtain ⟨w', hrun, hown, -⟩ := hOW.update keyLaw ht hn hkey (plainElem_int Try.underlying3 (wf64 hv))
  rw [hup] at hrun
  injection hrun with _ hw'
  have hss : setBlock (setBlock w b (.map es1 ck1)) b (.map es' ck') = setBlock w b (.map es' ck') := by simp [setBlock]
  rw [hss] at hes
  refine ⟨st, _, _, by rw [hme, hv0]; rfl, hl1, hes, by rw [hw']; exact hown, hgr _ _, hgr _ _⟩
end Go.Proofs.Ytlfhjbilnfkabaa
