/- CachePlays: behind every calls the cache answers, keeps and charges what the document says, step by step. For every limit and acts. -/
import Derived.Test.YtlfhjbilnfkabaaDc
namespace Go.Proofs.Ytlfhjbilnfkabaa
open Go.ChangeShapes Go.WideShapes Go.ChangeAt Go.RowKit
open BM CM

theorem dl_from {stop : S → Bool} {m : Blk → Bool} {y : Blk} : ∀ (rest done : Ls) (s : S), y ∈ (dl stop m done rest s).1 → y ∈ done ∨ y ∈ rest
  | [], done, s, h => by simpa [dl] using h
  | x :: r, done, s, h => by
    rw [dl] at h
    split at h
    · simpa using h
    · split at h
      · exact (dl_from r done _ h).imp id (fun h => List.mem_cons_of_mem _ h)
      · rcases dl_from r (done ++ [x]) s h with h | h
        · rcases List.mem_append.1 h with h | h
          · exact .inl h
          · exact .inr (by simp at h; simp [h])
        · exact .inr (List.mem_cons_of_mem _ h)
theorem shr_from {n : Int} {L : Ls} {s : S} {y : Blk} (h : y ∈ (shrB n L s).2.1) : y ∈ L := by
  unfold shrB at h
  split at h
  · exact h
  · rcases dl_from L [] s h with h | h
    · cases h
    · exact h
theorem pin_from {f k b : Int} {L : Ls} {y : Blk} (hb : b ≤ 1) (h : y ∈ (pinB f k b L).2) : ∃ x ∈ L, x.file = y.file ∧ x.block = y.block ∧ x.data = y.data ∧ y.pins ≤ x.pins + 1 := by
  have hself : ∀ z ∈ L, ∃ x ∈ L, x.file = z.file ∧ x.block = z.block ∧ x.data = z.data ∧ z.pins ≤ x.pins + 1 := fun z hz => ⟨z, hz, rfl, rfl, rfl, by omega⟩
  unfold pinB at h
  split at h
  · split at h
    · split at h
      · exact hself y h
      · obtain ⟨j, hj, rfl⟩ := List.getElem_of_mem h
        rw [List.length_modify] at hj
        rw [List.getElem_modify]
        refine ⟨L[j], List.getElem_mem hj, ?_⟩
        split
        · refine ⟨rfl, rfl, rfl, ?_⟩
          show ((L[j].pins : Int) + b).toNat ≤ _
          omega
        · exact ⟨rfl, rfl, rfl, by omega⟩
    · exact hself y h
  · exact hself y h
theorem get_from {f k : Int} {L : Ls} {y : Blk} (h : y ∈ (getB f k L).2.2) : y ∈ L := by
  unfold getB at h
  split at h
  · split at h
    · rename_i i _ _ x hx
      rcases List.mem_append.1 h with h | h
      · exact (List.eraseIdx_sublist _ _).subset h
      · simp at h; rw [h]; exact List.mem_of_getElem? hx
    · exact h
  · exact h
/-- where a block comes from -/
theorem act_from {a : AC} {L : Ls} {s : S} {y : Blk} (h : y ∈ (actB a L s).1) : (∃ x ∈ L, x.file = y.file ∧ x.block = y.block ∧ x.data = y.data ∧ y.pins ≤ x.pins + 1) ∨ (y = ⟨a.f, a.k, a.dat, 0⟩ ∧ findB a.f a.k L = none) := by
  have hself : y ∈ L → ∃ x ∈ L, x.file = y.file ∧ x.block = y.block ∧ x.data = y.data ∧ y.pins ≤ x.pins + 1 := fun hz => ⟨y, hz, rfl, rfl, rfl, by omega⟩
  unfold actB at h
  split at h
  · exact .inl (hself (get_from h))
  · split at h
    · exact .inl (pin_from (by omega) h)
    · split at h
      · exact .inl (pin_from (by omega) h)
      · split at h
        · unfold dropB at h
          rcases dl_from L [] s h with h | h
          · cases h
          · exact .inl (hself h)
        · split at h
          · exact .inl (hself (shr_from h))
          · split at h
            · exact .inl (hself h)
            · unfold putB at h
              split at h
              · exact .inl (hself h)
              · rename_i hf
                split at h
                · rcases List.mem_append.1 h with h | h
                  · exact .inl (hself (shr_from h))
                  · simp at h
                    refine .inr ⟨h, ?_⟩
                    cases hq : findB a.f a.k L with
                    | none => rfl
                    | some i => rw [hq] at hf; simp at hf
                · exact .inl (hself h)
theorem act_pins {a : AC} {L : Ls} {s : S} {j : Nat} (h : ∀ x ∈ L, x.pins ≤ j) : ∀ y ∈ (actB a L s).1, y.pins ≤ j + 1 := fun y hy => by
  rcases act_from hy with ⟨x, hx, -, -, -, hp⟩ | ⟨rfl, -⟩
  · have := h x hx; omega
  · simp

section
variable {W w w' : World} {c z b N : Nat} {Z : Zs} {r rb : Nat} {LA : Option Addr} {N' : Nat} {Z' : Zs} {LA' : Option Addr} {lc' : Nat} {R : Ls × S} {y : Nat} {cs : Array Value} {ty : TypeId}
theorem Box2.acted (h : Box2 w y cs ty (own c z b Z) (rown r rb LA)) (a : Acted W w w' c z b N Z r rb LA N' Z' LA' lc' R) : Box2 w' y cs ty (own c z b Z') (rown r rb LA') := by
  have hl := (Array.getElem?_eq_some_iff.1 h.row).1
  have hn : ¬ own2 c z b Z r rb LA y := fun ho => ho.elim h.np h.nq
  refine ⟨(a.only.block y hl hn).trans h.row, fun ho => ?_, fun ho => ?_⟩
  · exact (a.own_ y (.inl ho)).elim hn (fun hh => by omega)
  · exact (a.own_ y (.inr ho)).elim hn (fun hh => by omega)
end

namespace lawPlays
set_option maxRecDepth 100000 in
set_option maxHeartbeats 4000000 in
theorem walk (l : Int) (A : Option Addr) (n cap : Nat) (sc : List AC) (w : World) (hlen : sc.length = n) (hin : ActsIn w w.heap.size A sc) (hb : n * 48 ≤ reachBytes) (hcap : n ≤ cap) :
    Calls Try.prog 3 #[.int .i64 l, .slice A n cap] w fun e w' => e = .returned (.bool true) ∧ Below w.heap.size w w' := by
  have hn : n ≤ 9223372036854775807 := by unfold reachBytes at hb; omega
  have HIN := Lib.hid hin
  have HLEN := Lib.hid hlen
  obtain ⟨m, hm⟩ : ∃ m : Nat, min (n : Int) 100 = m := ⟨min n 100, by omega⟩
  have hm1 : m ≤ n ∧ m ≤ 100 := by omega
  have hsl := fun W => slice_head W A n cap m (by omega)
  have HLS := Lib.hid hsl
  clear hin hb hlen hsl
  go_enter Try.func3, Try.ntmps3
  go_wp2_with fail
  refine (new_any l w).mono ?_
  rintro e w1 ⟨rfl, hb1, hbel⟩
  have HNW := Lib.hid (live_new (W := w) hbel hb1 (Nat.le_refl _) (ok_new l) rfl)
  clear hb1 hbel
  obtain ⟨b, hbb⟩ : ∃ b, w.heap.size = b := ⟨_, rfl⟩
  rw [hbb] at HNW ⊢
  have HBB := Lib.hid hbb
  clear hbb
  go_wp2_with fail
  refine HNW.out.mono ?_
  rintro e w2 ⟨c, z, rfl, hl2, -, -, -⟩
  have HL2 := Lib.hid hl2
  clear hl2 HNW
  go_wp2_with fail
  refine (rnew_any l w2).mono ?_
  rintro e w3 ⟨rfl, hr3, hb3⟩
  obtain ⟨rb, hrb⟩ : ∃ rb, w2.heap.size = rb := ⟨_, rfl⟩
  have hl3 := HL2.out.still hb3
  have hal := (Below.refl w3.heap.size w3).alloc (Nat.le_refl _) (.cells #[.slice none 0 0, .pointer (some ⟨rb, 0, none⟩)] 32)
  have hrow := heap_alloc_new w3 (.cells #[.slice none 0 0, .pointer (some ⟨rb, 0, none⟩)] 32)
  have hD : Duo w (w3.alloc (.cells #[.slice none 0 0, .pointer (some ⟨rb, 0, none⟩)] 32)) c z b 0 [] (new l) w3.heap.size rb none 0 (bl []) (new l) := by
    have hrl : rb < w3.heap.size := by
      rw [hrb] at hr3
      exact (Array.getElem?_eq_some_iff.1 hr3).1
    have hw2 := HL2.out.below.size
    have hown := HL2.out.rep.own_lt
    refine ⟨hl3.still hal, ⟨hrow, World.ownsRow_nil _ _ _ _, ?_⟩, ?_, ?_, ⟨ok_new l, rfl, by simp [bl], by simp [bl]⟩⟩
    · rw [hrb] at hr3
      exact (hal.block rb hrl).trans hr3
    · rintro g (rfl | rfl | hg)
      · have := hb3.size; omega
      · omega
      · simp [fb] at hg
    · rintro g (rfl | rfl | hg) ho
      · have := hown _ ho; have := hb3.size; omega
      · have := hown _ ho; omega
      · simp [fb] at hg
  have HD := Lib.hid hD
  rw [hrb]
  clear hr3 hb3 hl3 hal hrow hD hrb HL2
  go_wp2_with fail
  generalize w3.alloc (.cells #[.slice none 0 0, .pointer (some ⟨rb, 0, none⟩)] 32) = w4 at HD ⊢
  generalize w3.heap.size = r at HD ⊢
  refine (wakes_any w4).mono ?_
  rintro e w5 ⟨rfl, hb5⟩
  have HD5 := Lib.hid (HD.out.still hb5)
  have HSM := Lib.hid (same_any HD5.out (by omega))
  clear hb5 HD
  go_wp2_with fail
  refine HSM.out.mono ?_
  rintro e w6 ⟨rfl, hb6⟩
  have HD6 := Lib.hid (HD5.out.still hb6)
  clear hb6 HD5 HSM
  have hsl := HLS.out
  go_wp2_with fail
  go_loopw [33] (fun i wr => ∃ (j N : Nat) (Z : Zs) (s : S) (LA : Option Addr) (lc : Nat), j ≤ m ∧ i = .int .i64 j ∧ N ≤ j ∧ Z.length ≤ j ∧ Hid (∀ x ∈ bl Z, x.pins ≤ j) ∧ Hid (Duo w wr c z b N Z s r rb LA lc (bl Z) s)) (fun i _ => m - (intOf i).toNat)
  case atStart => exact ⟨0, 0, [], _, none, 0, by omega, rfl, by omega, by simp, Lib.hid (by simp [bl]), HD6⟩
  case round =>
    obtain ⟨j, N, Z, s, LA, lc, hj, rfl, hNj, hZj, HPI, HD⟩ := hrel
    clear hsl
    by_cases hlt : j < m
    · have hjl : j < sc.length := by rw [HLEN.out]; omega
      obtain ⟨q, off, hA, hql, hc⟩ := (HIN.out.below HD.out.live.below).at_ (by omega)
      obtain ⟨c0, c1, c2, c3, c4⟩ := hc j hjl
      obtain ⟨a, ha⟩ : ∃ a, sc[j] = a := ⟨_, rfl⟩
      have hwf : a.wf := HIN.out.wf a (by rw [← ha]; exact List.getElem_mem hjl)
      rw [ha] at c0 c1 c2 c3 c4
      have hal := (Below.refl wr.heap.size wr).alloc (Nat.le_refl _) (.cells #[.int .i64 a.d, .int .i64 a.f, .int .i64 a.k, .string a.dat, .int .i64 a.n] 36)
      have hrow := heap_alloc_new wr (.cells #[.int .i64 a.d, .int .i64 a.f, .int .i64 a.k, .string a.dat, .int .i64 a.n] 36)
      have hbx : Box2 (wr.alloc (.cells #[.int .i64 a.d, .int .i64 a.f, .int .i64 a.k, .string a.dat, .int .i64 a.n] 36)) wr.heap.size #[.int .i64 a.d, .int .i64 a.f, .int .i64 a.k, .string a.dat, .int .i64 a.n] 36 (own c z b Z) (rown r rb LA) :=
        ⟨hrow, fun ho => by have := HD.out.live.rep.own_lt _ ho; omega, fun ho => by have := HD.out.rep.own_lt _ ho; omega⟩
      have HDK := Lib.hid ((HD.out.still hal).still ((Below.refl _ _).drew))
      have HBX := Lib.hid (hbx.still ((Below.refl _ _).drew))
      have hact := act_any HDK.out a hwf (by omega) (by omega) (fun x hx => by have := HPI.out x hx; omega)
      obtain ⟨R, hR⟩ : ∃ R, actB a (bl Z) s = R := ⟨_, rfl⟩
      have HPN : Hid (∀ y ∈ R.1, y.pins ≤ j + 1) := Lib.hid (by rw [← hR]; exact act_pins HPI.out)
      rw [hR] at hact
      have HAC := Lib.hid hact
      have HCO := Lib.hid (fun W => cost_any a.dat W hwf.dat)
      have HRC := Lib.hid (fun W => rcost_any a.dat W hwf.dat)
      unfold ActOut at HAC
      obtain ⟨ad, f, k, d, an⟩ := a
      simp only [AC.val] at c0 c1 c2 c3 c4 HBX HAC HCO HRC hbx ⊢
      have y0 := hbx.cell (j := 0) rfl
      have y1 := hbx.cell (j := 1) rfl
      have y2 := hbx.cell (j := 2) rfl
      have y3 := hbx.cell (j := 3) rfl
      have y4 := hbx.cell (j := 4) rfl
      obtain ⟨K, hK⟩ : ∃ K, cost d = K := ⟨_, rfl⟩
      rw [hK] at HCO HRC
      subst hA
      clear hc ha hwf hal hrow hact hR hK hbx
      go_wp2_with fail
      generalize hwk : wr.alloc (.cells #[.int .i64 ad, .int .i64 f, .int .i64 k, .string d, .int .i64 an] 36) = wk at HDK HBX HAC y0 y1 y2 y3 y4 ⊢
      obtain ⟨v, hv⟩ : ∃ v, wr.heap.size = v := ⟨_, rfl⟩
      rw [hv] at HBX y0 y1 y2 y3 y4 ⊢
      clear hwk hv c0 c1 c2 c3 c4
      have e0 := HBX.out.cell (j := 0) rfl
      have e1 := HBX.out.cell (j := 1) rfl
      have e2 := HBX.out.cell (j := 2) rfl
      have e3 := HBX.out.cell (j := 3) rfl
      have e4 := HBX.out.cell (j := 4) rfl
      go_region_held3 (fun w' => w'.cell? ⟨v, 0, none⟩ = some (.int .i64 ad) ∧ w'.cell? ⟨v, 1, none⟩ = some (.int .i64 f) ∧ w'.cell? ⟨v, 2, none⟩ = some (.int .i64 k) ∧ w'.cell? ⟨v, 3, none⟩ = some (.string d) ∧ w'.cell? ⟨v, 4, none⟩ = some (.int .i64 an))
        (first | exact ⟨e0, e1, e2, e3, e4⟩ | exact ⟨y0, y1, y2, y3, y4⟩ | exact ⟨x0, x1, x2, x3, x4⟩ | exact ⟨z0, z1, z2, z3, z4⟩ | go_keep | fail)
        (first
          | (go_at_call 13
             refine HAC.out.mono ?_
             rintro e w7 ⟨rfl, N7, Z7, LA7, lc7, hac⟩
             have HBX7 := Lib.hid (HBX.out.acted hac)
             have HA7 := Lib.hid hac
             have hd7 := hac.duo
             rw [← hac.list] at hd7
             have HSM := Lib.hid (same_any hd7 (by have := hac.bound; omega))
             have x0 := HBX7.out.cell (j := 0) rfl
             have x1 := HBX7.out.cell (j := 1) rfl
             have x2 := HBX7.out.cell (j := 2) rfl
             have x3 := HBX7.out.cell (j := 3) rfl
             have x4 := HBX7.out.cell (j := 4) rfl
             clear hac hd7)
          | (go_at_call 12
             refine HSM.out.mono ?_
             rintro e w8 ⟨rfl, hb8⟩
             have HB8 := Lib.hid hb8
             have HBX8 := Lib.hid (HBX7.out.still hb8)
             have z0 := HBX8.out.cell (j := 0) rfl
             have z1 := HBX8.out.cell (j := 1) rfl
             have z2 := HBX8.out.cell (j := 2) rfl
             have z3 := HBX8.out.cell (j := 3) rfl
             have z4 := HBX8.out.cell (j := 4) rfl
             clear hb8)
          | (go_at_call 14
             refine (HCO.out _).mono ?_
             rintro e w9 ⟨rfl, rfl⟩)
          | (go_at_call 15
             refine (HRC.out _).mono ?_
             rintro e w9 ⟨rfl, rfl⟩)
          | fail)
      all_goals
        have HD8 : Hid (Duo w w8 c z b N7 Z7 R.2 r rb LA7 lc7 (bl Z7) R.2) := Lib.hid (by
          have hd := HA7.out.duo
          rw [← HA7.out.list] at hd
          exact hd.still HB8.out)
        have HP8 : Hid (∀ x ∈ bl Z7, x.pins ≤ j + 1) := Lib.hid (by rw [HA7.out.list]; exact HPN.out)
        have HN8 : Hid (N7 ≤ j + 1 ∧ Z7.length ≤ j + 1) := Lib.hid ⟨by have := HA7.out.bound; omega, by have := HA7.out.len; omega⟩
        clear e0 e1 e2 e3 e4 x0 x1 x2 x3 x4 y0 y1 y2 y3 y4 z0 z1 z2 z3 z4
        go_wp2
        go_roundw
        case rel => exact ⟨j + 1, N7, Z7, R.2, LA7, lc7, by omega, by go_num, HN8.out.1, HN8.out.2, HP8, HD8⟩
        case measure => simp [intOf]; omega
    · have hjm : j = m := by omega
      subst hjm
      have HBF := Lib.hid HD.out.live.below
      rw [HBB.out] at HBF
      go_wp2
      go_ret
      exact ⟨rfl, by first | exact HBF.out | (rw [HBB.out]; exact HBF.out)⟩

set_option maxRecDepth 100000 in
theorem contract (H : Type) (enc : TypeId × Value → H) (W : World) (base : Nat) (args : Array Value) (ds gs : List (DataW H)) (before : List MemPlace)
    (hval : ∀ (j : Nat) t v, Try.f3.params[j]? = some t → args[j]? = some v → Value.okWide Try.prog W .any base t v)
    (hW : DataW.Whole enc Try.prog Try.f3.params.toList Rows.cachePlaysSpec.vars false W args.toList ds gs before)
    (hz : (DataW.weightsEach Try.prog Try.f3.params.toList (ds ++ gs)).all (· ≤ reachBytes) = true) :
    Calls Try.prog 3 args W fun e W' => ∃ v, e = .returned v ∧ Rows.cachePlaysSpec.post enc Try.prog Try.f3 false true false false W args v W' := by
  have hW' := hW
  obtain ⟨p, q, hA0, hV, rfl, hfz, hnd⟩ := hW
  have hA : DataW.TrodAll enc Try.prog W 0 (fun _ => true) true Try.f3.params.toList args.toList ds p := hA0
  rw [Try.params3] at hA hval hz
  obtain ⟨v0, vs0, d0, ds0, p0, q0, hargs, rfl, rfl, h0, r0⟩ := trodAll_cons hA
  obtain ⟨v1, vs1, d1, ds1, p1, q1, rfl, rfl, rfl, h1, r1⟩ := trodAll_cons r0
  obtain ⟨rfl, rfl, rfl⟩ := trodAll_nil r1
  obtain rfl : args = #[v0, v1] := by cases args; simp_all
  obtain ⟨rfl, rfl⟩ := trodVars_none hV
  obtain ⟨l, rfl, rfl, rfl, wl⟩ := open_int Try.underlying2 (hval 0 2 v0 rfl rfl) h0
  have hl : -9223372036854775808 ≤ l ∧ l ≤ 9223372036854775807 := by simpa [Lit.wf, IntKind.min, IntKind.max, IntKind.signed, IntKind.bits] using wl
  obtain ⟨scA, scN, scC, sc, rfl, hlensc, hinsc, hbsc, hcapsc⟩ := open_acts5 (hval 1 22 v1 rfl rfl) h1 (parts_sized hz (j := 1) rfl rfl)
  refine (walk l scA scN scC sc W hlensc hinsc hbsc hcapsc).mono fun e W' ⟨he, hB⟩ => ?_
  subst he
  exact ⟨_, rfl, law_post Try.laidOut (by kernel_rfl) rfl rfl Try.underlying4 hW' rfl hB⟩

set_option maxRecDepth 100000 in
theorem lifted (os : Os) (started : os.Started) (H : Type) (enc : TypeId × Value → H) :
    ReturnsInHanded {} Try.checked os 3 .any (Rows.cachePlaysSpec.pre6 enc Try.prog Try.f3 Rows.cachePlaysRow.domain false) (Rows.cachePlaysSpec.post enc Try.prog Try.f3 false true false false) := by
  refine returnsInHanded_of_change_sized (C := Try.checked) Try.own started (by kernel_rfl) Try.func3
    (ChangeSpec.witness6 (enc := enc) (C := Try.checked) false ⟨#[], #[.int .i64 0, .slice none 0 0], []⟩ 8 (by kernel_rfl) (by kernel_rfl) (by kernel_rfl) (by kernel_rfl)) ?_
  intro W base args ds gs before hval hW _ hz _
  exact contract H enc W base args ds gs before hval hW hz

theorem proved : Rows.CachePlaysSaid :=
  OpenClaim.holds_of_wide 3 Try.f3 rfl rfl rfl rfl rfl rfl rfl ⟨rfl, rfl, rfl, rfl, rfl⟩ rfl rfl rfl rfl rfl (by kernel_rfl) Try.func3 (by kernel_rfl)
    (of_decide_eq_true (by kernel_rfl)) (by unfold Func.isWrapper; first | (rw [if_pos (by decide +kernel)]; kernel_rfl) | (rw [if_neg (by decide +kernel)]; exact ⟨rfl, rfl⟩))
    (fun os started H enc _ => lifted os started H enc)
end lawPlays
end Go.Proofs.Ytlfhjbilnfkabaa
