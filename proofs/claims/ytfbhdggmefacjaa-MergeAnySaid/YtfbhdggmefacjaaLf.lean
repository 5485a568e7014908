/- MergeAny: lists are merged to the same whatever list an entry is in, if no key and Seq is twice; what is merged is in order. For every entries and numbers. Made by gen_lf.py. -/
import Derived.Test.YtfbhdggmefacjaaPa
import Derived.Test.YtfbhdggmefacjaaRe
import Derived.Test.YtfbhdggmefacjaaOq
import Derived.Test.YtfbhdggmefacjaaLaw
import Derived.Laws.MakeOwn
namespace Go.Proofs.Ytfbhdggmefacjaa
open Go.ChangeShapes Go.WideShapes Go.ChangeAt Go.RowKit
open SK HP VB

theorem info_lst : (Try.prog.info? 23).map (fun i => (i.zero, i.size, i.bytes)) = some (some (.slice none 0 0), 1, 24) := by kernel_rfl
/-- 'make([][]api.Entry, 4)' -/
theorem make_four (w : World) : (Instr.makeSlice 52 (.int .i64 4) (.int .i64 4)).run Try.prog w = .ok (.slice (some ⟨w.heap.size, 0, none⟩) 4 4) (w.alloc (.cells #[.slice none 0 0, .slice none 0 0, .slice none 0 0, .slice none 0 0] 23)) := by
  obtain ⟨i0, hi, hz0, hz1, hz2⟩ := info_parts info_lst
  have h := run_make (P := Try.prog) w 52 23 i0 (.slice none 0 0) Try.underlying52 hi hz0 .i64 .i64 4 4 (by omega) (Int.le_refl _) (by rw [hz2]; omega) (by omega)
  have e : madeCells #[Value.slice none 0 0] 4 = #[.slice none 0 0, .slice none 0 0, .slice none 0 0, .slice none 0 0] := by
    apply Array.toList_inj.1
    rw [toList_madeCells_one]
    rfl
  rw [← e]
  simpa [hz1, Value.cells] using h

/-- parts of entries in order come together again -/
theorem parts_merge {a : List SK.E} {p : Nat → List SK.E} (ha : Sorted a) (h1 : ∀ k, k < 4 → (p k).Sublist a) (h2 : ∀ e ∈ a, ∃ k, k < 4 ∧ e ∈ p k) : mrg [p 0, p 1, p 2, p 3].flatten = a := by
  have hsub : ∀ e ∈ [p 0, p 1, p 2, p 3].flatten, e ∈ a := fun e he => by
    simp only [List.flatten_cons, List.flatten_nil, List.append_nil, List.mem_append] at he
    rcases he with he | he | he | he
    · exact (h1 0 (by omega)).subset he
    · exact (h1 1 (by omega)).subset he
    · exact (h1 2 (by omega)).subset he
    · exact (h1 3 (by omega)).subset he
  have hsup : ∀ e ∈ a, e ∈ [p 0, p 1, p 2, p 3].flatten := fun e he => by
    obtain ⟨k, hk, hm⟩ := h2 e he
    simp only [List.flatten_cons, List.flatten_nil, List.append_nil, List.mem_append]
    rcases (by omega : k = 0 ∨ k = 1 ∨ k = 2 ∨ k = 3) with rfl | rfl | rfl | rfl
    · exact .inl hm
    · exact .inr (.inl hm)
    · exact .inr (.inr (.inl hm))
    · exact .inr (.inr (.inr hm))
  refine sorted_ext (mrg_sorted _) ha fun e => ⟨fun he => hsub e (mrg_sub _ e he), fun he => ?_⟩
  have ht : there e (mrg [p 0, p 1, p 2, p 3].flatten) = true := by rw [mrg_there]; exact there_of (hsup e he) (same_refl e)
  obtain ⟨y, hy, hse⟩ := List.any_eq_true.1 ht
  have hya := hsub y (mrg_sub _ y hy)
  have : y = e := by
    obtain ⟨i, hi, rfl⟩ := List.getElem_of_mem hya
    obtain ⟨j, hj, rfl⟩ := List.getElem_of_mem he
    by_cases hij : i = j
    · subst hij; rfl
    · exfalso
      rcases (by omega : i < j ∨ j < i) with h | h
      · have := List.pairwise_iff_getElem.1 ha i j hi hj h
        rw [same_not hse] at this; cases this
      · have := List.pairwise_iff_getElem.1 ha j i hj hi h
        rw [same_not (same_symm hse)] at this; cases this
  rw [← this]
  exact hy

theorem Parts.lists {y : Nat} {w : World} {v : Nat → Value} {p : Nat → List SK.E} (h : Parts y w v p) (hw : ∀ k, k < 4 → ∀ e ∈ p k, e.wf) : ∃ ls : List LE, ls.length = 4 ∧ ls.map (·.l) = [p 0, p 1, p 2, p 3] ∧ ListsIn w (some ⟨y, 0, none⟩) ls := by
  have key : ∀ k, k < 4 → ∃ A c, v k = .slice A (p k).length c ∧ EntsIn w A (p k) ∧ (p k).length ≤ c := fun k hk => by
    obtain ⟨A, c, h1, h2, -, h3⟩ := own_ents (hw k hk) rfl (h.own k hk)
    exact ⟨A, c, h1, h2, h3⟩
  obtain ⟨A0, c0, v0, e0, q0⟩ := key 0 (by omega)
  obtain ⟨A1, c1, v1, e1, q1⟩ := key 1 (by omega)
  obtain ⟨A2, c2, v2, e2, q2⟩ := key 2 (by omega)
  obtain ⟨A3, c3, v3, e3, q3⟩ := key 3 (by omega)
  refine ⟨[⟨A0, c0, p 0⟩, ⟨A1, c1, p 1⟩, ⟨A2, c2, p 2⟩, ⟨A3, c3, p 3⟩], rfl, rfl, fun x hx => ?_, fun _ => ⟨y, 0, rfl, h.lt, fun j hj => ?_⟩⟩
  · rcases (by simpa using hx) with rfl | rfl | rfl | rfl
    · exact ⟨e0, q0⟩
    · exact ⟨e1, q1⟩
    · exact ⟨e2, q2⟩
    · exact ⟨e3, q3⟩
  · have hr := h.row
    rw [v0, v1, v2, v3] at hr
    rcases (by simp at hj; omega : j = 0 ∨ j = 1 ∨ j = 2 ∨ j = 3) with rfl | rfl | rfl | rfl <;> simp [World.cell?, hr]

namespace lawAny

set_option maxRecDepth 100000 in
set_option maxHeartbeats 8000000 in
theorem walk (A : Option Addr) (n cap : Nat) (l : List E) (X : Option Addr) (m d : Nat) (xs : List Int) (w : World) (hn : l.length = n) (hin : EntsIn w A l) (hb : n * 56 ≤ reachBytes) (hc : n ≤ cap) (hm : xs.length = m) (hx : I64In w X xs) (hxf : ∀ z ∈ xs, -9223372036854775808 ≤ z ∧ z ≤ 9223372036854775807) (hb8 : m * 8 ≤ reachBytes) :
    Calls Try.prog 7 #[.slice A n cap, .slice X m d] w fun e w' => e = .returned (.bool true) ∧ Below w.heap.size w w' := by
  have HO1 := Lib.hid (ordered_any A n cap l w hn hin hc (by unfold reachBytes at hb; omega))
  have hso := od_sorted l
  have hol := od_len l
  obtain ⟨o, ho⟩ : ∃ o, od l = o := ⟨_, rfl⟩
  rw [ho] at HO1 hso hol
  have hm47 : m ≤ 140737488351232 := by unfold reachBytes at hb8; omega
  have HX := Lib.hid hx
  have HM := Lib.hid hm
  have HXF := Lib.hid hxf
  have HFIN : Hid (∀ (y : Nat) (W : World) (v : Nat → Value) (p : Nat → List SK.E), Parts y W v p → (∀ e ∈ o, e.wf) → (∀ k, k < 4 → (p k).Sublist o) → (∀ e ∈ o, ∃ k, k < 4 ∧ e ∈ p k) → Calls Try.prog 12 #[.slice (some ⟨y, 0, none⟩) 4 4] W fun e w' => ∃ B c, e = .returned (.slice B o.length c) ∧ EntsIn w' B o ∧ Below W.heap.size W w') := Lib.hid fun y W v p hp hw h1 h2 => by
    obtain ⟨ls, hl4, hlp, hli⟩ := hp.lists (fun k hk e he => hw e ((h1 k hk).subset he))
    have hmg := parts_merge hso h1 h2
    have htot : [p 0, p 1, p 2, p 3].flatten.length ≤ 1000000 := by
      have a0 := (h1 0 (by omega)).length_le
      have a1 := (h1 1 (by omega)).length_le
      have a2 := (h1 2 (by omega)).length_le
      have a3 := (h1 3 (by omega)).length_le
      simp
      omega
    refine (merge_any (some ⟨y, 0, none⟩) 4 4 ls W hl4 hli (by decide) (fun x hx => ?_) (by rw [hlp]; exact htot)).mono ?_
    · have : x.l ∈ ls.map (·.l) := List.mem_map.2 ⟨x, hx, rfl⟩
      rw [hlp] at this
      rcases (by simpa using this) with e | e | e | e <;> rw [e]
      · exact hso.sublist (h1 0 (by omega))
      · exact hso.sublist (h1 1 (by omega))
      · exact hso.sublist (h1 2 (by omega))
      · exact hso.sublist (h1 3 (by omega))
    · rintro e w' ⟨v, rfl, hown, hbb⟩
      rw [hlp, hmg] at hown
      obtain ⟨B, c, rfl, h3, -, -⟩ := own_ents hw rfl hown
      exact ⟨B, c, rfl, h3, hbb⟩
  have HAK : Hid (∀ W B c B' c', EntsIn W B o → EntsIn W B' o → Calls Try.prog 20 #[.slice B o.length c, .slice B' o.length c'] W fun e w' => e = .returned (.bool true) ∧ Below W.heap.size W w') := Lib.hid fun W B c B' c' h1 h2 => alike_any B B' _ c c' _ W rfl h1 h2 (by omega)
  obtain ⟨N, hN⟩ : ∃ k, o.length = k := ⟨_, rfl⟩
  have HN := Lib.hid hN
  rw [hN] at HO1 HFIN HAK hol
  have HW := Lib.hid wakes_any
  clear hn hin hb hc hm hx hxf hb8 hso ho hN
  go_enter Try.func7, Try.ntmps7
  go_wp2_with fail
  refine HO1.out.mono ?_
  rintro e w1 ⟨A1, c1, D1, d1, rfl, h1, q1, r1, t1, hb1⟩
  have HB1 := Lib.hid hb1
  have H1 := Lib.hid h1
  have hmk := make_four w1
  clear HO1 h1 r1 hb1 t1
  go_wp2_with fail
  have hrow := heap_alloc_new w1 (.cells #[.slice none 0 0, .slice none 0 0, .slice none 0 0, .slice none 0 0] 23)
  have hbr : Below w1.heap.size w1 (w1.alloc (.cells #[.slice none 0 0, .slice none 0 0, .slice none 0 0, .slice none 0 0] 23)) := (Below.refl _ w1).alloc (Nat.le_refl _) _
  generalize w1.alloc (.cells #[.slice none 0 0, .slice none 0 0, .slice none 0 0, .slice none 0 0] 23) = w2 at hrow hbr ⊢
  obtain ⟨y, hy⟩ : ∃ y, w1.heap.size = y := ⟨_, rfl⟩
  have HY := Lib.hid hy
  rw [hy] at hrow ⊢
  have hp0 : Parts y w2 (fun _ => .slice none 0 0) (fun _ => []) := ⟨hrow, fun k hk => by simpa [ecs] using World.ownsRow_nil _ _ _ _, fun i j _ _ _ g hg => by simp [Value.ownBlock] at hg⟩
  have HP0 := Lib.hid hp0
  have HBR : Hid (Below y w1 w2) := Lib.hid (by rw [← hy]; exact hbr)
  have H2 := Lib.hid (H1.out.below hbr)
  clear hp0 hrow hbr hy hmk
  go_loopw [19] (fun i wr => ∃ (j : Nat) (v : Nat → Value) (p : Nat → List SK.E), j ≤ N ∧ i = .int .i64 j ∧ Below y w1 wr ∧ Parts y wr v p ∧ Hid (∀ k, k < 4 → (p k).Sublist (o.take j)) ∧ Hid (∀ e ∈ o.take j, ∃ k, k < 4 ∧ e ∈ p k)) (fun i _ => N - (intOf i).toNat)
  case atStart => exact ⟨0, _, _, by omega, rfl, HBR.out, HP0.out, Lib.hid (by simp), Lib.hid (by simp)⟩
  case round =>
    obtain ⟨j, v, p, hj, rfl, hbq, hpt, hsub, hcov⟩ := hrel
    have HBQ := Lib.hid hbq
    have HPT := Lib.hid hpt
    have hbq1 : Below w1.heap.size w1 wr := by rw [HY.out]; exact hbq
    by_cases hlt : j < N
    · have hjl : j < o.length := by rw [HN.out]; exact hlt
      obtain ⟨b, off, hA, hbl, hcc⟩ := (H1.out.below hbq1).at_ (by omega)
      obtain ⟨z0, z1, z2, z3, z4⟩ := hcc j hjl
      have htk := List.take_succ_eq_append_getElem hjl
      obtain ⟨e, he⟩ : ∃ e, o[j] = e := ⟨_, rfl⟩
      rw [he] at z0 z1 z2 z3 z4 htk
      have HTK := Lib.hid htk
      have g0 : (0 : Int) ≤ (j : Int) := by omega
      have g1 : (j : Int) < (N : Int) := by omega
      have hplen : ∀ k, k < 4 → (p k).length ≤ 100 := fun k hk => by
        have := (hsub.out k hk).length_le
        rw [List.length_take] at this
        omega
      have HPL := Lib.hid hplen
      have HNEXT : Hid (∀ kk, kk < 4 → Hid (∀ k, k < 4 → (upd p kk (p kk ++ [e]) k).Sublist (o.take (j + 1))) ∧ Hid (∀ x ∈ o.take (j + 1), ∃ k, k < 4 ∧ x ∈ upd p kk (p kk ++ [e]) k)) := Lib.hid fun kk hkk => by
        refine ⟨Lib.hid fun k hk => ?_, Lib.hid fun x hx => ?_⟩
        · rw [HTK.out]
          by_cases h : k = kk
          · subst h; rw [upd_same]; exact (hsub.out k hk).append (List.Sublist.refl _)
          · rw [upd_other p _ h]; exact (hsub.out k hk).trans (List.sublist_append_left _ _)
        · rw [HTK.out] at hx
          rcases List.mem_append.1 hx with hx | hx
          · obtain ⟨k, hk, hm⟩ := hcov.out x hx
            refine ⟨k, hk, ?_⟩
            by_cases h : k = kk
            · subst h; rw [upd_same]; exact List.mem_append_left _ hm
            · rw [upd_other p _ h]; exact hm
          · refine ⟨kk, hkk, ?_⟩
            rw [upd_same]
            exact List.mem_append_right _ hx
      obtain ⟨k2, q2, g2, v2, t2⟩ := e
      simp only at z0 z1 z2 z3 z4
      subst hA
      have hal := (Below.refl wr.heap.size wr).alloc (Nat.le_refl _) (.cells #[.string k2, .int .i64 q2, .bool g2, .string v2, .int .i64 t2] 37)
      have hrx := heap_alloc_new wr (.cells #[.string k2, .int .i64 q2, .bool g2, .string v2, .int .i64 t2] 37)
      have hsx : (wr.alloc (.cells #[.string k2, .int .i64 q2, .bool g2, .string v2, .int .i64 t2] 37)).heap.size = wr.heap.size + 1 := by simp
      have HPX := Lib.hid (hpt.below hal)
      have HBX : Hid (Below y w1 (wr.alloc (.cells #[.string k2, .int .i64 q2, .bool g2, .string v2, .int .i64 t2] 37))) := Lib.hid (hbq.trans (hal.mono (Nat.le_of_lt hpt.lt)))
      have hyl := hpt.lt
      by_cases hjm : j < m
      · have hjx : j < xs.length := by rw [HM.out]; exact hjm
        obtain ⟨b3, off3, hB, hbl3, hc3⟩ := ((HX.out.below HB1.out).below (hbq1.trans (hal.mono hbq1.size))).at_ (by omega)
        have x0 := hc3 j hjx
        obtain ⟨s, hs⟩ : ∃ s, xs[j] = s := ⟨_, rfl⟩
        rw [hs] at x0
        obtain ⟨sn, hsn⟩ : ∃ sn : Nat, max 0 s = (sn : Int) := ⟨(max 0 s).toNat, by omega⟩
        have hsn2 : max s 0 = (sn : Int) := by omega
        obtain ⟨kk, hkk⟩ : ∃ kk, sn % 4 = kk := ⟨_, rfl⟩
        have hk4 : kk < 4 := by omega
        have hmod : (sn : Int) % 4 = (kk : Int) := by omega
        have htmod : (sn : Int).tmod 4 = (kk : Int) := by rw [Int.tmod_eq_emod_of_nonneg (by omega)]; exact hmod
        have g2' : (j : Int) < (m : Int) := by omega
        subst hB
        have kk0 : (0 : Int) ≤ (kk : Int) := by omega
        have kk1 : (kk : Int) < 4 := by omega
        clear hcc he hbq hpt hbq1 htk hc3 hs hjx hkk hplen
        go_wp2_with fail
        have hplk := HPL.out kk hk4
        generalize wr.alloc (.cells #[.string k2, .int .i64 q2, .bool g2, .string v2, .int .i64 t2] 37) = wa at HPX HBX hrx hsx hal ⊢
        obtain ⟨bx, hbx⟩ : ∃ bx, wr.heap.size = bx := ⟨_, rfl⟩
        rw [hbx] at hrx hsx hyl ⊢
        have y0 : wa.cell? ⟨bx, 0, none⟩ = some (.string k2) := by simp [World.cell?, hrx]
        have y1 : wa.cell? ⟨bx, 1, none⟩ = some (.int .i64 q2) := by simp [World.cell?, hrx]
        have y2 : wa.cell? ⟨bx, 2, none⟩ = some (.bool g2) := by simp [World.cell?, hrx]
        have y3 : wa.cell? ⟨bx, 3, none⟩ = some (.string v2) := by simp [World.cell?, hrx]
        have y4 : wa.cell? ⟨bx, 4, none⟩ = some (.int .i64 t2) := by simp [World.cell?, hrx]
        have cv := HPX.out.cell hk4
        have hbl9 : bx < wa.heap.size := by omega
        have hyl9 : y < wa.heap.size := by omega
        obtain ⟨A6, c6, w8, happ, e1, e2, e3, e4⟩ := HPX.out.app hk4 (by omega) ((Below.refl wa.heap.size wa).drew) ⟨k2, q2, g2, v2, t2⟩
        have hdw : wa.drew.alloc (.cells #[.string k2, .int .i64 q2, .bool g2, .string v2, .int .i64 t2] 37) = (wa.alloc (.cells #[.string k2, .int .i64 q2, .bool g2, .string v2, .int .i64 t2] 37)).drew := rfl
        have hds : wa.drew.heap.size = wa.heap.size := rfl
        simp only [hds] at happ
        rw [hdw] at happ
        have hal7 : Below wa.heap.size wa (wa.alloc (.cells #[.string k2, .int .i64 q2, .bool g2, .string v2, .int .i64 t2] 37)).drew := ((Below.refl _ _).alloc (Nat.le_refl _) _).drew
        have d0 := (hal7.cell (p := ⟨bx, 0, none⟩) hbl9).trans y0
        have d1 := (hal7.cell (p := ⟨bx, 1, none⟩) hbl9).trans y1
        have d2 := (hal7.cell (p := ⟨bx, 2, none⟩) hbl9).trans y2
        have d3 := (hal7.cell (p := ⟨bx, 3, none⟩) hbl9).trans y3
        have d4 := (hal7.cell (p := ⟨bx, 4, none⟩) hbl9).trans y4
        have dv := (hal7.cell (p := ⟨y, kk, none⟩) hyl9).trans cv
        have HB9 : Hid (Below y w1 (w8.setCell ⟨y, kk, none⟩ (.slice A6 ((p kk).length + 1) c6))) := Lib.hid (HBX.out.trans e3)
        have HP9 := Lib.hid e4
        have HAPP := Lib.hid happ
        have HNX := HNEXT.out kk hk4
        obtain ⟨vk, hvk⟩ : ∃ vk, v kk = vk := ⟨_, rfl⟩
        rw [hvk] at cv dv e1 HAPP
        clear hdw hds hal7 e3 e4 happ hrx hsx hal hbx HPX HBX HNEXT hvk
        go_region_law (refine step_app 23 (by rfl) _ _ (by rfl) (by rfl) _ _ (by rfl) (by rfl) _ _ HAPP.out ?_)
        all_goals
          clear y0 y1 y2 y3 y4 d0 d1 d2 d3 d4 dv cv e1 e2
          go_wp2
          go_roundw
          case rel => exact ⟨j + 1, _, _, by omega, by go_num, HB9.out, HP9.out, HNX.1, HNX.2⟩
          case measure => simp [intOf]; omega
      · have hk4 : 0 < 4 := by omega
        have g2' : ¬ (j : Int) < (m : Int) := by omega
        clear hcc he hbq hpt hbq1 htk hplen
        go_wp2_with fail
        have hplk := HPL.out 0 hk4
        generalize wr.alloc (.cells #[.string k2, .int .i64 q2, .bool g2, .string v2, .int .i64 t2] 37) = wa at HPX HBX hrx hsx hal ⊢
        obtain ⟨bx, hbx⟩ : ∃ bx, wr.heap.size = bx := ⟨_, rfl⟩
        rw [hbx] at hrx hsx hyl ⊢
        have y0 : wa.cell? ⟨bx, 0, none⟩ = some (.string k2) := by simp [World.cell?, hrx]
        have y1 : wa.cell? ⟨bx, 1, none⟩ = some (.int .i64 q2) := by simp [World.cell?, hrx]
        have y2 : wa.cell? ⟨bx, 2, none⟩ = some (.bool g2) := by simp [World.cell?, hrx]
        have y3 : wa.cell? ⟨bx, 3, none⟩ = some (.string v2) := by simp [World.cell?, hrx]
        have y4 : wa.cell? ⟨bx, 4, none⟩ = some (.int .i64 t2) := by simp [World.cell?, hrx]
        have cv := HPX.out.cell hk4
        have hbl9 : bx < wa.heap.size := by omega
        have hyl9 : y < wa.heap.size := by omega
        obtain ⟨A6, c6, w8, happ, e1, e2, e3, e4⟩ := HPX.out.app hk4 (by omega) ((Below.refl wa.heap.size wa).drew) ⟨k2, q2, g2, v2, t2⟩
        have hdw : wa.drew.alloc (.cells #[.string k2, .int .i64 q2, .bool g2, .string v2, .int .i64 t2] 37) = (wa.alloc (.cells #[.string k2, .int .i64 q2, .bool g2, .string v2, .int .i64 t2] 37)).drew := rfl
        have hds : wa.drew.heap.size = wa.heap.size := rfl
        simp only [hds] at happ
        rw [hdw] at happ
        have hal7 : Below wa.heap.size wa (wa.alloc (.cells #[.string k2, .int .i64 q2, .bool g2, .string v2, .int .i64 t2] 37)).drew := ((Below.refl _ _).alloc (Nat.le_refl _) _).drew
        have d0 := (hal7.cell (p := ⟨bx, 0, none⟩) hbl9).trans y0
        have d1 := (hal7.cell (p := ⟨bx, 1, none⟩) hbl9).trans y1
        have d2 := (hal7.cell (p := ⟨bx, 2, none⟩) hbl9).trans y2
        have d3 := (hal7.cell (p := ⟨bx, 3, none⟩) hbl9).trans y3
        have d4 := (hal7.cell (p := ⟨bx, 4, none⟩) hbl9).trans y4
        have dv := (hal7.cell (p := ⟨y, 0, none⟩) hyl9).trans cv
        have HB9 : Hid (Below y w1 (w8.setCell ⟨y, 0, none⟩ (.slice A6 ((p 0).length + 1) c6))) := Lib.hid (HBX.out.trans e3)
        have HP9 := Lib.hid e4
        have HAPP := Lib.hid happ
        have HNX := HNEXT.out 0 hk4
        obtain ⟨vk, hvk⟩ : ∃ vk, v 0 = vk := ⟨_, rfl⟩
        rw [hvk] at cv dv e1 HAPP
        clear hdw hds hal7 e3 e4 happ hrx hsx hal hbx HPX HBX HNEXT hvk
        go_region_law (refine step_app 23 (by rfl) _ _ (by rfl) (by rfl) _ _ (by rfl) (by rfl) _ _ HAPP.out ?_)
        all_goals
          clear y0 y1 y2 y3 y4 d0 d1 d2 d3 d4 dv cv e1 e2
          go_wp2
          go_roundw
          case rel => exact ⟨j + 1, _, _, by omega, by go_num, HB9.out, HP9.out, HNX.1, HNX.2⟩
          case measure => simp [intOf]; omega
    · have hjn : j = N := by omega
      have htk : o.take j = o := List.take_of_length_le (by rw [HN.out]; omega)
      rw [htk] at hsub hcov
      have HE := Lib.hid (H1.out.below hbq1)
      have HBW : Hid (Below w.heap.size w wr) := Lib.hid (HB1.out.trans (hbq1.mono HB1.out.size))
      subst hjn
      clear hbq hpt hbq1 htk
      go_wp2_with fail
      refine (HW.out _).mono ?_
      rintro e w3 ⟨rfl, hb3⟩
      have HB3 := Lib.hid (HBW.out.trans (hb3.mono HBW.out.size))
      have HE3 := Lib.hid (HE.out.below hb3)
      have HP3 := Lib.hid (HPT.out.below hb3)
      clear hb3
      go_wp2_with fail
      refine (HFIN.out y w3 v p HP3.out HE3.out.wf hsub.out hcov.out).mono ?_
      rintro e w4 ⟨B4, c4, rfl, he4, hb4⟩
      have HB4 := Lib.hid (HB3.out.trans (hb4.mono HB3.out.size))
      have HE3 := Lib.hid (HE3.out.below hb4)
      have HE4 := Lib.hid he4
      clear hb4 he4
      go_wp2_with fail
      refine (HAK.out _ _ _ _ _ HE4.out HE3.out).mono ?_
      rintro e w5 ⟨rfl, hb5⟩
      have HB5 := Lib.hid (HB4.out.trans (hb5.mono HB4.out.size))
      clear hb5
      go_wp2
      go_ret
      exact ⟨rfl, HB5.out⟩

set_option maxRecDepth 100000 in
theorem contract (H : Type) (enc : TypeId × Value → H) (W : World) (base : Nat) (args : Array Value) (ds gs : List (DataW H)) (before : List MemPlace)
    (hval : ∀ (j : Nat) t v, Try.f7.params[j]? = some t → args[j]? = some v → Value.okWide Try.prog W .any base t v)
    (hW : DataW.Whole enc Try.prog Try.f7.params.toList Rows.mergeAnySpec.vars false W args.toList ds gs before)
    (hz : (DataW.weightsEach Try.prog Try.f7.params.toList (ds ++ gs)).all (· ≤ reachBytes) = true) :
    Calls Try.prog 7 args W fun e W' => ∃ v, e = .returned v ∧ Rows.mergeAnySpec.post enc Try.prog Try.f7 false true false false W args v W' := by
  have hW' := hW
  obtain ⟨p, q, hA0, hV, rfl, hfz, hnd⟩ := hW
  have hA : DataW.TrodAll enc Try.prog W 0 (fun _ => true) true Try.f7.params.toList args.toList ds p := hA0
  rw [Try.params7] at hA hval hz
  obtain ⟨v0, vs0, d0, ds0, p0, q0, hargs, rfl, rfl, h0, r0⟩ := trodAll_cons hA
  obtain ⟨v1, vs1, d1, ds1, p1, q1, rfl, rfl, rfl, h1, r1⟩ := trodAll_cons r0
  obtain ⟨rfl, rfl, rfl⟩ := trodAll_nil r1
  obtain rfl : args = #[v0, v1] := by cases args; simp_all
  obtain ⟨rfl, rfl⟩ := trodVars_none hV
  obtain ⟨lA, lN, lC, l, rfl, hlenl, hinl, hbl, hcapl⟩ := open_ents (hval 0 22 v0 rfl rfl) h0 (parts_sized hz (j := 0) rfl rfl)
  obtain ⟨sA, sN, sC, s, rfl, hlens, hins, hfits, hbs, hcaps⟩ := open_n64 Try.underlying51 Try.underlying3 (by kernel_rfl) (by kernel_rfl) (hval 1 51 v1 rfl rfl) h1 (parts_sized hz (j := 1) rfl rfl)
  refine (walk lA lN lC l sA sN sC s W hlenl hinl hbl hcapl hlens hins hfits hbs).mono fun e W' ⟨he, hB⟩ => ?_
  subst he
  exact ⟨_, rfl, law_post Try.laidOut (by kernel_rfl) rfl rfl Try.underlying4 hW' rfl hB⟩

set_option maxRecDepth 100000 in
theorem lifted (os : Os) (started : os.Started) (H : Type) (enc : TypeId × Value → H) :
    ReturnsInHanded {} Try.checked os 7 .any (Rows.mergeAnySpec.pre6 enc Try.prog Try.f7 Rows.mergeAnyRow.domain false) (Rows.mergeAnySpec.post enc Try.prog Try.f7 false true false false) := by
  refine returnsInHanded_of_change_sized (C := Try.checked) Try.own started (by kernel_rfl) Try.func7
    (ChangeSpec.witness6 (enc := enc) (C := Try.checked) false ⟨#[], #[.slice none 0 0, .slice none 0 0], []⟩ 8 (by kernel_rfl) (by kernel_rfl) (by kernel_rfl) (by kernel_rfl)) ?_
  intro W base args ds gs before hval hW _ hz _
  exact contract H enc W base args ds gs before hval hW hz

theorem proved : Rows.MergeAnySaid :=
  OpenClaim.holds_of_wide 7 Try.f7 rfl rfl rfl rfl rfl rfl rfl ⟨rfl, rfl, rfl, rfl, rfl⟩ rfl rfl rfl rfl rfl (by kernel_rfl) Try.func7 (by kernel_rfl)
    (of_decide_eq_true (by kernel_rfl)) (by unfold Func.isWrapper; first | (rw [if_pos (by decide +kernel)]; kernel_rfl) | (rw [if_neg (by decide +kernel)]; exact ⟨rfl, rfl⟩))
    (fun os started H enc _ => lifted os started H enc)
end lawAny
end Go.Proofs.Ytfbhdggmefacjaa
