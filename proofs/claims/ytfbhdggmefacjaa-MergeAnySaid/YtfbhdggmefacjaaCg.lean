/- Compact. Made by gen_cg.py. -/
import Derived.Test.YtfbhdggmefacjaaCh
namespace Go.Proofs.Ytfbhdggmefacjaa
open Go.RowKit Go.Shelf
open SK VB
attribute [local go_sem] Oper.semAt_some

set_option maxRecDepth 100000 in
set_option maxHeartbeats 16000000 in
theorem compact_any (A B : Option Addr) (n c m d : Nat) (l : List SK.E) (xs : List Int) (now : Int) (bot : Bool) (w : World) (hn : l.length = n) (hnc : n ≤ c) (hb : n ≤ 100000) (hm : xs.length = m) (hm6 : m ≤ 1000000) (hin : EntsIn w A l) (hx : I64In w B xs) :
    Calls Try.prog 18 #[.slice A n c, .slice B m d, .int .i64 now, .bool bot] w fun e w' => ∃ v, e = .returned v ∧ w'.ownsRow w.heap.size 37 5 v (cpt xs now bot l).length (ecs (cpt xs now bot l)) ∧ Below w.heap.size w w' := by
  refine (callsIn_wide (n := 4)).1 ?_
  refine callsIn_of_wp_marks Try.func18 rfl trivial ?_ rfl
  simp only [Try.ntmps18, List.size_toArray, List.length_cons, List.length_nil, Nat.reduceAdd, Nat.reduceSub, Array.replicate_succ, Array.replicate_zero, List.push_toArray, List.append_toArray, List.nil_append, List.cons_append]
  refine wpIn_wide.2 ?_
  go_wp2_with fail
  have hX0 : Below w.heap.size w (((w.alloc (.cells #[.slice B m d] 43)).alloc (.cells #[.int .i64 now] 2)).alloc (.cells #[.bool bot] 4)) := (((Below.refl _ w).alloc (Nat.le_refl _) _).alloc (by simp) _).alloc (by simp; omega) _
  have hq0 : (((w.alloc (.cells #[.slice B m d] 43)).alloc (.cells #[.int .i64 now] 2)).alloc (.cells #[.bool bot] 4)).heap[w.heap.size]? = some (.cells #[.slice B m d] 43 (0, 0)) := (Below.heap_alloc _ _ _ (by simp; omega)).trans ((Below.heap_alloc _ _ _ (by simp)).trans (heap_alloc_new w _))
  have hq1 : (((w.alloc (.cells #[.slice B m d] 43)).alloc (.cells #[.int .i64 now] 2)).alloc (.cells #[.bool bot] 4)).heap[w.heap.size + 1]? = some (.cells #[.int .i64 now] 2 (0, 0)) := (Below.heap_alloc _ _ _ (by simp)).trans (by have := heap_alloc_new (w.alloc (.cells #[.slice B m d] 43)) (.cells #[.int .i64 now] 2); simpa using this)
  have hq2 : (((w.alloc (.cells #[.slice B m d] 43)).alloc (.cells #[.int .i64 now] 2)).alloc (.cells #[.bool bot] 4)).heap[w.heap.size + 2]? = some (.cells #[.bool bot] 4 (0, 0)) := by
    have := heap_alloc_new ((w.alloc (.cells #[.slice B m d] 43)).alloc (.cells #[.int .i64 now] 2)) (.cells #[.bool bot] 4)
    simpa using this
  have hsz : (((w.alloc (.cells #[.slice B m d] 43)).alloc (.cells #[.int .i64 now] 2)).alloc (.cells #[.bool bot] 4)).heap.size = w.heap.size + 3 := by simp
  generalize ((w.alloc (.cells #[.slice B m d] 43)).alloc (.cells #[.int .i64 now] 2)).alloc (.cells #[.bool bot] 4) = w1 at hX0 hq0 hq1 hq2 hsz ⊢
  obtain ⟨x, hx0⟩ : ∃ x, w.heap.size = x := ⟨_, rfl⟩
  rw [hx0] at hX0 hq0 hq1 hq2 hsz ⊢
  have HX := Lib.hid hx0
  obtain ⟨z, hz⟩ : ∃ z, x + 1 + 1 = z := ⟨_, rfl⟩
  have hz1 : x + 1 < z := by omega
  have hz2 : z < x + 3 := by omega
  rw [show x + 2 = z from hz] at hq2
  rw [hz]
  clear hz
  have HIN1 := Lib.hid (hin.below (by rw [hx0]; exact hX0))
  have hAl : ∀ b ∈ fb A, l ≠ [] → b < x := fun b hb hne => by
    obtain ⟨b', off, hA, hlt, -⟩ := hin.at_ (List.length_pos_iff.2 hne)
    rw [hA] at hb
    simp [fb] at hb
    omega
  refine (clone64_any B m d xs w1 hm (hx.below (by rw [hx0]; exact hX0)) hm6).mono ?_
  rintro e w2 ⟨v0, rfl, ho2, hb2⟩
  rw [hsz] at ho2 hb2
  have hr0 := (hb2.block x (by omega)).trans hq0
  have c0 : w2.cell? ⟨x, 0, none⟩ = some (.slice B m d) := cell_of_row _ _ _ _ _ _ hr0
  have f0 : w2.frozen? ⟨x, 0, none⟩ = false := frozen_of_row _ _ _ _ _ hr0
  have HQ1 := Lib.hid ((hb2.block (x + 1) (by omega)).trans hq1)
  have HQ2 := Lib.hid ((hb2.block z (by omega)).trans hq2)
  have HB2 := Lib.hid (hX0.trans (hb2.mono (by omega)))
  obtain ⟨B0, d0, rfl, -, -⟩ := own_i64 hm ho2
  have ho3 := ho2.kept (grownBy_setCell' w2 x (.slice B0 m d0)) (.inr fun e => by
    have := (ho2.lt x e).1
    omega)
  have hr1 : (w2.setCell ⟨x, 0, none⟩ (.slice B0 m d0)).heap[x]? = some (.cells #[.slice B0 m d0] 43 (0, 0)) := by rw [heap_set_fr hr0]; rfl
  have hs2 : x + 3 ≤ (w2.setCell ⟨x, 0, none⟩ (.slice B0 m d0)).heap.size := by rw [setCell_size]; have := hb2.size; omega
  have HSO := Lib.hid (sort64_any (x + 3) (.slice B0 m d0) m xs (w2.setCell ⟨x, 0, none⟩ (.slice B0 m d0)) hm ho3 hs2 hm6)
  have hb3 : Below x w (w2.setCell ⟨x, 0, none⟩ (.slice B0 m d0)) := HB2.out.setCell (p := ⟨x, 0, none⟩) (Nat.le_refl _) _
  have HQ1' : Hid ((w2.setCell ⟨x, 0, none⟩ (.slice B0 m d0)).heap[x + 1]? = some (.cells #[.int .i64 now] 2 (0, 0))) := Lib.hid ((Below.heap_setCell _ _ _ _ (by show x + 1 ≠ x; omega)).trans HQ1.out)
  have HQ2' : Hid ((w2.setCell ⟨x, 0, none⟩ (.slice B0 m d0)).heap[z]? = some (.cells #[.bool bot] 4 (0, 0))) := Lib.hid ((Below.heap_setCell _ _ _ _ (by show z ≠ x; omega)).trans HQ2.out)
  have HB3 := Lib.hid hb3
  have HR1 := Lib.hid hr1
  clear hX0 hq0 hq1 hq2 hb2 hr0 hr1 ho2 ho3 hb3 HQ1 HQ2 HB2 HIN1
  go_wp2_with fail
  refine HSO.out.mono ?_
  rintro e w4 ⟨rfl, ⟨ys, hperm, hrise, ho4⟩, hb4⟩
  have HQ0 := Lib.hid ((hb4.block x (by omega)).trans HR1.out)
  have HQ1 := Lib.hid ((hb4.block (x + 1) (by omega)).trans HQ1'.out)
  have HQ2 := Lib.hid ((hb4.block z (by omega)).trans HQ2'.out)
  have HB4 : Hid (Below x w w4) := Lib.hid (HB3.out.trans (hb4.mono (by omega)))
  have hs4 : x + 3 ≤ w4.heap.size := Nat.le_trans hs2 hb4.size
  obtain ⟨B1, d1, hB1, hI4, hBl4⟩ := own_i64 (n := m) (by rw [hperm.length_eq, hm]) ho4
  cases hB1
  have HPERM := Lib.hid hperm
  have HRISE := Lib.hid hrise
  have HYL : Hid (ys.length = m) := Lib.hid (by rw [hperm.length_eq, hm])
  clear HSO HQ1' HQ2' HB3 HR1 hb4 hperm hrise ho4 hs2 c0 f0
  obtain ⟨y, hy⟩ : ∃ y, w4.heap.size = y := ⟨_, rfl⟩
  have hbx := Boxed.new w4 23 (.slice none 0 0)
  have hal5 := (Below.refl w4.heap.size w4).alloc (Nat.le_refl _) (.cells #[.slice none 0 0] 23)
  have hs5 : (w4.alloc (.cells #[.slice none 0 0] 23)).heap.size = y + 1 := by simp [hy]
  rw [hy] at hbx hs4
  have HI5 := Lib.hid (hI4.below hal5)
  have HQ0' := Lib.hid ((hal5.block x (by omega)).trans HQ0.out)
  have HQ1' := Lib.hid ((hal5.block (x + 1) (by omega)).trans HQ1.out)
  have HQ2' := Lib.hid ((hal5.block z (by omega)).trans HQ2.out)
  have HB5 : Hid (Below x w (w4.alloc (.cells #[.slice none 0 0] 23))) := Lib.hid (HB4.out.trans (hal5.mono (by omega)))
  have HBX := Lib.hid hbx
  have HIN5 := Lib.hid (hin.below (by rw [hx0]; exact HB5.out))
  clear hal5 hbx HQ0 HQ1 HQ2 HB4 hI4
  go_wp2_with fail
  generalize w4.alloc (.cells #[.slice none 0 0] 23) = w5 at hs5 HI5 HQ0' HQ1' HQ2' HB5 HBX HIN5 ⊢
  refine (eachkey_any A n c w5).mono ?_
  rintro v w6 ⟨rfl, rfl⟩
  have hal := (Below.refl w5.heap.size w5).alloc (Nat.le_refl _) (.cells #[.slice A n c] 23)
  have c0 : (w5.alloc (.cells #[.slice A n c] 23)).cell? ⟨y + 1, 0, none⟩ = some (.slice A n c) := cell_of_row _ _ _ _ _ _ (by have := heap_alloc_new w5 (.cells #[.slice A n c] 23); rwa [hs5] at this)
  have hs6 : (w5.alloc (.cells #[.slice A n c] 23)).heap.size = y + 2 := by simp [hs5]
  have HIN6 := Lib.hid (HIN5.out.below hal)
  have HI6 := Lib.hid (HI5.out.below hal)
  have HQ0 := Lib.hid ((hal.block x (by omega)).trans HQ0'.out)
  have HQ1 := Lib.hid ((hal.block (x + 1) (by omega)).trans HQ1'.out)
  have HQ2 := Lib.hid ((hal.block z (by omega)).trans HQ2'.out)
  have HBX6 := Lib.hid (HBX.out.alloc (.cells #[.slice A n c] 23))
  have HB6 : Hid (Below x w (w5.alloc (.cells #[.slice A n c] 23))) := Lib.hid (HB5.out.trans (hal.mono (by omega)))
  go_wp2_with fail
  try rw [hs5]
  generalize w5.alloc (.cells #[.slice A n c] 23) = w6 at c0 hs6 HIN6 HI6 HQ0 HQ1 HQ2 HBX6 HB6 ⊢
  clear hal HQ0' HQ1' HQ2' HBX HB5 HIN5 HI5
  have hsto := each_stops hn hnc (by omega) HIN6.out [y] w6.heap.size (y + 1) (by simp; omega) (fun hne b hb => by have := hAl b hb hne; simp; omega) (Nat.le_refl _) (4 - 1) c0
  have HG0 : Hid (GotV y w6 (cout xs now bot (([] : List (Run l)).map (·.1))) w6) := Lib.hid ⟨Kept.refl _ _ _, _, HBX6.out, by simpa [ecs, cout] using World.ownsRow_nil _ _ _ _⟩
  have hmx : Try.prog.follows .mixedOrders = true := by kernel_rfl
  have hfA : Fence.wide.fn 33 := trivial
  have hfB : Fence.wide.fn 34 := trivial
  have hfC : Fence.wide.fn 25 := trivial
  refine (wpIn_wide (n := 4)).1 ?_
  refine wpIn_rangeFunc_ownH rfl (by decide) (gf := 39) (lb := #[.pointer (some ⟨y + 1, 0, none⟩)]) rfl trivial (enters_of Try.func39 (by kernel_rfl) rfl)
    hsto (fun h k => h.trans k) (fun W l o o' hl h h1 h2 => Kept.put W l o o' (Nat.le_refl _) hl h h1 h2) (Below.refl _ _) (fun _ => rfl)
    (fun pre W => GotV y w6 (cout xs now bot (pre.map (·.1))) W)
    (fun _ _ _ => False)
    (GotV.own _)
    (fun _ _ _ _ _ h _ _ => h)
    HG0.out
    (fun g a'' _ => a'' = { tmps := #[.slice A n c, .slice B m d, .int .i64 now, .bool bot, undef, .pointer (some ⟨x, 0, none⟩), .pointer (some ⟨x + 1, 0, none⟩), .pointer (some ⟨z, 0, none⟩), .slice none 0 0, .pointer (some ⟨y, 0, none⟩), runV A c g.1, undef, undef, undef, undef, undef, .slice B m d, .slice B0 m d0, .slice B0 m d0, .tuple #[], .slice A n c, .func (.func 39) #[] #[.pointer (some ⟨y + 1, 0, none⟩)], runV A c g.1, undef, undef, undef, undef, undef, undef, undef, undef, undef, undef, undef, undef, undef, undef, undef, undef, undef, undef, undef, undef, undef, undef, undef, undef, undef, undef, undef, undef, undef], defers := [] })
    (fun _ _ _ _ _ _ h _ _ => h) ?assign ?body ?done ?stop
  case assign =>
    rintro id pre g W K' hi hK'
    rw [encG_eq]
    have HK' := Lib.hid hK'
    have HI := Lib.hid hi
    clear hK' hi
    gi_wp2
    exact HK'.out _ _ (KeepsFrom.refl _ _) (Kept.refl _ _ _) HI.out rfl
  case stop =>
    rintro D c pre W hD hpre hx' hdef
    exact hx'.elim
  case body =>
    rintro id pre g a'' W hl ⟨rr, hr⟩ hi rfl hlt
    obtain ⟨v, hv, hown⟩ := hi.row
    have hNW := hi.kept.size
    have hEW : EntsIn W A l := by
      cases l with
      | nil => exact ⟨by simp, fun h => by simp at h⟩
      | cons e t => exact HIN6.out.kept hi.kept (fun b hb => by have := hAl b hb (by simp); simp; omega)
    obtain ⟨hrun, hrp, hrl⟩ := hEW.run g.2
    have hne : l ≠ [] := fun e => by have h0 : l.length = 0 := List.length_eq_zero_iff.2 e; omega
    have hgAl : ∀ b ∈ fb (A.map fun a => (⟨a.block, a.off + g.1.at_ * 5, none⟩ : Addr)), b < x := fun b hb => hAl b (by
      cases A with
      | none => simp [fb] at hb
      | some a => simpa [fb] using hb) hne
    have hq0 := (hi.kept.block x (by omega) (by simp; omega)).trans HQ0.out
    have hq1 := (hi.kept.block (x + 1) (by omega) (by simp; omega)).trans HQ1.out
    have hq2 := (hi.kept.block z (by omega) (by simp; omega)).trans HQ2.out
    have hiW : I64In W B0 ys := HI6.out.kept hi.kept (fun b hb => by have := hBl4 b hb; rw [hy] at this; simp; omega)
    have hout : cout xs now bot ((pre ++ [g]).map (·.1)) = cout xs now bot (pre.map (·.1)) ++ pkd (keepS ys now bot g.1.l) 0 g.1.l := by
      rw [List.map_append, List.map_cons, List.map_nil, cout_snoc, keepS_perm HPERM.out]
      rfl
    have hol : (cout xs now bot (pre.map (·.1))).length ≤ 10000000000 := by
      have h1 := cout_len xs now bot n (pre.map (·.1)) (fun q hq => by
        obtain ⟨q', hq', rfl⟩ := List.mem_map.1 hq
        have := (hEW.run q'.2).2.2
        omega)
      have h2 := gs_len l
      rw [List.length_map] at h1
      have h3 : pre.length * n ≤ 100000 * 100000 := Nat.mul_le_mul (by omega) hb
      omega
    obtain ⟨O, hO⟩ : ∃ O, cout xs now bot (pre.map (·.1)) = O := ⟨_, rfl⟩
    rw [hO] at hown hout hol
    obtain ⟨gl, hgl⟩ : ∃ gl, g.1.l = gl := ⟨_, rfl⟩
    obtain ⟨gc, hgc⟩ : ∃ gc, c - g.1.at_ = gc := ⟨_, rfl⟩
    obtain ⟨gA, hgA⟩ : ∃ gA, (A.map fun a => (⟨a.block, a.off + g.1.at_ * 5, none⟩ : Addr)) = gA := ⟨_, rfl⟩
    obtain ⟨gn, hgn⟩ : ∃ gn, gl.length = gn := ⟨_, rfl⟩
    unfold runV
    rw [hgl] at hrun hrp hrl hout ⊢
    rw [hgA] at hrun hgAl ⊢
    rw [hgc]
    rw [hgn] at hrp hrl ⊢
    have HND := Lib.hid (needed_any gA B0 gn gc m d0 gl ys W hgn HYL.out hrp (by omega) hm6 hrun hiW HRISE.out)
    have HI := Lib.hid hi
    have HNW := Lib.hid hNW
    have HV := Lib.hid hv
    have HOW := Lib.hid hown
    have HRUN := Lib.hid hrun
    have HGA := Lib.hid hgAl
    have HOUT := Lib.hid hout
    have HGN := Lib.hid hgn
    have HQ0W := Lib.hid hq0
    have HQ1W := Lib.hid hq1
    have HQ2W := Lib.hid hq2
    have cq0 : W.cell? ⟨x, 0, none⟩ = some (.slice B0 m d0) := cell_of_row _ _ _ _ _ _ hq0
    clear hi hNW hv hown hr hEW hrun hout hO hgl hgc hgA hgn hq0 hq1 hq2 hiW hgAl hne
    gi_wp2_with fail
    refine CallsIn.inRound id ((callsIn_wide.2 HND.out).mono ?_)
    rintro e W1 ⟨rfl, hs1, hB1⟩
    obtain ⟨ym, hym⟩ : ∃ ym, W.heap.size = ym := ⟨_, rfl⟩
    rw [hym] at hs1 ⊢
    have HYM := Lib.hid hym
    have hmid1 : Midc y w6 W ym gn (ndd gl ys) W1 v O := ⟨KeepsFrom.of_grow hB1, Kept.of_below (hB1.mono HNW.out), (hB1.block y (lt_of_cells HV.out)).trans HV.out, own_below HOW.out hB1, hs1⟩
    have cz : W1.cell? ⟨z, 0, none⟩ = some (.bool bot) := cell_of_row _ _ _ _ _ _ ((hB1.block z (lt_of_cells HQ2W.out)).trans HQ2W.out)
    have cx1 : W1.cell? ⟨x + 1, 0, none⟩ = some (.int .i64 now) := cell_of_row _ _ _ _ _ _ ((hB1.block (x + 1) (lt_of_cells HQ1W.out)).trans HQ1W.out)
    have HM1 := Lib.hid hmid1
    have HB1 := Lib.hid hB1
    clear hs1 hB1 hmid1 hym cq0
    cases bot with
    | false =>
      have HM2 : Hid (Midc y w6 W ym gn (keepS ys now false gl) W1 v O) := HM1
      clear HM1
      obtain ⟨S, hS⟩ : ∃ S, keepS ys now false gl = S := ⟨_, rfl⟩
      rw [hS] at HM2 HOUT
      clear hS
      obtain ⟨vA, vc, rfl⟩ : ∃ vA vc, v = .slice vA O.length vc := by
        rcases HOW.out.2 with ⟨e, h0⟩ | ⟨gg, cap, cur, e, _⟩
        · exact ⟨none, 0, by rw [e, h0]⟩
        · exact ⟨_, _, e⟩
      have HEND : Hid (∀ W3 vA vc, Midc y w6 W ym gn S W3 (.slice vA (O ++ pkd S 0 gl).length vc) (O ++ pkd S 0 gl) → KeepsFrom w6.heap.size W W3 ∧ Kept [y] w6.heap.size W W3 ∧ GotV y w6 (cout xs now false ((pre ++ [g]).map (·.1))) W3) := Lib.hid fun W3 vA vc h => ⟨h.from_, h.kept, HI.out.kept.trans h.kept, _, h.box, by rw [HOUT.out]; exact h.row⟩
      have hgnb : gn ≤ 100000 := by omega
      gi_wp2_with fail
      gi_loopw [33] (fun i wr => ∃ (j : Nat) (vA : Option Addr) (vc : Nat), j ≤ gn ∧ i = .int .i64 j ∧ Midc y w6 W ym gn S wr (.slice vA (O ++ pkd S 0 (gl.take j)).length vc) (O ++ pkd S 0 (gl.take j))) (fun i _ => gn - (intOf i).toNat)
      case atStart => exact ⟨0, vA, vc, by omega, rfl, by simpa [pkd] using HM2.out⟩
      case round =>
        obtain ⟨j, vA, vc, hj, rfl, hmid⟩ := hrel
        by_cases hlt : j < gn
        · have hjl : j < gl.length := by rw [HGN.out]; exact hlt
          have hent : EntsIn wr gA gl := HRUN.out.kept hmid.kept (fun b hb => by
            have h1 := HGA.out b hb
            simp
            omega)
          have hpk := pkd_snoc S 0 (gl.take j) gl[j]
          rw [← List.take_succ_eq_append_getElem hjl, List.length_take, Nat.min_eq_left (by omega), Nat.zero_add] at hpk
          have hpl := pkd_len S 0 (gl.take j)
          rw [List.length_take] at hpl
          have hLl : (O ++ pkd S 0 (gl.take j)).length ≤ 20000000000 := by rw [List.length_append]; omega
          obtain ⟨qb, f, hA, hql, hc⟩ := hent.at_ (by omega)
          obtain ⟨z0, z1, z2, z3, z4⟩ := hc j hjl
          have hwf := hent.wf _ (List.getElem_mem hjl)
          obtain ⟨ej, hej⟩ : ∃ e, gl[j] = e := ⟨_, rfl⟩
          rw [hej] at z0 z1 z2 z3 z4 hwf hpk
          have HCL : Hid (∀ W', Calls Try.prog 25 #[ej.val] W' fun e w' => e = .returned ej.val ∧ Below W'.heap.size W' w') := Lib.hid fun W' => eclone_any ej W' ⟨by have := hwf.key; omega, by have := hwf.value; omega⟩
          have HAPP0 := Lib.hid (fun (W7 : World) (h7 : Below wr.heap.size wr W7) => hmid.app rfl HNW.out (by omega) (by omega) h7 ej)
          have hal1 := (Below.refl wr.heap.size wr).alloc (Nat.le_refl _) (.cells #[.string ej.key, .int .i64 ej.seq, .bool ej.gone, .string ej.value, .int .i64 ej.til] 37)
          have hlook := (hmid.set.below hal1).look (i := j) (by omega)
          have HG2 := Lib.hid (hmid.grow HNW.out (hal1.alloc (Nat.le_trans (Nat.le_refl _) hal1.size) (.cells #[] 73)))
          have hyl0 := lt_of_cells hmid.box
          have c20 := hmid.box.cell
          obtain ⟨vn, hvn⟩ : ∃ vn, (O ++ pkd S 0 (gl.take j)).length = vn := ⟨_, rfl⟩
          have HNX : Hid (∀ W' A' c', Midc y w6 W ym gn S W' (.slice A' (vn + 1) c') (O ++ pkd S 0 (gl.take j) ++ [ej]) → S j = true → Midc y w6 W ym gn S W' (.slice A' (O ++ pkd S 0 (gl.take (j + 1))).length c') (O ++ pkd S 0 (gl.take (j + 1)))) := Lib.hid fun W' A' c' h hs => by
            rw [hpk, hs, if_pos rfl, ← List.append_assoc, List.length_append, hvn]
            exact h
          have HNF : Hid (∀ W' A' c', Midc y w6 W ym gn S W' (.slice A' vn c') (O ++ pkd S 0 (gl.take j)) → S j = false → Midc y w6 W ym gn S W' (.slice A' (O ++ pkd S 0 (gl.take (j + 1))).length c') (O ++ pkd S 0 (gl.take (j + 1)))) := Lib.hid fun W' A' c' h hs => by
            rw [hpk, hs, if_neg (by decide), List.append_nil, hvn]
            exact h
          rw [hvn] at HAPP0 HG2 c20
          obtain ⟨k2, q2, g2, v2, t2⟩ := ej
          simp only [SK.E.val] at HCL HAPP0 HG2 z0 z1 z2 z3 z4 hlook hal1
          have g0 : (0 : Int) ≤ (j : Int) := by omega
          have g1 : (j : Int) < (gn : Int) := by omega
          subst hA
          clear hc hej hmid hent hpk hwf hvn
          cases hSj : S j
          · rw [hSj] at hlook HNF
            have HGF := Lib.hid (HNF.out _ _ _ HG2.out rfl)
            clear HNX HNF HG2 HAPP0 HCL
            gi_wp2
            go_roundw
            case rel => exact ⟨j + 1, _, _, by omega, by go_num, HGF.out⟩
            case measure => simp [intOf]; omega
          · rw [hSj] at hlook HNX
            clear HNF HG2
            gi_wp2_with fail
            have hbx : Below wr.heap.size wr ((wr.alloc (.cells #[.string k2, .int .i64 q2, .bool g2, .string v2, .int .i64 t2] 37)).alloc (.cells #[] 73)) := hal1.alloc hal1.size _
            have hsx : ((wr.alloc (.cells #[.string k2, .int .i64 q2, .bool g2, .string v2, .int .i64 t2] 37)).alloc (.cells #[] 73)).heap.size = wr.heap.size + 2 := by simp
            have hrx : ((wr.alloc (.cells #[.string k2, .int .i64 q2, .bool g2, .string v2, .int .i64 t2] 37)).alloc (.cells #[] 73)).heap[wr.heap.size]? = some (.cells #[.string k2, .int .i64 q2, .bool g2, .string v2, .int .i64 t2] 37 (0, 0)) := (Below.heap_alloc _ _ _ (by simp)).trans (heap_alloc_new wr _)
            generalize (wr.alloc (.cells #[.string k2, .int .i64 q2, .bool g2, .string v2, .int .i64 t2] 37)).alloc (.cells #[] 73) = wx at hbx hsx hrx ⊢
            obtain ⟨p, hp⟩ : ∃ p, wr.heap.size = p := ⟨_, rfl⟩
            rw [hp] at hsx hrx hyl0 ⊢
            have y0 : wx.cell? ⟨p, 0, none⟩ = some (.string k2) := by simp [World.cell?, hrx]
            have y1 : wx.cell? ⟨p, 1, none⟩ = some (.int .i64 q2) := by simp [World.cell?, hrx]
            have y2 : wx.cell? ⟨p, 2, none⟩ = some (.bool g2) := by simp [World.cell?, hrx]
            have y3 : wx.cell? ⟨p, 3, none⟩ = some (.string v2) := by simp [World.cell?, hrx]
            have y4 : wx.cell? ⟨p, 4, none⟩ = some (.int .i64 t2) := by simp [World.cell?, hrx]
            have c2 : wx.cell? ⟨y, 0, none⟩ = some (.slice vA vn vc) := (hbx.cell (p := ⟨y, 0, none⟩) (by show y < _; omega)).trans c20
            have hyl : y < wx.heap.size := by omega
            have hpl2 : p < wx.heap.size := by omega
            have HAPPS := Lib.hid (fun (W7 : World) (h7 : Below wx.heap.size wx.drew W7) => HAPP0.out W7 (hbx.trans (Below.trans ((Below.refl _ wx).drew) (h7.mono hbx.size))))
            have HNL := Lib.hid (fun W' A' c' h => HNX.out W' A' c' h trivial)
            clear HAPP0 HNX hbx hrx hsx hp z0 z1 z2 z3 z4 c20 hlook hal1
            refine wpIn_region_any hmx (any_round (F := Fence.wide) rfl (plain_spec (plain_all (by kernel_rfl))) _ _ _ _ ?_)
            change wpAnyIn _ _ _ _ _ _ _ _ _ (World.drew _)
            refine wpAnyIn_ready (rs := [0, 1]) (by kernel_rfl) (by simp) ?_
            refine AllReadyIn.cons rfl (fun K hK => ?_) (AllReadyIn.cons rfl (fun K hK => ?_) AllReadyIn.nil)
            · skip
              go_simp
              refine hK _ _ ?_; clear hK K
              refine wpAnyIn_ready (rs := [1]) (by kernel_rfl) (by simp) ?_
              refine AllReadyIn.cons rfl (fun K hK => ?_) AllReadyIn.nil
              go_simp
              refine hK _ _ ?_; clear hK K
              refine wpAnyIn_ready (rs := [2]) (by kernel_rfl) (by simp) ?_
              refine AllReadyIn.cons rfl (fun K hK => ?_) AllReadyIn.nil
              go_simp
              gi_wp2_with (gi_at_call 25; refine (callsIn_wide.2 (HCL.out _)).mono ?_; rintro e W7 ⟨rfl, hb7⟩
                           obtain ⟨A6, c6, w8, happ, e1, e2, e3, e4⟩ := HAPPS.out W7 hb7
                           have c7 : W7.cell? ⟨y, 0, none⟩ = some (.slice vA vn vc) := (hb7.cell (p := ⟨y, 0, none⟩) hyl).trans c2
                           have hyl7 : y < W7.heap.size := block_lt_of_cell c7
                           have E4 := Lib.hid (HNL.out _ _ _ e4)
                           have HAPPW := Lib.hid happ
                           clear e3 e4 hb7 happ)
              refine wpAnyIn_ready (rs := [3]) (by kernel_rfl) (by simp) ?_
              refine AllReadyIn.cons rfl (fun K hK => ?_) AllReadyIn.nil
              go_simp
              refine hK _ _ ?_; clear hK K
              refine wpAnyIn_ready (rs := [4]) (by kernel_rfl) (by simp) ?_
              refine AllReadyIn.cons rfl (fun K hK => ?_) AllReadyIn.nil
              refine step_app_in 23 (by rfl) _ _ (by rfl) (by rfl) _ _ (by rfl) (by rfl) _ _ HAPPW.out ?_
              refine hK _ _ ?_; clear hK K
              refine wpAnyIn_ready (rs := [5]) (by kernel_rfl) (by simp) ?_
              refine AllReadyIn.cons rfl (fun K hK => ?_) AllReadyIn.nil
              go_simp
              refine hK _ _ ?_; clear hK K
              refine wpAnyIn_done (by kernel_rfl) ?_ _
              gi_wp2
              go_roundw
              case rel => exact ⟨j + 1, _, _, by omega, by go_num, E4.out⟩
              case measure => simp [intOf]; omega
            · skip
              go_simp
              refine hK _ _ ?_; clear hK K
              refine wpAnyIn_ready (rs := [0, 2]) (by kernel_rfl) (by simp) ?_
              refine AllReadyIn.cons rfl (fun K hK => ?_) (AllReadyIn.cons rfl (fun K hK => ?_) AllReadyIn.nil)
              · skip
                go_simp
                refine hK _ _ ?_; clear hK K
                refine wpAnyIn_ready (rs := [2]) (by kernel_rfl) (by simp) ?_
                refine AllReadyIn.cons rfl (fun K hK => ?_) AllReadyIn.nil
                go_simp
                gi_wp2_with (gi_at_call 25; refine (callsIn_wide.2 (HCL.out _)).mono ?_; rintro e W7 ⟨rfl, hb7⟩
                             obtain ⟨A6, c6, w8, happ, e1, e2, e3, e4⟩ := HAPPS.out W7 hb7
                             have c7 : W7.cell? ⟨y, 0, none⟩ = some (.slice vA vn vc) := (hb7.cell (p := ⟨y, 0, none⟩) hyl).trans c2
                             have hyl7 : y < W7.heap.size := block_lt_of_cell c7
                             have E4 := Lib.hid (HNL.out _ _ _ e4)
                             have HAPPW := Lib.hid happ
                             clear e3 e4 hb7 happ)
                refine wpAnyIn_ready (rs := [3]) (by kernel_rfl) (by simp) ?_
                refine AllReadyIn.cons rfl (fun K hK => ?_) AllReadyIn.nil
                go_simp
                refine hK _ _ ?_; clear hK K
                refine wpAnyIn_ready (rs := [4]) (by kernel_rfl) (by simp) ?_
                refine AllReadyIn.cons rfl (fun K hK => ?_) AllReadyIn.nil
                refine step_app_in 23 (by rfl) _ _ (by rfl) (by rfl) _ _ (by rfl) (by rfl) _ _ HAPPW.out ?_
                refine hK _ _ ?_; clear hK K
                refine wpAnyIn_ready (rs := [5]) (by kernel_rfl) (by simp) ?_
                refine AllReadyIn.cons rfl (fun K hK => ?_) AllReadyIn.nil
                go_simp
                refine hK _ _ ?_; clear hK K
                refine wpAnyIn_done (by kernel_rfl) ?_ _
                gi_wp2
                go_roundw
                case rel => exact ⟨j + 1, _, _, by omega, by go_num, E4.out⟩
                case measure => simp [intOf]; omega
              · skip
                go_simp
                gi_wp2_with (gi_at_call 25; refine (callsIn_wide.2 (HCL.out _)).mono ?_; rintro e W7 ⟨rfl, hb7⟩
                             obtain ⟨A6, c6, w8, happ, e1, e2, e3, e4⟩ := HAPPS.out W7 hb7
                             have c7 : W7.cell? ⟨y, 0, none⟩ = some (.slice vA vn vc) := (hb7.cell (p := ⟨y, 0, none⟩) hyl).trans c2
                             have hyl7 : y < W7.heap.size := block_lt_of_cell c7
                             have E4 := Lib.hid (HNL.out _ _ _ e4)
                             have HAPPW := Lib.hid happ
                             clear e3 e4 hb7 happ)
                refine wpAnyIn_ready (rs := [0, 3]) (by kernel_rfl) (by simp) ?_
                refine AllReadyIn.cons rfl (fun K hK => ?_) (AllReadyIn.cons rfl (fun K hK => ?_) AllReadyIn.nil)
                · skip
                  go_simp
                  refine hK _ _ ?_; clear hK K
                  refine wpAnyIn_ready (rs := [3]) (by kernel_rfl) (by simp) ?_
                  refine AllReadyIn.cons rfl (fun K hK => ?_) AllReadyIn.nil
                  go_simp
                  refine hK _ _ ?_; clear hK K
                  refine wpAnyIn_ready (rs := [4]) (by kernel_rfl) (by simp) ?_
                  refine AllReadyIn.cons rfl (fun K hK => ?_) AllReadyIn.nil
                  refine step_app_in 23 (by rfl) _ _ (by rfl) (by rfl) _ _ (by rfl) (by rfl) _ _ HAPPW.out ?_
                  refine hK _ _ ?_; clear hK K
                  refine wpAnyIn_ready (rs := [5]) (by kernel_rfl) (by simp) ?_
                  refine AllReadyIn.cons rfl (fun K hK => ?_) AllReadyIn.nil
                  go_simp
                  refine hK _ _ ?_; clear hK K
                  refine wpAnyIn_done (by kernel_rfl) ?_ _
                  gi_wp2
                  go_roundw
                  case rel => exact ⟨j + 1, _, _, by omega, by go_num, E4.out⟩
                  case measure => simp [intOf]; omega
                · skip
                  go_simp
                  refine hK _ _ ?_; clear hK K
                  refine wpAnyIn_ready (rs := [0]) (by kernel_rfl) (by simp) ?_
                  refine AllReadyIn.cons rfl (fun K hK => ?_) AllReadyIn.nil
                  go_simp
                  refine hK _ _ ?_; clear hK K
                  refine wpAnyIn_ready (rs := [4]) (by kernel_rfl) (by simp) ?_
                  refine AllReadyIn.cons rfl (fun K hK => ?_) AllReadyIn.nil
                  refine step_app_in 23 (by rfl) _ _ (by rfl) (by rfl) _ _ (by rfl) (by rfl) _ _ HAPPW.out ?_
                  refine hK _ _ ?_; clear hK K
                  refine wpAnyIn_ready (rs := [5]) (by kernel_rfl) (by simp) ?_
                  refine AllReadyIn.cons rfl (fun K hK => ?_) AllReadyIn.nil
                  go_simp
                  refine hK _ _ ?_; clear hK K
                  refine wpAnyIn_done (by kernel_rfl) ?_ _
                  gi_wp2
                  go_roundw
                  case rel => exact ⟨j + 1, _, _, by omega, by go_num, E4.out⟩
                  case measure => simp [intOf]; omega
        · have hjn : j = gn := by omega
          have htk : gl.take j = gl := List.take_of_length_le (by rw [HGN.out]; omega)
          rw [htk] at hmid
          have HE := Lib.hid (HEND.out _ _ _ hmid)
          subst hjn
          clear hmid htk
          gi_wp2
          exact HE.out
    | true =>
      have HDD := Lib.hid (dropdead_any gA gn gc gn ym (ndd gl ys) gl now W1 HGN.out (by omega) (HRUN.out.below HB1.out) (fun b hb => by
        have h1 := HGA.out b hb
        have h2 := lt_of_cells HQ1W.out
        have h3 := HB1.out.size
        have h4 := HYM.out
        simp
        omega) HM1.out.set (fun i hi => by unfold ndd; rw [decide_eq_false (by rw [HGN.out]; omega)]; rfl))
      gi_wp2_with fail
      refine CallsIn.inRound id ((callsIn_wide.2 HDD.out).mono ?_)
      rintro e W2 ⟨rfl, hs2, hk2⟩
      have hb2 : Below W.heap.size W W2 := HB1.out.trans (hk2.below HB1.out.size (fun k hk => by
        have := HYM.out
        simp at hk
        omega))
      have HM2 : Hid (Midc y w6 W ym gn (keepS ys now true gl) W2 v O) := Lib.hid ⟨KeepsFrom.of_grow hb2, Kept.of_below (hb2.mono HNW.out), (hb2.block y (lt_of_cells HV.out)).trans HV.out, own_below HOW.out hb2, hs2⟩
      clear hs2 hk2 hb2 HDD HM1 HB1 cz cx1
      obtain ⟨S, hS⟩ : ∃ S, keepS ys now true gl = S := ⟨_, rfl⟩
      rw [hS] at HM2 HOUT
      clear hS
      obtain ⟨vA, vc, rfl⟩ : ∃ vA vc, v = .slice vA O.length vc := by
        rcases HOW.out.2 with ⟨e, h0⟩ | ⟨gg, cap, cur, e, _⟩
        · exact ⟨none, 0, by rw [e, h0]⟩
        · exact ⟨_, _, e⟩
      have HEND : Hid (∀ W3 vA vc, Midc y w6 W ym gn S W3 (.slice vA (O ++ pkd S 0 gl).length vc) (O ++ pkd S 0 gl) → KeepsFrom w6.heap.size W W3 ∧ Kept [y] w6.heap.size W W3 ∧ GotV y w6 (cout xs now true ((pre ++ [g]).map (·.1))) W3) := Lib.hid fun W3 vA vc h => ⟨h.from_, h.kept, HI.out.kept.trans h.kept, _, h.box, by rw [HOUT.out]; exact h.row⟩
      have hgnb : gn ≤ 100000 := by omega
      gi_wp2_with fail
      gi_loopw [33] (fun i wr => ∃ (j : Nat) (vA : Option Addr) (vc : Nat), j ≤ gn ∧ i = .int .i64 j ∧ Midc y w6 W ym gn S wr (.slice vA (O ++ pkd S 0 (gl.take j)).length vc) (O ++ pkd S 0 (gl.take j))) (fun i _ => gn - (intOf i).toNat)
      case atStart => exact ⟨0, vA, vc, by omega, rfl, by simpa [pkd] using HM2.out⟩
      case round =>
        obtain ⟨j, vA, vc, hj, rfl, hmid⟩ := hrel
        by_cases hlt : j < gn
        · have hjl : j < gl.length := by rw [HGN.out]; exact hlt
          have hent : EntsIn wr gA gl := HRUN.out.kept hmid.kept (fun b hb => by
            have h1 := HGA.out b hb
            simp
            omega)
          have hpk := pkd_snoc S 0 (gl.take j) gl[j]
          rw [← List.take_succ_eq_append_getElem hjl, List.length_take, Nat.min_eq_left (by omega), Nat.zero_add] at hpk
          have hpl := pkd_len S 0 (gl.take j)
          rw [List.length_take] at hpl
          have hLl : (O ++ pkd S 0 (gl.take j)).length ≤ 20000000000 := by rw [List.length_append]; omega
          obtain ⟨qb, f, hA, hql, hc⟩ := hent.at_ (by omega)
          obtain ⟨z0, z1, z2, z3, z4⟩ := hc j hjl
          have hwf := hent.wf _ (List.getElem_mem hjl)
          obtain ⟨ej, hej⟩ : ∃ e, gl[j] = e := ⟨_, rfl⟩
          rw [hej] at z0 z1 z2 z3 z4 hwf hpk
          have HCL : Hid (∀ W', Calls Try.prog 25 #[ej.val] W' fun e w' => e = .returned ej.val ∧ Below W'.heap.size W' w') := Lib.hid fun W' => eclone_any ej W' ⟨by have := hwf.key; omega, by have := hwf.value; omega⟩
          have HAPP0 := Lib.hid (fun (W7 : World) (h7 : Below wr.heap.size wr W7) => hmid.app rfl HNW.out (by omega) (by omega) h7 ej)
          have hal1 := (Below.refl wr.heap.size wr).alloc (Nat.le_refl _) (.cells #[.string ej.key, .int .i64 ej.seq, .bool ej.gone, .string ej.value, .int .i64 ej.til] 37)
          have hlook := (hmid.set.below hal1).look (i := j) (by omega)
          have HG2 := Lib.hid (hmid.grow HNW.out (hal1.alloc (Nat.le_trans (Nat.le_refl _) hal1.size) (.cells #[] 73)))
          have hyl0 := lt_of_cells hmid.box
          have c20 := hmid.box.cell
          obtain ⟨vn, hvn⟩ : ∃ vn, (O ++ pkd S 0 (gl.take j)).length = vn := ⟨_, rfl⟩
          have HNX : Hid (∀ W' A' c', Midc y w6 W ym gn S W' (.slice A' (vn + 1) c') (O ++ pkd S 0 (gl.take j) ++ [ej]) → S j = true → Midc y w6 W ym gn S W' (.slice A' (O ++ pkd S 0 (gl.take (j + 1))).length c') (O ++ pkd S 0 (gl.take (j + 1)))) := Lib.hid fun W' A' c' h hs => by
            rw [hpk, hs, if_pos rfl, ← List.append_assoc, List.length_append, hvn]
            exact h
          have HNF : Hid (∀ W' A' c', Midc y w6 W ym gn S W' (.slice A' vn c') (O ++ pkd S 0 (gl.take j)) → S j = false → Midc y w6 W ym gn S W' (.slice A' (O ++ pkd S 0 (gl.take (j + 1))).length c') (O ++ pkd S 0 (gl.take (j + 1)))) := Lib.hid fun W' A' c' h hs => by
            rw [hpk, hs, if_neg (by decide), List.append_nil, hvn]
            exact h
          rw [hvn] at HAPP0 HG2 c20
          obtain ⟨k2, q2, g2, v2, t2⟩ := ej
          simp only [SK.E.val] at HCL HAPP0 HG2 z0 z1 z2 z3 z4 hlook hal1
          have g0 : (0 : Int) ≤ (j : Int) := by omega
          have g1 : (j : Int) < (gn : Int) := by omega
          subst hA
          clear hc hej hmid hent hpk hwf hvn
          cases hSj : S j
          · rw [hSj] at hlook HNF
            have HGF := Lib.hid (HNF.out _ _ _ HG2.out rfl)
            clear HNX HNF HG2 HAPP0 HCL
            gi_wp2
            go_roundw
            case rel => exact ⟨j + 1, _, _, by omega, by go_num, HGF.out⟩
            case measure => simp [intOf]; omega
          · rw [hSj] at hlook HNX
            clear HNF HG2
            gi_wp2_with fail
            have hbx : Below wr.heap.size wr ((wr.alloc (.cells #[.string k2, .int .i64 q2, .bool g2, .string v2, .int .i64 t2] 37)).alloc (.cells #[] 73)) := hal1.alloc hal1.size _
            have hsx : ((wr.alloc (.cells #[.string k2, .int .i64 q2, .bool g2, .string v2, .int .i64 t2] 37)).alloc (.cells #[] 73)).heap.size = wr.heap.size + 2 := by simp
            have hrx : ((wr.alloc (.cells #[.string k2, .int .i64 q2, .bool g2, .string v2, .int .i64 t2] 37)).alloc (.cells #[] 73)).heap[wr.heap.size]? = some (.cells #[.string k2, .int .i64 q2, .bool g2, .string v2, .int .i64 t2] 37 (0, 0)) := (Below.heap_alloc _ _ _ (by simp)).trans (heap_alloc_new wr _)
            generalize (wr.alloc (.cells #[.string k2, .int .i64 q2, .bool g2, .string v2, .int .i64 t2] 37)).alloc (.cells #[] 73) = wx at hbx hsx hrx ⊢
            obtain ⟨p, hp⟩ : ∃ p, wr.heap.size = p := ⟨_, rfl⟩
            rw [hp] at hsx hrx hyl0 ⊢
            have y0 : wx.cell? ⟨p, 0, none⟩ = some (.string k2) := by simp [World.cell?, hrx]
            have y1 : wx.cell? ⟨p, 1, none⟩ = some (.int .i64 q2) := by simp [World.cell?, hrx]
            have y2 : wx.cell? ⟨p, 2, none⟩ = some (.bool g2) := by simp [World.cell?, hrx]
            have y3 : wx.cell? ⟨p, 3, none⟩ = some (.string v2) := by simp [World.cell?, hrx]
            have y4 : wx.cell? ⟨p, 4, none⟩ = some (.int .i64 t2) := by simp [World.cell?, hrx]
            have c2 : wx.cell? ⟨y, 0, none⟩ = some (.slice vA vn vc) := (hbx.cell (p := ⟨y, 0, none⟩) (by show y < _; omega)).trans c20
            have hyl : y < wx.heap.size := by omega
            have hpl2 : p < wx.heap.size := by omega
            have HAPPS := Lib.hid (fun (W7 : World) (h7 : Below wx.heap.size wx.drew W7) => HAPP0.out W7 (hbx.trans (Below.trans ((Below.refl _ wx).drew) (h7.mono hbx.size))))
            have HNL := Lib.hid (fun W' A' c' h => HNX.out W' A' c' h trivial)
            clear HAPP0 HNX hbx hrx hsx hp z0 z1 z2 z3 z4 c20 hlook hal1
            refine wpIn_region_any hmx (any_round (F := Fence.wide) rfl (plain_spec (plain_all (by kernel_rfl))) _ _ _ _ ?_)
            change wpAnyIn _ _ _ _ _ _ _ _ _ (World.drew _)
            refine wpAnyIn_ready (rs := [0, 1]) (by kernel_rfl) (by simp) ?_
            refine AllReadyIn.cons rfl (fun K hK => ?_) (AllReadyIn.cons rfl (fun K hK => ?_) AllReadyIn.nil)
            · skip
              go_simp
              refine hK _ _ ?_; clear hK K
              refine wpAnyIn_ready (rs := [1]) (by kernel_rfl) (by simp) ?_
              refine AllReadyIn.cons rfl (fun K hK => ?_) AllReadyIn.nil
              go_simp
              refine hK _ _ ?_; clear hK K
              refine wpAnyIn_ready (rs := [2]) (by kernel_rfl) (by simp) ?_
              refine AllReadyIn.cons rfl (fun K hK => ?_) AllReadyIn.nil
              go_simp
              gi_wp2_with (gi_at_call 25; refine (callsIn_wide.2 (HCL.out _)).mono ?_; rintro e W7 ⟨rfl, hb7⟩
                           obtain ⟨A6, c6, w8, happ, e1, e2, e3, e4⟩ := HAPPS.out W7 hb7
                           have c7 : W7.cell? ⟨y, 0, none⟩ = some (.slice vA vn vc) := (hb7.cell (p := ⟨y, 0, none⟩) hyl).trans c2
                           have hyl7 : y < W7.heap.size := block_lt_of_cell c7
                           have E4 := Lib.hid (HNL.out _ _ _ e4)
                           have HAPPW := Lib.hid happ
                           clear e3 e4 hb7 happ)
              refine wpAnyIn_ready (rs := [3]) (by kernel_rfl) (by simp) ?_
              refine AllReadyIn.cons rfl (fun K hK => ?_) AllReadyIn.nil
              go_simp
              refine hK _ _ ?_; clear hK K
              refine wpAnyIn_ready (rs := [4]) (by kernel_rfl) (by simp) ?_
              refine AllReadyIn.cons rfl (fun K hK => ?_) AllReadyIn.nil
              refine step_app_in 23 (by rfl) _ _ (by rfl) (by rfl) _ _ (by rfl) (by rfl) _ _ HAPPW.out ?_
              refine hK _ _ ?_; clear hK K
              refine wpAnyIn_ready (rs := [5]) (by kernel_rfl) (by simp) ?_
              refine AllReadyIn.cons rfl (fun K hK => ?_) AllReadyIn.nil
              go_simp
              refine hK _ _ ?_; clear hK K
              refine wpAnyIn_done (by kernel_rfl) ?_ _
              gi_wp2
              go_roundw
              case rel => exact ⟨j + 1, _, _, by omega, by go_num, E4.out⟩
              case measure => simp [intOf]; omega
            · skip
              go_simp
              refine hK _ _ ?_; clear hK K
              refine wpAnyIn_ready (rs := [0, 2]) (by kernel_rfl) (by simp) ?_
              refine AllReadyIn.cons rfl (fun K hK => ?_) (AllReadyIn.cons rfl (fun K hK => ?_) AllReadyIn.nil)
              · skip
                go_simp
                refine hK _ _ ?_; clear hK K
                refine wpAnyIn_ready (rs := [2]) (by kernel_rfl) (by simp) ?_
                refine AllReadyIn.cons rfl (fun K hK => ?_) AllReadyIn.nil
                go_simp
                gi_wp2_with (gi_at_call 25; refine (callsIn_wide.2 (HCL.out _)).mono ?_; rintro e W7 ⟨rfl, hb7⟩
                             obtain ⟨A6, c6, w8, happ, e1, e2, e3, e4⟩ := HAPPS.out W7 hb7
                             have c7 : W7.cell? ⟨y, 0, none⟩ = some (.slice vA vn vc) := (hb7.cell (p := ⟨y, 0, none⟩) hyl).trans c2
                             have hyl7 : y < W7.heap.size := block_lt_of_cell c7
                             have E4 := Lib.hid (HNL.out _ _ _ e4)
                             have HAPPW := Lib.hid happ
                             clear e3 e4 hb7 happ)
                refine wpAnyIn_ready (rs := [3]) (by kernel_rfl) (by simp) ?_
                refine AllReadyIn.cons rfl (fun K hK => ?_) AllReadyIn.nil
                go_simp
                refine hK _ _ ?_; clear hK K
                refine wpAnyIn_ready (rs := [4]) (by kernel_rfl) (by simp) ?_
                refine AllReadyIn.cons rfl (fun K hK => ?_) AllReadyIn.nil
                refine step_app_in 23 (by rfl) _ _ (by rfl) (by rfl) _ _ (by rfl) (by rfl) _ _ HAPPW.out ?_
                refine hK _ _ ?_; clear hK K
                refine wpAnyIn_ready (rs := [5]) (by kernel_rfl) (by simp) ?_
                refine AllReadyIn.cons rfl (fun K hK => ?_) AllReadyIn.nil
                go_simp
                refine hK _ _ ?_; clear hK K
                refine wpAnyIn_done (by kernel_rfl) ?_ _
                gi_wp2
                go_roundw
                case rel => exact ⟨j + 1, _, _, by omega, by go_num, E4.out⟩
                case measure => simp [intOf]; omega
              · skip
                go_simp
                gi_wp2_with (gi_at_call 25; refine (callsIn_wide.2 (HCL.out _)).mono ?_; rintro e W7 ⟨rfl, hb7⟩
                             obtain ⟨A6, c6, w8, happ, e1, e2, e3, e4⟩ := HAPPS.out W7 hb7
                             have c7 : W7.cell? ⟨y, 0, none⟩ = some (.slice vA vn vc) := (hb7.cell (p := ⟨y, 0, none⟩) hyl).trans c2
                             have hyl7 : y < W7.heap.size := block_lt_of_cell c7
                             have E4 := Lib.hid (HNL.out _ _ _ e4)
                             have HAPPW := Lib.hid happ
                             clear e3 e4 hb7 happ)
                refine wpAnyIn_ready (rs := [0, 3]) (by kernel_rfl) (by simp) ?_
                refine AllReadyIn.cons rfl (fun K hK => ?_) (AllReadyIn.cons rfl (fun K hK => ?_) AllReadyIn.nil)
                · skip
                  go_simp
                  refine hK _ _ ?_; clear hK K
                  refine wpAnyIn_ready (rs := [3]) (by kernel_rfl) (by simp) ?_
                  refine AllReadyIn.cons rfl (fun K hK => ?_) AllReadyIn.nil
                  go_simp
                  refine hK _ _ ?_; clear hK K
                  refine wpAnyIn_ready (rs := [4]) (by kernel_rfl) (by simp) ?_
                  refine AllReadyIn.cons rfl (fun K hK => ?_) AllReadyIn.nil
                  refine step_app_in 23 (by rfl) _ _ (by rfl) (by rfl) _ _ (by rfl) (by rfl) _ _ HAPPW.out ?_
                  refine hK _ _ ?_; clear hK K
                  refine wpAnyIn_ready (rs := [5]) (by kernel_rfl) (by simp) ?_
                  refine AllReadyIn.cons rfl (fun K hK => ?_) AllReadyIn.nil
                  go_simp
                  refine hK _ _ ?_; clear hK K
                  refine wpAnyIn_done (by kernel_rfl) ?_ _
                  gi_wp2
                  go_roundw
                  case rel => exact ⟨j + 1, _, _, by omega, by go_num, E4.out⟩
                  case measure => simp [intOf]; omega
                · skip
                  go_simp
                  refine hK _ _ ?_; clear hK K
                  refine wpAnyIn_ready (rs := [0]) (by kernel_rfl) (by simp) ?_
                  refine AllReadyIn.cons rfl (fun K hK => ?_) AllReadyIn.nil
                  go_simp
                  refine hK _ _ ?_; clear hK K
                  refine wpAnyIn_ready (rs := [4]) (by kernel_rfl) (by simp) ?_
                  refine AllReadyIn.cons rfl (fun K hK => ?_) AllReadyIn.nil
                  refine step_app_in 23 (by rfl) _ _ (by rfl) (by rfl) _ _ (by rfl) (by rfl) _ _ HAPPW.out ?_
                  refine hK _ _ ?_; clear hK K
                  refine wpAnyIn_ready (rs := [5]) (by kernel_rfl) (by simp) ?_
                  refine AllReadyIn.cons rfl (fun K hK => ?_) AllReadyIn.nil
                  go_simp
                  refine hK _ _ ?_; clear hK K
                  refine wpAnyIn_done (by kernel_rfl) ?_ _
                  gi_wp2
                  go_roundw
                  case rel => exact ⟨j + 1, _, _, by omega, by go_num, E4.out⟩
                  case measure => simp [intOf]; omega
        · have hjn : j = gn := by omega
          have htk : gl.take j = gl := List.take_of_length_le (by rw [HGN.out]; omega)
          rw [htk] at hmid
          have HE := Lib.hid (HEND.out _ _ _ hmid)
          subst hjn
          clear hmid htk
          gi_wp2
          exact HE.out
  case done =>
    rintro D gs' W hD hS hi hdef
    have hS' : gs'.map (·.1) = gs l := hS
    rw [hS', cout_gs] at hi
    obtain ⟨v, hv, hown⟩ := hi.row
    have cv := hv.cell
    have hown2 : (W.putObj D (.deferred none)).ownsRow w6.heap.size 37 5 v (cpt xs now bot l).length (ecs (cpt xs now bot l)) := hown.kept (grownBy_putObj' W D (.deferred none)) (by
      rcases hown.2 with ⟨e, _⟩ | ⟨g', cap, cur, e, _, h3, _⟩
      · left; rw [e]; rfl
      · right
        rw [e]
        intro he
        have he' : g' = D := by simpa [Value.ownBlock] using he
        rw [he', hdef] at h3
        cases h3)
    have hbl : Below x w (W.putObj D (.deferred none)) := (HB6.out.trans ((hi.kept.below (n := x) (by omega) (by simp; omega)))).trans (belowK_b (w := w6) (by omega) _ D _ _ hD hdef rfl rfl)
    have HO2 := Lib.hid (own_less hown2 (show x ≤ w6.heap.size by omega))
    have HBL := Lib.hid hbl
    have HDEF := Lib.hid hdef
    clear hi hv hown hown2 hbl hdef hS'
    go_wp2_with fail
    refine ⟨by simp, .inl ⟨_, _, rfl, run_takeDeferred HDEF.out, ?_⟩⟩
    refine ⟨v, ?_, v, rfl, by rw [HX.out]; exact HO2.out, by rw [HX.out]; exact HBL.out⟩
    simp [results, Try.results18, go_sem]
end Go.Proofs.Ytfbhdggmefacjaa
