/- The walk of Put. -/
import Derived.Test.YtgnlhnfjanoahaaPt
namespace Go.Proofs.Ytgnlhnfjanoahaa
open Go.RowKit
open SK

theorem put_nil (e : E) (w : World) : Calls Try.prog 10 #[.pointer none, e.val] w fun r w' => r = .returned (.int .i64 1) ∧ Below w.heap.size w w' := by
  obtain ⟨k, q, g, v, t⟩ := e
  simp only [E.val]
  go_enter Try.func10, Try.ntmps10
  go_wp2
  go_ret
  exact ⟨rfl, (Below.refl _ _).alloc (Nat.le_refl _) _⟩

theorem put_bad (a : Nat) (e : E) (w : World) (he : e.wf) (hg : good e ≠ 0) : Calls Try.prog 10 #[.pointer (some ⟨a, 0, none⟩), e.val] w fun r w' => r = .returned (.int .i64 (good e)) ∧ Below w.heap.size w w' := by
  have HG : Hid (∀ W, Calls Try.prog 24 #[e.val] W fun r w' => r = .returned (.int .i64 (good e)) ∧ Below W.heap.size W w') := fun W => good_any e W he
  obtain ⟨G, hG⟩ : ∃ G, good e = G := ⟨_, rfl⟩
  rw [hG] at HG hg ⊢
  obtain ⟨k, q, g, v, t⟩ := e
  simp only [E.val] at HG ⊢
  clear hG he
  have hg2 : (G == 0) = false := beq_eq_false_iff_ne.2 hg
  go_enter Try.func10, Try.ntmps10
  go_wp2_with fail
  refine (HG.out _).mono ?_
  rintro r w1 ⟨rfl, hb⟩
  have HB : Hid (Below w.heap.size w w1) := Lib.hid (((Below.refl _ w).alloc (Nat.le_refl _) _).trans (hb.mono (by simp)))
  clear hb
  go_wp2
  go_ret
  exact ⟨rfl, HB.out⟩

set_option maxRecDepth 100000 in
set_option maxHeartbeats 4000000 in
theorem put_there {B : Nat} {w : World} {a hb : Nat} {cs : List Int} {l : List ND} {s : St} (h : Rep B w a hb cs l s) (e : E) (he : e.wf) (hg : good e = 0) (pre post : List ND) (hl : l = pre ++ post) (hpre : ∀ d ∈ pre, less d.e e = true) (hpost : ∀ d ∈ post, less d.e e = false) (d : ND) (r : List ND) (hpd : post = d :: r) (hle : less e d.e = false) :
    Calls Try.prog 10 #[.pointer (some ⟨a, 0, none⟩), e.val] w fun r w' => r = .returned (.int .i64 11) ∧ Below w.heap.size w w' := by
  have h1 : ∀ d ∈ l, 1 ≤ d.h := fun d hd => (h.full d hd).2.1
  have hlst : (lst 0 pre).map (·.b) = pre.getLast?.map (·.b) := by rw [lst0_last fun d hd => h1 d (by rw [hl]; simp [hd])]
  have hnx : nx 0 post = post.head?.map (·.b) := nx0_head fun d hd => h1 d (by rw [hl]; simp [hd])
  have HG : Hid (∀ W, Calls Try.prog 24 #[e.val] W fun r w' => r = .returned (.int .i64 0) ∧ Below W.heap.size W w') := fun W => by have := good_any e W he; rw [hg] at this; exact this
  have HA : Hid (∀ W, Below w.heap.size w W → Calls Try.prog 25 #[.pointer (some ⟨a, 0, none⟩), e.val] W fun r w' => r = .returned (aheadV pre) ∧ Below W.heap.size W w') := fun W hB => ahead_any (h.below hB) e pre post hl hpre hpost
  have HN : Hid (∀ W, Below w.heap.size w W → Calls Try.prog 26 #[.pointer (some ⟨a, 0, none⟩), pv (pre.getLast?.map (·.b))] W fun e w' => e = .returned (towerV a pre.getLast?) ∧ W = w') := fun W hB =>
    next_any a pre.getLast? W (fun d hd => (h.below hB).node (by rw [hl]; exact List.mem_append_left _ (List.mem_of_getLast? hd)))
  have HT : Hid (∀ W, Below w.heap.size w W → W.cell? ⟨towerB a pre.getLast?, towerO pre.getLast? + 0, none⟩ = some (pv (nx 0 post)) ∧ 0 < towerN pre.getLast?) := fun W hB => by
    obtain ⟨x, y, -⟩ := (h.below hB).tower pre post hl 0 (fun d hd => h1 d (by rw [hl]; exact List.mem_append_left _ (List.mem_of_getLast? hd))) (by omega)
    exact ⟨x, y⟩
  have HL : Hid (∀ W, Calls Try.prog 11 #[e.val, d.e.val] W fun r w' => r = .returned (.bool false) ∧ Below W.heap.size W w') := fun W => by have := less_any e d.e W; rw [hle] at this; exact this
  have HND : Hid (∀ W, Below w.heap.size w W → W.heap[d.b]? = some (.cells (ncells d) 62 (0, 0))) := fun W hB => (h.below hB).node (by rw [hl, hpd]; simp)
  have hhd : post.head?.map (·.b) = some d.b := by rw [hpd]; rfl
  rw [hhd] at hnx
  clear hhd
  obtain ⟨p0, hp0⟩ : ∃ p, ((lst 0 pre).map (fun d : ND => d.b)).map (fun b => (⟨b, 0, none⟩ : Addr)) = p := ⟨_, rfl⟩
  obtain ⟨p1, hp1⟩ : ∃ p, ((lst 1 pre).map (fun d : ND => d.b)).map (fun b => (⟨b, 0, none⟩ : Addr)) = p := ⟨_, rfl⟩
  obtain ⟨p2, hp2⟩ : ∃ p, ((lst 2 pre).map (fun d : ND => d.b)).map (fun b => (⟨b, 0, none⟩ : Addr)) = p := ⟨_, rfl⟩
  obtain ⟨p3, hp3⟩ : ∃ p, ((lst 3 pre).map (fun d : ND => d.b)).map (fun b => (⟨b, 0, none⟩ : Addr)) = p := ⟨_, rfl⟩
  obtain ⟨p4, hp4⟩ : ∃ p, ((lst 4 pre).map (fun d : ND => d.b)).map (fun b => (⟨b, 0, none⟩ : Addr)) = p := ⟨_, rfl⟩
  obtain ⟨p5, hp5⟩ : ∃ p, ((lst 5 pre).map (fun d : ND => d.b)).map (fun b => (⟨b, 0, none⟩ : Addr)) = p := ⟨_, rfl⟩
  obtain ⟨p6, hp6⟩ : ∃ p, ((lst 6 pre).map (fun d : ND => d.b)).map (fun b => (⟨b, 0, none⟩ : Addr)) = p := ⟨_, rfl⟩
  obtain ⟨p7, hp7⟩ : ∃ p, ((lst 7 pre).map (fun d : ND => d.b)).map (fun b => (⟨b, 0, none⟩ : Addr)) = p := ⟨_, rfl⟩
  have HV : Hid (aheadV pre = .agg #[.pointer p0, .pointer p1, .pointer p2, .pointer p3, .pointer p4, .pointer p5, .pointer p6, .pointer p7]) := Lib.hid (by
    unfold aheadV arr8 pv
    dsimp only
    rw [hp0, hp1, hp2, hp3, hp4, hp5, hp6, hp7])
  unfold towerV at HN
  obtain ⟨tb, htb⟩ : ∃ y, towerB a pre.getLast? = y := ⟨_, rfl⟩
  obtain ⟨to, hto⟩ : ∃ y, towerO pre.getLast? = y := ⟨_, rfl⟩
  obtain ⟨tn, htn⟩ : ∃ y, towerN pre.getLast? = y := ⟨_, rfl⟩
  have hpp0 : pv (pre.getLast?.map (·.b)) = .pointer p0 := by rw [← hp0, hlst]; rfl
  rw [htb, hto, htn, hpp0] at HN
  rw [htb, hto, htn, hnx] at HT
  rw [HV.out] at HA
  simp only [pv, Option.map_some] at HT
  obtain ⟨k, q, g, v, t⟩ := e
  simp only [E.val] at HG HA ⊢
  clear htb hto htn hpp0 hp0 hp1 hp2 hp3 hp4 hp5 hp6 hp7 hlst hnx
  obtain ⟨x, hx⟩ : ∃ x, w.heap.size = x := ⟨_, rfl⟩
  have HX := Lib.hid hx
  have HB0 := Lib.hid ((Below.refl w.heap.size w).alloc (Nat.le_refl _) (.cells #[.string k, .int .i64 q, .bool g, .string v, .int .i64 t] 36))
  have HR0 := Lib.hid (heap_alloc_new w (.cells #[.string k, .int .i64 q, .bool g, .string v, .int .i64 t] 36))
  have HZ0 : Hid ((w.alloc (.cells #[.string k, .int .i64 q, .bool g, .string v, .int .i64 t] 36)).heap.size = x + 1) := Lib.hid (by rw [← hx]; simp)
  rw [hx] at HB0 HR0
  clear hx
  go_enter Try.func10, Try.ntmps10
  go_wp2_with fail
  generalize w.alloc (.cells #[.string k, .int .i64 q, .bool g, .string v, .int .i64 t] 36) = W0 at HB0 HR0 HZ0 ⊢
  rw [HX.out]
  refine (HG.out _).mono ?_
  rintro r w1 ⟨rfl, hb⟩
  have HB1 : Hid (Below (x + 1) W0 w1) := Lib.hid (hb.mono (by have := HZ0.out; omega))
  clear hb
  have hR1 : w1.heap[x]? = some (.cells #[.string k, .int .i64 q, .bool g, .string v, .int .i64 t] 36 (0, 0)) := (HB1.out.block x (by omega)).trans HR0.out
  have b0 : w1.cell? ⟨x, 0, none⟩ = some (.string k) := cell_of_row _ _ _ _ _ _ hR1
  have b1 : w1.cell? ⟨x, 1, none⟩ = some (.int .i64 q) := cell_of_row _ _ _ _ _ _ hR1
  have b2 : w1.cell? ⟨x, 2, none⟩ = some (.bool g) := cell_of_row _ _ _ _ _ _ hR1
  have b3 : w1.cell? ⟨x, 3, none⟩ = some (.string v) := cell_of_row _ _ _ _ _ _ hR1
  have b4 : w1.cell? ⟨x, 4, none⟩ = some (.int .i64 t) := cell_of_row _ _ _ _ _ _ hR1
  have hlt1 : x + 1 ≤ w1.heap.size := by have := HZ0.out; have := HB1.out.size; omega
  have HBW1 : Hid (Below w.heap.size w w1) := Lib.hid (by rw [HX.out]; exact HB0.out.trans (HB1.out.mono (by omega)))
  clear hR1
  go_wp2_with fail
  refine (HA.out _ HBW1.out).mono ?_
  rintro r w2 ⟨rfl, hb⟩
  have HB2 : Hid (Below x w w2) := Lib.hid ((HB0.out.trans (HB1.out.mono (by omega))).trans (hb.mono (by omega)))
  have hR2 : w2.heap[x]? = some (.cells #[.string k, .int .i64 q, .bool g, .string v, .int .i64 t] 36 (0, 0)) := (hb.block x (by omega)).trans ((HB1.out.block x (by omega)).trans HR0.out)
  have hlt2 : x + 1 ≤ w2.heap.size := by have := hb.size; omega
  have HB3 : Hid (Below x w (w2.alloc (.cells #[.pointer p0, .pointer p1, .pointer p2, .pointer p3, .pointer p4, .pointer p5, .pointer p6, .pointer p7] 65))) := Lib.hid (HB2.out.alloc (by omega) _)
  have HA3 := Lib.hid (heap_alloc_new w2 (.cells #[.pointer p0, .pointer p1, .pointer p2, .pointer p3, .pointer p4, .pointer p5, .pointer p6, .pointer p7] 65))
  have HR3 : Hid ((w2.alloc (.cells #[.pointer p0, .pointer p1, .pointer p2, .pointer p3, .pointer p4, .pointer p5, .pointer p6, .pointer p7] 65)).heap[x]? = some (.cells #[.string k, .int .i64 q, .bool g, .string v, .int .i64 t] 36 (0, 0))) := Lib.hid ((Below.heap_alloc _ _ _ (by omega)).trans hR2)
  have HZ3 : Hid ((w2.alloc (.cells #[.pointer p0, .pointer p1, .pointer p2, .pointer p3, .pointer p4, .pointer p5, .pointer p6, .pointer p7] 65)).heap.size = w2.heap.size + 1) := Lib.hid (by simp)
  clear hb hR2 b0 b1 b2 b3 b4 hlt1
  go_wp2_with fail
  generalize w2.alloc (.cells #[.pointer p0, .pointer p1, .pointer p2, .pointer p3, .pointer p4, .pointer p5, .pointer p6, .pointer p7] 65) = w3 at HB3 HA3 HR3 HZ3 ⊢
  obtain ⟨y, hy⟩ : ∃ y, w2.heap.size = y := ⟨_, rfl⟩
  rw [hy] at HA3 HZ3 hlt2 ⊢
  clear hy HB2
  have HBW3 : Hid (Below w.heap.size w w3) := Lib.hid (by rw [HX.out]; exact HB3.out)
  obtain ⟨zt, hz0⟩ := HT.out w3 HBW3.out
  simp only [Nat.add_zero] at zt
  refine (HN.out _ HBW3.out).mono ?_
  rintro r w3' ⟨rfl, rfl⟩
  have hz0' : (0 : Int) < (tn : Int) := by omega
  have hlt3 : y + 1 ≤ w3.heap.size := by have := HZ3.out; omega
  go_wp2_with fail
  have b0 : w3.cell? ⟨x, 0, none⟩ = some (.string k) := cell_of_row _ _ _ _ _ _ HR3.out
  have b1 : w3.cell? ⟨x, 1, none⟩ = some (.int .i64 q) := cell_of_row _ _ _ _ _ _ HR3.out
  have b2 : w3.cell? ⟨x, 2, none⟩ = some (.bool g) := cell_of_row _ _ _ _ _ _ HR3.out
  have b3 : w3.cell? ⟨x, 3, none⟩ = some (.string v) := cell_of_row _ _ _ _ _ _ HR3.out
  have b4 : w3.cell? ⟨x, 4, none⟩ = some (.int .i64 t) := cell_of_row _ _ _ _ _ _ HR3.out
  clear zt hz0 hz0' HT HN HA HG
  have hnd := HND.out w3 HBW3.out
  have hdlt : d.b < w3.heap.size := (Array.getElem?_eq_some_iff.1 hnd).1
  obtain ⟨b, hb'⟩ : ∃ b, d.b = b := ⟨_, rfl⟩
  unfold ncells at hnd
  rw [hb'] at hnd hdlt ⊢
  obtain ⟨de, hde⟩ : ∃ de, d.e = de := ⟨_, rfl⟩
  rw [hde] at hnd HL
  obtain ⟨k2, q2, g2, v2, t2⟩ := de
  simp only [E.val] at hnd HL
  have z0 : w3.cell? ⟨b, 0, none⟩ = some (.string k2) := cell_of_row _ _ _ _ _ _ hnd
  have z1 : w3.cell? ⟨b, 1, none⟩ = some (.int .i64 q2) := cell_of_row _ _ _ _ _ _ hnd
  have z2 : w3.cell? ⟨b, 2, none⟩ = some (.bool g2) := cell_of_row _ _ _ _ _ _ hnd
  have z3 : w3.cell? ⟨b, 3, none⟩ = some (.string v2) := cell_of_row _ _ _ _ _ _ hnd
  have z4 : w3.cell? ⟨b, 4, none⟩ = some (.int .i64 t2) := cell_of_row _ _ _ _ _ _ hnd
  clear hnd hb' hde
  go_region_held3 (fun w' => w'.cell? ⟨b, 0, none⟩ = some (.string k2) ∧ w'.cell? ⟨b, 1, none⟩ = some (.int .i64 q2) ∧ w'.cell? ⟨b, 2, none⟩ = some (.bool g2) ∧ w'.cell? ⟨b, 3, none⟩ = some (.string v2) ∧ w'.cell? ⟨b, 4, none⟩ = some (.int .i64 t2) ∧ w'.cell? ⟨x, 0, none⟩ = some (.string k) ∧ w'.cell? ⟨x, 1, none⟩ = some (.int .i64 q) ∧ w'.cell? ⟨x, 2, none⟩ = some (.bool g) ∧ w'.cell? ⟨x, 3, none⟩ = some (.string v) ∧ w'.cell? ⟨x, 4, none⟩ = some (.int .i64 t))
    (first | go_keep | exact HS4.out | fail)
    (first
      | (go_at_call 11
         refine (HL.out _).mono ?_
         rintro e w4 ⟨rfl, hbb⟩
         have HBB : Hid (Below w3.heap.size w3 w4) := Lib.hid (Below.trans (Below.refl _ _).drew hbb)
         have HS4 : Hid (w4.cell? ⟨b, 0, none⟩ = some (.string k2) ∧ w4.cell? ⟨b, 1, none⟩ = some (.int .i64 q2) ∧ w4.cell? ⟨b, 2, none⟩ = some (.bool g2) ∧ w4.cell? ⟨b, 3, none⟩ = some (.string v2) ∧ w4.cell? ⟨b, 4, none⟩ = some (.int .i64 t2) ∧ w4.cell? ⟨x, 0, none⟩ = some (.string k) ∧ w4.cell? ⟨x, 1, none⟩ = some (.int .i64 q) ∧ w4.cell? ⟨x, 2, none⟩ = some (.bool g) ∧ w4.cell? ⟨x, 3, none⟩ = some (.string v) ∧ w4.cell? ⟨x, 4, none⟩ = some (.int .i64 t)) := Lib.hid ⟨(hbb.cell (p := ⟨b, 0, none⟩) (by simp; omega)).trans z0, (hbb.cell (p := ⟨b, 1, none⟩) (by simp; omega)).trans z1, (hbb.cell (p := ⟨b, 2, none⟩) (by simp; omega)).trans z2, (hbb.cell (p := ⟨b, 3, none⟩) (by simp; omega)).trans z3, (hbb.cell (p := ⟨b, 4, none⟩) (by simp; omega)).trans z4, (hbb.cell (p := ⟨x, 0, none⟩) (by simp; omega)).trans b0, (hbb.cell (p := ⟨x, 1, none⟩) (by simp; omega)).trans b1, (hbb.cell (p := ⟨x, 2, none⟩) (by simp; omega)).trans b2, (hbb.cell (p := ⟨x, 3, none⟩) (by simp; omega)).trans b3, (hbb.cell (p := ⟨x, 4, none⟩) (by simp; omega)).trans b4⟩
         clear hbb)
      | fail)
  all_goals
    have HE : Hid (Below w.heap.size w w4) := Lib.hid (HBW3.out.trans (HBB.out.mono (by have := HX.out; omega)))
    clear HS4 b0 b1 b2 b3 b4 z0 z1 z2 z3 z4
    go_wp2
    go_ret
    exact ⟨rfl, HE.out⟩

set_option maxRecDepth 100000 in
set_option maxHeartbeats 4000000 in
theorem put_end {B : Nat} {w : World} {a hb : Nat} {cs : List Int} {l : List ND} {s : St} (h : Rep B w a hb cs l s) (hB : B ≤ w.heap.size) (e : E) (he : e.wf) (hg : good e = 0) (pre post : List ND) (hl : l = pre ++ post) (hpre : ∀ d ∈ pre, less d.e e = true) (hpost : ∀ d ∈ post, less d.e e = false) (hpd : post = []) (hsz : 0 ≤ s.size ∧ s.size ≤ 1152921504606846976) (hlen : s.l.length ≤ 1152921504606846976) (h1e : pre.map (·.e) = front e s.l) (h2e : post.map (·.e) = rest e s.l) :
    Calls Try.prog 10 #[.pointer (some ⟨a, 0, none⟩), e.val] w fun r w' => r = .returned (.int .i64 0) ∧ ∃ l', Rep B w' a hb cs l' ⟨front e s.l ++ e :: rest e s.l, s.size + cost cs s.l.length e⟩ ∧ Keeps (a :: hb :: blks l) w w' ∧ ∀ x ∈ blks l', x ∈ blks l ∨ w.heap.size ≤ x := by
  have h1 : ∀ d ∈ l, 1 ≤ d.h := fun d hd => (h.full d hd).2.1
  have hlst : (lst 0 pre).map (·.b) = pre.getLast?.map (·.b) := by rw [lst0_last fun d hd => h1 d (by rw [hl]; simp [hd])]
  have hnx : nx 0 post = post.head?.map (·.b) := nx0_head fun d hd => h1 d (by rw [hl]; simp [hd])
  have HG : Hid (∀ W, Calls Try.prog 24 #[e.val] W fun r w' => r = .returned (.int .i64 0) ∧ Below W.heap.size W w') := fun W => by have := good_any e W he; rw [hg] at this; exact this
  have HA : Hid (∀ W, Below w.heap.size w W → Calls Try.prog 25 #[.pointer (some ⟨a, 0, none⟩), e.val] W fun r w' => r = .returned (aheadV pre) ∧ Below W.heap.size W w') := fun W hB => ahead_any (h.below hB) e pre post hl hpre hpost
  have HN : Hid (∀ W, Below w.heap.size w W → Calls Try.prog 26 #[.pointer (some ⟨a, 0, none⟩), pv (pre.getLast?.map (·.b))] W fun e w' => e = .returned (towerV a pre.getLast?) ∧ W = w') := fun W hB =>
    next_any a pre.getLast? W (fun d hd => (h.below hB).node (by rw [hl]; exact List.mem_append_left _ (List.mem_of_getLast? hd)))
  have HT : Hid (∀ W, Below w.heap.size w W → W.cell? ⟨towerB a pre.getLast?, towerO pre.getLast? + 0, none⟩ = some (pv (nx 0 post)) ∧ 0 < towerN pre.getLast?) := fun W hB => by
    obtain ⟨x, y, -⟩ := (h.below hB).tower pre post hl 0 (fun d hd => h1 d (by rw [hl]; exact List.mem_append_left _ (List.mem_of_getLast? hd))) (by omega)
    exact ⟨x, y⟩
  have hhd : post.head?.map (·.b) = none := by rw [hpd]; rfl
  rw [hhd] at hnx
  clear hhd
  have hgz := good_zero hg
  have hht := height_range cs s.l.length
  have HCO : Hid (∀ W, Below w.heap.size w W → Calls Try.prog 13 #[.pointer (some ⟨a, 0, none⟩), e.val] W fun r w' => r = .returned (.int .i64 (cost cs s.l.length e)) ∧ Below W.heap.size W w') := fun W hB => cost_any (h.below hB) e he
  have HCL : Hid (∀ W, Calls Try.prog 22 #[e.val] W fun r w' => r = .returned e.val ∧ Below W.heap.size W w') := fun W => eclone_any e W ⟨by have := he.key; omega, by have := he.value; omega⟩
  have hco : 0 ≤ cost cs s.l.length e ∧ cost cs s.l.length e ≤ 1000 := by unfold cost; omega
  obtain ⟨C, hC⟩ : ∃ C, cost cs s.l.length e = C := ⟨_, rfl⟩
  obtain ⟨H, hH⟩ : ∃ H, height cs s.l.length = H := ⟨_, rfl⟩
  obtain ⟨c, hc⟩ : ∃ c, s.l.length = c := ⟨_, rfl⟩
  obtain ⟨z, hz⟩ : ∃ z, s.size = z := ⟨_, rfl⟩
  have HM0 : Hid (Mid B w a hb cs (pre ++ post) c z) := Lib.hid (by rw [← hc, ← hz, ← hl]; exact h.mid)
  have HFULL : Hid (∀ d ∈ pre ++ post, d.h = d.c ∧ 1 ≤ d.h ∧ d.h ≤ 8) := Lib.hid (by rw [← hl]; exact h.full)
  have HBL : Hid (∀ x ∈ a :: hb :: blks (pre ++ post), x < w.heap.size) := Lib.hid (fun x hx => (HM0.out.lo x hx).2)
  have HBB0 := Lib.hid hB
  have HREP : Hid (∀ W n z', Mid B W a hb cs (pre ++ n :: post) (c + 1) z' → n.e = e → (n.h = n.c ∧ 1 ≤ n.h ∧ n.h ≤ 8) → Rep B W a hb cs (pre ++ n :: post) ⟨front e s.l ++ e :: rest e s.l, z'⟩) := fun W n z' hm hne hn => by
    subst hne
    exact put_rep (by rw [hc]; exact hm) HFULL.out hn h1e h2e
  have hcH : cs.length = cs.length := rfl
  have HNH : Hid (∀ W cc zz, Mid B W a hb cs (pre ++ post) c zz → cc = c → Calls Try.prog 28 #[.pointer (some ⟨a, 0, none⟩)] W fun e w' => e = .returned (.int .i64 H) ∧ Below W.heap.size W w') := fun W cc zz hm _ => by
    have := nextHeight_at (n := c) (hm.cells 0) (hm.cells 9) hm.coins
    rw [← hc, hH] at this
    exact this
  rw [hC] at HCO hco ⊢
  rw [hH] at hht
  rw [hc] at hlen
  rw [hz] at hsz ⊢
  rw [hl]
  have HFR : Hid (front e s.l = front e s.l) := rfl
  have hwz : IntKind.i64.wrap (z + C) = z + C := wrap_in _ (by omega)
  have hwc : IntKind.i64.wrap ((c : Int) + 1) = (c : Int) + 1 := wrap_in _ (by omega)
  obtain ⟨S', hS'⟩ : ∃ S', (⟨front e s.l ++ e :: rest e s.l, z + C⟩ : St) = S' := ⟨_, rfl⟩
  have HREP2 : Hid (∀ W n, Mid B W a hb cs (pre ++ n :: post) (c + 1) (z + C) → n.e = e → (n.h = n.c ∧ 1 ≤ n.h ∧ n.h ≤ 8) → Rep B W a hb cs (pre ++ n :: post) S') := fun W n hm hne hn => by
    rw [← hS']
    exact HREP.out W n _ hm hne hn
  rw [hS']
  have HLK : Hid (∀ W, Mid B W a hb cs (pre ++ post) c (z + C) → B ≤ W.heap.size → Calls Try.prog 27 #[.pointer (some ⟨a, 0, none⟩), .pointer (some ⟨W.heap.size + 1, 0, none⟩), aheadV pre] (nodeW W e H) fun r w' => (∃ v, r = .returned v) ∧ Mid B w' a hb cs (pre ++ ⟨W.heap.size + 1, W.heap.size, H, H, e⟩ :: post) c (z + C) ∧ Keeps (a :: hb :: blks (pre ++ ⟨W.heap.size + 1, W.heap.size, 0, H, e⟩ :: post)) (nodeW W e H) w') := fun W hm hBW =>
    link_any (hm.fresh hBW e H) rfl hht.2
  have hmk := fun W => make_tower W H hht.2
  unfold nodeW at HLK
  clear h hB he hg hl hpre hpost h1 hC hH hc hz h1e h2e hgz HREP HFR hcH hS'
  obtain ⟨p0, hp0⟩ : ∃ p, ((lst 0 pre).map (fun d : ND => d.b)).map (fun b => (⟨b, 0, none⟩ : Addr)) = p := ⟨_, rfl⟩
  obtain ⟨p1, hp1⟩ : ∃ p, ((lst 1 pre).map (fun d : ND => d.b)).map (fun b => (⟨b, 0, none⟩ : Addr)) = p := ⟨_, rfl⟩
  obtain ⟨p2, hp2⟩ : ∃ p, ((lst 2 pre).map (fun d : ND => d.b)).map (fun b => (⟨b, 0, none⟩ : Addr)) = p := ⟨_, rfl⟩
  obtain ⟨p3, hp3⟩ : ∃ p, ((lst 3 pre).map (fun d : ND => d.b)).map (fun b => (⟨b, 0, none⟩ : Addr)) = p := ⟨_, rfl⟩
  obtain ⟨p4, hp4⟩ : ∃ p, ((lst 4 pre).map (fun d : ND => d.b)).map (fun b => (⟨b, 0, none⟩ : Addr)) = p := ⟨_, rfl⟩
  obtain ⟨p5, hp5⟩ : ∃ p, ((lst 5 pre).map (fun d : ND => d.b)).map (fun b => (⟨b, 0, none⟩ : Addr)) = p := ⟨_, rfl⟩
  obtain ⟨p6, hp6⟩ : ∃ p, ((lst 6 pre).map (fun d : ND => d.b)).map (fun b => (⟨b, 0, none⟩ : Addr)) = p := ⟨_, rfl⟩
  obtain ⟨p7, hp7⟩ : ∃ p, ((lst 7 pre).map (fun d : ND => d.b)).map (fun b => (⟨b, 0, none⟩ : Addr)) = p := ⟨_, rfl⟩
  have HV : Hid (aheadV pre = .agg #[.pointer p0, .pointer p1, .pointer p2, .pointer p3, .pointer p4, .pointer p5, .pointer p6, .pointer p7]) := Lib.hid (by
    unfold aheadV arr8 pv
    dsimp only
    rw [hp0, hp1, hp2, hp3, hp4, hp5, hp6, hp7])
  unfold towerV at HN
  obtain ⟨tb, htb⟩ : ∃ y, towerB a pre.getLast? = y := ⟨_, rfl⟩
  obtain ⟨to, hto⟩ : ∃ y, towerO pre.getLast? = y := ⟨_, rfl⟩
  obtain ⟨tn, htn⟩ : ∃ y, towerN pre.getLast? = y := ⟨_, rfl⟩
  have hpp0 : pv (pre.getLast?.map (·.b)) = .pointer p0 := by rw [← hp0, hlst]; rfl
  rw [htb, hto, htn, hpp0] at HN
  rw [htb, hto, htn, hnx] at HT
  rw [HV.out] at HA
  simp only [pv, Option.map_none] at HT
  obtain ⟨k, q, g, v, t⟩ := e
  rw [HV.out] at HLK
  simp only [E.val] at HG HA HCO HCL HLK ⊢
  clear htb hto htn hpp0 hp0 hp1 hp2 hp3 hp4 hp5 hp6 hp7 hlst hnx
  obtain ⟨x, hx⟩ : ∃ x, w.heap.size = x := ⟨_, rfl⟩
  have HX := Lib.hid hx
  have HB0 := Lib.hid ((Below.refl w.heap.size w).alloc (Nat.le_refl _) (.cells #[.string k, .int .i64 q, .bool g, .string v, .int .i64 t] 36))
  have HR0 := Lib.hid (heap_alloc_new w (.cells #[.string k, .int .i64 q, .bool g, .string v, .int .i64 t] 36))
  have HZ0 : Hid ((w.alloc (.cells #[.string k, .int .i64 q, .bool g, .string v, .int .i64 t] 36)).heap.size = x + 1) := Lib.hid (by rw [← hx]; simp)
  rw [hx] at HB0 HR0
  clear hx
  go_enter Try.func10, Try.ntmps10
  go_wp2_with fail
  generalize w.alloc (.cells #[.string k, .int .i64 q, .bool g, .string v, .int .i64 t] 36) = W0 at HB0 HR0 HZ0 ⊢
  rw [HX.out]
  refine (HG.out _).mono ?_
  rintro r w1 ⟨rfl, hb⟩
  have HB1 : Hid (Below (x + 1) W0 w1) := Lib.hid (hb.mono (by have := HZ0.out; omega))
  clear hb
  have hR1 : w1.heap[x]? = some (.cells #[.string k, .int .i64 q, .bool g, .string v, .int .i64 t] 36 (0, 0)) := (HB1.out.block x (by omega)).trans HR0.out
  have b0 : w1.cell? ⟨x, 0, none⟩ = some (.string k) := cell_of_row _ _ _ _ _ _ hR1
  have b1 : w1.cell? ⟨x, 1, none⟩ = some (.int .i64 q) := cell_of_row _ _ _ _ _ _ hR1
  have b2 : w1.cell? ⟨x, 2, none⟩ = some (.bool g) := cell_of_row _ _ _ _ _ _ hR1
  have b3 : w1.cell? ⟨x, 3, none⟩ = some (.string v) := cell_of_row _ _ _ _ _ _ hR1
  have b4 : w1.cell? ⟨x, 4, none⟩ = some (.int .i64 t) := cell_of_row _ _ _ _ _ _ hR1
  have hlt1 : x + 1 ≤ w1.heap.size := by have := HZ0.out; have := HB1.out.size; omega
  have HBW1 : Hid (Below w.heap.size w w1) := Lib.hid (by rw [HX.out]; exact HB0.out.trans (HB1.out.mono (by omega)))
  clear hR1
  go_wp2_with fail
  refine (HA.out _ HBW1.out).mono ?_
  rintro r w2 ⟨rfl, hb⟩
  have HB2 : Hid (Below x w w2) := Lib.hid ((HB0.out.trans (HB1.out.mono (by omega))).trans (hb.mono (by omega)))
  have hR2 : w2.heap[x]? = some (.cells #[.string k, .int .i64 q, .bool g, .string v, .int .i64 t] 36 (0, 0)) := (hb.block x (by omega)).trans ((HB1.out.block x (by omega)).trans HR0.out)
  have hlt2 : x + 1 ≤ w2.heap.size := by have := hb.size; omega
  have HB3 : Hid (Below x w (w2.alloc (.cells #[.pointer p0, .pointer p1, .pointer p2, .pointer p3, .pointer p4, .pointer p5, .pointer p6, .pointer p7] 65))) := Lib.hid (HB2.out.alloc (by omega) _)
  have HA3 := Lib.hid (heap_alloc_new w2 (.cells #[.pointer p0, .pointer p1, .pointer p2, .pointer p3, .pointer p4, .pointer p5, .pointer p6, .pointer p7] 65))
  have HR3 : Hid ((w2.alloc (.cells #[.pointer p0, .pointer p1, .pointer p2, .pointer p3, .pointer p4, .pointer p5, .pointer p6, .pointer p7] 65)).heap[x]? = some (.cells #[.string k, .int .i64 q, .bool g, .string v, .int .i64 t] 36 (0, 0))) := Lib.hid ((Below.heap_alloc _ _ _ (by omega)).trans hR2)
  have HZ3 : Hid ((w2.alloc (.cells #[.pointer p0, .pointer p1, .pointer p2, .pointer p3, .pointer p4, .pointer p5, .pointer p6, .pointer p7] 65)).heap.size = w2.heap.size + 1) := Lib.hid (by simp)
  clear hb hR2 b0 b1 b2 b3 b4 hlt1
  go_wp2_with fail
  generalize w2.alloc (.cells #[.pointer p0, .pointer p1, .pointer p2, .pointer p3, .pointer p4, .pointer p5, .pointer p6, .pointer p7] 65) = w3 at HB3 HA3 HR3 HZ3 ⊢
  obtain ⟨y, hy⟩ : ∃ y, w2.heap.size = y := ⟨_, rfl⟩
  rw [hy] at HA3 HZ3 hlt2 ⊢
  clear hy HB2
  have HBW3 : Hid (Below w.heap.size w w3) := Lib.hid (by rw [HX.out]; exact HB3.out)
  obtain ⟨zt, hz0⟩ := HT.out w3 HBW3.out
  simp only [Nat.add_zero] at zt
  refine (HN.out _ HBW3.out).mono ?_
  rintro r w3' ⟨rfl, rfl⟩
  have hz0' : (0 : Int) < (tn : Int) := by omega
  have hlt3 : y + 1 ≤ w3.heap.size := by have := HZ3.out; omega
  go_wp2_with fail
  have b0 : w3.cell? ⟨x, 0, none⟩ = some (.string k) := cell_of_row _ _ _ _ _ _ HR3.out
  have b1 : w3.cell? ⟨x, 1, none⟩ = some (.int .i64 q) := cell_of_row _ _ _ _ _ _ HR3.out
  have b2 : w3.cell? ⟨x, 2, none⟩ = some (.bool g) := cell_of_row _ _ _ _ _ _ HR3.out
  have b3 : w3.cell? ⟨x, 3, none⟩ = some (.string v) := cell_of_row _ _ _ _ _ _ HR3.out
  have b4 : w3.cell? ⟨x, 4, none⟩ = some (.int .i64 t) := cell_of_row _ _ _ _ _ _ HR3.out
  clear zt hz0 hz0' HT HN HA HG
  go_quiet (fail)
  all_goals
    have hB34 : Below w3.heap.size w3 (w3.drewN nq) := below_drewN (Below.refl _ _) nq
    generalize w3.drewN nq = w4 at hB34 ⊢
    have HB4 : Hid (Below w.heap.size w w4) := Lib.hid (HBW3.out.trans (hB34.mono (by have := HX.out; omega)))
    have hRX4 : w4.heap[x]? = some (.cells #[.string k, .int .i64 q, .bool g, .string v, .int .i64 t] 36 (0, 0)) := (hB34.block x (by omega)).trans HR3.out
    have hRY4 : w4.heap[y]? = some (.cells #[.pointer p0, .pointer p1, .pointer p2, .pointer p3, .pointer p4, .pointer p5, .pointer p6, .pointer p7] 65 (0, 0)) := (hB34.block y (by omega)).trans HA3.out
    have hlt4 : y + 1 ≤ w4.heap.size := by have := hB34.size; omega
    have hM4 : Mid B w4 a hb cs (pre ++ post) c z := HM0.out.below HB4.out
    have zs : w4.cell? ⟨a, 10, none⟩ = some (.int .i64 z) := hM4.cells 10
    have fs : w4.frozen? ⟨a, 10, none⟩ = false := hM4.frozen 10
    have hax : a < x := by have := HBL.out a (by simp); have := HX.out; omega
    clear hB34 b0 b1 b2 b3 b4
    have b0 : w4.cell? ⟨x, 0, none⟩ = some (.string k) := cell_of_row _ _ _ _ _ _ hRX4
    have b1 : w4.cell? ⟨x, 1, none⟩ = some (.int .i64 q) := cell_of_row _ _ _ _ _ _ hRX4
    have b2 : w4.cell? ⟨x, 2, none⟩ = some (.bool g) := cell_of_row _ _ _ _ _ _ hRX4
    have b3 : w4.cell? ⟨x, 3, none⟩ = some (.string v) := cell_of_row _ _ _ _ _ _ hRX4
    have b4 : w4.cell? ⟨x, 4, none⟩ = some (.int .i64 t) := cell_of_row _ _ _ _ _ _ hRX4
    have HM4 := Lib.hid hM4
    have HRX4 := Lib.hid hRX4
    have HRY4 := Lib.hid hRY4
    clear hM4 hRX4 hRY4
    go_wp2_with fail
    go_region_with (
      go_at_call 13
      refine (HCO.out _ (HB4.out.trans (Below.mono ((Below.refl w4.heap.size w4).drew) (by have := HX.out; omega)))).mono ?_
      rintro r w5 ⟨rfl, hb⟩
      have HB45 : Hid (Below w4.heap.size w4 w5) := Lib.hid (Below.trans ((Below.refl _ w4).drew) hb)
      have zs5 : w5.cell? ⟨a, 10, none⟩ = some (.int .i64 z) := (HB45.out.cell (p := ⟨a, 10, none⟩) (by simp; omega)).trans zs
      have fs5 : w5.frozen? ⟨a, 10, none⟩ = false := (HB45.out.frozen (p := ⟨a, 10, none⟩) (by simp; omega)).trans fs
      clear hb)
    all_goals
      have hM6 : Mid B (w5.setCell ⟨a, 10, none⟩ (.int .i64 (z + C))) a hb cs (pre ++ post) c (z + C) := (HM4.out.below HB45.out).setSize _
      have hK6 : Keeps (a :: hb :: blks (pre ++ post)) w (w5.setCell ⟨a, 10, none⟩ (.int .i64 (z + C))) := (Keeps.of_below (HB4.out.trans (HB45.out.mono (by have := HX.out; omega)))).set a 10 _ (.inl (by simp))
      have hRX6 : (w5.setCell ⟨a, 10, none⟩ (.int .i64 (z + C))).heap[x]? = some (.cells #[.string k, .int .i64 q, .bool g, .string v, .int .i64 t] 36 (0, 0)) := (Below.heap_setCell _ _ _ _ (Ne.symm (Nat.ne_of_lt hax))).trans ((HB45.out.block x (by omega)).trans HRX4.out)
      have hRY6 : (w5.setCell ⟨a, 10, none⟩ (.int .i64 (z + C))).heap[y]? = some (.cells #[.pointer p0, .pointer p1, .pointer p2, .pointer p3, .pointer p4, .pointer p5, .pointer p6, .pointer p7] 65 (0, 0)) := (Below.heap_setCell _ _ _ _ (Ne.symm (Nat.ne_of_lt (show a < y by omega)))).trans ((HB45.out.block y (by omega)).trans HRY4.out)
      have hlt6 : y + 1 ≤ (w5.setCell ⟨a, 10, none⟩ (.int .i64 (z + C))).heap.size := by rw [setCell_size]; have := HB45.out.size; omega
      clear HM4 HRX4 HRY4 HB45 b0 b1 b2 b3 b4 zs fs zs5 fs5 hlt4
      go_wp2_with fail
      generalize w5.setCell ⟨a, 10, none⟩ (.int .i64 (z + C)) = w6 at hM6 hK6 hRX6 hRY6 hlt6 ⊢
      have S6 : w6.cell? ⟨x, 0, none⟩ = some (.string k) ∧ w6.cell? ⟨x, 1, none⟩ = some (.int .i64 q) ∧ w6.cell? ⟨x, 2, none⟩ = some (.bool g) ∧ w6.cell? ⟨x, 3, none⟩ = some (.string v) ∧ w6.cell? ⟨x, 4, none⟩ = some (.int .i64 t) ∧ w6.cell? ⟨y, 0, none⟩ = some (.pointer p0) ∧ w6.cell? ⟨y, 1, none⟩ = some (.pointer p1) ∧ w6.cell? ⟨y, 2, none⟩ = some (.pointer p2) ∧ w6.cell? ⟨y, 3, none⟩ = some (.pointer p3) ∧ w6.cell? ⟨y, 4, none⟩ = some (.pointer p4) ∧ w6.cell? ⟨y, 5, none⟩ = some (.pointer p5) ∧ w6.cell? ⟨y, 6, none⟩ = some (.pointer p6) ∧ w6.cell? ⟨y, 7, none⟩ = some (.pointer p7) := ⟨cell_of_row _ _ _ _ _ _ hRX6, cell_of_row _ _ _ _ _ _ hRX6, cell_of_row _ _ _ _ _ _ hRX6, cell_of_row _ _ _ _ _ _ hRX6, cell_of_row _ _ _ _ _ _ hRX6, cell_of_row _ _ _ _ _ _ hRY6, cell_of_row _ _ _ _ _ _ hRY6, cell_of_row _ _ _ _ _ _ hRY6, cell_of_row _ _ _ _ _ _ hRY6, cell_of_row _ _ _ _ _ _ hRY6, cell_of_row _ _ _ _ _ _ hRY6, cell_of_row _ _ _ _ _ _ hRY6, cell_of_row _ _ _ _ _ _ hRY6⟩
      obtain ⟨e0, e1, e2, e3, e4, e5, e6, e7, e8, e9, e10, e11, e12⟩ := S6
      have HM6 := Lib.hid hM6
      have HK6 := Lib.hid hK6
      clear hM6 hK6 hRX6 hRY6
      have HLK2 : Hid (∀ w8, Below w6.heap.size w6 w8 → Calls Try.prog 27 #[.pointer (some ⟨a, 0, none⟩), .pointer (some ⟨w8.heap.size + 1, 0, none⟩), .agg #[.pointer p0, .pointer p1, .pointer p2, .pointer p3, .pointer p4, .pointer p5, .pointer p6, .pointer p7]] ((w8.alloc (.cells (madeCells #[.pointer none] H) 57)).alloc (.cells #[.string k, .int .i64 q, .bool g, .string v, .int .i64 t, .slice (some ⟨w8.heap.size, 0, none⟩) H H] 62)) fun r w9 => (∃ v, r = .returned v) ∧
          Mid B w9 a hb cs (pre ++ ⟨w8.heap.size + 1, w8.heap.size, H, H, ⟨k, q, g, v, t⟩⟩ :: post) c (z + C) ∧ Keeps (a :: hb :: blks (pre ++ post)) w w9 ∧ (∀ j, w9.cell? ⟨x, j, none⟩ = w8.cell? ⟨x, j, none⟩) ∧ (∀ j, w9.cell? ⟨y, j, none⟩ = w8.cell? ⟨y, j, none⟩)) := Lib.hid fun w8 hb8 => by
        have h8 := hb8.size
        have h6 := HK6.out.size
        have hxw := HX.out
        refine (HLK.out w8 (HM6.out.below hb8) (by have := HBB0.out; omega)).mono ?_
        rintro r w9 ⟨hv, hm9, hk9⟩
        have hnb : Below w8.heap.size w8 (nodeW w8 ⟨k, q, g, v, t⟩ H) := nodeW_below _ _ _
        have hin : ∀ b, b ∈ a :: hb :: blks (pre ++ ⟨w8.heap.size + 1, w8.heap.size, 0, H, ⟨k, q, g, v, t⟩⟩ :: post) → b < w8.heap.size → b ∈ a :: hb :: blks (pre ++ post) := fun b hm hlt => by
          rw [blks_app, blks_cons] at hm
          rw [blks_app]
          simp only [List.mem_cons, List.mem_append] at hm ⊢
          rcases hm with h | h | h | h | h | h
          · exact .inl h
          · exact .inr (.inl h)
          · exact .inr (.inr (.inl h))
          · exact absurd h (by omega)
          · exact absurd h (by omega)
          · exact .inr (.inr (.inr h))
        have hfar : ∀ b, w.heap.size ≤ b → b < w8.heap.size → ∀ j, w9.cell? ⟨b, j, none⟩ = w8.cell? ⟨b, j, none⟩ := fun b h1 h2 j => by
          have e1 : w9.heap[b]? = w8.heap[b]? := (hk9.block b (by have := hnb.size; exact Nat.lt_of_lt_of_le h2 this) (fun hm => by have := HBL.out b (hin b hm h2); omega)).trans (hnb.block b h2)
          unfold World.cell?
          rw [e1]
        refine ⟨hv, hm9, ?_, hfar x (by omega) (by omega), hfar y (by omega) (by omega)⟩
        refine (HK6.out.trans (Keeps.of_below (S := []) (hb8.trans (hnb.mono h8))) (by simp)).trans hk9 fun b hm hlt => hin b hm (by omega)
      go_region_held3 (fun w' => w'.cell? ⟨x, 0, none⟩ = some (.string k) ∧ w'.cell? ⟨x, 1, none⟩ = some (.int .i64 q) ∧ w'.cell? ⟨x, 2, none⟩ = some (.bool g) ∧ w'.cell? ⟨x, 3, none⟩ = some (.string v) ∧ w'.cell? ⟨x, 4, none⟩ = some (.int .i64 t) ∧ w'.cell? ⟨y, 0, none⟩ = some (.pointer p0) ∧ w'.cell? ⟨y, 1, none⟩ = some (.pointer p1) ∧ w'.cell? ⟨y, 2, none⟩ = some (.pointer p2) ∧ w'.cell? ⟨y, 3, none⟩ = some (.pointer p3) ∧ w'.cell? ⟨y, 4, none⟩ = some (.pointer p4) ∧ w'.cell? ⟨y, 5, none⟩ = some (.pointer p5) ∧ w'.cell? ⟨y, 6, none⟩ = some (.pointer p6) ∧ w'.cell? ⟨y, 7, none⟩ = some (.pointer p7))
        (first | go_keep | exact HS7.out | exact HS8.out | exact HS9.out | fail)
        (first
          | (go_at_call 27
             refine (HLK2.out w8 HB68.out).mono ?_
             rintro r w9 ⟨⟨vv, rfl⟩, hm9, hk9, hcx, hcy⟩
             have HM9 := Lib.hid hm9
             have HK9 := Lib.hid hk9
             have HS9 : Hid (w9.cell? ⟨x, 0, none⟩ = some (.string k) ∧ w9.cell? ⟨x, 1, none⟩ = some (.int .i64 q) ∧ w9.cell? ⟨x, 2, none⟩ = some (.bool g) ∧ w9.cell? ⟨x, 3, none⟩ = some (.string v) ∧ w9.cell? ⟨x, 4, none⟩ = some (.int .i64 t) ∧ w9.cell? ⟨y, 0, none⟩ = some (.pointer p0) ∧ w9.cell? ⟨y, 1, none⟩ = some (.pointer p1) ∧ w9.cell? ⟨y, 2, none⟩ = some (.pointer p2) ∧ w9.cell? ⟨y, 3, none⟩ = some (.pointer p3) ∧ w9.cell? ⟨y, 4, none⟩ = some (.pointer p4) ∧ w9.cell? ⟨y, 5, none⟩ = some (.pointer p5) ∧ w9.cell? ⟨y, 6, none⟩ = some (.pointer p6) ∧ w9.cell? ⟨y, 7, none⟩ = some (.pointer p7)) := Lib.hid ⟨(hcx 0).trans g0, (hcx 1).trans g1, (hcx 2).trans g2, (hcx 3).trans g3, (hcx 4).trans g4, (hcy 0).trans g5, (hcy 1).trans g6, (hcy 2).trans g7, (hcy 3).trans g8, (hcy 4).trans g9, (hcy 5).trans g10, (hcy 6).trans g11, (hcy 7).trans g12⟩
             clear hm9 hk9 hcx hcy)
          | (go_at_call 22
             refine (HCL.out _).mono ?_
             rintro r w7 ⟨rfl, hb⟩
             have HB67 : Hid (Below w6.heap.size w6 w7) := Lib.hid (Below.trans ((Below.refl _ w6).drew) hb)
             have f0 : w7.cell? ⟨x, 0, none⟩ = some (.string k) := (HB67.out.cell (p := ⟨x, 0, none⟩) (by simp; omega)).trans e0
             have f1 : w7.cell? ⟨x, 1, none⟩ = some (.int .i64 q) := (HB67.out.cell (p := ⟨x, 1, none⟩) (by simp; omega)).trans e1
             have f2 : w7.cell? ⟨x, 2, none⟩ = some (.bool g) := (HB67.out.cell (p := ⟨x, 2, none⟩) (by simp; omega)).trans e2
             have f3 : w7.cell? ⟨x, 3, none⟩ = some (.string v) := (HB67.out.cell (p := ⟨x, 3, none⟩) (by simp; omega)).trans e3
             have f4 : w7.cell? ⟨x, 4, none⟩ = some (.int .i64 t) := (HB67.out.cell (p := ⟨x, 4, none⟩) (by simp; omega)).trans e4
             have f5 : w7.cell? ⟨y, 0, none⟩ = some (.pointer p0) := (HB67.out.cell (p := ⟨y, 0, none⟩) (by simp; omega)).trans e5
             have f6 : w7.cell? ⟨y, 1, none⟩ = some (.pointer p1) := (HB67.out.cell (p := ⟨y, 1, none⟩) (by simp; omega)).trans e6
             have f7 : w7.cell? ⟨y, 2, none⟩ = some (.pointer p2) := (HB67.out.cell (p := ⟨y, 2, none⟩) (by simp; omega)).trans e7
             have f8 : w7.cell? ⟨y, 3, none⟩ = some (.pointer p3) := (HB67.out.cell (p := ⟨y, 3, none⟩) (by simp; omega)).trans e8
             have f9 : w7.cell? ⟨y, 4, none⟩ = some (.pointer p4) := (HB67.out.cell (p := ⟨y, 4, none⟩) (by simp; omega)).trans e9
             have f10 : w7.cell? ⟨y, 5, none⟩ = some (.pointer p5) := (HB67.out.cell (p := ⟨y, 5, none⟩) (by simp; omega)).trans e10
             have f11 : w7.cell? ⟨y, 6, none⟩ = some (.pointer p6) := (HB67.out.cell (p := ⟨y, 6, none⟩) (by simp; omega)).trans e11
             have f12 : w7.cell? ⟨y, 7, none⟩ = some (.pointer p7) := (HB67.out.cell (p := ⟨y, 7, none⟩) (by simp; omega)).trans e12
             have HS7 : Hid (w7.cell? ⟨x, 0, none⟩ = some (.string k) ∧ w7.cell? ⟨x, 1, none⟩ = some (.int .i64 q) ∧ w7.cell? ⟨x, 2, none⟩ = some (.bool g) ∧ w7.cell? ⟨x, 3, none⟩ = some (.string v) ∧ w7.cell? ⟨x, 4, none⟩ = some (.int .i64 t) ∧ w7.cell? ⟨y, 0, none⟩ = some (.pointer p0) ∧ w7.cell? ⟨y, 1, none⟩ = some (.pointer p1) ∧ w7.cell? ⟨y, 2, none⟩ = some (.pointer p2) ∧ w7.cell? ⟨y, 3, none⟩ = some (.pointer p3) ∧ w7.cell? ⟨y, 4, none⟩ = some (.pointer p4) ∧ w7.cell? ⟨y, 5, none⟩ = some (.pointer p5) ∧ w7.cell? ⟨y, 6, none⟩ = some (.pointer p6) ∧ w7.cell? ⟨y, 7, none⟩ = some (.pointer p7)) := Lib.hid ⟨f0, f1, f2, f3, f4, f5, f6, f7, f8, f9, f10, f11, f12⟩
             clear hb)
          | (go_at_call 28
             refine (HNH.out w7 c (z + C) (HM6.out.below HB67.out) rfl).mono ?_
             rintro r w8 ⟨rfl, hb⟩
             have HB68 : Hid (Below w6.heap.size w6 w8) := Lib.hid (HB67.out.trans (hb.mono HB67.out.size))
             have HM8 := Lib.hid (HM6.out.below HB68.out)
             have g0 : w8.cell? ⟨x, 0, none⟩ = some (.string k) := (HB68.out.cell (p := ⟨x, 0, none⟩) (by simp; omega)).trans e0
             have g1 : w8.cell? ⟨x, 1, none⟩ = some (.int .i64 q) := (HB68.out.cell (p := ⟨x, 1, none⟩) (by simp; omega)).trans e1
             have g2 : w8.cell? ⟨x, 2, none⟩ = some (.bool g) := (HB68.out.cell (p := ⟨x, 2, none⟩) (by simp; omega)).trans e2
             have g3 : w8.cell? ⟨x, 3, none⟩ = some (.string v) := (HB68.out.cell (p := ⟨x, 3, none⟩) (by simp; omega)).trans e3
             have g4 : w8.cell? ⟨x, 4, none⟩ = some (.int .i64 t) := (HB68.out.cell (p := ⟨x, 4, none⟩) (by simp; omega)).trans e4
             have g5 : w8.cell? ⟨y, 0, none⟩ = some (.pointer p0) := (HB68.out.cell (p := ⟨y, 0, none⟩) (by simp; omega)).trans e5
             have g6 : w8.cell? ⟨y, 1, none⟩ = some (.pointer p1) := (HB68.out.cell (p := ⟨y, 1, none⟩) (by simp; omega)).trans e6
             have g7 : w8.cell? ⟨y, 2, none⟩ = some (.pointer p2) := (HB68.out.cell (p := ⟨y, 2, none⟩) (by simp; omega)).trans e7
             have g8 : w8.cell? ⟨y, 3, none⟩ = some (.pointer p3) := (HB68.out.cell (p := ⟨y, 3, none⟩) (by simp; omega)).trans e8
             have g9 : w8.cell? ⟨y, 4, none⟩ = some (.pointer p4) := (HB68.out.cell (p := ⟨y, 4, none⟩) (by simp; omega)).trans e9
             have g10 : w8.cell? ⟨y, 5, none⟩ = some (.pointer p5) := (HB68.out.cell (p := ⟨y, 5, none⟩) (by simp; omega)).trans e10
             have g11 : w8.cell? ⟨y, 6, none⟩ = some (.pointer p6) := (HB68.out.cell (p := ⟨y, 6, none⟩) (by simp; omega)).trans e11
             have g12 : w8.cell? ⟨y, 7, none⟩ = some (.pointer p7) := (HB68.out.cell (p := ⟨y, 7, none⟩) (by simp; omega)).trans e12
             have HS8 : Hid (w8.cell? ⟨x, 0, none⟩ = some (.string k) ∧ w8.cell? ⟨x, 1, none⟩ = some (.int .i64 q) ∧ w8.cell? ⟨x, 2, none⟩ = some (.bool g) ∧ w8.cell? ⟨x, 3, none⟩ = some (.string v) ∧ w8.cell? ⟨x, 4, none⟩ = some (.int .i64 t) ∧ w8.cell? ⟨y, 0, none⟩ = some (.pointer p0) ∧ w8.cell? ⟨y, 1, none⟩ = some (.pointer p1) ∧ w8.cell? ⟨y, 2, none⟩ = some (.pointer p2) ∧ w8.cell? ⟨y, 3, none⟩ = some (.pointer p3) ∧ w8.cell? ⟨y, 4, none⟩ = some (.pointer p4) ∧ w8.cell? ⟨y, 5, none⟩ = some (.pointer p5) ∧ w8.cell? ⟨y, 6, none⟩ = some (.pointer p6) ∧ w8.cell? ⟨y, 7, none⟩ = some (.pointer p7)) := Lib.hid ⟨g0, g1, g2, g3, g4, g5, g6, g7, g8, g9, g10, g11, g12⟩
             clear hb)
          | fail)
      all_goals
        have zc : w9.cell? ⟨a, 9, none⟩ = some (.int .i64 c) := HM9.out.cells 9
        have fc : w9.frozen? ⟨a, 9, none⟩ = false := HM9.out.frozen 9
        have HM10 : Hid (Mid B (w9.setCell ⟨a, 9, none⟩ (.int .i64 ((c : Int) + 1))) a hb cs (pre ++ ⟨w8.heap.size + 1, w8.heap.size, H, H, ⟨k, q, g, v, t⟩⟩ :: post) (c + 1) (z + C)) := Lib.hid (HM9.out.setCount (c + 1))
        have HK10 : Hid (Keeps (a :: hb :: blks (pre ++ post)) w (w9.setCell ⟨a, 9, none⟩ (.int .i64 ((c : Int) + 1)))) := Lib.hid (HK9.out.set a 9 _ (.inl (by simp)))
        have HNEW : Hid (w.heap.size ≤ w8.heap.size) := Lib.hid (Nat.le_trans HK6.out.size HB68.out.size)
        clear HS9 HS8 HS7 HM9 HK9 HLK2 HLK
        go_wp2
        go_ret
        refine ⟨rfl, _, HREP2.out _ _ HM10.out rfl ⟨rfl, hht⟩, HK10.out, fun b hm => ?_⟩
        have hnew := HNEW.out
        rw [blks_app, blks_cons] at hm
        rw [blks_app]
        simp only [List.mem_cons, List.mem_append] at hm ⊢
        rcases hm with h | h | h | h
        · exact .inl (.inl h)
        · exact .inr (by omega)
        · exact .inr (by omega)
        · exact .inl (.inr h)

set_option maxRecDepth 100000 in
set_option maxHeartbeats 4000000 in
theorem put_amid {B : Nat} {w : World} {a hb : Nat} {cs : List Int} {l : List ND} {s : St} (h : Rep B w a hb cs l s) (hB : B ≤ w.heap.size) (e : E) (he : e.wf) (hg : good e = 0) (pre post : List ND) (hl : l = pre ++ post) (hpre : ∀ d ∈ pre, less d.e e = true) (hpost : ∀ d ∈ post, less d.e e = false) (d : ND) (r : List ND) (hpd : post = d :: r) (hle : less e d.e = true) (hsz : 0 ≤ s.size ∧ s.size ≤ 1152921504606846976) (hlen : s.l.length ≤ 1152921504606846976) (h1e : pre.map (·.e) = front e s.l) (h2e : post.map (·.e) = rest e s.l) :
    Calls Try.prog 10 #[.pointer (some ⟨a, 0, none⟩), e.val] w fun r w' => r = .returned (.int .i64 0) ∧ ∃ l', Rep B w' a hb cs l' ⟨front e s.l ++ e :: rest e s.l, s.size + cost cs s.l.length e⟩ ∧ Keeps (a :: hb :: blks l) w w' ∧ ∀ x ∈ blks l', x ∈ blks l ∨ w.heap.size ≤ x := by
  have h1 : ∀ d ∈ l, 1 ≤ d.h := fun d hd => (h.full d hd).2.1
  have hlst : (lst 0 pre).map (·.b) = pre.getLast?.map (·.b) := by rw [lst0_last fun d hd => h1 d (by rw [hl]; simp [hd])]
  have hnx : nx 0 post = post.head?.map (·.b) := nx0_head fun d hd => h1 d (by rw [hl]; simp [hd])
  have HG : Hid (∀ W, Calls Try.prog 24 #[e.val] W fun r w' => r = .returned (.int .i64 0) ∧ Below W.heap.size W w') := fun W => by have := good_any e W he; rw [hg] at this; exact this
  have HA : Hid (∀ W, Below w.heap.size w W → Calls Try.prog 25 #[.pointer (some ⟨a, 0, none⟩), e.val] W fun r w' => r = .returned (aheadV pre) ∧ Below W.heap.size W w') := fun W hB => ahead_any (h.below hB) e pre post hl hpre hpost
  have HN : Hid (∀ W, Below w.heap.size w W → Calls Try.prog 26 #[.pointer (some ⟨a, 0, none⟩), pv (pre.getLast?.map (·.b))] W fun e w' => e = .returned (towerV a pre.getLast?) ∧ W = w') := fun W hB =>
    next_any a pre.getLast? W (fun d hd => (h.below hB).node (by rw [hl]; exact List.mem_append_left _ (List.mem_of_getLast? hd)))
  have HT : Hid (∀ W, Below w.heap.size w W → W.cell? ⟨towerB a pre.getLast?, towerO pre.getLast? + 0, none⟩ = some (pv (nx 0 post)) ∧ 0 < towerN pre.getLast?) := fun W hB => by
    obtain ⟨x, y, -⟩ := (h.below hB).tower pre post hl 0 (fun d hd => h1 d (by rw [hl]; exact List.mem_append_left _ (List.mem_of_getLast? hd))) (by omega)
    exact ⟨x, y⟩
  have HL : Hid (∀ W, Calls Try.prog 11 #[e.val, d.e.val] W fun r w' => r = .returned (.bool true) ∧ Below W.heap.size W w') := fun W => by have := less_any e d.e W; rw [hle] at this; exact this
  have HND : Hid (∀ W, Below w.heap.size w W → W.heap[d.b]? = some (.cells (ncells d) 62 (0, 0))) := fun W hB => (h.below hB).node (by rw [hl, hpd]; simp)
  have hhd : post.head?.map (·.b) = some d.b := by rw [hpd]; rfl
  rw [hhd] at hnx
  clear hhd
  have hgz := good_zero hg
  have hht := height_range cs s.l.length
  have HCO : Hid (∀ W, Below w.heap.size w W → Calls Try.prog 13 #[.pointer (some ⟨a, 0, none⟩), e.val] W fun r w' => r = .returned (.int .i64 (cost cs s.l.length e)) ∧ Below W.heap.size W w') := fun W hB => cost_any (h.below hB) e he
  have HCL : Hid (∀ W, Calls Try.prog 22 #[e.val] W fun r w' => r = .returned e.val ∧ Below W.heap.size W w') := fun W => eclone_any e W ⟨by have := he.key; omega, by have := he.value; omega⟩
  have hco : 0 ≤ cost cs s.l.length e ∧ cost cs s.l.length e ≤ 1000 := by unfold cost; omega
  obtain ⟨C, hC⟩ : ∃ C, cost cs s.l.length e = C := ⟨_, rfl⟩
  obtain ⟨H, hH⟩ : ∃ H, height cs s.l.length = H := ⟨_, rfl⟩
  obtain ⟨c, hc⟩ : ∃ c, s.l.length = c := ⟨_, rfl⟩
  obtain ⟨z, hz⟩ : ∃ z, s.size = z := ⟨_, rfl⟩
  have HM0 : Hid (Mid B w a hb cs (pre ++ post) c z) := Lib.hid (by rw [← hc, ← hz, ← hl]; exact h.mid)
  have HFULL : Hid (∀ d ∈ pre ++ post, d.h = d.c ∧ 1 ≤ d.h ∧ d.h ≤ 8) := Lib.hid (by rw [← hl]; exact h.full)
  have HBL : Hid (∀ x ∈ a :: hb :: blks (pre ++ post), x < w.heap.size) := Lib.hid (fun x hx => (HM0.out.lo x hx).2)
  have HBB0 := Lib.hid hB
  have HREP : Hid (∀ W n z', Mid B W a hb cs (pre ++ n :: post) (c + 1) z' → n.e = e → (n.h = n.c ∧ 1 ≤ n.h ∧ n.h ≤ 8) → Rep B W a hb cs (pre ++ n :: post) ⟨front e s.l ++ e :: rest e s.l, z'⟩) := fun W n z' hm hne hn => by
    subst hne
    exact put_rep (by rw [hc]; exact hm) HFULL.out hn h1e h2e
  have hcH : cs.length = cs.length := rfl
  have HNH : Hid (∀ W cc zz, Mid B W a hb cs (pre ++ post) c zz → cc = c → Calls Try.prog 28 #[.pointer (some ⟨a, 0, none⟩)] W fun e w' => e = .returned (.int .i64 H) ∧ Below W.heap.size W w') := fun W cc zz hm _ => by
    have := nextHeight_at (n := c) (hm.cells 0) (hm.cells 9) hm.coins
    rw [← hc, hH] at this
    exact this
  rw [hC] at HCO hco ⊢
  rw [hH] at hht
  rw [hc] at hlen
  rw [hz] at hsz ⊢
  rw [hl]
  have HFR : Hid (front e s.l = front e s.l) := rfl
  have hwz : IntKind.i64.wrap (z + C) = z + C := wrap_in _ (by omega)
  have hwc : IntKind.i64.wrap ((c : Int) + 1) = (c : Int) + 1 := wrap_in _ (by omega)
  obtain ⟨S', hS'⟩ : ∃ S', (⟨front e s.l ++ e :: rest e s.l, z + C⟩ : St) = S' := ⟨_, rfl⟩
  have HREP2 : Hid (∀ W n, Mid B W a hb cs (pre ++ n :: post) (c + 1) (z + C) → n.e = e → (n.h = n.c ∧ 1 ≤ n.h ∧ n.h ≤ 8) → Rep B W a hb cs (pre ++ n :: post) S') := fun W n hm hne hn => by
    rw [← hS']
    exact HREP.out W n _ hm hne hn
  rw [hS']
  have HLK : Hid (∀ W, Mid B W a hb cs (pre ++ post) c (z + C) → B ≤ W.heap.size → Calls Try.prog 27 #[.pointer (some ⟨a, 0, none⟩), .pointer (some ⟨W.heap.size + 1, 0, none⟩), aheadV pre] (nodeW W e H) fun r w' => (∃ v, r = .returned v) ∧ Mid B w' a hb cs (pre ++ ⟨W.heap.size + 1, W.heap.size, H, H, e⟩ :: post) c (z + C) ∧ Keeps (a :: hb :: blks (pre ++ ⟨W.heap.size + 1, W.heap.size, 0, H, e⟩ :: post)) (nodeW W e H) w') := fun W hm hBW =>
    link_any (hm.fresh hBW e H) rfl hht.2
  have hmk := fun W => make_tower W H hht.2
  unfold nodeW at HLK
  clear h hB he hg hl hpre hpost h1 hC hH hc hz h1e h2e hgz HREP HFR hcH hS'
  obtain ⟨p0, hp0⟩ : ∃ p, ((lst 0 pre).map (fun d : ND => d.b)).map (fun b => (⟨b, 0, none⟩ : Addr)) = p := ⟨_, rfl⟩
  obtain ⟨p1, hp1⟩ : ∃ p, ((lst 1 pre).map (fun d : ND => d.b)).map (fun b => (⟨b, 0, none⟩ : Addr)) = p := ⟨_, rfl⟩
  obtain ⟨p2, hp2⟩ : ∃ p, ((lst 2 pre).map (fun d : ND => d.b)).map (fun b => (⟨b, 0, none⟩ : Addr)) = p := ⟨_, rfl⟩
  obtain ⟨p3, hp3⟩ : ∃ p, ((lst 3 pre).map (fun d : ND => d.b)).map (fun b => (⟨b, 0, none⟩ : Addr)) = p := ⟨_, rfl⟩
  obtain ⟨p4, hp4⟩ : ∃ p, ((lst 4 pre).map (fun d : ND => d.b)).map (fun b => (⟨b, 0, none⟩ : Addr)) = p := ⟨_, rfl⟩
  obtain ⟨p5, hp5⟩ : ∃ p, ((lst 5 pre).map (fun d : ND => d.b)).map (fun b => (⟨b, 0, none⟩ : Addr)) = p := ⟨_, rfl⟩
  obtain ⟨p6, hp6⟩ : ∃ p, ((lst 6 pre).map (fun d : ND => d.b)).map (fun b => (⟨b, 0, none⟩ : Addr)) = p := ⟨_, rfl⟩
  obtain ⟨p7, hp7⟩ : ∃ p, ((lst 7 pre).map (fun d : ND => d.b)).map (fun b => (⟨b, 0, none⟩ : Addr)) = p := ⟨_, rfl⟩
  have HV : Hid (aheadV pre = .agg #[.pointer p0, .pointer p1, .pointer p2, .pointer p3, .pointer p4, .pointer p5, .pointer p6, .pointer p7]) := Lib.hid (by
    unfold aheadV arr8 pv
    dsimp only
    rw [hp0, hp1, hp2, hp3, hp4, hp5, hp6, hp7])
  unfold towerV at HN
  obtain ⟨tb, htb⟩ : ∃ y, towerB a pre.getLast? = y := ⟨_, rfl⟩
  obtain ⟨to, hto⟩ : ∃ y, towerO pre.getLast? = y := ⟨_, rfl⟩
  obtain ⟨tn, htn⟩ : ∃ y, towerN pre.getLast? = y := ⟨_, rfl⟩
  have hpp0 : pv (pre.getLast?.map (·.b)) = .pointer p0 := by rw [← hp0, hlst]; rfl
  rw [htb, hto, htn, hpp0] at HN
  rw [htb, hto, htn, hnx] at HT
  rw [HV.out] at HA
  simp only [pv, Option.map_some] at HT
  obtain ⟨k, q, g, v, t⟩ := e
  rw [HV.out] at HLK
  simp only [E.val] at HG HA HCO HCL HLK ⊢
  clear htb hto htn hpp0 hp0 hp1 hp2 hp3 hp4 hp5 hp6 hp7 hlst hnx
  obtain ⟨x, hx⟩ : ∃ x, w.heap.size = x := ⟨_, rfl⟩
  have HX := Lib.hid hx
  have HB0 := Lib.hid ((Below.refl w.heap.size w).alloc (Nat.le_refl _) (.cells #[.string k, .int .i64 q, .bool g, .string v, .int .i64 t] 36))
  have HR0 := Lib.hid (heap_alloc_new w (.cells #[.string k, .int .i64 q, .bool g, .string v, .int .i64 t] 36))
  have HZ0 : Hid ((w.alloc (.cells #[.string k, .int .i64 q, .bool g, .string v, .int .i64 t] 36)).heap.size = x + 1) := Lib.hid (by rw [← hx]; simp)
  rw [hx] at HB0 HR0
  clear hx
  go_enter Try.func10, Try.ntmps10
  go_wp2_with fail
  generalize w.alloc (.cells #[.string k, .int .i64 q, .bool g, .string v, .int .i64 t] 36) = W0 at HB0 HR0 HZ0 ⊢
  rw [HX.out]
  refine (HG.out _).mono ?_
  rintro r w1 ⟨rfl, hb⟩
  have HB1 : Hid (Below (x + 1) W0 w1) := Lib.hid (hb.mono (by have := HZ0.out; omega))
  clear hb
  have hR1 : w1.heap[x]? = some (.cells #[.string k, .int .i64 q, .bool g, .string v, .int .i64 t] 36 (0, 0)) := (HB1.out.block x (by omega)).trans HR0.out
  have b0 : w1.cell? ⟨x, 0, none⟩ = some (.string k) := cell_of_row _ _ _ _ _ _ hR1
  have b1 : w1.cell? ⟨x, 1, none⟩ = some (.int .i64 q) := cell_of_row _ _ _ _ _ _ hR1
  have b2 : w1.cell? ⟨x, 2, none⟩ = some (.bool g) := cell_of_row _ _ _ _ _ _ hR1
  have b3 : w1.cell? ⟨x, 3, none⟩ = some (.string v) := cell_of_row _ _ _ _ _ _ hR1
  have b4 : w1.cell? ⟨x, 4, none⟩ = some (.int .i64 t) := cell_of_row _ _ _ _ _ _ hR1
  have hlt1 : x + 1 ≤ w1.heap.size := by have := HZ0.out; have := HB1.out.size; omega
  have HBW1 : Hid (Below w.heap.size w w1) := Lib.hid (by rw [HX.out]; exact HB0.out.trans (HB1.out.mono (by omega)))
  clear hR1
  go_wp2_with fail
  refine (HA.out _ HBW1.out).mono ?_
  rintro r w2 ⟨rfl, hb⟩
  have HB2 : Hid (Below x w w2) := Lib.hid ((HB0.out.trans (HB1.out.mono (by omega))).trans (hb.mono (by omega)))
  have hR2 : w2.heap[x]? = some (.cells #[.string k, .int .i64 q, .bool g, .string v, .int .i64 t] 36 (0, 0)) := (hb.block x (by omega)).trans ((HB1.out.block x (by omega)).trans HR0.out)
  have hlt2 : x + 1 ≤ w2.heap.size := by have := hb.size; omega
  have HB3 : Hid (Below x w (w2.alloc (.cells #[.pointer p0, .pointer p1, .pointer p2, .pointer p3, .pointer p4, .pointer p5, .pointer p6, .pointer p7] 65))) := Lib.hid (HB2.out.alloc (by omega) _)
  have HA3 := Lib.hid (heap_alloc_new w2 (.cells #[.pointer p0, .pointer p1, .pointer p2, .pointer p3, .pointer p4, .pointer p5, .pointer p6, .pointer p7] 65))
  have HR3 : Hid ((w2.alloc (.cells #[.pointer p0, .pointer p1, .pointer p2, .pointer p3, .pointer p4, .pointer p5, .pointer p6, .pointer p7] 65)).heap[x]? = some (.cells #[.string k, .int .i64 q, .bool g, .string v, .int .i64 t] 36 (0, 0))) := Lib.hid ((Below.heap_alloc _ _ _ (by omega)).trans hR2)
  have HZ3 : Hid ((w2.alloc (.cells #[.pointer p0, .pointer p1, .pointer p2, .pointer p3, .pointer p4, .pointer p5, .pointer p6, .pointer p7] 65)).heap.size = w2.heap.size + 1) := Lib.hid (by simp)
  clear hb hR2 b0 b1 b2 b3 b4 hlt1
  go_wp2_with fail
  generalize w2.alloc (.cells #[.pointer p0, .pointer p1, .pointer p2, .pointer p3, .pointer p4, .pointer p5, .pointer p6, .pointer p7] 65) = w3 at HB3 HA3 HR3 HZ3 ⊢
  obtain ⟨y, hy⟩ : ∃ y, w2.heap.size = y := ⟨_, rfl⟩
  rw [hy] at HA3 HZ3 hlt2 ⊢
  clear hy HB2
  have HBW3 : Hid (Below w.heap.size w w3) := Lib.hid (by rw [HX.out]; exact HB3.out)
  obtain ⟨zt, hz0⟩ := HT.out w3 HBW3.out
  simp only [Nat.add_zero] at zt
  refine (HN.out _ HBW3.out).mono ?_
  rintro r w3' ⟨rfl, rfl⟩
  have hz0' : (0 : Int) < (tn : Int) := by omega
  have hlt3 : y + 1 ≤ w3.heap.size := by have := HZ3.out; omega
  go_wp2_with fail
  have b0 : w3.cell? ⟨x, 0, none⟩ = some (.string k) := cell_of_row _ _ _ _ _ _ HR3.out
  have b1 : w3.cell? ⟨x, 1, none⟩ = some (.int .i64 q) := cell_of_row _ _ _ _ _ _ HR3.out
  have b2 : w3.cell? ⟨x, 2, none⟩ = some (.bool g) := cell_of_row _ _ _ _ _ _ HR3.out
  have b3 : w3.cell? ⟨x, 3, none⟩ = some (.string v) := cell_of_row _ _ _ _ _ _ HR3.out
  have b4 : w3.cell? ⟨x, 4, none⟩ = some (.int .i64 t) := cell_of_row _ _ _ _ _ _ HR3.out
  clear zt hz0 hz0' HT HN HA HG
  have hnd := HND.out w3 HBW3.out
  have hdlt : d.b < w3.heap.size := (Array.getElem?_eq_some_iff.1 hnd).1
  obtain ⟨b, hb'⟩ : ∃ b, d.b = b := ⟨_, rfl⟩
  unfold ncells at hnd
  rw [hb'] at hnd hdlt ⊢
  obtain ⟨de, hde⟩ : ∃ de, d.e = de := ⟨_, rfl⟩
  rw [hde] at hnd HL
  obtain ⟨k2, q2, g2, v2, t2⟩ := de
  simp only [E.val] at hnd HL
  have z0 : w3.cell? ⟨b, 0, none⟩ = some (.string k2) := cell_of_row _ _ _ _ _ _ hnd
  have z1 : w3.cell? ⟨b, 1, none⟩ = some (.int .i64 q2) := cell_of_row _ _ _ _ _ _ hnd
  have z2 : w3.cell? ⟨b, 2, none⟩ = some (.bool g2) := cell_of_row _ _ _ _ _ _ hnd
  have z3 : w3.cell? ⟨b, 3, none⟩ = some (.string v2) := cell_of_row _ _ _ _ _ _ hnd
  have z4 : w3.cell? ⟨b, 4, none⟩ = some (.int .i64 t2) := cell_of_row _ _ _ _ _ _ hnd
  clear hnd hb' hde
  go_region_held3 (fun w' => w'.cell? ⟨b, 0, none⟩ = some (.string k2) ∧ w'.cell? ⟨b, 1, none⟩ = some (.int .i64 q2) ∧ w'.cell? ⟨b, 2, none⟩ = some (.bool g2) ∧ w'.cell? ⟨b, 3, none⟩ = some (.string v2) ∧ w'.cell? ⟨b, 4, none⟩ = some (.int .i64 t2) ∧ w'.cell? ⟨x, 0, none⟩ = some (.string k) ∧ w'.cell? ⟨x, 1, none⟩ = some (.int .i64 q) ∧ w'.cell? ⟨x, 2, none⟩ = some (.bool g) ∧ w'.cell? ⟨x, 3, none⟩ = some (.string v) ∧ w'.cell? ⟨x, 4, none⟩ = some (.int .i64 t))
    (first | go_keep | exact HS4.out | fail)
    (first
      | (go_at_call 11
         refine (HL.out _).mono ?_
         rintro e w4 ⟨rfl, hbb⟩
         have HBB : Hid (Below w3.heap.size w3 w4) := Lib.hid (Below.trans (Below.refl _ _).drew hbb)
         have HS4 : Hid (w4.cell? ⟨b, 0, none⟩ = some (.string k2) ∧ w4.cell? ⟨b, 1, none⟩ = some (.int .i64 q2) ∧ w4.cell? ⟨b, 2, none⟩ = some (.bool g2) ∧ w4.cell? ⟨b, 3, none⟩ = some (.string v2) ∧ w4.cell? ⟨b, 4, none⟩ = some (.int .i64 t2) ∧ w4.cell? ⟨x, 0, none⟩ = some (.string k) ∧ w4.cell? ⟨x, 1, none⟩ = some (.int .i64 q) ∧ w4.cell? ⟨x, 2, none⟩ = some (.bool g) ∧ w4.cell? ⟨x, 3, none⟩ = some (.string v) ∧ w4.cell? ⟨x, 4, none⟩ = some (.int .i64 t)) := Lib.hid ⟨(hbb.cell (p := ⟨b, 0, none⟩) (by simp; omega)).trans z0, (hbb.cell (p := ⟨b, 1, none⟩) (by simp; omega)).trans z1, (hbb.cell (p := ⟨b, 2, none⟩) (by simp; omega)).trans z2, (hbb.cell (p := ⟨b, 3, none⟩) (by simp; omega)).trans z3, (hbb.cell (p := ⟨b, 4, none⟩) (by simp; omega)).trans z4, (hbb.cell (p := ⟨x, 0, none⟩) (by simp; omega)).trans b0, (hbb.cell (p := ⟨x, 1, none⟩) (by simp; omega)).trans b1, (hbb.cell (p := ⟨x, 2, none⟩) (by simp; omega)).trans b2, (hbb.cell (p := ⟨x, 3, none⟩) (by simp; omega)).trans b3, (hbb.cell (p := ⟨x, 4, none⟩) (by simp; omega)).trans b4⟩
         clear hbb)
      | fail)
  all_goals
    have hB34 : Below w3.heap.size w3 w4 := HBB.out
    clear HS4 z0 z1 z2 z3 z4 HBB
    have HB4 : Hid (Below w.heap.size w w4) := Lib.hid (HBW3.out.trans (hB34.mono (by have := HX.out; omega)))
    have hRX4 : w4.heap[x]? = some (.cells #[.string k, .int .i64 q, .bool g, .string v, .int .i64 t] 36 (0, 0)) := (hB34.block x (by omega)).trans HR3.out
    have hRY4 : w4.heap[y]? = some (.cells #[.pointer p0, .pointer p1, .pointer p2, .pointer p3, .pointer p4, .pointer p5, .pointer p6, .pointer p7] 65 (0, 0)) := (hB34.block y (by omega)).trans HA3.out
    have hlt4 : y + 1 ≤ w4.heap.size := by have := hB34.size; omega
    have hM4 : Mid B w4 a hb cs (pre ++ post) c z := HM0.out.below HB4.out
    have zs : w4.cell? ⟨a, 10, none⟩ = some (.int .i64 z) := hM4.cells 10
    have fs : w4.frozen? ⟨a, 10, none⟩ = false := hM4.frozen 10
    have hax : a < x := by have := HBL.out a (by simp); have := HX.out; omega
    clear hB34 b0 b1 b2 b3 b4
    have b0 : w4.cell? ⟨x, 0, none⟩ = some (.string k) := cell_of_row _ _ _ _ _ _ hRX4
    have b1 : w4.cell? ⟨x, 1, none⟩ = some (.int .i64 q) := cell_of_row _ _ _ _ _ _ hRX4
    have b2 : w4.cell? ⟨x, 2, none⟩ = some (.bool g) := cell_of_row _ _ _ _ _ _ hRX4
    have b3 : w4.cell? ⟨x, 3, none⟩ = some (.string v) := cell_of_row _ _ _ _ _ _ hRX4
    have b4 : w4.cell? ⟨x, 4, none⟩ = some (.int .i64 t) := cell_of_row _ _ _ _ _ _ hRX4
    have HM4 := Lib.hid hM4
    have HRX4 := Lib.hid hRX4
    have HRY4 := Lib.hid hRY4
    clear hM4 hRX4 hRY4
    go_wp2_with fail
    go_region_with (
      go_at_call 13
      refine (HCO.out _ (HB4.out.trans (Below.mono ((Below.refl w4.heap.size w4).drew) (by have := HX.out; omega)))).mono ?_
      rintro r w5 ⟨rfl, hb⟩
      have HB45 : Hid (Below w4.heap.size w4 w5) := Lib.hid (Below.trans ((Below.refl _ w4).drew) hb)
      have zs5 : w5.cell? ⟨a, 10, none⟩ = some (.int .i64 z) := (HB45.out.cell (p := ⟨a, 10, none⟩) (by simp; omega)).trans zs
      have fs5 : w5.frozen? ⟨a, 10, none⟩ = false := (HB45.out.frozen (p := ⟨a, 10, none⟩) (by simp; omega)).trans fs
      clear hb)
    all_goals
      have hM6 : Mid B (w5.setCell ⟨a, 10, none⟩ (.int .i64 (z + C))) a hb cs (pre ++ post) c (z + C) := (HM4.out.below HB45.out).setSize _
      have hK6 : Keeps (a :: hb :: blks (pre ++ post)) w (w5.setCell ⟨a, 10, none⟩ (.int .i64 (z + C))) := (Keeps.of_below (HB4.out.trans (HB45.out.mono (by have := HX.out; omega)))).set a 10 _ (.inl (by simp))
      have hRX6 : (w5.setCell ⟨a, 10, none⟩ (.int .i64 (z + C))).heap[x]? = some (.cells #[.string k, .int .i64 q, .bool g, .string v, .int .i64 t] 36 (0, 0)) := (Below.heap_setCell _ _ _ _ (Ne.symm (Nat.ne_of_lt hax))).trans ((HB45.out.block x (by omega)).trans HRX4.out)
      have hRY6 : (w5.setCell ⟨a, 10, none⟩ (.int .i64 (z + C))).heap[y]? = some (.cells #[.pointer p0, .pointer p1, .pointer p2, .pointer p3, .pointer p4, .pointer p5, .pointer p6, .pointer p7] 65 (0, 0)) := (Below.heap_setCell _ _ _ _ (Ne.symm (Nat.ne_of_lt (show a < y by omega)))).trans ((HB45.out.block y (by omega)).trans HRY4.out)
      have hlt6 : y + 1 ≤ (w5.setCell ⟨a, 10, none⟩ (.int .i64 (z + C))).heap.size := by rw [setCell_size]; have := HB45.out.size; omega
      clear HM4 HRX4 HRY4 HB45 b0 b1 b2 b3 b4 zs fs zs5 fs5 hlt4
      go_wp2_with fail
      generalize w5.setCell ⟨a, 10, none⟩ (.int .i64 (z + C)) = w6 at hM6 hK6 hRX6 hRY6 hlt6 ⊢
      have S6 : w6.cell? ⟨x, 0, none⟩ = some (.string k) ∧ w6.cell? ⟨x, 1, none⟩ = some (.int .i64 q) ∧ w6.cell? ⟨x, 2, none⟩ = some (.bool g) ∧ w6.cell? ⟨x, 3, none⟩ = some (.string v) ∧ w6.cell? ⟨x, 4, none⟩ = some (.int .i64 t) ∧ w6.cell? ⟨y, 0, none⟩ = some (.pointer p0) ∧ w6.cell? ⟨y, 1, none⟩ = some (.pointer p1) ∧ w6.cell? ⟨y, 2, none⟩ = some (.pointer p2) ∧ w6.cell? ⟨y, 3, none⟩ = some (.pointer p3) ∧ w6.cell? ⟨y, 4, none⟩ = some (.pointer p4) ∧ w6.cell? ⟨y, 5, none⟩ = some (.pointer p5) ∧ w6.cell? ⟨y, 6, none⟩ = some (.pointer p6) ∧ w6.cell? ⟨y, 7, none⟩ = some (.pointer p7) := ⟨cell_of_row _ _ _ _ _ _ hRX6, cell_of_row _ _ _ _ _ _ hRX6, cell_of_row _ _ _ _ _ _ hRX6, cell_of_row _ _ _ _ _ _ hRX6, cell_of_row _ _ _ _ _ _ hRX6, cell_of_row _ _ _ _ _ _ hRY6, cell_of_row _ _ _ _ _ _ hRY6, cell_of_row _ _ _ _ _ _ hRY6, cell_of_row _ _ _ _ _ _ hRY6, cell_of_row _ _ _ _ _ _ hRY6, cell_of_row _ _ _ _ _ _ hRY6, cell_of_row _ _ _ _ _ _ hRY6, cell_of_row _ _ _ _ _ _ hRY6⟩
      obtain ⟨e0, e1, e2, e3, e4, e5, e6, e7, e8, e9, e10, e11, e12⟩ := S6
      have HM6 := Lib.hid hM6
      have HK6 := Lib.hid hK6
      clear hM6 hK6 hRX6 hRY6
      have HLK2 : Hid (∀ w8, Below w6.heap.size w6 w8 → Calls Try.prog 27 #[.pointer (some ⟨a, 0, none⟩), .pointer (some ⟨w8.heap.size + 1, 0, none⟩), .agg #[.pointer p0, .pointer p1, .pointer p2, .pointer p3, .pointer p4, .pointer p5, .pointer p6, .pointer p7]] ((w8.alloc (.cells (madeCells #[.pointer none] H) 57)).alloc (.cells #[.string k, .int .i64 q, .bool g, .string v, .int .i64 t, .slice (some ⟨w8.heap.size, 0, none⟩) H H] 62)) fun r w9 => (∃ v, r = .returned v) ∧
          Mid B w9 a hb cs (pre ++ ⟨w8.heap.size + 1, w8.heap.size, H, H, ⟨k, q, g, v, t⟩⟩ :: post) c (z + C) ∧ Keeps (a :: hb :: blks (pre ++ post)) w w9 ∧ (∀ j, w9.cell? ⟨x, j, none⟩ = w8.cell? ⟨x, j, none⟩) ∧ (∀ j, w9.cell? ⟨y, j, none⟩ = w8.cell? ⟨y, j, none⟩)) := Lib.hid fun w8 hb8 => by
        have h8 := hb8.size
        have h6 := HK6.out.size
        have hxw := HX.out
        refine (HLK.out w8 (HM6.out.below hb8) (by have := HBB0.out; omega)).mono ?_
        rintro r w9 ⟨hv, hm9, hk9⟩
        have hnb : Below w8.heap.size w8 (nodeW w8 ⟨k, q, g, v, t⟩ H) := nodeW_below _ _ _
        have hin : ∀ b, b ∈ a :: hb :: blks (pre ++ ⟨w8.heap.size + 1, w8.heap.size, 0, H, ⟨k, q, g, v, t⟩⟩ :: post) → b < w8.heap.size → b ∈ a :: hb :: blks (pre ++ post) := fun b hm hlt => by
          rw [blks_app, blks_cons] at hm
          rw [blks_app]
          simp only [List.mem_cons, List.mem_append] at hm ⊢
          rcases hm with h | h | h | h | h | h
          · exact .inl h
          · exact .inr (.inl h)
          · exact .inr (.inr (.inl h))
          · exact absurd h (by omega)
          · exact absurd h (by omega)
          · exact .inr (.inr (.inr h))
        have hfar : ∀ b, w.heap.size ≤ b → b < w8.heap.size → ∀ j, w9.cell? ⟨b, j, none⟩ = w8.cell? ⟨b, j, none⟩ := fun b h1 h2 j => by
          have e1 : w9.heap[b]? = w8.heap[b]? := (hk9.block b (by have := hnb.size; exact Nat.lt_of_lt_of_le h2 this) (fun hm => by have := HBL.out b (hin b hm h2); omega)).trans (hnb.block b h2)
          unfold World.cell?
          rw [e1]
        refine ⟨hv, hm9, ?_, hfar x (by omega) (by omega), hfar y (by omega) (by omega)⟩
        refine (HK6.out.trans (Keeps.of_below (S := []) (hb8.trans (hnb.mono h8))) (by simp)).trans hk9 fun b hm hlt => hin b hm (by omega)
      go_region_held3 (fun w' => w'.cell? ⟨x, 0, none⟩ = some (.string k) ∧ w'.cell? ⟨x, 1, none⟩ = some (.int .i64 q) ∧ w'.cell? ⟨x, 2, none⟩ = some (.bool g) ∧ w'.cell? ⟨x, 3, none⟩ = some (.string v) ∧ w'.cell? ⟨x, 4, none⟩ = some (.int .i64 t) ∧ w'.cell? ⟨y, 0, none⟩ = some (.pointer p0) ∧ w'.cell? ⟨y, 1, none⟩ = some (.pointer p1) ∧ w'.cell? ⟨y, 2, none⟩ = some (.pointer p2) ∧ w'.cell? ⟨y, 3, none⟩ = some (.pointer p3) ∧ w'.cell? ⟨y, 4, none⟩ = some (.pointer p4) ∧ w'.cell? ⟨y, 5, none⟩ = some (.pointer p5) ∧ w'.cell? ⟨y, 6, none⟩ = some (.pointer p6) ∧ w'.cell? ⟨y, 7, none⟩ = some (.pointer p7))
        (first | go_keep | exact HS7.out | exact HS8.out | exact HS9.out | fail)
        (first
          | (go_at_call 27
             refine (HLK2.out w8 HB68.out).mono ?_
             rintro r w9 ⟨⟨vv, rfl⟩, hm9, hk9, hcx, hcy⟩
             have HM9 := Lib.hid hm9
             have HK9 := Lib.hid hk9
             have HS9 : Hid (w9.cell? ⟨x, 0, none⟩ = some (.string k) ∧ w9.cell? ⟨x, 1, none⟩ = some (.int .i64 q) ∧ w9.cell? ⟨x, 2, none⟩ = some (.bool g) ∧ w9.cell? ⟨x, 3, none⟩ = some (.string v) ∧ w9.cell? ⟨x, 4, none⟩ = some (.int .i64 t) ∧ w9.cell? ⟨y, 0, none⟩ = some (.pointer p0) ∧ w9.cell? ⟨y, 1, none⟩ = some (.pointer p1) ∧ w9.cell? ⟨y, 2, none⟩ = some (.pointer p2) ∧ w9.cell? ⟨y, 3, none⟩ = some (.pointer p3) ∧ w9.cell? ⟨y, 4, none⟩ = some (.pointer p4) ∧ w9.cell? ⟨y, 5, none⟩ = some (.pointer p5) ∧ w9.cell? ⟨y, 6, none⟩ = some (.pointer p6) ∧ w9.cell? ⟨y, 7, none⟩ = some (.pointer p7)) := Lib.hid ⟨(hcx 0).trans g0, (hcx 1).trans g1, (hcx 2).trans g2, (hcx 3).trans g3, (hcx 4).trans g4, (hcy 0).trans g5, (hcy 1).trans g6, (hcy 2).trans g7, (hcy 3).trans g8, (hcy 4).trans g9, (hcy 5).trans g10, (hcy 6).trans g11, (hcy 7).trans g12⟩
             clear hm9 hk9 hcx hcy)
          | (go_at_call 22
             refine (HCL.out _).mono ?_
             rintro r w7 ⟨rfl, hb⟩
             have HB67 : Hid (Below w6.heap.size w6 w7) := Lib.hid (Below.trans ((Below.refl _ w6).drew) hb)
             have f0 : w7.cell? ⟨x, 0, none⟩ = some (.string k) := (HB67.out.cell (p := ⟨x, 0, none⟩) (by simp; omega)).trans e0
             have f1 : w7.cell? ⟨x, 1, none⟩ = some (.int .i64 q) := (HB67.out.cell (p := ⟨x, 1, none⟩) (by simp; omega)).trans e1
             have f2 : w7.cell? ⟨x, 2, none⟩ = some (.bool g) := (HB67.out.cell (p := ⟨x, 2, none⟩) (by simp; omega)).trans e2
             have f3 : w7.cell? ⟨x, 3, none⟩ = some (.string v) := (HB67.out.cell (p := ⟨x, 3, none⟩) (by simp; omega)).trans e3
             have f4 : w7.cell? ⟨x, 4, none⟩ = some (.int .i64 t) := (HB67.out.cell (p := ⟨x, 4, none⟩) (by simp; omega)).trans e4
             have f5 : w7.cell? ⟨y, 0, none⟩ = some (.pointer p0) := (HB67.out.cell (p := ⟨y, 0, none⟩) (by simp; omega)).trans e5
             have f6 : w7.cell? ⟨y, 1, none⟩ = some (.pointer p1) := (HB67.out.cell (p := ⟨y, 1, none⟩) (by simp; omega)).trans e6
             have f7 : w7.cell? ⟨y, 2, none⟩ = some (.pointer p2) := (HB67.out.cell (p := ⟨y, 2, none⟩) (by simp; omega)).trans e7
             have f8 : w7.cell? ⟨y, 3, none⟩ = some (.pointer p3) := (HB67.out.cell (p := ⟨y, 3, none⟩) (by simp; omega)).trans e8
             have f9 : w7.cell? ⟨y, 4, none⟩ = some (.pointer p4) := (HB67.out.cell (p := ⟨y, 4, none⟩) (by simp; omega)).trans e9
             have f10 : w7.cell? ⟨y, 5, none⟩ = some (.pointer p5) := (HB67.out.cell (p := ⟨y, 5, none⟩) (by simp; omega)).trans e10
             have f11 : w7.cell? ⟨y, 6, none⟩ = some (.pointer p6) := (HB67.out.cell (p := ⟨y, 6, none⟩) (by simp; omega)).trans e11
             have f12 : w7.cell? ⟨y, 7, none⟩ = some (.pointer p7) := (HB67.out.cell (p := ⟨y, 7, none⟩) (by simp; omega)).trans e12
             have HS7 : Hid (w7.cell? ⟨x, 0, none⟩ = some (.string k) ∧ w7.cell? ⟨x, 1, none⟩ = some (.int .i64 q) ∧ w7.cell? ⟨x, 2, none⟩ = some (.bool g) ∧ w7.cell? ⟨x, 3, none⟩ = some (.string v) ∧ w7.cell? ⟨x, 4, none⟩ = some (.int .i64 t) ∧ w7.cell? ⟨y, 0, none⟩ = some (.pointer p0) ∧ w7.cell? ⟨y, 1, none⟩ = some (.pointer p1) ∧ w7.cell? ⟨y, 2, none⟩ = some (.pointer p2) ∧ w7.cell? ⟨y, 3, none⟩ = some (.pointer p3) ∧ w7.cell? ⟨y, 4, none⟩ = some (.pointer p4) ∧ w7.cell? ⟨y, 5, none⟩ = some (.pointer p5) ∧ w7.cell? ⟨y, 6, none⟩ = some (.pointer p6) ∧ w7.cell? ⟨y, 7, none⟩ = some (.pointer p7)) := Lib.hid ⟨f0, f1, f2, f3, f4, f5, f6, f7, f8, f9, f10, f11, f12⟩
             clear hb)
          | (go_at_call 28
             refine (HNH.out w7 c (z + C) (HM6.out.below HB67.out) rfl).mono ?_
             rintro r w8 ⟨rfl, hb⟩
             have HB68 : Hid (Below w6.heap.size w6 w8) := Lib.hid (HB67.out.trans (hb.mono HB67.out.size))
             have HM8 := Lib.hid (HM6.out.below HB68.out)
             have g0 : w8.cell? ⟨x, 0, none⟩ = some (.string k) := (HB68.out.cell (p := ⟨x, 0, none⟩) (by simp; omega)).trans e0
             have g1 : w8.cell? ⟨x, 1, none⟩ = some (.int .i64 q) := (HB68.out.cell (p := ⟨x, 1, none⟩) (by simp; omega)).trans e1
             have g2 : w8.cell? ⟨x, 2, none⟩ = some (.bool g) := (HB68.out.cell (p := ⟨x, 2, none⟩) (by simp; omega)).trans e2
             have g3 : w8.cell? ⟨x, 3, none⟩ = some (.string v) := (HB68.out.cell (p := ⟨x, 3, none⟩) (by simp; omega)).trans e3
             have g4 : w8.cell? ⟨x, 4, none⟩ = some (.int .i64 t) := (HB68.out.cell (p := ⟨x, 4, none⟩) (by simp; omega)).trans e4
             have g5 : w8.cell? ⟨y, 0, none⟩ = some (.pointer p0) := (HB68.out.cell (p := ⟨y, 0, none⟩) (by simp; omega)).trans e5
             have g6 : w8.cell? ⟨y, 1, none⟩ = some (.pointer p1) := (HB68.out.cell (p := ⟨y, 1, none⟩) (by simp; omega)).trans e6
             have g7 : w8.cell? ⟨y, 2, none⟩ = some (.pointer p2) := (HB68.out.cell (p := ⟨y, 2, none⟩) (by simp; omega)).trans e7
             have g8 : w8.cell? ⟨y, 3, none⟩ = some (.pointer p3) := (HB68.out.cell (p := ⟨y, 3, none⟩) (by simp; omega)).trans e8
             have g9 : w8.cell? ⟨y, 4, none⟩ = some (.pointer p4) := (HB68.out.cell (p := ⟨y, 4, none⟩) (by simp; omega)).trans e9
             have g10 : w8.cell? ⟨y, 5, none⟩ = some (.pointer p5) := (HB68.out.cell (p := ⟨y, 5, none⟩) (by simp; omega)).trans e10
             have g11 : w8.cell? ⟨y, 6, none⟩ = some (.pointer p6) := (HB68.out.cell (p := ⟨y, 6, none⟩) (by simp; omega)).trans e11
             have g12 : w8.cell? ⟨y, 7, none⟩ = some (.pointer p7) := (HB68.out.cell (p := ⟨y, 7, none⟩) (by simp; omega)).trans e12
             have HS8 : Hid (w8.cell? ⟨x, 0, none⟩ = some (.string k) ∧ w8.cell? ⟨x, 1, none⟩ = some (.int .i64 q) ∧ w8.cell? ⟨x, 2, none⟩ = some (.bool g) ∧ w8.cell? ⟨x, 3, none⟩ = some (.string v) ∧ w8.cell? ⟨x, 4, none⟩ = some (.int .i64 t) ∧ w8.cell? ⟨y, 0, none⟩ = some (.pointer p0) ∧ w8.cell? ⟨y, 1, none⟩ = some (.pointer p1) ∧ w8.cell? ⟨y, 2, none⟩ = some (.pointer p2) ∧ w8.cell? ⟨y, 3, none⟩ = some (.pointer p3) ∧ w8.cell? ⟨y, 4, none⟩ = some (.pointer p4) ∧ w8.cell? ⟨y, 5, none⟩ = some (.pointer p5) ∧ w8.cell? ⟨y, 6, none⟩ = some (.pointer p6) ∧ w8.cell? ⟨y, 7, none⟩ = some (.pointer p7)) := Lib.hid ⟨g0, g1, g2, g3, g4, g5, g6, g7, g8, g9, g10, g11, g12⟩
             clear hb)
          | fail)
      all_goals
        have zc : w9.cell? ⟨a, 9, none⟩ = some (.int .i64 c) := HM9.out.cells 9
        have fc : w9.frozen? ⟨a, 9, none⟩ = false := HM9.out.frozen 9
        have HM10 : Hid (Mid B (w9.setCell ⟨a, 9, none⟩ (.int .i64 ((c : Int) + 1))) a hb cs (pre ++ ⟨w8.heap.size + 1, w8.heap.size, H, H, ⟨k, q, g, v, t⟩⟩ :: post) (c + 1) (z + C)) := Lib.hid (HM9.out.setCount (c + 1))
        have HK10 : Hid (Keeps (a :: hb :: blks (pre ++ post)) w (w9.setCell ⟨a, 9, none⟩ (.int .i64 ((c : Int) + 1)))) := Lib.hid (HK9.out.set a 9 _ (.inl (by simp)))
        have HNEW : Hid (w.heap.size ≤ w8.heap.size) := Lib.hid (Nat.le_trans HK6.out.size HB68.out.size)
        clear HS9 HS8 HS7 HM9 HK9 HLK2 HLK
        go_wp2
        go_ret
        refine ⟨rfl, _, HREP2.out _ _ HM10.out rfl ⟨rfl, hht⟩, HK10.out, fun b hm => ?_⟩
        have hnew := HNEW.out
        rw [blks_app, blks_cons] at hm
        rw [blks_app]
        simp only [List.mem_cons, List.mem_append] at hm ⊢
        rcases hm with h | h | h | h
        · exact .inl (.inl h)
        · exact .inr (by omega)
        · exact .inr (by omega)
        · exact .inl (.inr h)
end Go.Proofs.Ytgnlhnfjanoahaa
