/- The document's Merge. -/
import Derived.Test.YtfbhdggmefacjaaHy
import Derived.Maps.AppendAt
namespace Go.Proofs.Ytfbhdggmefacjaa
open Go.RowKit
open SK HP

theorem front_at {e : SK.E} : ∀ {l : List SK.E}, Sorted l → ∀ j, (h : j < l.length) → (less l[j] e = true ↔ j < (front e l).length)
  | [], _, j, h => by simp at h
  | x :: l, hs, j, h => by
    obtain ⟨h1, h2⟩ := List.pairwise_cons.1 hs
    cases hx : less x e with
    | false =>
      have hf : front e (x :: l) = [] := by simp [front, hx]
      have hr := rest_not (e := e) hs (x :: l)[j] (by
        have : rest e (x :: l) = x :: l := by simp [rest, hx]
        rw [this]; exact List.getElem_mem h)
      rw [hr, hf]; simp
    | true =>
      have hf : front e (x :: l) = x :: front e l := by simp [front, hx]
      rw [hf]
      cases j with
      | zero => simp [hx]
      | succ j =>
        have := front_at (e := e) h2 j (by simpa using h)
        simp only [List.getElem_cons_succ, List.length_cons]
        rw [this]
        omega
theorem front_le (e : SK.E) (l : List SK.E) : (front e l).length ≤ l.length := by
  have := congrArg List.length (front_rest e l)
  simp at this; omega
theorem front_take (e : SK.E) (l : List SK.E) : l.take (front e l).length = front e l := by
  conv => lhs; rw [← front_rest e l]
  have : front e (front e l ++ rest e l) = front e l := by rw [front_rest]
  rw [this]; simp
theorem rest_drop (e : SK.E) (l : List SK.E) : l.drop (front e l).length = rest e l := by
  conv => lhs; rw [← front_rest e l]
  have : front e (front e l ++ rest e l) = front e l := by rw [front_rest]
  rw [this]; simp

/-- what is built when the entries l have been gone over: e comes ahead of the one at F -/
def bld (F : Nat) (e : SK.E) (l : List SK.E) : List SK.E := if l.length ≤ F then l else l.take F ++ e :: l.drop F
theorem bld_lt {F : Nat} {e x : SK.E} {l : List SK.E} (h : l.length < F) : bld F e (l ++ [x]) = bld F e l ++ [x] := by
  unfold bld
  rw [if_pos (by simp; omega), if_pos (by omega)]
theorem bld_eq {F : Nat} {e x : SK.E} {l : List SK.E} (h : l.length = F) : bld F e (l ++ [x]) = bld F e l ++ [e] ++ [x] := by
  unfold bld
  rw [if_neg (by simp; omega), if_pos (by omega)]
  subst h
  simp
theorem bld_gt {F : Nat} {e x : SK.E} {l : List SK.E} (h : F < l.length) : bld F e (l ++ [x]) = bld F e l ++ [x] := by
  unfold bld
  rw [if_neg (by simp; omega), if_neg (by omega), List.take_append_of_le_length (by omega), List.drop_append_of_le_length (by omega)]
  simp
theorem bld_len (F : Nat) (e : SK.E) (l : List SK.E) : (bld F e l).length ≤ l.length + 1 := by
  unfold bld
  split
  · omega
  · simp; omega
theorem bld_end {e : SK.E} {l : List SK.E} (ht : there e l = false) : ins l e = if (front e l).length = l.length then bld (front e l).length e l ++ [e] else bld (front e l).length e l := by
  have hf := front_rest e l
  have hle := front_le e l
  unfold ins bld
  rw [if_neg (by simp [ht])]
  split
  · rename_i h
    have hr : rest e l = [] := by
      have := congrArg List.length hf
      rw [List.length_append] at this
      exact List.eq_nil_of_length_eq_zero (by omega)
    rw [hr, List.append_nil] at hf
    rw [if_pos (by omega), hr, hf]
  · rw [if_neg (by omega), front_take, rest_drop]
theorem ins_len (l : List SK.E) (e : SK.E) : (ins l e).length ≤ l.length + 1 := by
  have := congrArg List.length (front_rest e l)
  unfold ins
  split
  · omega
  · simp at this ⊢; omega
theorem mrg_len (l : List SK.E) : (mrg l).length ≤ l.length := by
  induction l using snoc_ind with
  | h0 => simp [mrg]
  | h1 l e ih =>
    have := ins_len (mrg l) e
    rw [mrg_snoc]
    simp; omega
theorem there_snoc (e : SK.E) (l : List SK.E) (x : SK.E) : there e (l ++ [x]) = (there e l || SK.same x e) := by simp [there]

/-- the entries of the first k lists -/
def pre (ls : List LE) (k : Nat) : List SK.E := ((ls.map (·.l)).take k).flatten
theorem pre_succ (ls : List LE) (k : Nat) (h : k < ls.length) : pre ls (k + 1) = pre ls k ++ ls[k].l := by
  unfold pre
  rw [List.take_succ_eq_append_getElem (by simpa using h)]
  simp
theorem pre_all (ls : List LE) : pre ls ls.length = (ls.map (·.l)).flatten := by unfold pre; rw [List.take_of_length_le (by simp)]
theorem pre_len (ls : List LE) (k : Nat) : (pre ls k).length ≤ (ls.map (·.l)).flatten.length := by
  have h : (ls.map (·.l)).flatten = pre ls k ++ ((ls.map (·.l)).drop k).flatten := by unfold pre; rw [← List.flatten_append, List.take_append_drop]
  have := congrArg List.length h
  rw [List.length_append] at this
  omega
theorem pre_sub (ls : List LE) (k : Nat) (e : SK.E) (h : e ∈ pre ls k) : ∃ x ∈ ls, e ∈ x.l := by
  unfold pre at h
  rw [List.mem_flatten] at h
  obtain ⟨l, hl, he⟩ := h
  obtain ⟨x, hx, rfl⟩ := List.mem_map.1 (List.mem_of_mem_take hl)
  exact ⟨x, hx, he⟩

theorem five_cells (w : World) (a b c d e : Value) (t : TypeId) : ∀ j u, [a, b, c, d, e][j]? = some u → (w.alloc (.cells #[a, b, c, d, e] t)).cell? ((⟨w.heap.size, 0, none⟩ : Addr).add j) = some u := by
  intro j u hj
  rw [addr_add0, cell_of_row _ _ _ _ _ _ (heap_alloc_new w _)]
  simpa using hj

theorem own_base {w : World} {b b' : Nat} {e : TypeId} {size : Nat} {v : Value} {n : Nat} {xs : List Value} (h : w.ownsRow b e size v n xs) (hb : b' ≤ b) : w.ownsRow b' e size v n xs :=
  ⟨h.1, h.2.imp id fun ⟨g, cap, cur, h1, h2, h3⟩ => ⟨g, cap, cur, h1, Nat.le_trans hb h2, h3⟩⟩

set_option maxRecDepth 100000 in
set_option maxHeartbeats 8000000 in
theorem rmerge_any (A : Option Addr) (n c : Nat) (ls : List LE) (w : World) (hn : ls.length = n) (hz : ListsIn w A ls) (h6 : n ≤ 1000000) (ht6 : (ls.map (·.l)).flatten.length ≤ 1000000) :
    Calls Try.prog 13 #[.slice A n c] w fun e w' => ∃ v, e = .returned v ∧ w'.ownsRow w.heap.size 39 5 v (mrg (ls.map (·.l)).flatten).length (ecs (mrg (ls.map (·.l)).flatten)) ∧ Below w.heap.size w w' := by
  obtain ⟨i0, hi, hz0, hz1, hz2⟩ := info_parts info_rent
  have HLS : Hid (∀ (d e : SK.E) W, Calls Try.prog 26 #[d.val, e.val] W fun r w' => r = .returned (.bool (less d e)) ∧ Below W.heap.size W w') := fun d e W => rless_any d e W
  have HZ := Lib.hid hz
  have HN := Lib.hid hn
  have HEND : Hid (pre ls n = (ls.map (·.l)).flatten) := Lib.hid (by rw [← hn]; exact pre_all ls)
  have HWF : Hid (∀ k, ∀ e ∈ mrg (pre ls k), e.wf) := Lib.hid fun k e he => by
    obtain ⟨x, hx, hxe⟩ := pre_sub ls k e (mrg_sub _ e he)
    exact (hz.ents x hx).1.wf e hxe
  clear hz hn
  go_enter Try.func13, Try.ntmps13
  go_wp2_with fail
  go_loopw [3, 4] (fun o i wr => ∃ k : Nat, k ≤ n ∧ i = .int .i64 k ∧ Below w.heap.size w wr ∧ wr.ownsRow w.heap.size 39 5 o (mrg (pre ls k)).length (ecs (mrg (pre ls k)))) (fun _ i _ => n - (intOf i).toNat)
  case atStart => exact ⟨0, by omega, rfl, Below.refl _ _, by simpa [pre, mrg, ecs] using World.ownsRow_nil _ _ _ _⟩
  case round =>
    obtain ⟨k, hk, rfl, hbel, hown⟩ := hrel
    have HB := Lib.hid hbel
    have HO := Lib.hid hown
    by_cases hlt : k < n
    · have hkl : k < ls.length := by rw [HN.out]; exact hlt
      have hps := pre_succ ls k hkl
      have hpl := pre_len ls (k + 1)
      have hxm := List.getElem_mem hkl
      obtain ⟨y, hy⟩ : ∃ y, ls[k] = y := ⟨_, rfl⟩
      have HY := Lib.hid hy
      rw [hy] at hps hxm
      obtain ⟨m, hm⟩ : ∃ m, y.l.length = m := ⟨_, rfl⟩
      have HM := Lib.hid hm
      rw [hps, List.length_append, hm] at hpl
      obtain ⟨P0, hP0⟩ : ∃ P0, pre ls k = P0 := ⟨_, rfl⟩
      rw [hP0] at HO hps hpl
      have HPS := Lib.hid hps
      have HWX := Lib.hid ((HZ.out.ents y hxm).1.wf)
      have HW0 : Hid (∀ e ∈ mrg P0, e.wf) := Lib.hid (by rw [← hP0]; exact HWF.out k)
      have HXM := Lib.hid hxm
      have HWP : Hid (∀ e ∈ P0, e.wf) := Lib.hid fun e he => by
        rw [← hP0] at he
        obtain ⟨x, hx, hxe⟩ := pre_sub ls k e he
        exact (HZ.out.ents x hx).1.wf e hxe
      clear hy hxm hps hP0 hown hbel hm
      have c0 : ∀ W, Below w.heap.size w W → ∃ b0 off0, A = some ⟨b0, off0, none⟩ ∧ b0 < W.heap.size ∧ W.cell? ⟨b0, off0 + k, none⟩ = some (.slice y.A m y.c) := fun W hb => by
        obtain ⟨b0, off0, hA, hbl, hc⟩ := (HZ.out.below hb).at_ (by omega)
        have := hc k hkl
        rw [HY.out, HM.out] at this
        exact ⟨b0, off0, hA, hbl, this⟩
      have HC0 := Lib.hid c0
      clear c0
      have g0 : (0 : Int) ≤ (k : Int) := by omega
      have g1 : (k : Int) < (n : Int) := by omega
      go_wp2_with fail
      go_loopw [3, 5] (fun o i wr => ∃ j : Nat, j ≤ m ∧ i = .int .i64 j ∧ Below w.heap.size w wr ∧ wr.ownsRow w.heap.size 39 5 o (mrg (P0 ++ y.l.take j)).length (ecs (mrg (P0 ++ y.l.take j)))) (fun _ i _ => m - (intOf i).toNat)
      case atStart => exact ⟨0, by omega, rfl, HB.out, by simpa using HO.out⟩
      case round =>
        obtain ⟨j, hj, rfl, hbel, hown⟩ := hrel
        have HB2 := Lib.hid hbel
        clear HB HO
        obtain ⟨b0, off0, hA, hbl, hc0⟩ := HC0.out _ hbel
        subst hA
        by_cases hlt2 : j < m
        · have hjl : j < y.l.length := by rw [HM.out]; exact hlt2
          obtain ⟨b, off, hyA, hbl2, hc⟩ := ((HZ.out.below hbel).ents y HXM.out).1.at_ (by omega)
          obtain ⟨z0, z1, z2, z3, z4⟩ := hc j hjl
          have htk := List.take_succ_eq_append_getElem hjl
          have hew := HWX.out _ (List.getElem_mem hjl)
          obtain ⟨e, he⟩ : ∃ e, y.l[j] = e := ⟨_, rfl⟩
          rw [he] at z0 z1 z2 z3 z4 htk hew
          have hP : mrg (P0 ++ y.l.take (j + 1)) = ins (mrg (P0 ++ y.l.take j)) e := by rw [htk, ← List.append_assoc, mrg_snoc]
          have hsrt := mrg_sorted (P0 ++ y.l.take j)
          have hlen := mrg_len (P0 ++ y.l.take j)
          rw [List.length_append, List.length_take] at hlen
          have hwf : ∀ x ∈ mrg (P0 ++ y.l.take j), x.wf := fun x hx => by
            rcases List.mem_append.1 (mrg_sub _ x hx) with h | h
            · exact HWP.out x h
            · exact HWX.out x (List.mem_of_mem_take h)
          obtain ⟨o, ho⟩ : ∃ o, mrg (P0 ++ y.l.take j) = o := ⟨_, rfl⟩
          rw [ho] at hP hsrt hlen hwf hown
          have HP := Lib.hid hP
          have HSO := Lib.hid hsrt
          have HOW := Lib.hid hwf
          obtain ⟨N, hN⟩ : ∃ N, o.length = N := ⟨_, rfl⟩
          have HNO := Lib.hid hN
          rw [hN] at hown hlen
          have HOWN := Lib.hid hown
          have hfl := front_le e o
          rw [hN] at hfl
          have hend := @bld_end e o
          obtain ⟨F, hF⟩ : ∃ F, (front e o).length = F := ⟨_, rfl⟩
          rw [hF, hN] at hend
          rw [hF] at hfl
          have HEND2 := Lib.hid hend
          have HF := Lib.hid hF
          obtain ⟨e', hee⟩ : ∃ e', e = e' := ⟨_, rfl⟩
          have HEE := Lib.hid hee
          rw [hee] at z0 z1 z2 z3 z4
          have HLS2 : Hid (∀ (d : SK.E) W, Calls Try.prog 26 #[d.val, e'.val] W fun r w' => r = .returned (.bool (less d e)) ∧ Below W.heap.size W w') := Lib.hid fun d W => by have := HLS.out d e W; rw [hee] at this ⊢; exact this
          have hm6 : N ≤ 1000000 := by omega
          have g2 : (0 : Int) ≤ (j : Int) := by omega
          have g3 : (j : Int) < (m : Int) := by omega
          have hwsz := hbel.size
          rw [hyA] at hc0
          clear hc hyA htk hew he hP hsrt hlen hwf ho hN hown hend hF hee hbel
          obtain ⟨ek, eq, eg, ev, et⟩ := e'
          simp only at z0 z1 z2 z3 z4
          simp only [E.val] at HLS2
          go_wp2_with fail
          have hrow := heap_alloc_new wr (.cells #[.string ek, .int .i64 eq, .bool eg, .string ev, .int .i64 et] 39)
          have hb1 := (Below.refl wr.heap.size wr).alloc (Nat.le_refl _) (.cells #[.string ek, .int .i64 eq, .bool eg, .string ev, .int .i64 et] 39)
          have hsz1 : (wr.alloc (.cells #[.string ek, .int .i64 eq, .bool eg, .string ev, .int .i64 et] 39)).heap.size = wr.heap.size + 1 := by simp
          obtain ⟨A2, c2, hv2, hen2, hfb2, -⟩ := own_ents HOW.out HNO.out HOWN.out
          subst hv2
          have HEN0 := Lib.hid (hen2.below hb1)
          have HFB := Lib.hid hfb2
          obtain ⟨x, hx⟩ : ∃ x, wr.heap.size = x := ⟨_, rfl⟩
          have HXW := Lib.hid hx
          rw [hx] at hrow hb1 hsz1 hwsz ⊢
          generalize hW : wr.alloc (.cells #[.string ek, .int .i64 eq, .bool eg, .string ev, .int .i64 et] 39) = W1 at hrow hb1 hsz1 HEN0 ⊢
          have HROW := Lib.hid hrow
          have HB1 := Lib.hid hb1
          have HEN : Hid (∀ W, Below (x + 1) W1 W → EntsIn W A2 o) := Lib.hid fun W hb => HEN0.out.below (hb.mono (by omega))
          clear hW hx hrow hb1 z0 z1 z2 z3 z4 hbl hbl2 hc0 hen2 hfb2 HEN0 g0 g1 g2 g3
          go_loopw [7, 8, 9] (fun a t i W => ∃ q9 : Nat, q9 ≤ N ∧ i = .int .i64 q9 ∧ a = .int .i64 (min q9 F : Nat) ∧ t = .bool (there e (o.take q9)) ∧ Below (x + 1) W1 W) (fun _ _ i _ => N - (intOf i).toNat)
          case atStart => exact ⟨0, by omega, rfl, by simp, by simp [there], Below.refl _ _⟩
          case round =>
            obtain ⟨q9, hq9, rfl, rfl, rfl, hbw⟩ := hrel
            have HBW := Lib.hid hbw
            have hwz := hbw.size
            by_cases hlt3 : q9 < N
            · have hql : q9 < o.length := by rw [HNO.out]; exact hlt3
              have hrx : wr.heap[x]? = some (.cells #[.string ek, .int .i64 eq, .bool eg, .string ev, .int .i64 et] 39 (0, 0)) := (hbw.block x (by omega)).trans HROW.out
              have b0 : wr.cell? ⟨x, 0, none⟩ = some (.string ek) := cell_of_row _ _ _ _ _ _ hrx
              have b1 : wr.cell? ⟨x, 1, none⟩ = some (.int .i64 eq) := cell_of_row _ _ _ _ _ _ hrx
              have b2 : wr.cell? ⟨x, 2, none⟩ = some (.bool eg) := cell_of_row _ _ _ _ _ _ hrx
              have b3 : wr.cell? ⟨x, 3, none⟩ = some (.string ev) := cell_of_row _ _ _ _ _ _ hrx
              have b4 : wr.cell? ⟨x, 4, none⟩ = some (.int .i64 et) := cell_of_row _ _ _ _ _ _ hrx
              obtain ⟨b, off, hA2, hbl, hc⟩ := (HEN.out _ hbw).at_ (by omega)
              obtain ⟨z0, z1, z2, z3, z4⟩ := hc q9 hql
              have hfa := front_at (e := e) HSO.out q9 hql
              rw [HF.out] at hfa
              have hths := there_snoc e (o.take q9) o[q9]
              rw [← List.take_succ_eq_append_getElem hql] at hths
              have hsd : SK.same o[q9] e = decide (o[q9].key = ek ∧ o[q9].seq = eq) := by rw [HEE.out]; rfl
              obtain ⟨d, hd⟩ : ∃ d, o[q9] = d := ⟨_, rfl⟩
              rw [hd] at z0 z1 z2 z3 z4 hfa hths hsd
              obtain ⟨tb, htb⟩ : ∃ tb, there e (o.take q9) = tb := ⟨_, rfl⟩
              rw [htb] at hths ⊢
              have HLD := Lib.hid (fun W => HLS2.out d W)
              have hte := text_eq d.key ek
              obtain ⟨L, hL⟩ : ∃ L, less d e = L := ⟨_, rfl⟩
              obtain ⟨sm, hsm⟩ : ∃ sm, SK.same d e = sm := ⟨_, rfl⟩
              rw [hL] at HLD hfa
              rw [hsm] at hths hsd
              have HFA := Lib.hid hfa
              have HTHS := Lib.hid hths
              subst hA2
              obtain ⟨k2, q2, g2, v2, t2⟩ := d
              simp only at z0 z1 z2 z3 z4 hte hsd
              simp only at HLD
              have g0 : (0 : Int) ≤ (q9 : Int) := by omega
              have g1 : (q9 : Int) < (N : Int) := by omega
              have hsplit : ((k2.toList == ek.toList) = false ∧ sm = false) ∨ ((k2.toList == ek.toList) = true ∧ (q2 == eq) = false ∧ sm = false) ∨ ((k2.toList == ek.toList) = true ∧ (q2 == eq) = true ∧ sm = true) := by
                rw [hte, hsd]
                by_cases h1 : k2 = ek
                · by_cases h2 : q2 = eq
                  · exact .inr (.inr ⟨decide_eq_true h1, beq_iff_eq.2 h2, decide_eq_true ⟨h1, h2⟩⟩)
                  · exact .inr (.inl ⟨decide_eq_true h1, beq_eq_false_iff_ne.2 h2, decide_eq_false (fun h => h2 h.2)⟩)
                · exact .inl ⟨decide_eq_false h1, decide_eq_false (fun h => h1 h.1)⟩
              clear hc hd hfa hths htb hL hsm hte hsd hbw hrx
              rcases hsplit with ⟨hkk, rfl⟩ | ⟨hkk, hqq, rfl⟩ | ⟨hkk, hqq, rfl⟩
              all_goals
                go_wp2_with fail
                go_quiet (fail)
                have hq0 : Below wr.heap.size wr (wr.drewN nq) := below_drewN (Below.refl _ _) nq
                go_wp2_with fail
                generalize wr.drewN nq = wq at hq0 ⊢
                obtain ⟨y1, y2, y3, y4, y5, y6, y7, y8, y9, y10⟩ : wq.cell? ⟨b, off + q9 * 5, none⟩ = some (.string k2) ∧ wq.cell? ⟨b, off + q9 * 5 + 1, none⟩ = some (.int .i64 q2) ∧ wq.cell? ⟨b, off + q9 * 5 + 2, none⟩ = some (.bool g2) ∧ wq.cell? ⟨b, off + q9 * 5 + 3, none⟩ = some (.string v2) ∧ wq.cell? ⟨b, off + q9 * 5 + 4, none⟩ = some (.int .i64 t2) ∧ wq.cell? ⟨x, 0, none⟩ = some (.string ek) ∧ wq.cell? ⟨x, 1, none⟩ = some (.int .i64 eq) ∧ wq.cell? ⟨x, 2, none⟩ = some (.bool eg) ∧ wq.cell? ⟨x, 3, none⟩ = some (.string ev) ∧ wq.cell? ⟨x, 4, none⟩ = some (.int .i64 et) := ⟨(hq0.cell (p := ⟨b, off + q9 * 5, none⟩) (by simp; omega)).trans z0, (hq0.cell (p := ⟨b, off + q9 * 5 + 1, none⟩) (by simp; omega)).trans z1, (hq0.cell (p := ⟨b, off + q9 * 5 + 2, none⟩) (by simp; omega)).trans z2, (hq0.cell (p := ⟨b, off + q9 * 5 + 3, none⟩) (by simp; omega)).trans z3, (hq0.cell (p := ⟨b, off + q9 * 5 + 4, none⟩) (by simp; omega)).trans z4, (hq0.cell (p := ⟨x, 0, none⟩) (by simp; omega)).trans b0, (hq0.cell (p := ⟨x, 1, none⟩) (by simp; omega)).trans b1, (hq0.cell (p := ⟨x, 2, none⟩) (by simp; omega)).trans b2, (hq0.cell (p := ⟨x, 3, none⟩) (by simp; omega)).trans b3, (hq0.cell (p := ⟨x, 4, none⟩) (by simp; omega)).trans b4⟩
                have hq1 := hq0.size
                have HQ := Lib.hid hq0
                clear hq0 z0 z1 z2 z3 z4 b0 b1 b2 b3 b4
                go_region_held3 (fun w' => w'.cell? ⟨b, off + q9 * 5, none⟩ = some (.string k2) ∧ w'.cell? ⟨b, off + q9 * 5 + 1, none⟩ = some (.int .i64 q2) ∧ w'.cell? ⟨b, off + q9 * 5 + 2, none⟩ = some (.bool g2) ∧ w'.cell? ⟨b, off + q9 * 5 + 3, none⟩ = some (.string v2) ∧ w'.cell? ⟨b, off + q9 * 5 + 4, none⟩ = some (.int .i64 t2) ∧ w'.cell? ⟨x, 0, none⟩ = some (.string ek) ∧ w'.cell? ⟨x, 1, none⟩ = some (.int .i64 eq) ∧ w'.cell? ⟨x, 2, none⟩ = some (.bool eg) ∧ w'.cell? ⟨x, 3, none⟩ = some (.string ev) ∧ w'.cell? ⟨x, 4, none⟩ = some (.int .i64 et))
                  (first | go_keep | exact HS5.out | fail)
                  (first
                    | (go_at_call 26
                       refine (HLD.out _).mono ?_
                       rintro e0 w5 ⟨rfl, hbb⟩
                       have HBB := Lib.hid hbb
                       have HS5 : Hid (w5.cell? ⟨b, off + q9 * 5, none⟩ = some (.string k2) ∧ w5.cell? ⟨b, off + q9 * 5 + 1, none⟩ = some (.int .i64 q2) ∧ w5.cell? ⟨b, off + q9 * 5 + 2, none⟩ = some (.bool g2) ∧ w5.cell? ⟨b, off + q9 * 5 + 3, none⟩ = some (.string v2) ∧ w5.cell? ⟨b, off + q9 * 5 + 4, none⟩ = some (.int .i64 t2) ∧ w5.cell? ⟨x, 0, none⟩ = some (.string ek) ∧ w5.cell? ⟨x, 1, none⟩ = some (.int .i64 eq) ∧ w5.cell? ⟨x, 2, none⟩ = some (.bool eg) ∧ w5.cell? ⟨x, 3, none⟩ = some (.string ev) ∧ w5.cell? ⟨x, 4, none⟩ = some (.int .i64 et)) := Lib.hid ⟨(hbb.cell (p := ⟨b, off + q9 * 5, none⟩) (by simp; omega)).trans y1, (hbb.cell (p := ⟨b, off + q9 * 5 + 1, none⟩) (by simp; omega)).trans y2, (hbb.cell (p := ⟨b, off + q9 * 5 + 2, none⟩) (by simp; omega)).trans y3, (hbb.cell (p := ⟨b, off + q9 * 5 + 3, none⟩) (by simp; omega)).trans y4, (hbb.cell (p := ⟨b, off + q9 * 5 + 4, none⟩) (by simp; omega)).trans y5, (hbb.cell (p := ⟨x, 0, none⟩) (by simp; omega)).trans y6, (hbb.cell (p := ⟨x, 1, none⟩) (by simp; omega)).trans y7, (hbb.cell (p := ⟨x, 2, none⟩) (by simp; omega)).trans y8, (hbb.cell (p := ⟨x, 3, none⟩) (by simp; omega)).trans y9, (hbb.cell (p := ⟨x, 4, none⟩) (by simp; omega)).trans y10⟩
                       clear hbb)
                    | fail)
                have HB5 : Hid (Below (x + 1) W1 w5) := Lib.hid ((HBW.out.trans (HQ.out.mono (by omega))).trans (Below.trans (Below.refl _ _).drew (HBB.out.mono (by simp; omega))))
                clear HS5 HBB y1 y2 y3 y4 y5 y6 y7 y8 y9 y10 HLD
                have HMIN : Hid (min (q9 + 1) F = if L = true then q9 + 1 else min q9 F) := Lib.hid (by
                  have := HFA.out
                  cases L with
                  | true => rw [if_pos rfl]; have := this.1 rfl; omega
                  | false =>
                    rw [if_neg (by decide)]
                    have h2 : ¬ q9 < F := fun h => by have := this.2 h; cases this
                    omega)
                cases L with
                | true =>
                  go_wp2
                  go_roundw
                  case rel => exact ⟨q9 + 1, by omega, by go_num, by rw [HMIN.out, if_pos rfl]; go_num, by rw [HTHS.out]; simp, HB5.out⟩
                  case measure => simp [intOf]; omega
                | false =>
                  go_wp2
                  go_roundw
                  case rel => exact ⟨q9 + 1, by omega, by go_num, by rw [HMIN.out, if_neg (by decide)], by rw [HTHS.out]; simp, HB5.out⟩
                  case measure => simp [intOf]; omega
            · have hqn : q9 = N := by omega
              have hmin : (min q9 F : Nat) = F := by omega
              have htk : o.take q9 = o := List.take_of_length_le (by rw [HNO.out]; omega)
              have HBE : Hid (Below w.heap.size w wr) := Lib.hid (HB2.out.trans ((HB1.out.trans (hbw.mono (by omega))).mono (by omega)))
              rw [hmin, htk]
              cases hth : there e o with
              | true =>
                have hP := HP.out
                unfold ins at hP
                rw [if_pos hth] at hP
                have HR : Hid (wr.ownsRow w.heap.size 39 5 (.slice A2 N c2) (mrg (P0 ++ y.l.take (j + 1))).length (ecs (mrg (P0 ++ y.l.take (j + 1))))) := Lib.hid (by
                  rw [hP, HNO.out]
                  exact own_below HOWN.out (by rw [HXW.out]; exact HB1.out.trans (hbw.mono (by omega))))
                subst hqn
                clear hP hmin htk hbw
                go_wp2
                go_roundw
                case rel => exact ⟨j + 1, by omega, by go_num, HBE.out, HR.out⟩
                case measure => simp [intOf]; omega
              | false =>
                have HE2 := Lib.hid (HEND2.out hth)
                have HROW2 : Hid (wr.heap[x]? = some (.cells #[.string ek, .int .i64 eq, .bool eg, .string ev, .int .i64 et] 39 (0, 0))) := Lib.hid ((hbw.block x (by omega)).trans HROW.out)
                have HEN2 := Lib.hid (HEN.out _ hbw)
                have hxz : x + 1 ≤ wr.heap.size := by omega
                clear hmin htk hbw HBW HROW HEN HOWN hlt3 hq9 HB2 HB1 hth HXW HEND2
                subst hqn
                go_wp2_with fail
                clear hwz hsz1
                obtain ⟨W2, hW2⟩ : ∃ W2, wr = W2 := ⟨_, rfl⟩
                rw [hW2] at HBE HROW2 HEN2 hxz ⊢
                clear hW2
                go_loopw [11, 12] (fun v i W => ∃ q : Nat, q ≤ q9 ∧ i = .int .i64 q ∧ Below W2.heap.size W2 W ∧ W.ownsRow W2.heap.size 39 5 v (bld F e (o.take q)).length (ecs (bld F e (o.take q)))) (fun _ i _ => q9 - (intOf i).toNat)
                case atStart => exact ⟨0, by omega, rfl, Below.refl _ _, by simpa [bld, ecs] using World.ownsRow_nil _ _ _ _⟩
                case round =>
                  obtain ⟨q, hq, rfl, hbm, hom⟩ := hrel
                  have HBM := Lib.hid hbm
                  have hsz := hbm.size
                  have htl : (o.take q).length = q := by rw [List.length_take, HNO.out]; omega
                  have hbx := bld_len F e (o.take q)
                  rw [htl] at hbx
                  by_cases hlt4 : q < q9
                  · have hql : q < o.length := by rw [HNO.out]; exact hlt4
                    have htk := List.take_succ_eq_append_getElem hql
                    obtain ⟨b, off, hA2, hbl, hc⟩ := (HEN2.out.below hbm).at_ (by omega)
                    obtain ⟨z0, z1, z2, z3, z4⟩ := hc q hql
                    have hrx : wr.heap[x]? = some (.cells #[.string ek, .int .i64 eq, .bool eg, .string ev, .int .i64 et] 39 (0, 0)) := (hbm.block x (by omega)).trans HROW2.out
                    have b0 : wr.cell? ⟨x, 0, none⟩ = some (.string ek) := cell_of_row _ _ _ _ _ _ hrx
                    have b1 : wr.cell? ⟨x, 1, none⟩ = some (.int .i64 eq) := cell_of_row _ _ _ _ _ _ hrx
                    have b2 : wr.cell? ⟨x, 2, none⟩ = some (.bool eg) := cell_of_row _ _ _ _ _ _ hrx
                    have b3 : wr.cell? ⟨x, 3, none⟩ = some (.string ev) := cell_of_row _ _ _ _ _ _ hrx
                    have b4 : wr.cell? ⟨x, 4, none⟩ = some (.int .i64 et) := cell_of_row _ _ _ _ _ _ hrx
                    obtain ⟨d, hd⟩ : ∃ d, o[q] = d := ⟨_, rfl⟩
                    rw [hd] at z0 z1 z2 z3 z4 htk
                    have hlo := @bld_lt F e d (o.take q)
                    have heo := @bld_eq F e d (o.take q)
                    have hgo := @bld_gt F e d (o.take q)
                    rw [← htk, htl] at hlo heo hgo
                    obtain ⟨X, hX⟩ : ∃ X, bld F e (o.take q) = X := ⟨_, rfl⟩
                    rw [hX] at hlo heo hgo hom hbx
                    have HOM := Lib.hid hom
                    have hecd := ecs_snoc X d
                    have hece := ecs_snoc X e
                    have hecd2 := ecs_snoc (X ++ [e]) d
                    have hcl : e.cells = [.string ek, .int .i64 eq, .bool eg, .string ev, .int .i64 et] := by rw [HEE.out]; rfl
                    rw [hcl] at hece
                    subst hA2
                    obtain ⟨k2, q2, g2, v2, t2⟩ := d
                    simp only [E.cells] at z0 z1 z2 z3 z4 hecd hecd2
                    have HEC := Lib.hid hecd
                    have HECE := Lib.hid hece
                    have HEC2 := Lib.hid hecd2
                    have g0 : (0 : Int) ≤ (q : Int) := by omega
                    have g1 : (q : Int) < (q9 : Int) := by omega
                    have HENC : Hid (∀ W, Below W2.heap.size W2 W → W.cell? ⟨b, off + q * 5, none⟩ = some (.string k2) ∧ W.cell? ⟨b, off + q * 5 + 1, none⟩ = some (.int .i64 q2) ∧ W.cell? ⟨b, off + q * 5 + 2, none⟩ = some (.bool g2) ∧ W.cell? ⟨b, off + q * 5 + 3, none⟩ = some (.string v2) ∧ W.cell? ⟨b, off + q * 5 + 4, none⟩ = some (.int .i64 t2)) := Lib.hid fun W hb => by
                      obtain ⟨b', off', hA', -, hc'⟩ := (HEN2.out.below hb).at_ (by omega)
                      cases hA'
                      have := hc' q hql
                      rw [hd] at this
                      exact this
                    by_cases hqF : q = F
                    · have HNX := Lib.hid (heo hqF)
                      subst hqF
                      clear hlo heo hgo htk hd hX hc hom hrx hbm hcl hecd hece hecd2 htl
                      go_wp2_with (at_builtin; refine wpList_append_own _ rfl _ _ 24 rfl (W2.heap.size) 39 i0 _ 5 56 Try.underlying24 hi hz0 hz1 hz2 rfl (by decide) _ _ _ rfl (own_below HOM.out ((Below.refl _ _).alloc (Nat.le_refl _) _)) ⟨wr.heap.size, 0, none⟩ 1 1 [.string ek, .int .i64 eq, .bool eg, .string ev, .int .i64 et] rfl ?c1 ?c2 ?c3 ?c4 ?c5 ?c6 ?_)
                      case c1 => rfl
                      case c2 => exact five_cells wr _ _ _ _ _ _
                      case c3 => intro u hu; simp at hu; rcases hu with rfl | rfl | rfl | rfl | rfl <;> rfl
                      case c4 => unfold maxLen; omega
                      case c5 => omega
                      case c6 =>
                        simp
                        try omega
                      intro v3 w3 hown3 hgrow hnil
                      clear hnil
                      have hOM2 : w3.ownsRow W2.heap.size 39 5 v3 (X.length + 1) (ecs (X ++ [e])) := by
                        rw [HECE.out]
                        exact hown3
                      have HB3 : Hid (Below W2.heap.size W2 w3) := Lib.hid ((HBM.out.alloc hsz _).grown hgrow (by simp; omega) (fun g hg => (HOM.out.lt g hg).1))
                      have HOM2 := Lib.hid hOM2
                      have hsz3 := HB3.out.size
                      obtain ⟨z0, z1, z2, z3, z4⟩ := HENC.out _ HB3.out
                      clear hOM2 hown3 hgrow b0 b1 b2 b3 b4
                      go_wp2_with (at_builtin; refine wpList_append_own _ rfl _ _ 24 rfl (W2.heap.size) 39 i0 _ 5 56 Try.underlying24 hi hz0 hz1 hz2 rfl (by decide) _ _ _ rfl (own_below HOM2.out ((Below.refl _ _).alloc (Nat.le_refl _) _)) ⟨w3.heap.size, 0, none⟩ 1 1 [.string k2, .int .i64 q2, .bool g2, .string v2, .int .i64 t2] rfl ?c1 ?c2 ?c3 ?c4 ?c5 ?c6 ?_)
                      case c1 => rfl
                      case c2 => exact five_cells w3 _ _ _ _ _ _
                      case c3 => intro u hu; simp at hu; rcases hu with rfl | rfl | rfl | rfl | rfl <;> rfl
                      case c4 => unfold maxLen; omega
                      case c5 => omega
                      case c6 =>
                        simp
                        try omega
                      intro v4 w4 hown3 hgrow hnil
                      clear hnil
                      have HR : Hid (w4.ownsRow W2.heap.size 39 5 v4 (bld q e (o.take (q + 1))).length (ecs (bld q e (o.take (q + 1))))) := Lib.hid (by
                        rw [HNX.out, HEC2.out]
                        simp only [List.length_append, List.length_cons, List.length_nil]
                        exact hown3)
                      have HB4 : Hid (Below W2.heap.size W2 w4) := Lib.hid ((HB3.out.alloc hsz3 _).grown hgrow (by simp; omega) (fun g hg => (HOM2.out.lt g hg).1))
                      clear hown3 hgrow
                      go_wp2
                      go_roundw
                      case rel => exact ⟨q + 1, by omega, by go_num, HB4.out, HR.out⟩
                      case measure => simp [intOf]; omega
                    · have gF : ((q : Int) == (F : Int)) = false := beq_eq_false_iff_ne.2 (by omega)
                      have HNX : Hid (bld F e (o.take (q + 1)) = X ++ [⟨k2, q2, g2, v2, t2⟩]) := Lib.hid (by
                        by_cases h : q < F
                        · exact hlo h
                        · exact hgo (by omega))
                      clear hlo heo hgo htk hd hX hc hom hrx hbm hcl hecd hece hecd2 htl b0 b1 b2 b3 b4
                      go_wp2_with (at_builtin; refine wpList_append_own _ rfl _ _ 24 rfl (W2.heap.size) 39 i0 _ 5 56 Try.underlying24 hi hz0 hz1 hz2 rfl (by decide) _ _ _ rfl (own_below HOM.out ((Below.refl _ _).alloc (Nat.le_refl _) _)) ⟨wr.heap.size, 0, none⟩ 1 1 [.string k2, .int .i64 q2, .bool g2, .string v2, .int .i64 t2] rfl ?c1 ?c2 ?c3 ?c4 ?c5 ?c6 ?_)
                      case c1 => rfl
                      case c2 => exact five_cells wr _ _ _ _ _ _
                      case c3 => intro u hu; simp at hu; rcases hu with rfl | rfl | rfl | rfl | rfl <;> rfl
                      case c4 => unfold maxLen; omega
                      case c5 => omega
                      case c6 =>
                        simp
                        try omega
                      intro v3 w3 hown3 hgrow hnil
                      clear hnil
                      have HR : Hid (w3.ownsRow W2.heap.size 39 5 v3 (bld F e (o.take (q + 1))).length (ecs (bld F e (o.take (q + 1))))) := Lib.hid (by
                        rw [HNX.out, HEC.out, List.length_append]
                        exact hown3)
                      have HB3 : Hid (Below W2.heap.size W2 w3) := Lib.hid ((HBM.out.alloc hsz _).grown hgrow (by simp; omega) (fun g hg => (HOM.out.lt g hg).1))
                      clear hown3 hgrow
                      go_wp2
                      go_roundw
                      case rel => exact ⟨q + 1, by omega, by go_num, HB3.out, HR.out⟩
                      case measure => simp [intOf]; omega
                  · have hqn : q = q9 := by omega
                    have htk : o.take q = o := List.take_of_length_le (by rw [HNO.out]; omega)
                    have hrx : wr.heap[x]? = some (.cells #[.string ek, .int .i64 eq, .bool eg, .string ev, .int .i64 et] 39 (0, 0)) := (hbm.block x (by omega)).trans HROW2.out
                    have b0 : wr.cell? ⟨x, 0, none⟩ = some (.string ek) := cell_of_row _ _ _ _ _ _ hrx
                    have b1 : wr.cell? ⟨x, 1, none⟩ = some (.int .i64 eq) := cell_of_row _ _ _ _ _ _ hrx
                    have b2 : wr.cell? ⟨x, 2, none⟩ = some (.bool eg) := cell_of_row _ _ _ _ _ _ hrx
                    have b3 : wr.cell? ⟨x, 3, none⟩ = some (.string ev) := cell_of_row _ _ _ _ _ _ hrx
                    have b4 : wr.cell? ⟨x, 4, none⟩ = some (.int .i64 et) := cell_of_row _ _ _ _ _ _ hrx
                    rw [htk] at hom hbx
                    obtain ⟨X, hX⟩ : ∃ X, bld F e o = X := ⟨_, rfl⟩
                    have hE2 := HE2.out
                    rw [hX] at hom hbx hE2
                    have HOM := Lib.hid hom
                    have hece := ecs_snoc X e
                    have hcl : e.cells = [.string ek, .int .i64 eq, .bool eg, .string ev, .int .i64 et] := by rw [HEE.out]; rfl
                    rw [hcl] at hece
                    have HECE := Lib.hid hece
                    subst hqn
                    by_cases hqF : F = q
                    · have gF : ((F : Int) == (q : Int)) = true := beq_iff_eq.2 (by rw [hqF])
                      rw [if_pos hqF, ← HP.out] at hE2
                      have HE3 := Lib.hid hE2
                      clear hE2 htk hX hom hrx hbm hcl hece htl
                      go_wp2_with (at_builtin; refine wpList_append_own _ rfl _ _ 24 rfl (W2.heap.size) 39 i0 _ 5 56 Try.underlying24 hi hz0 hz1 hz2 rfl (by decide) _ _ _ rfl (own_below HOM.out ((Below.refl _ _).alloc (Nat.le_refl _) _)) ⟨wr.heap.size, 0, none⟩ 1 1 [.string ek, .int .i64 eq, .bool eg, .string ev, .int .i64 et] rfl ?c1 ?c2 ?c3 ?c4 ?c5 ?c6 ?_)
                      case c1 => rfl
                      case c2 => exact five_cells wr _ _ _ _ _ _
                      case c3 => intro u hu; simp at hu; rcases hu with rfl | rfl | rfl | rfl | rfl <;> rfl
                      case c4 => unfold maxLen; omega
                      case c5 => omega
                      case c6 =>
                        simp
                        try omega
                      intro v3 w3 hown3 hgrow hnil
                      clear hnil
                      have HR : Hid (w3.ownsRow w.heap.size 39 5 v3 (mrg (P0 ++ y.l.take (j + 1))).length (ecs (mrg (P0 ++ y.l.take (j + 1))))) := Lib.hid (by
                        rw [HE3.out, HECE.out, List.length_append]
                        exact own_base hown3 HBE.out.size)
                      have HB3 : Hid (Below W2.heap.size W2 w3) := Lib.hid ((HBM.out.alloc hsz _).grown hgrow (by simp; omega) (fun g hg => (HOM.out.lt g hg).1))
                      have HB4 : Hid (Below w.heap.size w w3) := Lib.hid (HBE.out.trans (HB3.out.mono HBE.out.size))
                      clear hown3 hgrow
                      go_wp2
                      go_roundw
                      case rel => exact ⟨j + 1, by omega, by go_num, HB4.out, HR.out⟩
                      case measure => simp [intOf]; omega
                    · have gF : ((F : Int) == (q : Int)) = false := beq_eq_false_iff_ne.2 (by omega)
                      rw [if_neg hqF, ← HP.out] at hE2
                      have HR : Hid (wr.ownsRow w.heap.size 39 5 u11 (mrg (P0 ++ y.l.take (j + 1))).length (ecs (mrg (P0 ++ y.l.take (j + 1))))) := Lib.hid (by
                        rw [hE2]
                        exact own_base HOM.out HBE.out.size)
                      have HB4 : Hid (Below w.heap.size w wr) := Lib.hid (HBE.out.trans (HBM.out.mono HBE.out.size))
                      clear hE2 htk hX hom hrx hbm hcl hece htl b0 b1 b2 b3 b4
                      go_wp2
                      go_roundw
                      case rel => exact ⟨j + 1, by omega, by go_num, HB4.out, HR.out⟩
                      case measure => simp [intOf]; omega
        · have hjm : j = m := by omega
          have htk : y.l.take j = y.l := List.take_of_length_le (by rw [HM.out]; omega)
          have HR : Hid (wr.ownsRow w.heap.size 39 5 u3 (mrg (pre ls (k + 1))).length (ecs (mrg (pre ls (k + 1))))) := Lib.hid (by
            rw [HPS.out, ← htk]
            exact hown)
          subst hjm
          clear hown hbel htk
          go_wp2
          go_roundw
          case rel => exact ⟨k + 1, by omega, by go_num, HB2.out, HR.out⟩
          case measure => simp [intOf]; omega
    · have hkn : k = n := by omega
      subst hkn
      rw [HEND.out] at hown
      have HR := Lib.hid hown
      clear hown hbel HO
      go_wp2
      go_ret
      exact ⟨_, rfl, HR.out, HB.out⟩
end Go.Proofs.Ytfbhdggmefacjaa
