/- SkipCoins: coins make no difference but for what is held. For every coins and every puts. -/
import Derived.Test.YtgnlhnfjanoahaaCd
import Derived.Test.YtgnlhnfjanoahaaIt
import Derived.Test.YtgnlhnfjanoahaaEq
import Derived.Test.YtgnlhnfjanoahaaRg
import Derived.RangeFuncFrom
import Derived.RangeFuncWrites
import Derived.Sort.QuietIn
import Derived.Test.YtgnlhnfjanoahaaQr
namespace Go.Proofs.Ytgnlhnfjanoahaa
open Go.ChangeShapes Go.WideShapes Go.ChangeAt Go.RowKit Go.Shelf
open SK
attribute [local go_sem] Oper.semAt_some

theorem Kept.grown {S : List Nat} {N : Nat} {w A B : World} {row : Option Nat} (h : Kept S N w A) (hN : N ≤ w.heap.size) (hg : A.grownBy B row) (hr : ∀ r, row = some r → N ≤ r) : Kept S N w B :=
  ⟨hg.os.trans h.os, hg.tape.trans h.tape, hg.output.trans h.output, Nat.le_trans h.size hg.size, fun k hk hn => (hg.block k (by have := h.size; omega) (fun e => by have := hr k e.symm; omega)).trans (h.block k hk hn)⟩
theorem Kept.below {S : List Nat} {N n : Nat} {w w' : World} (h : Kept S N w w') (hn : n ≤ N) (hS : ∀ k ∈ S, n ≤ k) : Below n w w' :=
  ⟨h.os, h.tape, h.output, h.size, fun k hk => h.block k (by omega) (fun hm => by have := hS k hm; omega)⟩

theorem KeepsFrom.of_grow {B : Nat} {w w' : World} (hb : Below w.heap.size w w') : KeepsFrom B w w' := ⟨hb.size, fun k _ _ hk _ => (hb.block k (Array.getElem?_eq_some_iff.1 hk).1).trans hk⟩
theorem own_less {w : World} {b b' : Nat} {e : TypeId} {size : Nat} {v : Value} {n : Nat} {xs : List Value} (h : w.ownsRow b e size v n xs) (hb : b' ≤ b) : w.ownsRow b' e size v n xs :=
  ⟨h.1, h.2.imp id fun ⟨g, cap, cur, h1, h2, h3⟩ => ⟨g, cap, cur, h1, Nat.le_trans hb h2, h3⟩⟩

theorem EntsIn.kept {w w' : World} {A : Option Addr} {l : List E} {S : List Nat} {N : Nat} (h : EntsIn w A l) (hk : Kept S N w w') (hf : ∀ b ∈ fb A, b < N ∧ b ∉ S) : EntsIn w' A l :=
  ⟨h.wf, fun hn => by
    obtain ⟨b, off, hA, hlt, hc⟩ := h.at_ hn
    have hb := hk.block b (hf b (by rw [hA]; simp [fb])).1 (hf b (by rw [hA]; simp [fb])).2
    refine ⟨b, off, hA, Nat.lt_of_lt_of_le hlt hk.size, fun j hj => ?_⟩
    obtain ⟨c0, c1, c2, c3, c4⟩ := hc j hj
    exact ⟨(World.cell?_of_block (a := ⟨b, _, none⟩) hb).trans c0, (World.cell?_of_block (a := ⟨b, _, none⟩) hb).trans c1, (World.cell?_of_block (a := ⟨b, _, none⟩) hb).trans c2, (World.cell?_of_block (a := ⟨b, _, none⟩) hb).trans c3, (World.cell?_of_block (a := ⟨b, _, none⟩) hb).trans c4⟩⟩

theorem info_aent : (Try.prog.info? 36).map (fun i => (i.zero, i.size, i.bytes)) = some (some (.agg #[.string ⟨#[]⟩, .int .i64 0, .bool false, .string ⟨#[]⟩, .int .i64 0]), 5, 56) := by kernel_rfl

/-- what the first loop leaves: the list of what has come -/
structure Got (y x : Nat) (w6 : World) (pre : List E) (W : World) : Prop where
  kept : Kept [y, x] w6.heap.size w6 W
  res : W.heap[x]? = some (.cells #[.bool false] 4 (0, 0))
  row : ∃ v, Boxed W y 43 v ∧ W.ownsRow w6.heap.size 36 5 v pre.length (ecs pre)

theorem Got.own {y x : Nat} {w6 : World} (hx : x < w6.heap.size) : OwnFrom w6.heap.size (fun pre W => Got y x w6 pre W) := fun s A B row h hg hr => by
  obtain ⟨v, h1, h2⟩ := h.row
  obtain ⟨v', h3, h4, -⟩ := (holdsRow_own w6.heap.size y 43 36 5 (fun pre : List E => pre.length) (fun pre => ecs pre) (fun _ _ => True)) s A B row ⟨v, h1, h2, trivial⟩ hg (fun r e => (hr r e).2)
  exact ⟨h.kept.grown (Nat.le_refl _) hg (fun r e => (hr r e).1), (hg.block x (Array.getElem?_eq_some_iff.1 h.res).1 (fun e => by have := (hr x e.symm).1; omega)).trans h.res, v', h3, h4⟩

/-- what lies between two rounds of the second loop: at entries have come -/
structure Inv (y x : Nat) (w6 : World) (at_ : Nat) (W : World) : Prop where
  kept : Kept [y, x] w6.heap.size w6 W
  res : W.heap[x]? = some (.cells #[.bool false] 4 (0, 0))
  count : W.heap[y]? = some (.cells #[.int .i64 at_] 3 (0, 0))

theorem Inv.own {y x : Nat} {w6 : World} (hx : x < w6.heap.size) (hy : y < w6.heap.size) (f : List E → Nat) : OwnFrom w6.heap.size (fun pre W => Inv y x w6 (f pre) W) := fun _ _ _ _ h hg hr =>
  ⟨h.kept.grown (Nat.le_refl _) hg (fun r e => (hr r e).1), (hg.block x (Array.getElem?_eq_some_iff.1 h.res).1 (fun e => by have := (hr x e.symm).1; omega)).trans h.res, (hg.block y (Array.getElem?_eq_some_iff.1 h.count).1 (fun e => by have := (hr y e.symm).1; omega)).trans h.count⟩

theorem not_prefix {pre want : List E} {e d : E} {h : pre.length < want.length} (hd : want[pre.length] = d) (hne : e ≠ d) : ¬ (pre ++ [e]) <+: want := fun ⟨t, ht⟩ => by
  subst ht
  apply hne
  rw [← hd]
  simp

namespace lawCoins
set_option maxRecDepth 100000 in
set_option maxHeartbeats 8000000 in
theorem walk (cA : Option Addr) (cN cC : Nat) (cs : List Int) (dA : Option Addr) (dN dC : Nat) (ds : List Int) (pA : Option Addr) (pN pC : Nat) (ps : List E) (w : World) (hcn : cs.length = cN) (hci : CoinsIn w cA cs) (hcb : cN * 8 ≤ reachBytes) (hdn : ds.length = dN) (hdi : CoinsIn w dA ds) (hdb : dN * 8 ≤ reachBytes) (hpn : ps.length = pN) (hpi : EntsIn w pA ps) (hpc : pN ≤ pC) :
    Calls Try.prog 4 #[.slice cA cN cC, .slice dA dN dC, .slice pA pN pC] w fun e w' => e = .returned (.bool true) ∧ Below w.heap.size w w' := by
  obtain ⟨x, hx⟩ : ∃ x, w.heap.size = x := ⟨_, rfl⟩
  have hR0 : (w.alloc (.cells #[.bool false] 4)).heap[w.heap.size]? = some (.cells #[.bool false] 4 (0, 0)) := heap_alloc_new w _
  have hbel : Below w.heap.size w (w.alloc (.cells #[.bool false] 4)) := (Below.refl _ w).alloc (Nat.le_refl _) _
  have hsz0 : (w.alloc (.cells #[.bool false] 4)).heap.size = w.heap.size + 1 := by simp
  have HCI := Lib.hid (hci.below hbel)
  have HDI := Lib.hid (hdi.below hbel)
  have HPI := Lib.hid (hpi.below hbel)
  have HCN := Lib.hid hcn
  have HDN := Lib.hid hdn
  have HPN := Lib.hid hpn
  have HCB := Lib.hid hcb
  have HDB := Lib.hid hdb
  clear hcn hci hcb hdn hdi hdb hpi hpn
  refine (callsIn_wide (n := 4)).1 ?_
  refine callsIn_of_wp_marks Try.func4 rfl trivial ?_ rfl
  simp only [Try.ntmps4, List.size_toArray, List.length_cons, List.length_nil, Nat.reduceAdd, Nat.reduceSub, Array.replicate_succ, Array.replicate_zero, List.push_toArray, List.append_toArray, List.nil_append, List.cons_append]
  refine wpIn_wide.2 ?_
  go_wp2_with fail
  generalize w.alloc (.cells #[.bool false] 4) = w0 at hR0 hbel hsz0 HCI HDI HPI ⊢
  rw [hx] at hR0 hbel hsz0
  have HX := Lib.hid hx
  clear hx
  refine (wakes_any _).mono ?_
  rintro v w1 ⟨rfl, hb1⟩
  rw [hsz0] at hb1
  have hci1 := HCI.out.below (by rw [hsz0]; exact hb1)
  have HDI1 := Lib.hid (HDI.out.below (by rw [hsz0]; exact hb1))
  have hz1 : x + 1 ≤ w1.heap.size := by have := hb1.size; omega
  have HR0 := Lib.hid hR0
  have HB0 := Lib.hid hbel
  have HZ0 := Lib.hid hsz0
  clear hR0 hbel hsz0
  have HN1 := Lib.hid (new_any cA cN cC cs w1 HCN.out hci1 (by have := HCB.out; unfold reachBytes at this; omega))
  have HB1 := Lib.hid hb1
  clear hci1 hb1
  go_wp2_with fail
  refine HN1.out.mono ?_
  rintro v w2 ⟨rfl, hrep2, hb2, hs2⟩
  have hdi2 := HDI1.out.below hb2
  have HN2 := Lib.hid (new_any dA dN dC ds w2 HDN.out hdi2 (by have := HDB.out; unfold reachBytes at this; omega))
  have HREP2 := Lib.hid hrep2
  have HB2 : Hid (Below (x + 1) w0 w2) := Lib.hid (HB1.out.trans (hb2.mono (by omega)))
  clear hrep2 hb2 hdi2 HN1 HB1 HDI1
  go_wp2_with fail
  refine HN2.out.mono ?_
  rintro v w3 ⟨rfl, hrep3, hb3, hs3⟩
  obtain ⟨m, hm⟩ : ∃ m, min pN 100 = m := ⟨_, rfl⟩
  have hmin : min (pN : Int) 100 = (m : Int) := by omega
  have hmax : max (m : Int) 0 = (m : Int) := by omega
  have hsl := fun W => ents_head W pA pN pC m (by omega)
  have HTK : Hid (ps.take 100 = ps.take m) := Lib.hid (by
    rw [← hm, ← HPN.out, List.take_eq_take_iff]
    omega)
  have HBO : Hid (Both (x + 1) w0 w3 (w1.heap.size + 1) w1.heap.size cs [] (w2.heap.size + 1) w2.heap.size ds [] (after cs (ps.take 0)) (after ds (ps.take 0))) := Lib.hid (by
    have hr := HREP2.out.below hb3
    refine ⟨HB2.out.trans (hb3.mono (by omega)), by omega, ⟨hr.head, hr.coins, hr.chain, hr.ents, hr.full, hr.nodup, fun y hy => ⟨by have := (hr.lo y hy).1; omega, (hr.lo y hy).2⟩⟩, ⟨hrep3.head, hrep3.coins, hrep3.chain, hrep3.ents, hrep3.full, hrep3.nodup, fun y hy => ⟨by have := (hrep3.lo y hy).1; omega, (hrep3.lo y hy).2⟩⟩, fun y hy hm => ?_, ok_new, ok_new⟩
    simp only [blks, List.flatMap_nil, List.mem_cons, List.not_mem_nil, or_false] at hy hm
    omega)
  obtain ⟨hb, hhb⟩ : ∃ hb, w1.heap.size = hb := ⟨_, rfl⟩
  obtain ⟨hb', hhb'⟩ : ∃ hb', w2.heap.size = hb' := ⟨_, rfl⟩
  rw [hhb, hhb'] at HBO
  rw [hhb, hhb']
  obtain ⟨a, ha⟩ : ∃ a, hb + 1 = a := ⟨_, rfl⟩
  obtain ⟨a', ha'⟩ : ∃ a', hb' + 1 = a' := ⟨_, rfl⟩
  rw [ha, ha'] at HBO
  rw [ha, ha']
  clear hrep3 hb3 hs3 hs2 hz1 hhb hhb' ha ha' HREP2 HB2 HN2
  go_wp2_with fail
  go_loopw [27] (fun i wr => ∃ j : Nat, j ≤ m ∧ i = .int .i64 j ∧ ∃ l l', Both (x + 1) w0 wr a hb cs l a' hb' ds l' (after cs (ps.take j)) (after ds (ps.take j))) (fun i _ => m - (intOf i).toNat)
  case atStart => exact ⟨0, by omega, rfl, _, _, HBO.out⟩
  case round =>
    obtain ⟨j, hj, rfl, l, l', hboth⟩ := hrel
    have HD := Lib.hid hboth
    by_cases hlt : j < m
    · have hjl : j < ps.length := by rw [HPN.out]; omega
      have hbw := hboth.below
      obtain ⟨b, off, hA, hbl, hc⟩ := (HPI.out.below (by rw [HZ0.out]; exact hbw)).at_ (by omega)
      obtain ⟨z0, z1, z2, z3, z4⟩ := hc j hjl
      have hwf := HPI.out.wf _ (List.getElem_mem hjl)
      have htk : ps.take (j + 1) = ps.take j ++ [ps[j]] := List.take_succ_eq_append_getElem hjl
      obtain ⟨e, he⟩ : ∃ e, ps[j] = e := ⟨_, rfl⟩
      rw [he] at z0 z1 z2 z3 z4 hwf htk
      have hlen : ∀ c : List Int, (after c (ps.take j)).l.length ≤ 1000000 := fun c => by
        have := (after_ok c (ps.take j) (fun x hx => HPI.out.wf x (List.mem_of_mem_take hx))).2
        have h2 : (ps.take j).length ≤ j := List.length_take_le _ _
        omega
      have hst := after_snoc cs (ps.take j) e
      have hst' := after_snoc ds (ps.take j) e
      rw [← htk] at hst hst'
      have hsm := (step_same (after_same cs ds (ps.take j)) cs ds e).1
      have hN : ∀ y ∈ a :: hb :: blks l, y < wr.heap.size := fun y hy => (HD.out.rep.lo y hy).2
      have hN' : ∀ y ∈ a' :: hb' :: blks l', y < wr.heap.size := fun y hy => (HD.out.rep'.lo y hy).2
      have HP1 : Hid (∀ w', Both (x + 1) w0 w' a hb cs l a' hb' ds l' (after cs (ps.take j)) (after ds (ps.take j)) → Calls Try.prog 10 #[.pointer (some ⟨a, 0, none⟩), e.val] w' fun v w'' => v = .returned (.int .i64 ((after cs (ps.take j)).step cs e).1) ∧ ∃ n, Both (x + 1) w0 w'' a hb cs n a' hb' ds l' (after cs (ps.take (j + 1))) (after ds (ps.take j)) ∧ ∀ b, wr.heap.size ≤ b → b < w'.heap.size → w''.heap[b]? = w'.heap[b]?) := fun w' h => by
        rw [hst]
        exact h.put e hwf (hlen _) _ hN
      have HP2 : Hid (∀ w' n, Both (x + 1) w0 w' a hb cs n a' hb' ds l' (after cs (ps.take (j + 1))) (after ds (ps.take j)) → Calls Try.prog 10 #[.pointer (some ⟨a', 0, none⟩), e.val] w' fun v w'' => v = .returned (.int .i64 ((after cs (ps.take j)).step cs e).1) ∧ ∃ n', Both (x + 1) w0 w'' a hb cs n a' hb' ds n' (after cs (ps.take (j + 1))) (after ds (ps.take (j + 1))) ∧ ∀ b, wr.heap.size ≤ b → b < w'.heap.size → w''.heap[b]? = w'.heap[b]?) := fun w' n h => by
        rw [hst', hsm]
        exact h.put' e hwf (hlen _) _ hN'
      obtain ⟨K, hK⟩ : ∃ K, ((after cs (ps.take j)).step cs e).1 = K := ⟨_, rfl⟩
      rw [hK] at HP1 HP2
      have hKK : (K == K) = true := beq_self_eq_true _
      subst hA
      obtain ⟨k2, q2, g2, v2, t2⟩ := e
      simp only [E.val] at z0 z1 z2 z3 z4 HP1 HP2
      have g0 : (0 : Int) ≤ (j : Int) := by omega
      have g1 : (j : Int) < (m : Int) := by omega
      have hA0 : (wr.alloc (.cells #[.string k2, .int .i64 q2, .bool g2, .string v2, .int .i64 t2] 40)).heap[wr.heap.size]? = some (.cells #[.string k2, .int .i64 q2, .bool g2, .string v2, .int .i64 t2] 40 (0, 0)) := heap_alloc_new wr _
      have HD0 := Lib.hid (HD.out.still ((Below.refl _ wr).alloc (Nat.le_refl _) (.cells #[.string k2, .int .i64 q2, .bool g2, .string v2, .int .i64 t2] 40)))
      clear hboth hbw hc hbl hwf htk he hlen hst hst' hsm hN hN' hK
      go_wp2_with fail
      generalize wr.alloc (.cells #[.string k2, .int .i64 q2, .bool g2, .string v2, .int .i64 t2] 40) = w4 at hA0 HD0 ⊢
      obtain ⟨y, hy⟩ : ∃ y, wr.heap.size = y := ⟨_, rfl⟩
      rw [hy] at hA0 HP1 HP2 ⊢
      have HA4 := Lib.hid hA0
      have HZ4 : Hid (y + 1 ≤ w4.heap.size) := Lib.hid (Array.getElem?_eq_some_iff.1 hA0).1
      obtain ⟨e0, e1, e2, e3, e4⟩ : w4.cell? ⟨y, 0, none⟩ = some (.string k2) ∧ w4.cell? ⟨y, 1, none⟩ = some (.int .i64 q2) ∧ w4.cell? ⟨y, 2, none⟩ = some (.bool g2) ∧ w4.cell? ⟨y, 3, none⟩ = some (.string v2) ∧ w4.cell? ⟨y, 4, none⟩ = some (.int .i64 t2) := ⟨cell_of_row _ _ _ _ _ _ hA0, cell_of_row _ _ _ _ _ _ hA0, cell_of_row _ _ _ _ _ _ hA0, cell_of_row _ _ _ _ _ _ hA0, cell_of_row _ _ _ _ _ _ hA0⟩
      clear hA0 hy z0 z1 z2 z3 z4
      go_region_held3 (fun w' => w'.cell? ⟨y, 0, none⟩ = some (.string k2) ∧ w'.cell? ⟨y, 1, none⟩ = some (.int .i64 q2) ∧ w'.cell? ⟨y, 2, none⟩ = some (.bool g2) ∧ w'.cell? ⟨y, 3, none⟩ = some (.string v2) ∧ w'.cell? ⟨y, 4, none⟩ = some (.int .i64 t2))
        (first | go_keep | exact HS5.out | exact HS6.out | fail)
        (first
          | (have hd5o := HD5.out; go_at_call 10; refine (HP2.out _ _ hd5o).mono ?_; rintro v w6 ⟨rfl, l6, hd6, hbb⟩
             have HA6 := Lib.hid ((hbb y (Nat.le_refl _) (by have := HZ5.out; omega)).trans HA5.out)
             have HS6 : Hid (w6.cell? ⟨y, 0, none⟩ = some (.string k2) ∧ w6.cell? ⟨y, 1, none⟩ = some (.int .i64 q2) ∧ w6.cell? ⟨y, 2, none⟩ = some (.bool g2) ∧ w6.cell? ⟨y, 3, none⟩ = some (.string v2) ∧ w6.cell? ⟨y, 4, none⟩ = some (.int .i64 t2)) := Lib.hid ⟨cell_of_row _ _ _ _ _ _ HA6.out, cell_of_row _ _ _ _ _ _ HA6.out, cell_of_row _ _ _ _ _ _ HA6.out, cell_of_row _ _ _ _ _ _ HA6.out, cell_of_row _ _ _ _ _ _ HA6.out⟩
             have HD6 := Lib.hid hd6
             clear hbb hd6 hd5o)
          | (go_at_call 10; refine (HP1.out _ HD0.out.drew).mono ?_; rintro v w5 ⟨rfl, l5, hd5, hbb⟩
             have HA5 := Lib.hid ((hbb y (Nat.le_refl _) (by have := HZ4.out; simp; omega)).trans HA4.out)
             have HZ5 : Hid (y + 1 ≤ w5.heap.size) := Lib.hid (Array.getElem?_eq_some_iff.1 HA5.out).1
             have HS5 : Hid (w5.cell? ⟨y, 0, none⟩ = some (.string k2) ∧ w5.cell? ⟨y, 1, none⟩ = some (.int .i64 q2) ∧ w5.cell? ⟨y, 2, none⟩ = some (.bool g2) ∧ w5.cell? ⟨y, 3, none⟩ = some (.string v2) ∧ w5.cell? ⟨y, 4, none⟩ = some (.int .i64 t2)) := Lib.hid ⟨cell_of_row _ _ _ _ _ _ HA5.out, cell_of_row _ _ _ _ _ _ HA5.out, cell_of_row _ _ _ _ _ _ HA5.out, cell_of_row _ _ _ _ _ _ HA5.out, cell_of_row _ _ _ _ _ _ HA5.out⟩
             have HD5 := Lib.hid hd5
             clear hbb hd5)
          | fail)
      all_goals
        clear HS5 HS6 HP1 HP2
        go_wp2
        go_roundw
        case rel => exact ⟨j + 1, by omega, by go_num, l5, l6, HD6.out⟩
        case measure => simp [intOf]; omega
    · have hjm : j = m := by omega
      have HF : Hid (Both (x + 1) w0 wr a hb cs l a' hb' ds l' (after cs (ps.take 100)) (after ds (ps.take 100))) := Lib.hid (by rw [HTK.out, ← hjm]; exact HD.out)
      have HLEN : Hid ((after ds (ps.take 100)).l.length ≤ 100) := Lib.hid (by
        have := (after_ok ds (ps.take 100) (fun x hx => HPI.out.wf x (List.mem_of_mem_take hx))).2
        have h2 : (ps.take 100).length ≤ 100 := List.length_take_le _ _
        omega)
      have HSA : Hid ((after cs (ps.take 100)).l = (after ds (ps.take 100)).l) := Lib.hid (after_same cs ds _)
      subst hjm
      clear hboth HD HPI HCI HDI HTK HBO
      have hYA := heap_alloc_new wr (.cells #[.slice none 0 0] 43)
      have hbA : Below wr.heap.size wr (wr.alloc (.cells #[.slice none 0 0] 43)) := (Below.refl _ _).alloc (Nat.le_refl _) _
      have hzA : (wr.alloc (.cells #[.slice none 0 0] 43)).heap.size = wr.heap.size + 1 := by simp
      have HF5 := Lib.hid (HF.out.still hbA)
      clear hbA
      go_wp2_with fail
      generalize wr.alloc (.cells #[.slice none 0 0] 43) = w5 at hYA hzA HF5 ⊢
      obtain ⟨y, hy⟩ : ∃ y, wr.heap.size = y := ⟨_, rfl⟩
      rw [hy] at hYA hzA ⊢
      have HYS := Lib.hid hy
      clear hy
      refine (from_any (some ⟨a, 0, none⟩) ⟨#[]⟩ _ (by decide)).mono ?_
      rintro v w6 ⟨rfl, hb6, hs6, c0, c1⟩
      have HF6 := Lib.hid (HF5.out.still hb6)
      have HY6 := Lib.hid ((hb6.block y (by omega)).trans hYA)
      have HX6 := Lib.hid ((HF6.out.below.block x (by omega)).trans HR0.out)
      have HB6 : Hid (Below x w w6) := Lib.hid (HB0.out.trans (HF6.out.below.mono (by omega)))
      have hyx : x < y := by have h1 := HF5.out.rep.lo a (by simp); have h2 := HF5.out.below.size; have h3 := HF5.out.le; have h4 := HZ0.out; omega
      obtain ⟨z, hz⟩ : ∃ z, w5.heap.size = z := ⟨_, rfl⟩
      rw [hz] at hs6 c0 c1 hzA
      obtain ⟨want, hwant⟩ : ∃ want, (after ds (ps.take 100)).l = want := ⟨_, rfl⟩
      obtain ⟨n, hn⟩ : ∃ n, want.length = n := ⟨_, rfl⟩
      have HN := Lib.hid hn
      have hlo6 := HF6.out.rep.lo
      have hlo6' := HF6.out.rep'.lo
      have HLO : Hid (∀ b ∈ a :: hb :: blks l, b < z ∧ x < b ∧ b ≠ y) := Lib.hid fun b hm => by
        have h1 := HF.out.rep.lo b hm
        have h2 := HYS.out
        omega
      have HLO' : Hid (∀ b ∈ a' :: hb' :: blks l', b < z ∧ x < b ∧ b ≠ y) := Lib.hid fun b hm => by
        have h1 := HF.out.rep'.lo b hm
        have h2 := HYS.out
        omega
      have hn100 : n ≤ 100 := by rw [← hn, ← hwant]; exact HLEN.out
      have HWF : Hid (∀ e ∈ want, e.wf) := Lib.hid (by rw [← hwant]; exact HF6.out.okt.wf)
      have HSO : Hid (Sorted want) := Lib.hid (by rw [← hwant]; exact HF6.out.okt.sorted)
      have hsto := from_stops HF6.out.rep HF6.out.oks [y, x] w6.heap.size z (z + 1) (by omega) (by omega) (fun b hm => ⟨(hlo6 b hm).2, by have := HLO.out b hm; simp; omega⟩) (Nat.le_refl _) ⟨#[]⟩ (4 - 1) c0 c1
      rw [from_empty, HSA.out, hwant, hn] at hsto
      have HWANT := Lib.hid hwant
      rw [hz]
      have HZA := Lib.hid hzA
      clear hb6 hYA hlo6 hlo6' hwant hn HLEN hz hzA
      go_wp2_with fail
      have HG0 : Hid (Got y x w6 [] w6) := Lib.hid ⟨Kept.refl _ _ _, HX6.out, _, HY6.out, by simpa [ecs] using World.ownsRow_nil _ _ _ _⟩
      have hx6 : x < w6.heap.size := by have := HZA.out; omega
      refine (wpIn_wide (n := 4)).1 ?_
      refine wpIn_rangeFunc_ownH rfl (by decide) (gf := 19) (lb := #[.pointer (some ⟨z, 0, none⟩), .pointer (some ⟨z + 1, 0, none⟩)]) rfl trivial (enters_of Try.func19 (by kernel_rfl) rfl)
        hsto (fun h k => h.trans k) (fun W l o o' hl h h1 h2 => Kept.put W l o o' (Nat.le_refl _) hl h h1 h2) (Below.refl _ _) (fun _ => rfl)
        (fun pre W => Got y x w6 pre W)
        (fun _ _ _ => False)
        (Got.own hx6)
        (fun _ _ _ _ _ h _ _ => h)
        HG0.out
        (fun e a'' W => ∃ Bx, w6.heap.size ≤ Bx ∧ W.heap[Bx]? = some (.cells #[.string e.key, .int .i64 e.seq, .bool e.gone, .string e.value, .int .i64 e.til] 36 (0, 0)) ∧ a'' = { tmps := #[.slice cA cN cC, .slice dA dN dC, .slice pA pN pC, undef, undef, undef, .pointer (some ⟨x, 0, none⟩), .pointer (some ⟨a, 0, none⟩), .pointer (some ⟨a', 0, none⟩), undef, u10, .pointer (some ⟨y, 0, none⟩), .pointer (some ⟨Bx, 0, none⟩), undef, undef, .bool true, .bool false, .slice cA cN cC, .pointer (some ⟨a, 0, none⟩), .slice dA dN dC, .pointer (some ⟨a', 0, none⟩), .slice pA pN pC, .slice pA pN pC, .int .i64 pN, .int .i64 j, .slice pA j pC, .int .i64 j, .int .i64 j, .bool false, u29, u30, u31, u32, u33, u34, u35, u36, u37, u38, .pointer (some ⟨a, 0, none⟩), .func (.func 19) #[] #[.pointer (some ⟨z, 0, none⟩), .pointer (some ⟨z + 1, 0, none⟩)], e.val, undef, undef, undef, undef, undef, undef, undef, undef, undef, undef, undef, undef, undef, undef, undef, undef, undef, undef, undef, undef, undef, undef, undef, undef, undef, undef, undef, undef, undef, undef, undef, undef, undef, undef, undef, undef, undef, undef, undef, undef, undef, undef, undef, undef, undef, undef, undef, undef, undef, undef, undef, undef], defers := [] })
        (fun e a'' s A B row h hg hr => by
          obtain ⟨Bx, h1, h2, h3⟩ := h
          exact ⟨Bx, h1, (hg.block Bx (Array.getElem?_eq_some_iff.1 h2).1 (fun e' => by obtain ⟨-, o, ho, hc⟩ := hr Bx e'.symm; rw [h2] at ho; cases ho; cases hc)).trans h2, h3⟩) ?assign ?body ?done ?stop
      case assign =>
        rintro id pre ⟨k2, q2, g2, v2, t2⟩ W K' hi hK'
        simp only [E.val] at hK' ⊢
        have HK' := Lib.hid hK'
        have HI := Lib.hid hi
        clear hK' hi
        gi_wp2
        exact HK'.out _ _ ((KeepsOthers.alloc _ _).from _) (Kept.of_below ((Below.refl _ _).alloc HI.out.kept.size _)) (OwnFrom.alloc (Got.own hx6) _ (s := pre) HI.out) ⟨W.heap.size, HI.out.kept.size, heap_alloc_new W _, rfl⟩
      case stop =>
        rintro D c pre W hD hpre hx' hdef
        exact hx'.elim
      case body =>
        rintro id pre ⟨k2, q2, g2, v2, t2⟩ a'' W hl ⟨rr, hr⟩ hi ⟨Bx, hBx, hrow, rfl⟩ hlt
        obtain ⟨v, hv, hown⟩ := hi.row
        have hNW := hi.kept.size
        have bx0 : W.cell? ⟨Bx, 0, none⟩ = some (.string k2) := cell_of_row _ _ _ _ _ _ hrow
        have bx1 : W.cell? ⟨Bx, 1, none⟩ = some (.int .i64 q2) := cell_of_row _ _ _ _ _ _ hrow
        have bx2 : W.cell? ⟨Bx, 2, none⟩ = some (.bool g2) := cell_of_row _ _ _ _ _ _ hrow
        have bx3 : W.cell? ⟨Bx, 3, none⟩ = some (.string v2) := cell_of_row _ _ _ _ _ _ hrow
        have bx4 : W.cell? ⟨Bx, 4, none⟩ = some (.int .i64 t2) := cell_of_row _ _ _ _ _ _ hrow
        have hvc := hv.cell
        obtain ⟨i0, hi0, hz0, hz1, hz2⟩ := info_parts info_aent
        have HI := Lib.hid hi
        have HNW := Lib.hid hNW
        have HV := Lib.hid hv
        have HOW := Lib.hid hown
        have hlt2 : pre.length < 100 := by omega
        simp only [E.val]
        clear hi hrow hv hown hr
        gi_wp2_with (gi_at_builtin; refine wpListIn_append_own _ rfl _ _ 43 rfl w6.heap.size 36 i0 _ 5 56 Try.underlying43 hi0 hz0 hz1 hz2 rfl (by decide) _ _ _ rfl (HOW.out.alloc _) ⟨W.heap.size, 0, none⟩ 1 1 [.string k2, .int .i64 q2, .bool g2, .string v2, .int .i64 t2] rfl ?c1 ?c2 ?c3 ?c4 ?c5 ?c6 ?_)
        case c1 => rfl
        case c2 => exact five_cells W _ _ _ _ _ _
        case c3 => intro u hu; simp at hu; rcases hu with rfl | rfl | rfl | rfl | rfl <;> rfl
        case c4 => unfold maxLen; omega
        case c5 => omega
        case c6 =>
          have := HNW.out
          simp
          omega
        intro v' w3 hown3 hgrow hnil
        clear hnil
        obtain ⟨hv1, hv2, -, hk2, -⟩ := Boxed.appended (n₀ := y) (e := 36) HV.out (by decide) (own_less HOW.out (by have := HZA.out; omega)) (by have := HZA.out; have := HNW.out; omega) (Nat.le_refl _) (own_less hown3 (by have := HZA.out; omega)) hgrow
        obtain ⟨g', cap', rfl⟩ := ownsRow_succ hown3
        have hc1 := hv1.cell
        have hf1 := hv1.frozen
        have HOW4 := Lib.hid (hown3.kept (grownBy_setCell' w3 y (.slice (some ⟨g', 0, none⟩) (pre.length + 1) cap')) (.inr (hv1.not_row (by decide) hown3).symm))
        have HKP : Hid (Kept [y, x] w6.heap.size W (w3.setCell ⟨y, 0, none⟩ (.slice (some ⟨g', 0, none⟩) (pre.length + 1) cap'))) := Lib.hid (((Kept.of_below ((Below.refl _ W).alloc HNW.out _)).grown HNW.out hgrow (fun r e => (HOW.out.lt r e).1)).set _ _ _ (.inl List.mem_cons_self))
        have HRS : Hid ((w3.setCell ⟨y, 0, none⟩ (.slice (some ⟨g', 0, none⟩) (pre.length + 1) cap')).heap[x]? = some (.cells #[.bool false] 4 (0, 0))) := Lib.hid (by
          refine (Below.heap_setCell _ _ _ _ (by show x ≠ y; omega)).trans ?_
          refine (hgrow.block x (by simp; omega) (fun e => by have := (HOW.out.lt x e.symm).1; omega)).trans ?_
          exact (Below.heap_alloc _ _ _ (by omega)).trans HI.out.res)
        have HV2 := Lib.hid hv2
        have HK2 := Lib.hid hk2
        clear hv1 hv2 hk2 hown3 hgrow hvc bx0 bx1 bx2 bx3 bx4
        gi_wp2
        exact ⟨HK2.out.from _, HKP.out, HI.out.kept.trans HKP.out, HRS.out, _, HV2.out, by rw [ecs_snoc, List.length_append]; exact HOW4.out⟩
      case done =>
        rintro D xs W hD hS hi hdef
        have hS' : xs = want := hS
        rw [hS'] at hi
        obtain ⟨v, hv, hown⟩ := hi.row
        rw [HN.out] at hown
        obtain ⟨A, c, rfl, hents, hfA⟩ := own_ents HWF.out HN.out hown
        have hd1 : D < W.heap.size := (Array.getElem?_eq_some_iff.1 hdef).1
        have hzz := HZA.out
        have hN6 := hi.kept.size
        have hst : ∀ b, (b < z ∧ x < b ∧ b ≠ y) → W.heap[b]? = w6.heap[b]? := fun b hb => hi.kept.block b (by omega) (by simp; omega)
        have hrepa := HF6.out.rep.same (fun b hm => hst b (HLO.out b hm)) hN6
        have hrepb := HF6.out.rep'.same (fun b hm => hst b (HLO'.out b hm)) hN6
        have hbel7 : Below x w W := HB6.out.trans (hi.kept.below (by omega) (by simp; omega))
        have hA8 := heap_alloc_new W (.cells #[.int .i64 0] 3)
        have hb8 : Below W.heap.size W (W.alloc (.cells #[.int .i64 0] 3)) := (Below.refl _ _).alloc (Nat.le_refl _) _
        have hz8 : (W.alloc (.cells #[.int .i64 0] 3)).heap.size = W.heap.size + 1 := by simp
        have HRA8 := Lib.hid (hrepa.below hb8)
        have HRB8 := Lib.hid (hrepb.below hb8)
        have HEN8 := Lib.hid (hents.below hb8)
        have HX8 := Lib.hid ((hb8.block x (by omega)).trans hi.res)
        have HY8 := Lib.hid ((hb8.block y (by omega)).trans hv)
        have HD8 := Lib.hid ((hb8.block D hd1).trans hdef)
        have HB8 : Hid (Below x w (W.alloc (.cells #[.int .i64 0] 3))) := Lib.hid (hbel7.trans (hb8.mono (by omega)))
        have HFA := Lib.hid hfA
        have HD1 := Lib.hid hd1
        have HD0 := Lib.hid hD
        have HN6 := Lib.hid hN6
        clear hi hv hown hents hfA hdef hd1 hst hrepa hrepb hbel7 hb8 hzz hN6 hS hS' hD
        go_wp2_with fail
        generalize W.alloc (.cells #[.int .i64 0] 3) = w8 at hA8 hz8 HRA8 HRB8 HEN8 HX8 HY8 HD8 HB8 ⊢
        obtain ⟨y2, hy2⟩ : ∃ y2, W.heap.size = y2 := ⟨_, rfl⟩
        rw [hy2] at hA8 hz8 HFA HD1 HN6 ⊢
        clear hy2
        refine (from_any (some ⟨a', 0, none⟩) ⟨#[]⟩ _ (by decide)).mono ?_
        rintro v w9 ⟨rfl, hb9, hs9, d0, d1⟩
        obtain ⟨z2, hz2⟩ : ∃ z2, w8.heap.size = z2 := ⟨_, rfl⟩
        have HZ9 : Hid (z2 = y2 + 1) := Lib.hid (by omega)
        have hzz := HZA.out
        have h66 := HN6.out
        have HRA9 := Lib.hid (HRA8.out.below hb9)
        have HRB9 := Lib.hid (HRB8.out.below hb9)
        have HEN9 := Lib.hid (HEN8.out.below hb9)
        have HX9 := Lib.hid ((hb9.block x (by omega)).trans HX8.out)
        have HY9 := Lib.hid ((hb9.block y (by omega)).trans HY8.out)
        have HD9 := Lib.hid ((hb9.block D (by have := HD1.out; omega)).trans HD8.out)
        have HT9 := Lib.hid ((hb9.block y2 (by omega)).trans hA8)
        have HB9 : Hid (Below x w w9) := Lib.hid (HB8.out.trans (hb9.mono (by omega)))
        rw [hz2] at hs9 d0 d1
        have hsto2 := from_stops HRB9.out HF6.out.okt [y2, x] w9.heap.size z2 (z2 + 1) (by omega) (by omega) (fun b hm => ⟨(HRB9.out.lo b hm).2, by have := HLO'.out b hm; simp; omega⟩) (Nat.le_refl _) ⟨#[]⟩ (4 - 1) d0 d1
        rw [from_empty, HWANT.out, HN.out] at hsto2
        rw [hz2]
        clear hb9 hA8 hz8 HRA8 HRB8 HEN8 HX8 HY8 HD8 HB8 hz2 hzz h66 hsto
        go_wp2_with fail
        have HI0 : Hid (Inv y2 x w9 0 w9) := Lib.hid ⟨Kept.refl _ _ _, HX9.out, HT9.out⟩
        have hx9 : x < w9.heap.size := (Array.getElem?_eq_some_iff.1 HX9.out).1
        have hy9 : y < w9.heap.size := (Array.getElem?_eq_some_iff.1 HY9.out).1
        have hy29 : y2 < w9.heap.size := (Array.getElem?_eq_some_iff.1 HT9.out).1
        have hd9 : D < w9.heap.size := (Array.getElem?_eq_some_iff.1 HD9.out).1
        have hyy : y < y2 := by have := HZA.out; have := HN6.out; omega
        refine (wpIn_wide (n := 4)).1 ?_
        refine wpIn_rangeFunc_ownH rfl (by decide) (gf := 19) (lb := #[.pointer (some ⟨z2, 0, none⟩), .pointer (some ⟨z2 + 1, 0, none⟩)]) rfl trivial (enters_of Try.func19 (by kernel_rfl) rfl)
          hsto2 (fun h k => h.trans k) (fun W l o o' hl h h1 h2 => Kept.put W l o o' (Nat.le_refl _) hl h h1 h2) (Below.refl _ _) (fun _ => rfl)
          (fun pre W => Inv y2 x w9 pre.length W)
          (fun c pre _ => c = .ret ∧ ¬ pre <+: want)
          (Inv.own hx9 hy29 (fun p => p.length))
          (fun _ _ _ _ _ h _ _ => h)
          HI0.out
          (fun e a'' W => ∃ Bx, w9.heap.size ≤ Bx ∧ W.heap[Bx]? = some (.cells #[.string e.key, .int .i64 e.seq, .bool e.gone, .string e.value, .int .i64 e.til] 36 (0, 0)) ∧ a'' = { tmps := #[.slice cA cN cC, .slice dA dN dC, .slice pA pN pC, undef, undef, undef, .pointer (some ⟨x, 0, none⟩), .pointer (some ⟨a, 0, none⟩), .pointer (some ⟨a', 0, none⟩), undef, u10, .pointer (some ⟨y, 0, none⟩), undef, .pointer (some ⟨y2, 0, none⟩), .pointer (some ⟨Bx, 0, none⟩), .bool true, .bool false, .slice cA cN cC, .pointer (some ⟨a, 0, none⟩), .slice dA dN dC, .pointer (some ⟨a', 0, none⟩), .slice pA pN pC, .slice pA pN pC, .int .i64 pN, .int .i64 j, .slice pA j pC, .int .i64 j, .int .i64 j, .bool false, u29, u30, u31, u32, u33, u34, u35, u36, u37, u38, .pointer (some ⟨a, 0, none⟩), .func (.func 19) #[] #[.pointer (some ⟨z, 0, none⟩), .pointer (some ⟨z + 1, 0, none⟩)], undef, undef, undef, undef, undef, .pointer (some ⟨a', 0, none⟩), .func (.func 19) #[] #[.pointer (some ⟨z2, 0, none⟩), .pointer (some ⟨z2 + 1, 0, none⟩)], e.val, undef, undef, undef, undef, undef, undef, undef, undef, undef, undef, undef, undef, undef, undef, undef, undef, undef, undef, undef, undef, undef, undef, undef, undef, undef, undef, undef, undef, undef, undef, undef, undef, undef, undef, undef, undef, undef, undef, undef, undef, undef, undef, undef, undef, undef], defers := [] })
          (fun e a'' s A B row h hg hr => by
            obtain ⟨Bx, h1, h2, h3⟩ := h
            exact ⟨Bx, h1, (hg.block Bx (Array.getElem?_eq_some_iff.1 h2).1 (fun e' => by obtain ⟨-, o, ho, hc⟩ := hr Bx e'.symm; rw [h2] at ho; cases ho; cases hc)).trans h2, h3⟩) ?assign ?body ?done ?stop
        case assign =>
          rintro id pre ⟨k2, q2, g2, v2, t2⟩ W K' hi hK'
          simp only [E.val] at hK' ⊢
          have HK' := Lib.hid hK'
          have HI := Lib.hid hi
          clear hK' hi
          gi_wp2
          exact HK'.out _ _ ((KeepsOthers.alloc _ _).from _) (Kept.of_below ((Below.refl _ _).alloc HI.out.kept.size _)) (OwnFrom.alloc (Inv.own hx9 hy29 (fun p => p.length)) _ (s := pre) HI.out) ⟨W.heap.size, HI.out.kept.size, heap_alloc_new W _, rfl⟩
        case stop =>
          rintro D c pre W hD hpre ⟨-, h2⟩ hdef
          exact absurd hpre h2
        case body =>
          rintro id pre ⟨k2, q2, g2, v2, t2⟩ a'' W hl ⟨rr, hr⟩ hi ⟨Bx, hBx, hrow, rfl⟩ hlt
          have bx0 : W.cell? ⟨Bx, 0, none⟩ = some (.string k2) := cell_of_row _ _ _ _ _ _ hrow
          have bx1 : W.cell? ⟨Bx, 1, none⟩ = some (.int .i64 q2) := cell_of_row _ _ _ _ _ _ hrow
          have bx2 : W.cell? ⟨Bx, 2, none⟩ = some (.bool g2) := cell_of_row _ _ _ _ _ _ hrow
          have bx3 : W.cell? ⟨Bx, 3, none⟩ = some (.string v2) := cell_of_row _ _ _ _ _ _ hrow
          have bx4 : W.cell? ⟨Bx, 4, none⟩ = some (.int .i64 t2) := cell_of_row _ _ _ _ _ _ hrow
          have ca : W.cell? ⟨y2, 0, none⟩ = some (.int .i64 pre.length) := cell_of_row _ _ _ _ _ _ hi.count
          have fa : W.frozen? ⟨y2, 0, none⟩ = false := frozen_of_row _ _ _ _ _ hi.count
          have cr : W.cell? ⟨x, 0, none⟩ = some (.bool false) := cell_of_row _ _ _ _ _ _ hi.res
          have fr : W.frozen? ⟨x, 0, none⟩ = false := frozen_of_row _ _ _ _ _ hi.res
          have cl : W.cell? ⟨y, 0, none⟩ = some (.slice A n c) := cell_of_row _ _ _ _ _ _ ((hi.kept.block y hy9 (by simp; omega)).trans HY9.out)
          obtain ⟨b, off, hA, hbl, hc⟩ := (HEN9.out.kept hi.kept (fun b hb => by have h1 := HFA.out b hb; have h2 := HZA.out; simp; omega)).at_ (by rw [HN.out]; omega)
          have hltw : pre.length < want.length := by rw [HN.out]; exact hlt
          obtain ⟨e0, e1, e2, e3, e4⟩ := hc pre.length hltw
          have hnp := @not_prefix pre want
          obtain ⟨d, hd⟩ : ∃ d, want[pre.length] = d := ⟨_, rfl⟩
          rw [hd] at e0 e1 e2 e3 e4
          have hnp2 := fun e (hne : e ≠ d) => hnp (h := hltw) hd hne
          have HNP := Lib.hid hnp2
          obtain ⟨m, hm⟩ : ∃ m, pre.length = m := ⟨_, rfl⟩
          have HM := Lib.hid hm
          have hprev : Hid (0 < m → ∃ k3 q3 g3 v3 t3, W.cell? ⟨b, off + (m - 1) * 5, none⟩ = some (.string k3) ∧ W.cell? ⟨b, off + (m - 1) * 5 + 1, none⟩ = some (.int .i64 q3) ∧ W.cell? ⟨b, off + (m - 1) * 5 + 2, none⟩ = some (.bool g3) ∧ W.cell? ⟨b, off + (m - 1) * 5 + 3, none⟩ = some (.string v3) ∧ W.cell? ⟨b, off + (m - 1) * 5 + 4, none⟩ = some (.int .i64 t3) ∧ less ⟨k3, q3, g3, v3, t3⟩ d = true) := Lib.hid fun h0 => by
            have h2 : m - 1 < want.length := by omega
            obtain ⟨p0, p1, p2, p3, p4⟩ := hc (m - 1) h2
            have hs := sorted_at HSO.out (j := m - 1) (by omega)
            have he : want[m - 1 + 1]'(by omega) = d := by rw [← hd]; congr 1; omega
            rw [he] at hs
            exact ⟨_, _, _, _, _, p0, p1, p2, p3, p4, hs⟩
          rw [hm] at ca e0 e1 e2 e3 e4 hlt
          have hiff := eqB_iff ⟨k2, q2, g2, v2, t2⟩ d
          obtain ⟨k3, q3, g3, v3, t3⟩ := d
          simp only at e0 e1 e2 e3 e4
          have hcmp := fun W => ent_any W k2 k3 q2 q3 g2 g3 v2 v3 t2 t3
          have HI := Lib.hid hi
          have hmx : Try.prog.follows .mixedOrders = true := by kernel_rfl
          have hfn : Fence.wide.fn 11 := trivial
          have g0 : (0 : Int) ≤ (m : Int) := by omega
          have g1 : (m : Int) < (n : Int) := by omega
          have g2' : ¬ (n : Int) ≤ (m : Int) := by omega
          have gnm : ¬ n ≤ m := by omega
          subst hA
          simp only [E.val]
          have HBX : Hid (Bx < W.heap.size) := Lib.hid (Array.getElem?_eq_some_iff.1 hrow).1
          have HBL := Lib.hid hbl
          clear hi hrow hc hd hnp hnp2 hm hbl hr
          by_cases he : (⟨k2, q2, g2, v2, t2⟩ : E) = ⟨k3, q3, g3, v3, t3⟩
          · have heb := hiff.2 he
            rw [heb] at hcmp
            simp only [Bool.not_true] at hcmp
            clear hiff heb HNP
            obtain ⟨rfl, rfl, rfl, rfl, rfl⟩ := E.mk.inj he
            have hwr : IntKind.i64.wrap ((m : Int) + 1) = (m : Int) + 1 := wrap_in _ (by omega)
            have hxy : ¬ x = y2 := by omega
            have hkf : ∀ w4, Below W.heap.size W w4 → KeepsFrom w9.heap.size W (w4.setCell ⟨y2, 0, none⟩ (.int .i64 ((m : Int) + 1))) := fun w4 hb => (KeepsFrom.of_grow hb).trans ((KeepsOthers.setCell _ _ _).from _)
            have hkp : ∀ w4, Below W.heap.size W w4 → Kept [y2, x] w9.heap.size W (w4.setCell ⟨y2, 0, none⟩ (.int .i64 ((m : Int) + 1))) := fun w4 hb => (Kept.of_below (hb.mono HI.out.kept.size)).set _ _ _ (.inl (List.mem_cons_self))
            have hst : ∀ w4, Below W.heap.size W w4 → Inv y2 x w9 (pre ++ [(⟨k2, q2, g2, v2, t2⟩ : E)]).length (w4.setCell ⟨y2, 0, none⟩ (.int .i64 ((m : Int) + 1))) := fun w4 hb => by
              have l1 := (Array.getElem?_eq_some_iff.1 HI.out.res).1
              have l2 := (Array.getElem?_eq_some_iff.1 HI.out.count).1
              refine ⟨HI.out.kept.trans (hkp w4 hb), (Below.heap_setCell _ _ _ _ (by show x ≠ y2; omega)).trans ((hb.block x l1).trans HI.out.res), ?_⟩
              rw [List.length_append, HM.out]
              exact heap_set_fr ((hb.block y2 l2).trans HI.out.count) 0 _
            have HKF := Lib.hid hkf
            have HKP := Lib.hid hkp
            have HST := Lib.hid hst
            have HD9W : Hid (Below W.heap.size W W.drew) := Lib.hid (Below.refl _ _).drew
            have HYW : Hid (y2 < W.heap.size) := Lib.hid (Array.getElem?_eq_some_iff.1 HI.out.count).1
            clear hkf hkp hst
            by_cases hm0 : 0 < m
            · obtain ⟨k4, q4, g4, v4, t4, p0, p1, p2, p3, p4, hls⟩ := hprev.out hm0
              have HLS : Hid (∀ W, Calls Try.prog 11 #[.agg #[.string k4, .int .i64 q4, .bool g4, .string v4, .int .i64 t4], .agg #[.string k2, .int .i64 q2, .bool g2, .string v2, .int .i64 t2]] W fun e w' => e = .returned (.bool true) ∧ Below W.heap.size W w') := Lib.hid fun W => by
                have := less_any ⟨k4, q4, g4, v4, t4⟩ ⟨k2, q2, g2, v2, t2⟩ W
                rw [hls] at this
                exact this
              obtain ⟨p, hp⟩ : ∃ p, m - 1 = p := ⟨_, rfl⟩
              rw [hp] at p0 p1 p2 p3 p4
              have hw1 : IntKind.i64.wrap ((m : Int) - 1) = (p : Int) := by
                have h1 : (m : Int) - 1 = (p : Int) := by omega
                rw [h1]
                exact wrap_in _ (by omega)
              have hw2 : IntKind.i64.wrap ((m : Int) + -1) = (p : Int) := hw1
              have g4a : (0 : Int) < (m : Int) := by omega
              have g4b : decide ((0 : Int) < (m : Int)) = true := decide_eq_true g4a
              have g4c : 0 < m := hm0
              have g5 : (0 : Int) ≤ (p : Int) := by omega
              have g6 : (p : Int) < (n : Int) := by omega
              have g7 : ¬ (n : Int) ≤ (p : Int) := by omega
              have g8 : p < n := by omega
              clear hprev hls hp he hm0
              have hby2 : y2 < W.heap.size := HYW.out
              have hby : y < W.heap.size := Nat.lt_of_lt_of_le hy9 HI.out.kept.size
              have hbBx : Bx < W.heap.size := HBX.out
              have hbb : b < W.heap.size := HBL.out
              have sca : ∀ s : Bw W, s.w.cell? ⟨y2, 0, none⟩ = some (.int .i64 m) := fun s => (s.h.cell (p := ⟨y2, 0, none⟩) (hby2)).trans ca
              have sfa : ∀ s : Bw W, s.w.frozen? ⟨y2, 0, none⟩ = false := fun s => (s.h.frozen (p := ⟨y2, 0, none⟩) hby2).trans fa
              have scl : ∀ s : Bw W, s.w.cell? ⟨y, 0, none⟩ = some (.slice (some ⟨b, off, none⟩) n c) := fun s => (s.h.cell (p := ⟨y, 0, none⟩) (hby)).trans cl
              have sbx0 : ∀ s : Bw W, s.w.cell? ⟨Bx, 0, none⟩ = some (.string k2) := fun s => (s.h.cell (p := ⟨Bx, 0, none⟩) (hbBx)).trans bx0
              have sbx1 : ∀ s : Bw W, s.w.cell? ⟨Bx, 1, none⟩ = some (.int .i64 q2) := fun s => (s.h.cell (p := ⟨Bx, 1, none⟩) (hbBx)).trans bx1
              have sbx2 : ∀ s : Bw W, s.w.cell? ⟨Bx, 2, none⟩ = some (.bool g2) := fun s => (s.h.cell (p := ⟨Bx, 2, none⟩) (hbBx)).trans bx2
              have sbx3 : ∀ s : Bw W, s.w.cell? ⟨Bx, 3, none⟩ = some (.string v2) := fun s => (s.h.cell (p := ⟨Bx, 3, none⟩) (hbBx)).trans bx3
              have sbx4 : ∀ s : Bw W, s.w.cell? ⟨Bx, 4, none⟩ = some (.int .i64 t2) := fun s => (s.h.cell (p := ⟨Bx, 4, none⟩) (hbBx)).trans bx4
              have se0 : ∀ s : Bw W, s.w.cell? ⟨b, off + m * 5, none⟩ = some (.string k2) := fun s => (s.h.cell (p := ⟨b, off + m * 5, none⟩) (hbb)).trans e0
              have se1 : ∀ s : Bw W, s.w.cell? ⟨b, off + m * 5 + 1, none⟩ = some (.int .i64 q2) := fun s => (s.h.cell (p := ⟨b, off + m * 5 + 1, none⟩) (hbb)).trans e1
              have se2 : ∀ s : Bw W, s.w.cell? ⟨b, off + m * 5 + 2, none⟩ = some (.bool g2) := fun s => (s.h.cell (p := ⟨b, off + m * 5 + 2, none⟩) (hbb)).trans e2
              have se3 : ∀ s : Bw W, s.w.cell? ⟨b, off + m * 5 + 3, none⟩ = some (.string v2) := fun s => (s.h.cell (p := ⟨b, off + m * 5 + 3, none⟩) (hbb)).trans e3
              have se4 : ∀ s : Bw W, s.w.cell? ⟨b, off + m * 5 + 4, none⟩ = some (.int .i64 t2) := fun s => (s.h.cell (p := ⟨b, off + m * 5 + 4, none⟩) (hbb)).trans e4
              have sp0 : ∀ s : Bw W, s.w.cell? ⟨b, off + p * 5, none⟩ = some (.string k4) := fun s => (s.h.cell (p := ⟨b, off + p * 5, none⟩) (hbb)).trans p0
              have sp1 : ∀ s : Bw W, s.w.cell? ⟨b, off + p * 5 + 1, none⟩ = some (.int .i64 q4) := fun s => (s.h.cell (p := ⟨b, off + p * 5 + 1, none⟩) (hbb)).trans p1
              have sp2 : ∀ s : Bw W, s.w.cell? ⟨b, off + p * 5 + 2, none⟩ = some (.bool g4) := fun s => (s.h.cell (p := ⟨b, off + p * 5 + 2, none⟩) (hbb)).trans p2
              have sp3 : ∀ s : Bw W, s.w.cell? ⟨b, off + p * 5 + 3, none⟩ = some (.string v4) := fun s => (s.h.cell (p := ⟨b, off + p * 5 + 3, none⟩) (hbb)).trans p3
              have sp4 : ∀ s : Bw W, s.w.cell? ⟨b, off + p * 5 + 4, none⟩ = some (.int .i64 t4) := fun s => (s.h.cell (p := ⟨b, off + p * 5 + 4, none⟩) (hbb)).trans p4
              have HLQ : Hid (∀ s : Bw W, Calls Try.prog 11 #[.agg #[.string k4, .int .i64 q4, .bool g4, .string v4, .int .i64 t4], .agg #[.string k2, .int .i64 q2, .bool g2, .string v2, .int .i64 t2]] s.w fun e w' => e = .returned (.bool true) ∧ ∃ s' : Bw W, w' = s'.w) := Lib.hid fun s => (HLS.out s.w).mono fun _ w' ⟨h1, h2⟩ => ⟨h1, ⟨w', s.h.trans (h2.mono s.h.size)⟩, rfl⟩
              clear hby2 hby hbBx hbb ca fa cl cr fr bx0 bx1 bx2 bx3 bx4 e0 e1 e2 e3 e4 p0 p1 p2 p3 p4
              gi_wp2_with fail
              refine wpIn_region_quiet_bw rfl (plain_all (by kernel_rfl)) (by assumption) (by kernel_rfl) ?_
              repeat (gi_big_quiet_step ((gi_at_call 11; exact CallsIn.inRound id (callsIn_wide.2 (HLQ.out _)))))
              refine wpQuietIn_nil ?_
              intro _ hw'
              obtain ⟨sq, hw''⟩ := hw'
              subst hw''
              gi_wp2
              exact ⟨HKF.out _ sq.h, HKP.out _ sq.h, HST.out _ sq.h⟩
            · have g4a : ¬ (0 : Int) < (m : Int) := by omega
              have g4b : decide ((0 : Int) < (m : Int)) = false := decide_eq_false g4a
              have g4c : ¬ 0 < m := by omega
              clear hprev he hm0
              gi_wp2_with fail
              refine wpIn_region_quiet_lit_r rfl (plain_all (by kernel_rfl)) (by assumption) (by kernel_rfl) ?_
              repeat (gi_big_quiet_step (fail))
              refine wpQuietIn_nil ?_
              intro _ hw'
              obtain ⟨nq, hw''⟩ := hw'
              subst hw''
              gi_wp2
              exact ⟨HKF.out _ (below_drewN (Below.refl _ _) nq), HKP.out _ (below_drewN (Below.refl _ _) nq), HST.out _ (below_drewN (Below.refl _ _) nq)⟩
          · have heb : eqB ⟨k2, q2, g2, v2, t2⟩ ⟨k3, q3, g3, v3, t3⟩ = false := by
              cases h : eqB ⟨k2, q2, g2, v2, t2⟩ ⟨k3, q3, g3, v3, t3⟩ with
              | false => rfl
              | true => exact absurd (hiff.1 h) he
            rw [heb] at hcmp
            have HNP2 := Lib.hid (HNP.out _ he)
            simp only [Bool.not_false] at hcmp
            clear hiff he heb HNP hprev
            gi_wp2_with fail
            refine wpIn_region_quiet_lit_r rfl (plain_all (by kernel_rfl)) (by assumption) (by kernel_rfl) ?_
            repeat (gi_big_quiet_step (fail))
            refine wpQuietIn_nil ?_
            intro _ hw'
            obtain ⟨nq, hw''⟩ := hw'
            subst hw''
            gi_wp2
            exact ⟨((KeepsOthers.setCell _ _ _).from _).trans (KeepsFrom.of_grow (below_drewN (Below.refl _ _) nq)), rfl, HNP2.out⟩
        case done =>
          rintro D2 xs W hD2 hS2 hi hdef
          have hS' : xs = want := hS2
          rw [hS', HN.out] at hi
          have ca : W.cell? ⟨y2, 0, none⟩ = some (.int .i64 n) := cell_of_row _ _ _ _ _ _ hi.count
          have cr : W.cell? ⟨x, 0, none⟩ = some (.bool false) := cell_of_row _ _ _ _ _ _ hi.res
          have fr : W.frozen? ⟨x, 0, none⟩ = false := frozen_of_row _ _ _ _ _ hi.res
          have cl : W.cell? ⟨y, 0, none⟩ = some (.slice A n c) := cell_of_row _ _ _ _ _ _ ((hi.kept.block y hy9 (by simp; omega)).trans HY9.out)
          have hN9 := hi.kept.size
          have hra := HRA9.out.same (fun b hm => hi.kept.block b (HRA9.out.lo b hm).2 (by have h1 := HLO.out b hm; have h2 := HZA.out; have h3 := HN6.out; simp; omega)) hN9
          have hrb := HRB9.out.same (fun b hm => hi.kept.block b (HRB9.out.lo b hm).2 (by have h1 := HLO'.out b hm; have h2 := HZA.out; have h3 := HN6.out; simp; omega)) hN9
          have HL : Hid (∀ p, p = a ∨ p = a' → Calls Try.prog 12 #[.pointer (some ⟨p, 0, none⟩)] W.drew fun e w' => e = .returned (.int .i64 n) ∧ W.drew = w') := Lib.hid (by
            rintro p (rfl | rfl)
            · have := len_any hra.drew
              rw [HSA.out, HWANT.out, HN.out] at this
              exact this
            · have := len_any hrb.drew
              rw [HWANT.out, HN.out] at this
              exact this)
          have hdd : (W.setCell ⟨x, 0, none⟩ (.bool true)).heap[D2]? = some (.deferred (some [])) := (Below.heap_setCell _ _ _ _ (by show D2 ≠ x; omega)).trans hdef
          have hdd1 : (W.setCell ⟨x, 0, none⟩ (.bool true)).heap[D]? = some (.deferred (some [])) := (Below.heap_setCell _ _ _ _ (by show D ≠ x; have := HD0.out; have := HZA.out; omega)).trans ((hi.kept.block D hd9 (by have h1 := HD0.out; have h2 := HD1.out; have h3 := HZA.out; simp; omega)).trans HD9.out)
          have hbb : Below x w (W.setCell ⟨x, 0, none⟩ (.bool true)) := (HB9.out.trans (hi.kept.below (by omega) (by simp; omega))).setCell (p := ⟨x, 0, none⟩) (Nat.le_refl _) _
          have HCS : Hid ((W.setCell ⟨x, 0, none⟩ (.bool true)).drew.cell? ⟨y2, 0, none⟩ = some (.int .i64 n) ∧ (W.setCell ⟨x, 0, none⟩ (.bool true)).drew.cell? ⟨y, 0, none⟩ = some (.slice A n c)) := Lib.hid
            ⟨(World.cell?_of_block (w := W) (a := ⟨y2, 0, none⟩) (Below.heap_setCell _ _ _ _ (by show y2 ≠ x; omega))).trans ca, (World.cell?_of_block (w := W) (a := ⟨y, 0, none⟩) (Below.heap_setCell _ _ _ _ (by show y ≠ x; omega))).trans cl⟩
          have HDD := Lib.hid hdd
          have HDD1 := Lib.hid hdd1
          have HBB := Lib.hid hbb
          have hDD : D ≠ D2 := by omega
          have HDD1b : Hid (((W.setCell ⟨x, 0, none⟩ (.bool true)).drew.putObj D2 (.deferred none)).heap[D]? = some (.deferred (some []))) := Lib.hid ((World.putObj_heap_other hDD).trans hdd1)
          clear hi hdef hra hrb hdd hdd1 hbb hN9
          have hmx : Try.prog.follows .mixedOrders = true := by kernel_rfl
          go_wp2_with fail
          go_region_held3 (fun w' => w'.cell? ⟨y2, 0, none⟩ = some (.int .i64 n) ∧ w'.cell? ⟨y, 0, none⟩ = some (.slice A n c)) (first | exact HCS.out | exact ⟨ca, cl⟩ | go_keep | fail) (first | (go_at_call 12; refine (HL.out _ (by first | exact .inl rfl | exact .inr rfl)).mono ?_; rintro v wx ⟨rfl, rfl⟩) | fail)
          all_goals go_wp2
          refine ⟨by simp, .inl ⟨_, _, rfl, run_takeDeferred (w := (W.setCell ⟨x, 0, none⟩ (.bool true)).drew) HDD.out, ⟨by simp, .inl ⟨_, _, rfl, run_takeDeferred HDD1b.out, ?_⟩⟩⟩⟩
          have hc4 : (W.setCell ⟨x, 0, none⟩ (.bool true)).drew.cell? ⟨x, 0, none⟩ = some (.bool true) := World.cell?_setCell_same' W ⟨x, 0, none⟩ (.bool true) (by rw [cr]; rfl)
          have hc5 := cell_kept (cell_kept hc4 (grownBy_putObj' _ D2 (.deferred none)) (fun r e => by cases e; exact ⟨_, HDD.out, rfl⟩)) (grownBy_putObj' _ D (.deferred none)) (fun r e => by cases e; exact ⟨_, HDD1b.out, rfl⟩)
          refine ⟨.bool true, ?_, rfl, by rw [HX.out]; exact ((below_drewN HBB.out 1).trans (belowK_b (w := w9) (by omega) _ D2 _ _ hD2 HDD.out rfl rfl)).trans (belowK_b (w := w6) (by omega) _ D _ _ HD0.out HDD1b.out rfl rfl)⟩
          simp [results, Try.results4, go_sem, hc5]
set_option maxRecDepth 100000 in
theorem contract (H : Type) (enc : TypeId × Value → H) (W : World) (base : Nat) (args : Array Value) (ds gs : List (DataW H)) (before : List MemPlace)
    (hval : ∀ (j : Nat) t v, Try.f4.params[j]? = some t → args[j]? = some v → Value.okWide Try.prog W .any base t v)
    (hW : DataW.Whole enc Try.prog Try.f4.params.toList Rows.skipCoinsSpec.vars false W args.toList ds gs before)
    (hz : (DataW.weightsEach Try.prog Try.f4.params.toList (ds ++ gs)).all (· ≤ reachBytes) = true) :
    Calls Try.prog 4 args W fun e W' => ∃ v, e = .returned v ∧ Rows.skipCoinsSpec.post enc Try.prog Try.f4 false true false false W args v W' := by
  have hW' := hW
  obtain ⟨p, q, hA0, hV, rfl, hfz, hnd⟩ := hW
  have hA : DataW.TrodAll enc Try.prog W 0 (fun _ => true) true Try.f4.params.toList args.toList ds p := hA0
  rw [Try.params4] at hA hval hz
  obtain ⟨v0, vs0, d0, ds0, p0, q0, hargs, rfl, rfl, h0, r0⟩ := trodAll_cons hA
  obtain ⟨v1, vs1, d1, ds1, p1, q1, rfl, rfl, rfl, h1, r1⟩ := trodAll_cons r0
  obtain ⟨v2, vs2, d2, ds2, p2, q2, rfl, rfl, rfl, h2, r2⟩ := trodAll_cons r1
  obtain ⟨rfl, rfl, rfl⟩ := trodAll_nil r2
  obtain rfl : args = #[v0, v1, v2] := by cases args; simp_all
  obtain ⟨rfl, rfl⟩ := trodVars_none hV
  obtain ⟨cA, cN, cC, c, rfl, hlenc, hinc, hbc⟩ := open_coins Try.underlying22 Try.underlying3 (by kernel_rfl) (by kernel_rfl) (hval 0 22 v0 rfl rfl) h0 (parts_sized hz (j := 0) rfl rfl)
  obtain ⟨dA, dN, dC, d, rfl, hlend, hind, hbd⟩ := open_coins Try.underlying22 Try.underlying3 (by kernel_rfl) (by kernel_rfl) (hval 1 22 v1 rfl rfl) h1 (parts_sized hz (j := 1) rfl rfl)
  obtain ⟨pA, pN, pC, p, rfl, hlenp, hinp, hbp, hcapp⟩ := open_ents (hval 2 23 v2 rfl rfl) h2 (parts_sized hz (j := 2) rfl rfl)
  refine (walk cA cN cC c dA dN dC d pA pN pC p W hlenc hinc hbc hlend hind hbd hlenp hinp hcapp).mono fun e W' ⟨he, hB⟩ => ?_
  subst he
  exact ⟨_, rfl, law_post Try.laidOut (by kernel_rfl) rfl rfl Try.underlying4 hW' rfl hB⟩

set_option maxRecDepth 100000 in
theorem lifted (os : Os) (started : os.Started) (H : Type) (enc : TypeId × Value → H) :
    ReturnsInHanded {} Try.checked os 4 .any (Rows.skipCoinsSpec.pre6 enc Try.prog Try.f4 Rows.skipCoinsRow.domain false) (Rows.skipCoinsSpec.post enc Try.prog Try.f4 false true false false) := by
  refine returnsInHanded_of_change_sized (C := Try.checked) Try.own started (by kernel_rfl) Try.func4
    (ChangeSpec.witness6 (enc := enc) (C := Try.checked) false ⟨#[], #[.slice none 0 0, .slice none 0 0, .slice none 0 0], []⟩ 8 (by kernel_rfl) (by kernel_rfl) (by kernel_rfl) (by kernel_rfl)) ?_
  intro W base args ds gs before hval hW _ hz _
  exact contract H enc W base args ds gs before hval hW hz

theorem proved : Rows.SkipCoinsSaid :=
  OpenClaim.holds_of_wide 4 Try.f4 rfl rfl rfl rfl rfl rfl rfl ⟨rfl, rfl, rfl, rfl, rfl⟩ rfl rfl rfl rfl rfl (by kernel_rfl) Try.func4 (by kernel_rfl)
    (of_decide_eq_true (by kernel_rfl)) (by unfold Func.isWrapper; first | (rw [if_pos (by decide +kernel)]; kernel_rfl) | (rw [if_neg (by decide +kernel)]; exact ⟨rfl, rfl⟩))
    (fun os started H enc _ => lifted os started H enc)
end lawCoins
end Go.Proofs.Ytgnlhnfjanoahaa
