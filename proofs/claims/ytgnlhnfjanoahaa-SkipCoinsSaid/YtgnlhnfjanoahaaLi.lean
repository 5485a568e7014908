/- lists: both lists behind the puts. -/
import Derived.Test.YtgnlhnfjanoahaaDu
namespace Go.Proofs.Ytgnlhnfjanoahaa
open Go.RowKit
open SK

theorem add_zero' (a : Addr) : a.add 0 = a := by
  obtain ⟨b, off, spot⟩ := a
  unfold Addr.add
  split <;> simp_all

theorem ents_head (W : World) (A : Option Addr) (n cap m : Nat) (h : m ≤ cap) : (Instr.slice 23 (.slice A n cap) none (some (.int .i64 (m : Int))) none).run Try.prog W = .ok (.slice A m cap) W := by
  have hs : ∀ w, (sizeOf (Try.prog.elem 23)).run Try.prog w = .ok 5 w := fun w => by kernel_rfl
  rw [run_slice_h W 23 A n cap (by kernel_rfl) .i64 (m : Int) (by omega) (by omega), hs]
  simp only [Result.andThen, sliced, Int.toNat_natCast, Nat.sub_zero, Nat.zero_mul, add_zero', Option.map_id']
  split <;> rfl

theorem info_int : (Try.prog.info? 3).map (fun i => (i.zero, i.size, i.bytes)) = some (some (.int .i64 0), 1, 8) := by kernel_rfl

theorem own_coins {w : World} {B : Nat} {e : TypeId} {v : Value} {n : Nat} {l : List Int} (hf : ∀ c ∈ l, -9223372036854775808 ≤ c ∧ c ≤ 9223372036854775807) (hn : l.length = n) (h : w.ownsRow B e 1 v n (l.map (Value.int .i64))) :
    ∃ A c, v = .slice A n c ∧ CoinsIn w A l ∧ ∀ x ∈ fb A, B ≤ x ∧ x < w.heap.size := by
  subst hn
  rcases h.2 with ⟨rfl, h0⟩ | ⟨g, cap, cur, rfl, hbg, hg, h1, h2, h3, h4⟩
  · exact ⟨none, 0, by rw [h0], ⟨hf, fun hn => by omega⟩, by simp [fb]⟩
  · have hlt := (Array.getElem?_eq_some_iff.1 hg).1
    refine ⟨some ⟨g, 0, none⟩, cap, rfl, ⟨hf, fun _ => ⟨g, 0, rfl, hlt, fun j hj => ?_⟩⟩, by simp [fb]; exact ⟨hbg, hlt⟩⟩
    rw [Nat.zero_add, cell_of_row _ _ _ _ _ _ hg, ← Array.getElem?_toList, ← List.getElem?_take_of_lt (show j < l.length * 1 by omega), h4]
    simp [hj]

theorem run_coins (w : World) (A : Option Addr) (c : Nat) (l : List Int) (h : CoinsIn w A l) (h8 : l.length * 8 ≤ 140737488355328) (B : Nat) (hB : B ≤ w.heap.size) :
    ∃ A' c' w', (Builtin.append_ #[22, 22] 22 #[.slice none 0 0, .slice A l.length c]).run Try.prog w = .ok (.slice A' l.length c') w' ∧ CoinsIn w' A' l ∧ (∀ x ∈ fb A', B ≤ x ∧ x < w'.heap.size ∧ w.heap.size ≤ x) ∧ Below w.heap.size w w' := by
  obtain ⟨i0, hi, hz0, hz1, hz2⟩ := info_parts info_int
  by_cases h0 : l = []
  · subst h0
    refine ⟨none, 0, w, ?_, ⟨by simp, by simp⟩, by simp [fb], Below.refl _ _⟩
    have hfc : (Builtin.firstCells i0.size 0 (.slice A 0 c)).run Try.prog w = .ok #[] w := by
      cases A with
      | none => exact run_firstCells_none w i0.size 0 0 c
      | some a => exact run_firstCells_some w i0.size 0 a 0 c [] (by simp) (by simp)
    simp [Builtin.append_, run_underlying Try.underlying22, Builtin.lenOf, sizeOf, typeInfo, zeroValue, hi, hz0, hfc]
  · have hl0 : 0 < l.length := List.length_pos_iff.2 h0
    obtain ⟨b, off, rfl, hb, hc⟩ := h.at_ hl0
    obtain ⟨v', w', hr, ho, hg, -, -⟩ := run_append_own_at (P := Try.prog) w w.heap.size 22 22 3 i0 (.int .i64 0) 1 8 Try.underlying22 hi hz0 hz1 hz2 rfl (by decide) (.slice none 0 0) 0 [] (World.ownsRow_nil _ _ _ _) ⟨b, off, none⟩ l.length c (l.map (Value.int .i64)) (by simp) (fun j u hj => by
        have hj' : j < l.length := by have := (List.getElem?_eq_some_iff.1 hj).1; simpa using this
        have : (⟨b, off, none⟩ : Addr).add j = ⟨b, off + j, none⟩ := by unfold Addr.add; split <;> simp_all
        rw [this, hc j hj']
        simp [hj'] at hj
        rw [← hj]) (fun u hu => by obtain ⟨x, _, rfl⟩ := List.mem_map.1 hu; rfl) (by unfold maxLen; omega) (by omega) (Nat.le_refl _)
    rw [Nat.zero_add, List.nil_append] at ho
    obtain ⟨A', c', rfl, h1, h2⟩ := own_coins h.fits rfl ho
    exact ⟨A', c', w', hr, h1, fun x hx => ⟨Nat.le_trans hB (h2 x hx).1, (h2 x hx).2, (h2 x hx).1⟩, ⟨hg.os, hg.tape, hg.output, hg.size, fun k hk => hg.block k hk (by simp [Value.ownBlock])⟩⟩

section
variable {ops : Array Oper} {rest : List Oper} {o : Oper} {a : Act} {Q : Exit → Act → World → Prop} {w : World}
theorem wpList_coins (hgd : o.guard = none) (s x : Operand) (ho : o.op = .call { callee := .builtin .append, args := #[s, x], argTypes := #[22, 22] }) (hty : o.type = 22)
    (hs : a.eval s = .slice none 0 0) (A : Option Addr) (n c : Nat) (l : List Int) (hn : l.length = n) (hx : a.eval x = .slice A n c) (h : CoinsIn w A l) (h8 : l.length * 8 ≤ 140737488355328) (B : Nat) (hB : B ≤ w.heap.size)
    (hk : ∀ A' c' w', CoinsIn w' A' l → (∀ x ∈ fb A', B ≤ x ∧ x < w'.heap.size ∧ w.heap.size ≤ x) → Below w.heap.size w w' → wpList Try.prog ops Q rest (a.put o.dst (.slice A' l.length c')) w') :
    wpList Try.prog ops Q (o :: rest) a w := by
  subst hn
  refine wpList_plain hgd fun K hK => ?_
  obtain ⟨A', c', w', hr, h2, h3, h4⟩ := run_coins w A c l h h8 B hB
  unfold Oper.wp execOp
  simp only [ho, hty, resolve, invoke, builtin, Sem.run_bind, Sem.run_pure, Result.andThen_ok, List.map_toArray, List.map_cons, List.map_nil, hs, hx, hr]
  exact hK _ _ (hk A' c' w' h2 h3 h4)
end

/-- behind all puts -/
def after (cs : List Int) (l : List E) : St := l.foldl (fun s e => (s.step cs e).2) St.new
theorem after_snoc (cs : List Int) (l : List E) (e : E) : after cs (l ++ [e]) = ((after cs l).step cs e).2 := by simp [after]
theorem fold_ok (cs : List Int) (l : List E) : ∀ (s : St), Ok s → (∀ e ∈ l, e.wf) → Ok (l.foldl (fun s e => (s.step cs e).2) s) ∧ (l.foldl (fun s e => (s.step cs e).2) s).l.length ≤ s.l.length + l.length := by
  induction l with
  | nil => exact fun s h _ => ⟨h, by simp⟩
  | cons e l ih =>
    intro s h hw
    obtain ⟨h1, h2⟩ := ok_step h cs (hw e (by simp))
    obtain ⟨h3, h4⟩ := ih _ h1 (fun x hx => hw x (by simp [hx]))
    exact ⟨h3, by simp only [List.foldl_cons, List.length_cons]; omega⟩
theorem after_ok (cs : List Int) (l : List E) (h : ∀ e ∈ l, e.wf) : Ok (after cs l) ∧ (after cs l).l.length ≤ l.length := by
  obtain ⟨h1, h2⟩ := fold_ok cs l St.new ok_new h
  exact ⟨h1, by unfold after; simpa [St.new] using h2⟩

set_option maxRecDepth 100000 in
set_option maxHeartbeats 4000000 in
theorem lists_any (cA : Option Addr) (cN cC : Nat) (cs : List Int) (pA : Option Addr) (pN pC : Nat) (ps : List E) (w : World) (hcn : cs.length = cN) (hci : CoinsIn w cA cs) (hcb : cN * 8 ≤ 140737488351232) (hpn : ps.length = pN) (hpi : EntsIn w pA ps) (hpc : pN ≤ pC) (hpb : pN * 56 ≤ 140737488351232) :
    Calls Try.prog 5 #[.slice cA cN cC, .slice pA pN pC] w fun v w' => ∃ a hb l r CA cc LA lc, v = .returned (.tuple #[.pointer (some ⟨a, 0, none⟩), .pointer (some ⟨r, 0, none⟩), .bool true]) ∧
      Duo w.heap.size w w' a hb l r CA cc LA lc cs (after cs (ps.take 100)) (after cs (ps.take 100)) := by
  have HNEW := Lib.hid (new_any cA cN cC cs w hcn hci (by omega))
  have HCI := Lib.hid hci
  have HPI := Lib.hid hpi
  have HCN := Lib.hid hcn
  have HPN := Lib.hid hpn
  clear hci hpi
  go_enter Try.func5, Try.ntmps5
  go_wp2_with fail
  refine HNEW.out.mono ?_
  rintro v0 w1 ⟨rfl, hrep, hb1, hs1⟩
  have hci1 := HCI.out.below hb1
  have HREP1 := Lib.hid hrep
  have HB1 := Lib.hid hb1
  clear HNEW hrep hb1
  go_wp2_with (at_builtin; refine wpList_coins rfl _ _ rfl rfl rfl cA cN cC cs HCN.out rfl hci1 (by rw [HCN.out]; omega) w.heap.size HB1.out.size ?_)
  intro CA cc w2 h2 h3 h4
  have HC2 := Lib.hid h2
  have HF2 := Lib.hid h3
  have HB2 := Lib.hid h4
  clear h2 h3 h4 hci1
  obtain ⟨m, hm⟩ : ∃ m, min pN 100 = m := ⟨_, rfl⟩
  have hmin : min (pN : Int) 100 = (m : Int) := by omega
  have hmax : max (m : Int) 0 = (m : Int) := by omega
  have hsl := fun W => ents_head W pA pN pC m (by omega)
  have hW2 := heap_alloc_new w2 (.cells #[.slice CA cN cc, .slice none 0 0, .int .i64 0] 48)
  have hbW : Below w2.heap.size w2 (w2.alloc (.cells #[.slice CA cN cc, .slice none 0 0, .int .i64 0] 48)) := (Below.refl _ _).alloc (Nat.le_refl _) _
  have hzW : (w2.alloc (.cells #[.slice CA cN cc, .slice none 0 0, .int .i64 0] 48)).heap.size = w2.heap.size + 1 := by simp
  have HTK : Hid (ps.take 100 = ps.take m) := Lib.hid (by
    rw [← hm, ← HPN.out, List.take_eq_take_iff]
    omega)
  have hb2s := HB2.out.size
  have hrep2 := (HREP1.out.below HB2.out).below hbW
  have HDUO : Hid (Duo w.heap.size w (w2.alloc (.cells #[.slice CA cN cc, .slice none 0 0, .int .i64 0] 48)) (w.heap.size + 1) w.heap.size [] w2.heap.size CA cc none 0 cs St.new St.new) := Lib.hid (by
    refine ⟨(HB1.out.trans (HB2.out.mono (by omega))).trans (hbW.mono (by omega)), by omega, hrep2, ⟨?_, HC2.out.below hbW, ⟨by simp [St.new], by simp [St.new]⟩, by omega, fun x hx => ?_, by simp [fb]⟩, fun x hx => ?_, fun x hx => ?_, ok_new, ok_new⟩
    · rw [hW2, HCN.out]; rfl
    · have := HF2.out x hx; omega
    · simp only [foot, List.mem_cons, List.mem_append] at hx
      simp only [blks, List.flatMap_nil, List.mem_cons, List.not_mem_nil, or_false]
      rcases hx with e | e | e
      · omega
      · have := HF2.out x e; omega
      · simp [fb] at e
    · simp only [foot, List.mem_cons, List.mem_append] at hx
      rcases hx with e | e | e
      · omega
      · have := HF2.out x e; omega
      · simp [fb] at e)
  clear hW2 hbW hzW hrep2 HREP1 HC2 HF2 HCI
  go_wp2_with fail
  generalize w2.alloc (.cells #[.slice CA cN cc, .slice none 0 0, .int .i64 0] 48) = w3 at HDUO ⊢
  obtain ⟨r, hr⟩ : ∃ r, w2.heap.size = r := ⟨_, rfl⟩
  obtain ⟨hb, hhb⟩ : ∃ hb, w.heap.size = hb := ⟨_, rfl⟩
  have HHB := Lib.hid hhb
  rw [hr, hhb] at HDUO
  rw [hhb]
  rw [hr]
  obtain ⟨a, ha⟩ : ∃ a, hb + 1 = a := ⟨_, rfl⟩
  rw [ha] at HDUO ⊢
  clear hr hhb ha hb2s HB2 HB1
  go_loopw [24] (fun i wr => ∃ j : Nat, j ≤ m ∧ i = .int .i64 j ∧ ∃ l LA lc, Duo hb w wr a hb l r CA cc LA lc cs (after cs (ps.take j)) (after cs (ps.take j))) (fun i _ => m - (intOf i).toNat)
  case atStart => exact ⟨0, by omega, rfl, _, _, _, HDUO.out⟩
  case round =>
    obtain ⟨j, hj, rfl, l, LA, lc, hduo⟩ := hrel
    have HD := Lib.hid hduo
    by_cases hlt : j < m
    · have hjl : j < ps.length := by rw [HPN.out]; omega
      have hbw := hduo.below
      rw [← HHB.out] at hbw
      obtain ⟨b, off, hA, hbl, hc⟩ := (HPI.out.below hbw).at_ (by omega)
      obtain ⟨z0, z1, z2, z3, z4⟩ := hc j hjl
      have hwf := HPI.out.wf _ (List.getElem_mem hjl)
      have htk : ps.take (j + 1) = ps.take j ++ [ps[j]] := List.take_succ_eq_append_getElem hjl
      obtain ⟨e, he⟩ : ∃ e, ps[j] = e := ⟨_, rfl⟩
      rw [he] at z0 z1 z2 z3 z4 hwf htk
      have hlen : (after cs (ps.take j)).l.length ≤ 1000000 := by
        have := (after_ok cs (ps.take j) (fun x hx => HPI.out.wf x (List.mem_of_mem_take hx))).2
        have h2 : (ps.take j).length ≤ j := List.length_take_le _ _
        omega
      have hstep := after_snoc cs (ps.take j) e
      rw [← htk] at hstep
      obtain ⟨s, hs⟩ : ∃ s, after cs (ps.take j) = s := ⟨_, rfl⟩
      rw [hs] at HD hlen hstep
      obtain ⟨s', hs'⟩ : ∃ s', after cs (ps.take (j + 1)) = s' := ⟨_, rfl⟩
      rw [hs'] at hstep
      have HSTEP := Lib.hid hs'
      have hN : ∀ x ∈ a :: hb :: blks l, x < wr.heap.size := fun x hx => (HD.out.rep.lo x hx).2
      have hrN : r < wr.heap.size := HD.out.lt r (by simp [foot])
      have HC1 : Hid (∀ w', Duo hb w w' a hb l r CA cc LA lc cs s s → Calls Try.prog 13 #[.pointer (some ⟨a, 0, none⟩), e.val] w' fun v w'' => v = .returned (.int .i64 (cost cs s.l.length e)) ∧ Below w'.heap.size w' w'') := fun w' h => cost_any h.rep e hwf
      have HC2 : Hid (∀ w', Duo hb w w' a hb l r CA cc LA lc cs s s → Calls Try.prog 14 #[.pointer (some ⟨r, 0, none⟩), e.val] w' fun v w'' => v = .returned (.int .i64 (cost cs s.l.length e)) ∧ Below w'.heap.size w' w'') := fun w' h => rcost_any h.rrep e hwf hlen (by rw [HCN.out]; omega)
      have HP1 : Hid (∀ w', Duo hb w w' a hb l r CA cc LA lc cs s s → Calls Try.prog 10 #[.pointer (some ⟨a, 0, none⟩), e.val] w' fun v w'' => v = .returned (.int .i64 (s.step cs e).1) ∧ ∃ l', Duo hb w w'' a hb l' r CA cc LA lc cs (s.step cs e).2 s ∧ ∀ b, wr.heap.size ≤ b → b < w'.heap.size → w''.heap[b]? = w'.heap[b]?) := fun w' h => h.put e hwf hlen _ hN
      have HP2 : Hid (∀ w' l', Duo hb w w' a hb l' r CA cc LA lc cs (s.step cs e).2 s → Calls Try.prog 15 #[.pointer (some ⟨r, 0, none⟩), e.val] w' fun v w'' => v = .returned (.int .i64 (s.step cs e).1) ∧ ∃ LA' lc', Duo hb w w'' a hb l' r CA cc LA' lc' cs (s.step cs e).2 (s.step cs e).2 ∧ ∀ b, wr.heap.size ≤ b → b < w'.heap.size → w''.heap[b]? = w'.heap[b]?) := fun w' l' h => h.rput e hwf hlen (by rw [HCN.out]; omega) _ hrN
      rw [← hstep] at HP1 HP2
      obtain ⟨C, hC⟩ : ∃ C, cost cs s.l.length e = C := ⟨_, rfl⟩
      obtain ⟨K, hK⟩ : ∃ K, (s.step cs e).1 = K := ⟨_, rfl⟩
      rw [hC] at HC1 HC2
      rw [hK] at HP1 HP2
      have hKK : (K == K) = true := beq_self_eq_true _
      have hCC : (C == C) = true := beq_self_eq_true _
      subst hA
      obtain ⟨k2, q2, g2, v2, t2⟩ := e
      simp only [E.val] at z0 z1 z2 z3 z4 HC1 HC2 HP1 HP2
      have g0 : (0 : Int) ≤ (j : Int) := by omega
      have g1 : (j : Int) < (m : Int) := by omega
      have hA0 : ((wr.alloc (.cells #[.string k2, .int .i64 q2, .bool g2, .string v2, .int .i64 t2] 40)).alloc (.cells #[.string k2, .int .i64 q2, .bool g2, .string v2, .int .i64 t2] 36)).heap[wr.heap.size]? = some (.cells #[.string k2, .int .i64 q2, .bool g2, .string v2, .int .i64 t2] 40 (0, 0)) := (Below.heap_alloc _ _ _ (by simp)).trans (heap_alloc_new wr _)
      have hB0 : ((wr.alloc (.cells #[.string k2, .int .i64 q2, .bool g2, .string v2, .int .i64 t2] 40)).alloc (.cells #[.string k2, .int .i64 q2, .bool g2, .string v2, .int .i64 t2] 36)).heap[wr.heap.size + 1]? = some (.cells #[.string k2, .int .i64 q2, .bool g2, .string v2, .int .i64 t2] 36 (0, 0)) := by
        have := heap_alloc_new (wr.alloc (.cells #[.string k2, .int .i64 q2, .bool g2, .string v2, .int .i64 t2] 40)) (.cells #[.string k2, .int .i64 q2, .bool g2, .string v2, .int .i64 t2] 36)
        simpa using this
      have HD0 := Lib.hid ((HD.out.alloc (.cells #[.string k2, .int .i64 q2, .bool g2, .string v2, .int .i64 t2] 40)).alloc (.cells #[.string k2, .int .i64 q2, .bool g2, .string v2, .int .i64 t2] 36))
      clear hduo hbw hc hbl hwf htk he hlen hstep hs hs' hN hrN hC hK
      go_wp2_with fail
      generalize (wr.alloc (.cells #[.string k2, .int .i64 q2, .bool g2, .string v2, .int .i64 t2] 40)).alloc (.cells #[.string k2, .int .i64 q2, .bool g2, .string v2, .int .i64 t2] 36) = w4 at hA0 hB0 HD0 ⊢
      obtain ⟨x, hx⟩ : ∃ x, wr.heap.size = x := ⟨_, rfl⟩
      rw [hx] at hA0 hB0 HP1 HP2 ⊢
      have HA4 := Lib.hid hA0
      have HB4 := Lib.hid hB0
      have HZ4 : Hid (x + 2 ≤ w4.heap.size) := Lib.hid (by have := (Array.getElem?_eq_some_iff.1 hB0).1; omega)
      obtain ⟨e0, e1, e2, e3, e4, e5, e6, e7, e8, e9⟩ : w4.cell? ⟨x, 0, none⟩ = some (.string k2) ∧ w4.cell? ⟨x, 1, none⟩ = some (.int .i64 q2) ∧ w4.cell? ⟨x, 2, none⟩ = some (.bool g2) ∧ w4.cell? ⟨x, 3, none⟩ = some (.string v2) ∧ w4.cell? ⟨x, 4, none⟩ = some (.int .i64 t2) ∧ w4.cell? ⟨x + 1, 0, none⟩ = some (.string k2) ∧ w4.cell? ⟨x + 1, 1, none⟩ = some (.int .i64 q2) ∧ w4.cell? ⟨x + 1, 2, none⟩ = some (.bool g2) ∧ w4.cell? ⟨x + 1, 3, none⟩ = some (.string v2) ∧ w4.cell? ⟨x + 1, 4, none⟩ = some (.int .i64 t2) := ⟨cell_of_row _ _ _ _ _ _ HA4.out, cell_of_row _ _ _ _ _ _ HA4.out, cell_of_row _ _ _ _ _ _ HA4.out, cell_of_row _ _ _ _ _ _ HA4.out, cell_of_row _ _ _ _ _ _ HA4.out, cell_of_row _ _ _ _ _ _ HB4.out, cell_of_row _ _ _ _ _ _ HB4.out, cell_of_row _ _ _ _ _ _ HB4.out, cell_of_row _ _ _ _ _ _ HB4.out, cell_of_row _ _ _ _ _ _ HB4.out⟩
      clear hA0 hB0 hx z0 z1 z2 z3 z4
      go_region_held3 (fun w' => w'.cell? ⟨x, 0, none⟩ = some (.string k2) ∧ w'.cell? ⟨x, 1, none⟩ = some (.int .i64 q2) ∧ w'.cell? ⟨x, 2, none⟩ = some (.bool g2) ∧ w'.cell? ⟨x, 3, none⟩ = some (.string v2) ∧ w'.cell? ⟨x, 4, none⟩ = some (.int .i64 t2) ∧ w'.cell? ⟨x + 1, 0, none⟩ = some (.string k2) ∧ w'.cell? ⟨x + 1, 1, none⟩ = some (.int .i64 q2) ∧ w'.cell? ⟨x + 1, 2, none⟩ = some (.bool g2) ∧ w'.cell? ⟨x + 1, 3, none⟩ = some (.string v2) ∧ w'.cell? ⟨x + 1, 4, none⟩ = some (.int .i64 t2))
        (first | go_keep | exact HS5.out | exact HS6.out | exact HS7.out | exact HS8.out | fail)
        (first
          | (go_at_call 13; refine (HC1.out _ HD0.out.drew).mono ?_; rintro v w5 ⟨rfl, hbb⟩
             have HA5 := Lib.hid ((hbb.block (x) (by have := HZ4.out; simp; omega)).trans HA4.out)
             have HB5 := Lib.hid ((hbb.block (x + 1) (by have := HZ4.out; simp; omega)).trans HB4.out)
             have HZ5 : Hid (x + 2 ≤ w5.heap.size) := Lib.hid (by have := (Array.getElem?_eq_some_iff.1 HB5.out).1; omega)
             have HS5 : Hid (w5.cell? ⟨x, 0, none⟩ = some (.string k2) ∧ w5.cell? ⟨x, 1, none⟩ = some (.int .i64 q2) ∧ w5.cell? ⟨x, 2, none⟩ = some (.bool g2) ∧ w5.cell? ⟨x, 3, none⟩ = some (.string v2) ∧ w5.cell? ⟨x, 4, none⟩ = some (.int .i64 t2) ∧ w5.cell? ⟨x + 1, 0, none⟩ = some (.string k2) ∧ w5.cell? ⟨x + 1, 1, none⟩ = some (.int .i64 q2) ∧ w5.cell? ⟨x + 1, 2, none⟩ = some (.bool g2) ∧ w5.cell? ⟨x + 1, 3, none⟩ = some (.string v2) ∧ w5.cell? ⟨x + 1, 4, none⟩ = some (.int .i64 t2)) := Lib.hid ⟨cell_of_row _ _ _ _ _ _ HA5.out, cell_of_row _ _ _ _ _ _ HA5.out, cell_of_row _ _ _ _ _ _ HA5.out, cell_of_row _ _ _ _ _ _ HA5.out, cell_of_row _ _ _ _ _ _ HA5.out, cell_of_row _ _ _ _ _ _ HB5.out, cell_of_row _ _ _ _ _ _ HB5.out, cell_of_row _ _ _ _ _ _ HB5.out, cell_of_row _ _ _ _ _ _ HB5.out, cell_of_row _ _ _ _ _ _ HB5.out⟩
             have HD5 := Lib.hid (HD0.out.drew.still hbb)
             clear hbb)
          | (go_at_call 14; refine (HC2.out _ HD5.out).mono ?_; rintro v w6 ⟨rfl, hbb⟩
             have HA6 := Lib.hid ((hbb.block (x) (by have := HZ5.out; omega)).trans HA5.out)
             have HB6 := Lib.hid ((hbb.block (x + 1) (by have := HZ5.out; omega)).trans HB5.out)
             have HZ6 : Hid (x + 2 ≤ w6.heap.size) := Lib.hid (by have := (Array.getElem?_eq_some_iff.1 HB6.out).1; omega)
             have HS6 : Hid (w6.cell? ⟨x, 0, none⟩ = some (.string k2) ∧ w6.cell? ⟨x, 1, none⟩ = some (.int .i64 q2) ∧ w6.cell? ⟨x, 2, none⟩ = some (.bool g2) ∧ w6.cell? ⟨x, 3, none⟩ = some (.string v2) ∧ w6.cell? ⟨x, 4, none⟩ = some (.int .i64 t2) ∧ w6.cell? ⟨x + 1, 0, none⟩ = some (.string k2) ∧ w6.cell? ⟨x + 1, 1, none⟩ = some (.int .i64 q2) ∧ w6.cell? ⟨x + 1, 2, none⟩ = some (.bool g2) ∧ w6.cell? ⟨x + 1, 3, none⟩ = some (.string v2) ∧ w6.cell? ⟨x + 1, 4, none⟩ = some (.int .i64 t2)) := Lib.hid ⟨cell_of_row _ _ _ _ _ _ HA6.out, cell_of_row _ _ _ _ _ _ HA6.out, cell_of_row _ _ _ _ _ _ HA6.out, cell_of_row _ _ _ _ _ _ HA6.out, cell_of_row _ _ _ _ _ _ HA6.out, cell_of_row _ _ _ _ _ _ HB6.out, cell_of_row _ _ _ _ _ _ HB6.out, cell_of_row _ _ _ _ _ _ HB6.out, cell_of_row _ _ _ _ _ _ HB6.out, cell_of_row _ _ _ _ _ _ HB6.out⟩
             have HD6 := Lib.hid (HD5.out.still hbb)
             clear hbb)
          | (go_at_call 10; refine (HP1.out _ HD6.out).mono ?_; rintro v w7 ⟨rfl, l7, hd7, hbb⟩
             have HA7 := Lib.hid ((hbb (x) (by omega) (by have := HZ6.out; omega)).trans HA6.out)
             have HB7 := Lib.hid ((hbb (x + 1) (by omega) (by have := HZ6.out; omega)).trans HB6.out)
             have HZ7 : Hid (x + 2 ≤ w7.heap.size) := Lib.hid (by have := (Array.getElem?_eq_some_iff.1 HB7.out).1; omega)
             have HS7 : Hid (w7.cell? ⟨x, 0, none⟩ = some (.string k2) ∧ w7.cell? ⟨x, 1, none⟩ = some (.int .i64 q2) ∧ w7.cell? ⟨x, 2, none⟩ = some (.bool g2) ∧ w7.cell? ⟨x, 3, none⟩ = some (.string v2) ∧ w7.cell? ⟨x, 4, none⟩ = some (.int .i64 t2) ∧ w7.cell? ⟨x + 1, 0, none⟩ = some (.string k2) ∧ w7.cell? ⟨x + 1, 1, none⟩ = some (.int .i64 q2) ∧ w7.cell? ⟨x + 1, 2, none⟩ = some (.bool g2) ∧ w7.cell? ⟨x + 1, 3, none⟩ = some (.string v2) ∧ w7.cell? ⟨x + 1, 4, none⟩ = some (.int .i64 t2)) := Lib.hid ⟨cell_of_row _ _ _ _ _ _ HA7.out, cell_of_row _ _ _ _ _ _ HA7.out, cell_of_row _ _ _ _ _ _ HA7.out, cell_of_row _ _ _ _ _ _ HA7.out, cell_of_row _ _ _ _ _ _ HA7.out, cell_of_row _ _ _ _ _ _ HB7.out, cell_of_row _ _ _ _ _ _ HB7.out, cell_of_row _ _ _ _ _ _ HB7.out, cell_of_row _ _ _ _ _ _ HB7.out, cell_of_row _ _ _ _ _ _ HB7.out⟩
             have HD7 := Lib.hid hd7
             clear hbb hd7)
          | (go_at_call 15; refine (HP2.out _ _ HD7.out).mono ?_; rintro v w8 ⟨rfl, LA8, lc8, hd8, hbb⟩
             have HA8 := Lib.hid ((hbb (x) (by omega) (by have := HZ7.out; omega)).trans HA7.out)
             have HB8 := Lib.hid ((hbb (x + 1) (by omega) (by have := HZ7.out; omega)).trans HB7.out)
             have HZ8 : Hid (x + 2 ≤ w8.heap.size) := Lib.hid (by have := (Array.getElem?_eq_some_iff.1 HB8.out).1; omega)
             have HS8 : Hid (w8.cell? ⟨x, 0, none⟩ = some (.string k2) ∧ w8.cell? ⟨x, 1, none⟩ = some (.int .i64 q2) ∧ w8.cell? ⟨x, 2, none⟩ = some (.bool g2) ∧ w8.cell? ⟨x, 3, none⟩ = some (.string v2) ∧ w8.cell? ⟨x, 4, none⟩ = some (.int .i64 t2) ∧ w8.cell? ⟨x + 1, 0, none⟩ = some (.string k2) ∧ w8.cell? ⟨x + 1, 1, none⟩ = some (.int .i64 q2) ∧ w8.cell? ⟨x + 1, 2, none⟩ = some (.bool g2) ∧ w8.cell? ⟨x + 1, 3, none⟩ = some (.string v2) ∧ w8.cell? ⟨x + 1, 4, none⟩ = some (.int .i64 t2)) := Lib.hid ⟨cell_of_row _ _ _ _ _ _ HA8.out, cell_of_row _ _ _ _ _ _ HA8.out, cell_of_row _ _ _ _ _ _ HA8.out, cell_of_row _ _ _ _ _ _ HA8.out, cell_of_row _ _ _ _ _ _ HA8.out, cell_of_row _ _ _ _ _ _ HB8.out, cell_of_row _ _ _ _ _ _ HB8.out, cell_of_row _ _ _ _ _ _ HB8.out, cell_of_row _ _ _ _ _ _ HB8.out, cell_of_row _ _ _ _ _ _ HB8.out⟩
             have HD8 := Lib.hid hd8
             clear hbb hd8)
          | fail)
      all_goals
        clear HS5 HS6 HS7 HS8 HC1 HC2 HP1 HP2
        go_wp2
        go_roundw
        case rel => exact ⟨j + 1, by omega, by go_num, l7, LA8, lc8, by rw [HSTEP.out]; exact HD8.out⟩
        case measure => simp [intOf]; omega
    · have hjm : j = m := by omega
      have HF : Hid (Duo w.heap.size w wr a hb l r CA cc LA lc cs (after cs (ps.take 100)) (after cs (ps.take 100))) := Lib.hid (by rw [HTK.out, HHB.out, ← hjm]; exact HD.out)
      subst hjm
      clear hduo HD
      go_wp2
      exact bodyPost_ret (v := .tuple #[.pointer (some ⟨a, 0, none⟩), .pointer (some ⟨r, 0, none⟩), .bool true]) (by simp [results, Try.results5, go_sem, *]) rfl ⟨a, hb, l, r, CA, cc, LA, lc, rfl, HF.out⟩
end Go.Proofs.Ytgnlhnfjanoahaa
