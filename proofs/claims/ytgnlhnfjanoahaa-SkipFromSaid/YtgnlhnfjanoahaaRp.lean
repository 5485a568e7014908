/- The document's Put. -/
import Derived.Test.YtgnlhnfjanoahaaRf
namespace Go.Proofs.Ytgnlhnfjanoahaa
open Go.RowKit
open SK

theorem rput_bad (r : Nat) (e : E) (w : World) (he : e.wf) (hg : good e ≠ 0) : Calls Try.prog 15 #[.pointer (some ⟨r, 0, none⟩), e.val] w fun v w' => v = .returned (.int .i64 (good e)) ∧ Below w.heap.size w w' := by
  have HG : Hid (∀ W, Calls Try.prog 29 #[e.val] W fun r w' => r = .returned (.int .i64 (good e)) ∧ Below W.heap.size W w') := fun W => rgood_any e W he
  obtain ⟨G, hG⟩ : ∃ G, good e = G := ⟨_, rfl⟩
  rw [hG] at HG hg ⊢
  obtain ⟨k, q, g, v, t⟩ := e
  simp only [E.val] at HG ⊢
  clear hG he
  have hg2 : (G == 0) = false := beq_eq_false_iff_ne.2 hg
  go_enter Try.func15, Try.ntmps15
  go_wp2_with fail
  refine (HG.out _).mono ?_
  rintro r w1 ⟨rfl, hb⟩
  have HB : Hid (Below w.heap.size w w1) := Lib.hid (((Below.refl _ w).alloc (Nat.le_refl _) _).trans (hb.mono (by simp)))
  clear hb
  go_wp2
  go_ret
  exact ⟨rfl, HB.out⟩

theorem RRep.setSize {B : Nat} {w : World} {r : Nat} {cs : List Int} {CA : Option Addr} {cc : Nat} {LA : Option Addr} {lc : Nat} {s : St} (h : RRep B w r cs CA cc LA lc s) (z : Int) : RRep B (w.setCell ⟨r, 2, none⟩ (.int .i64 z)) r cs CA cc LA lc ⟨s.l, z⟩ := by
  have hne : ∀ x, x ≠ r → (w.setCell ⟨r, 2, none⟩ (.int .i64 z)).heap[x]? = w.heap[x]? := fun x e => Below.heap_setCell _ _ _ _ e
  refine ⟨by rw [heap_set_fr h.head]; rfl, h.coins.same (fun x hx => hne x (h.ca x hx).2) (by rw [setCell_size]; exact Nat.le_refl _), h.ents.same (fun x hx => hne x (h.la x hx).2) (by rw [setCell_size]; exact Nat.le_refl _), h.lo, h.ca, h.la⟩

theorem RRep.setL {B : Nat} {w : World} {r : Nat} {cs : List Int} {CA : Option Addr} {cc : Nat} {LA : Option Addr} {lc : Nat} {s : St} (h : RRep B w r cs CA cc LA lc s) (A' : Option Addr) (c' : Nat) (l' : List E) (he : EntsIn w A' l') (ha : ∀ x ∈ fb A', B ≤ x ∧ x ≠ r) :
    RRep B (w.setCell ⟨r, 1, none⟩ (.slice A' l'.length c')) r cs CA cc A' c' ⟨l', s.size⟩ := by
  have hne : ∀ x, x ≠ r → (w.setCell ⟨r, 1, none⟩ (.slice A' l'.length c')).heap[x]? = w.heap[x]? := fun x e => Below.heap_setCell _ _ _ _ e
  refine ⟨by rw [heap_set_fr h.head]; rfl, h.coins.same (fun x hx => hne x (h.ca x hx).2) (by rw [setCell_size]; exact Nat.le_refl _), he.same (fun x hx => hne x (ha x hx).2) (by rw [setCell_size]; exact Nat.le_refl _), h.lo, h.ca, ha⟩

theorem front_at {e : E} : ∀ {l : List E}, Sorted l → ∀ j, (h : j < l.length) → (less l[j] e = true ↔ j < (front e l).length)
  | [], _, j, h => by simp at h
  | x :: l, hs, j, h => by
    obtain ⟨h1, h2⟩ := List.pairwise_cons.1 hs
    cases hx : less x e with
    | false =>
      have hf : front e (x :: l) = [] := by simp [front, hx]
      have hr := rest_not (e := e) hs (x :: l)[j] (by
        have : rest e (x :: l) = x :: l := by simp [rest, hx]
        rw [this]; exact List.getElem_mem h)
      rw [hr, hf]; simp
    | true =>
      have hf : front e (x :: l) = x :: front e l := by simp [front, hx]
      rw [hf]
      cases j with
      | zero => simp [hx]
      | succ j =>
        have := front_at (e := e) h2 j (by simpa using h)
        simp only [List.getElem_cons_succ, List.length_cons]
        rw [this]
        omega

theorem front_le (e : E) (l : List E) : (front e l).length ≤ l.length := by
  have := congrArg List.length (front_rest e l)
  simp at this; omega
theorem front_take (e : E) (l : List E) : l.take (front e l).length = front e l := by
  conv => lhs; rw [← front_rest e l]
  have : front e (front e l ++ rest e l) = front e l := by rw [front_rest]
  rw [this]; simp
theorem rest_drop (e : E) (l : List E) : l.drop (front e l).length = rest e l := by
  conv => lhs; rw [← front_rest e l]
  have : front e (front e l ++ rest e l) = front e l := by rw [front_rest]
  rw [this]; simp

theorem there_of {e : E} {l : List E} {j : Nat} (h : j < l.length) (hs : SK.same l[j] e = true) : there e l = true := by
  unfold there
  rw [List.any_eq_true]
  exact ⟨_, List.getElem_mem h, hs⟩
theorem not_there {e : E} {l : List E} (h : ∀ j, (hj : j < l.length) → SK.same l[j] e = false) : there e l = false := by
  unfold there
  rw [List.any_eq_false]
  intro x hx
  obtain ⟨i, hi, rfl⟩ := List.getElem_of_mem hx
  simp [h i hi]

set_option maxRecDepth 100000 in
set_option maxHeartbeats 4000000 in
theorem rput_good {B : Nat} {w : World} {r : Nat} {cs : List Int} {CA : Option Addr} {cc : Nat} {LA : Option Addr} {lc : Nat} {s : St} (h : RRep B w r cs CA cc LA lc s) (ok : Ok s) (hB : B ≤ w.heap.size) (e : E) (he : e.wf) (hg : good e = 0) (hlen : s.l.length ≤ 1000000) (hcl : cs.length ≤ 140737488351232) :
    Calls Try.prog 15 #[.pointer (some ⟨r, 0, none⟩), e.val] w fun v w' => v = .returned (.int .i64 (s.step cs e).1) ∧
      ∃ LA' lc', RRep B w' r cs CA cc LA' lc' (s.step cs e).2 ∧ Keeps [r] w w' ∧ (LA' = LA ∨ ∀ x ∈ fb LA', w.heap.size ≤ x ∧ x < w'.heap.size) := by
  obtain ⟨i0, hi, hz0, hz1, hz2⟩ := info_parts info_rent
  have HG : Hid (∀ W, Calls Try.prog 29 #[e.val] W fun r w' => r = .returned (.int .i64 0) ∧ Below W.heap.size W w') := fun W => by have := rgood_any e W he; rw [hg] at this; exact this
  have HLS : Hid (∀ d W, Calls Try.prog 30 #[d.val, e.val] W fun r w' => r = .returned (.bool (less d e)) ∧ Below W.heap.size W w') := fun d W => rless_any d e W
  have HCO : Hid (∀ W, Below w.heap.size w W → Calls Try.prog 14 #[.pointer (some ⟨r, 0, none⟩), e.val] W fun v w' => v = .returned (.int .i64 (cost cs s.l.length e)) ∧ Below W.heap.size W w') := fun W hb => rcost_any (h.below hb) e he hlen hcl
  have hgz := good_zero hg
  have hht := height_range cs s.l.length
  have hco : 0 ≤ cost cs s.l.length e ∧ cost cs s.l.length e ≤ 1000 := by unfold cost; omega
  have hoks := ok.size
  have HSO := Lib.hid ok.sorted
  have HWF : Hid (∀ x ∈ s.l, x.wf) := ok.wf
  have HEW := Lib.hid he
  have HREP := Lib.hid h
  have HST11 : Hid (there e s.l = true → s.step cs e = (11, s)) := fun ht => by
    unfold St.step
    rw [if_neg (by simp [hg]), if_pos ht]
  have HST0 : Hid (there e s.l = false → s.step cs e = (0, ⟨front e s.l ++ e :: rest e s.l, s.size + cost cs s.l.length e⟩)) := fun ht => by
    unfold St.step
    rw [if_neg (by simp [hg]), if_neg (by rw [ht]; simp)]
  obtain ⟨C, hC⟩ : ∃ C, cost cs s.l.length e = C := ⟨_, rfl⟩
  obtain ⟨R, hR⟩ : ∃ R, s.step cs e = R := ⟨_, rfl⟩
  rw [hC] at HCO hco HST0
  rw [hR] at HST11 HST0 ⊢
  have hrl := h.lt
  have HBB0 := Lib.hid hB
  obtain ⟨n, hn⟩ : ∃ n, s.l.length = n := ⟨_, rfl⟩
  have HN := Lib.hid hn
  have hfl := front_le e s.l
  obtain ⟨F, hF⟩ : ∃ F, (front e s.l).length = F := ⟨_, rfl⟩
  have HF := Lib.hid hF
  rw [hF, hn] at hfl
  rw [hn] at hlen hoks
  obtain ⟨z, hz⟩ : ∃ z, s.size = z := ⟨_, rfl⟩
  have HZS := Lib.hid hz
  rw [hz] at hoks
  have hwz : IntKind.i64.wrap (z + C) = z + C := wrap_in _ (by omega)
  obtain ⟨e', hee⟩ : ∃ e', e = e' := ⟨_, rfl⟩
  have HEE := Lib.hid hee
  clear h ok hB he hg hgz hht hC hR hn hF hz
  obtain ⟨k, q, g, v, t⟩ := e'
  have HLS2 : Hid (∀ d W, Calls Try.prog 30 #[d.val, .agg #[.string k, .int .i64 q, .bool g, .string v, .int .i64 t]] W fun r w' => r = .returned (.bool (less d e)) ∧ Below W.heap.size W w') := fun d W => by have := HLS.out d W; rw [hee] at this ⊢; exact this
  have HG2 : Hid (∀ W, Calls Try.prog 29 #[.agg #[.string k, .int .i64 q, .bool g, .string v, .int .i64 t]] W fun r w' => r = .returned (.int .i64 0) ∧ Below W.heap.size W w') := fun W => by have := HG.out W; rw [hee] at this; exact this
  have HCO2 : Hid (∀ W, Below w.heap.size w W → Calls Try.prog 14 #[.pointer (some ⟨r, 0, none⟩), .agg #[.string k, .int .i64 q, .bool g, .string v, .int .i64 t]] W fun v w' => v = .returned (.int .i64 C) ∧ Below W.heap.size W w') := fun W hb => by have := HCO.out W hb; rw [hee] at this; exact this
  have hev : e.val = .agg #[.string k, .int .i64 q, .bool g, .string v, .int .i64 t] := by rw [hee]; rfl
  rw [hev]
  clear HLS HG HCO hee hev
  have hrow := heap_alloc_new w (.cells #[.string k, .int .i64 q, .bool g, .string v, .int .i64 t] 37)
  have hbel := (Below.refl w.heap.size w).alloc (Nat.le_refl _) (.cells #[.string k, .int .i64 q, .bool g, .string v, .int .i64 t] 37)
  have hsz : (w.alloc (.cells #[.string k, .int .i64 q, .bool g, .string v, .int .i64 t] 37)).heap.size = w.heap.size + 1 := by simp
  go_enter Try.func15, Try.ntmps15
  go_wp2_with fail
  generalize w.alloc (.cells #[.string k, .int .i64 q, .bool g, .string v, .int .i64 t] 37) = W0 at hrow hbel hsz ⊢
  obtain ⟨x, hx⟩ : ∃ x, w.heap.size = x := ⟨_, rfl⟩
  have HX := Lib.hid hx
  rw [hx] at hrow hbel hsz hrl ⊢
  clear hx
  refine (HG2.out _).mono ?_
  rintro v0 w1 ⟨rfl, hb⟩
  have HB1 : Hid (Below x w w1) := Lib.hid (hbel.trans (hb.mono (by omega)))
  have HR1 := Lib.hid ((hb.block x (by omega)).trans hrow)
  have hzw1 : x + 1 ≤ w1.heap.size := by have := hb.size; omega
  clear hb hrow hbel hsz HG2
  go_wp2_with fail
  go_loopw [6, 7] (fun at_ i wr => ∃ j : Nat, j ≤ n ∧ i = .int .i64 j ∧ at_ = .int .i64 (min j F : Nat) ∧ Below (x + 1) w1 wr ∧ x + 1 ≤ wr.heap.size ∧ ∀ m, (hm : m < s.l.length) → m < j → SK.same s.l[m] e = false) (fun _ i _ => n - (intOf i).toNat)
  case atStart => exact ⟨0, by omega, rfl, by simp, Below.refl _ _, hzw1, fun m _ h => by omega⟩
  case round =>
    obtain ⟨j, hj, rfl, rfl, hbw, hzw, hbef⟩ := hrel
    have hbw0 : Below w.heap.size w wr := by rw [HX.out]; exact HB1.out.trans (hbw.mono (by omega))
    have hrr := HREP.out.below hbw0
    have hh := hrr.head
    rw [HN.out] at hh
    have hrx : wr.heap[x]? = some (.cells #[.string k, .int .i64 q, .bool g, .string v, .int .i64 t] 37 (0, 0)) := (hbw.block x (by omega)).trans HR1.out
    have HBW := Lib.hid hbw
    have HBW0 := Lib.hid hbw0
    have HBEF := Lib.hid hbef
    by_cases hlt : j < n
    · have hjl : j < s.l.length := by rw [HN.out]; exact hlt
      obtain ⟨b, off, hA, hbl, hc⟩ := hrr.ents.at_ (by omega)
      obtain ⟨z0, z1, z2, z3, z4⟩ := hc j hjl
      have hfa := front_at (e := e) HSO.out j hjl
      rw [HF.out] at hfa
      have hth := fun hs => there_of (e := e) hjl hs
      have c1 : wr.cell? ⟨r, 1, none⟩ = some (.slice LA n lc) := cell_of_row _ _ _ _ _ _ hh
      rw [hA] at c1
      have hrlt : r < wr.heap.size := hrr.lt
      have b0 : wr.cell? ⟨x, 0, none⟩ = some (.string k) := cell_of_row _ _ _ _ _ _ hrx
      have b1 : wr.cell? ⟨x, 1, none⟩ = some (.int .i64 q) := cell_of_row _ _ _ _ _ _ hrx
      have b2 : wr.cell? ⟨x, 2, none⟩ = some (.bool g) := cell_of_row _ _ _ _ _ _ hrx
      have b3 : wr.cell? ⟨x, 3, none⟩ = some (.string v) := cell_of_row _ _ _ _ _ _ hrx
      have b4 : wr.cell? ⟨x, 4, none⟩ = some (.int .i64 t) := cell_of_row _ _ _ _ _ _ hrx
      have HSAME : Hid (∀ d, SK.same d e = decide (d.key = k ∧ d.seq = q)) := fun d => by rw [HEE.out]; rfl
      have hnx : SK.same s.l[j] e = false → ∀ m, (hm : m < s.l.length) → m < j + 1 → SK.same s.l[m] e = false := fun hp m hm hmj => by
        by_cases hmj' : m < j
        · exact hbef m hm hmj'
        · obtain rfl : m = j := by omega
          exact hp
      obtain ⟨d, hd⟩ : ∃ d, s.l[j] = d := ⟨_, rfl⟩
      rw [hd] at z0 z1 z2 z3 z4 hfa hth hnx
      have HNX := Lib.hid hnx
      have HFA := Lib.hid hfa
      have HTH := Lib.hid hth
      have HLD := Lib.hid (fun W => HLS2.out d W)
      have hte := text_eq d.key k
      have hsd := HSAME.out d
      clear hc hd hnx hfa hth hrr hh hrx hbw hbw0 hbef hA
      obtain ⟨L, hL⟩ : ∃ L, less d e = L := ⟨_, rfl⟩
      obtain ⟨sm, hsm⟩ : ∃ sm, SK.same d e = sm := ⟨_, rfl⟩
      rw [hL] at HLD HFA
      rw [hsm] at HNX HTH hsd
      obtain ⟨k2, q2, g2, v2, t2⟩ := d
      simp only [E.val] at z0 z1 z2 z3 z4 hte hsd HLD
      clear hL hsm
      have g0 : (0 : Int) ≤ (j : Int) := by omega
      have g1 : (j : Int) < (n : Int) := by omega
      have HSM := Lib.hid hsd
      cases sm with
      | true =>
        have hkq := hsd.symm
        rw [decide_eq_true_eq] at hkq
        have hkk : (k2.toList == k.toList) = true := by rw [hte]; exact decide_eq_true hkq.1
        have hqq : (q2 == q) = true := beq_iff_eq.2 hkq.2
        have hs11 := HST11.out (HTH.out rfl)
        have HRES : Hid (∀ nd, ∃ LA' lc', RRep B (wr.drewN nd) r cs CA cc LA' lc' R.2 ∧ Keeps [r] w (wr.drewN nd) ∧ (LA' = LA ∨ ∀ x ∈ fb LA', w.heap.size ≤ x ∧ x < (wr.drewN nd).heap.size)) := fun nd => by
          rw [hs11]
          exact ⟨LA, lc, (HREP.out.below HBW0.out).below (below_drewN (Below.refl _ _) nd), Keeps.of_below (below_drewN HBW0.out nd), .inl rfl⟩
        have HR11 : Hid (R.1 = 11) := by rw [hs11]; exact Lib.hid rfl
        clear hkq hte hsd HTH HNX HFA hs11 z2 z3 z4 b2 b3 b4
        go_wp2_with fail
        go_quiet (fail)
        go_wp2
        go_ret
        exact ⟨by rw [HR11.out]; rfl, HRES.out _⟩
      | false =>
        have hkq := hsd.symm
        rw [decide_eq_false_iff_not] at hkq
        have HN2 := Lib.hid (HNX.out rfl)
        have hsplit : (k2.toList == k.toList) = false ∨ ((k2.toList == k.toList) = true ∧ (q2 == q) = false) := by
          rw [hte]
          by_cases hk : k2 = k
          · right
            exact ⟨decide_eq_true hk, beq_eq_false_iff_ne.2 (fun hq => hkq ⟨hk, hq⟩)⟩
          · left
            exact decide_eq_false hk
        clear hkq hte hsd HTH HNX
        rcases hsplit with hkk | ⟨hkk, hqq⟩
        all_goals
          go_wp2_with fail
          go_quiet (fail)
          have hq0 : Below wr.heap.size wr (wr.drewN nq) := below_drewN (Below.refl _ _) nq
          go_wp2_with fail
          generalize wr.drewN nq = wq at hq0 ⊢
          obtain ⟨y1, y2, y3, y4, y5, y6, y7, y8, y9, y10, y11⟩ : wq.cell? ⟨r, 1, none⟩ = some (.slice (some ⟨b, off, none⟩) n lc) ∧ wq.cell? ⟨b, off + j * 5, none⟩ = some (.string k2) ∧ wq.cell? ⟨b, off + j * 5 + 1, none⟩ = some (.int .i64 q2) ∧ wq.cell? ⟨b, off + j * 5 + 2, none⟩ = some (.bool g2) ∧ wq.cell? ⟨b, off + j * 5 + 3, none⟩ = some (.string v2) ∧ wq.cell? ⟨b, off + j * 5 + 4, none⟩ = some (.int .i64 t2) ∧ wq.cell? ⟨x, 0, none⟩ = some (.string k) ∧ wq.cell? ⟨x, 1, none⟩ = some (.int .i64 q) ∧ wq.cell? ⟨x, 2, none⟩ = some (.bool g) ∧ wq.cell? ⟨x, 3, none⟩ = some (.string v) ∧ wq.cell? ⟨x, 4, none⟩ = some (.int .i64 t) := ⟨(hq0.cell (p := ⟨r, 1, none⟩) (by simp; omega)).trans c1, (hq0.cell (p := ⟨b, off + j * 5, none⟩) (by simp; omega)).trans z0, (hq0.cell (p := ⟨b, off + j * 5 + 1, none⟩) (by simp; omega)).trans z1, (hq0.cell (p := ⟨b, off + j * 5 + 2, none⟩) (by simp; omega)).trans z2, (hq0.cell (p := ⟨b, off + j * 5 + 3, none⟩) (by simp; omega)).trans z3, (hq0.cell (p := ⟨b, off + j * 5 + 4, none⟩) (by simp; omega)).trans z4, (hq0.cell (p := ⟨x, 0, none⟩) (by simp; omega)).trans b0, (hq0.cell (p := ⟨x, 1, none⟩) (by simp; omega)).trans b1, (hq0.cell (p := ⟨x, 2, none⟩) (by simp; omega)).trans b2, (hq0.cell (p := ⟨x, 3, none⟩) (by simp; omega)).trans b3, (hq0.cell (p := ⟨x, 4, none⟩) (by simp; omega)).trans b4⟩
          have hq1 := hq0.size
          have HQ := Lib.hid hq0
          clear hq0 c1 z0 z1 z2 z3 z4 b0 b1 b2 b3 b4
          go_region_held3 (fun w' => w'.cell? ⟨r, 1, none⟩ = some (.slice (some ⟨b, off, none⟩) n lc) ∧ w'.cell? ⟨b, off + j * 5, none⟩ = some (.string k2) ∧ w'.cell? ⟨b, off + j * 5 + 1, none⟩ = some (.int .i64 q2) ∧ w'.cell? ⟨b, off + j * 5 + 2, none⟩ = some (.bool g2) ∧ w'.cell? ⟨b, off + j * 5 + 3, none⟩ = some (.string v2) ∧ w'.cell? ⟨b, off + j * 5 + 4, none⟩ = some (.int .i64 t2) ∧ w'.cell? ⟨x, 0, none⟩ = some (.string k) ∧ w'.cell? ⟨x, 1, none⟩ = some (.int .i64 q) ∧ w'.cell? ⟨x, 2, none⟩ = some (.bool g) ∧ w'.cell? ⟨x, 3, none⟩ = some (.string v) ∧ w'.cell? ⟨x, 4, none⟩ = some (.int .i64 t))
            (first | go_keep | exact HS5.out | fail)
            (first
              | (go_at_call 30
                 refine (HLD.out _).mono ?_
                 rintro e w5 ⟨rfl, hbb⟩
                 have HBB := Lib.hid hbb
                 have HS5 : Hid (w5.cell? ⟨r, 1, none⟩ = some (.slice (some ⟨b, off, none⟩) n lc) ∧ w5.cell? ⟨b, off + j * 5, none⟩ = some (.string k2) ∧ w5.cell? ⟨b, off + j * 5 + 1, none⟩ = some (.int .i64 q2) ∧ w5.cell? ⟨b, off + j * 5 + 2, none⟩ = some (.bool g2) ∧ w5.cell? ⟨b, off + j * 5 + 3, none⟩ = some (.string v2) ∧ w5.cell? ⟨b, off + j * 5 + 4, none⟩ = some (.int .i64 t2) ∧ w5.cell? ⟨x, 0, none⟩ = some (.string k) ∧ w5.cell? ⟨x, 1, none⟩ = some (.int .i64 q) ∧ w5.cell? ⟨x, 2, none⟩ = some (.bool g) ∧ w5.cell? ⟨x, 3, none⟩ = some (.string v) ∧ w5.cell? ⟨x, 4, none⟩ = some (.int .i64 t)) := Lib.hid ⟨(hbb.cell (p := ⟨r, 1, none⟩) (by simp; omega)).trans y1, (hbb.cell (p := ⟨b, off + j * 5, none⟩) (by simp; omega)).trans y2, (hbb.cell (p := ⟨b, off + j * 5 + 1, none⟩) (by simp; omega)).trans y3, (hbb.cell (p := ⟨b, off + j * 5 + 2, none⟩) (by simp; omega)).trans y4, (hbb.cell (p := ⟨b, off + j * 5 + 3, none⟩) (by simp; omega)).trans y5, (hbb.cell (p := ⟨b, off + j * 5 + 4, none⟩) (by simp; omega)).trans y6, (hbb.cell (p := ⟨x, 0, none⟩) (by simp; omega)).trans y7, (hbb.cell (p := ⟨x, 1, none⟩) (by simp; omega)).trans y8, (hbb.cell (p := ⟨x, 2, none⟩) (by simp; omega)).trans y9, (hbb.cell (p := ⟨x, 3, none⟩) (by simp; omega)).trans y10, (hbb.cell (p := ⟨x, 4, none⟩) (by simp; omega)).trans y11⟩
                 clear hbb)
              | fail)
          have HB5 : Hid (Below (x + 1) w1 w5) := Lib.hid ((HBW.out.trans (HQ.out.mono (by omega))).trans (Below.trans (Below.refl _ _).drew (HBB.out.mono (by simp; omega))))
          have hz5 : x + 1 ≤ w5.heap.size := by have := HBB.out.size; simp at this; omega
          clear HS5 HBB y1 y2 y3 y4 y5 y6 y7 y8 y9 y10 y11 HLD
          have HMIN : Hid (min (j + 1) F = if L = true then j + 1 else min j F) := Lib.hid (by
            have := HFA.out
            cases L with
            | true => rw [if_pos rfl]; have := this.1 rfl; omega
            | false =>
              rw [if_neg (by decide)]
              have h2 : ¬ j < F := fun h => by have := this.2 h; cases this
              omega)
          cases L with
          | true =>
            go_wp2
            go_roundw
            case rel => exact ⟨j + 1, by omega, by go_num, by rw [HMIN.out, if_pos rfl]; go_num, HB5.out, hz5, HN2.out⟩
            case measure => simp [intOf]; omega
          | false =>
            go_wp2
            go_roundw
            case rel => exact ⟨j + 1, by omega, by go_num, by rw [HMIN.out, if_neg (by decide)], HB5.out, hz5, HN2.out⟩
            case measure => simp [intOf]; omega
    · have hjn : j = n := by omega
      have hmin : (min j F : Nat) = F := by omega
      have hnt : there e s.l = false := not_there fun m hm => hbef m hm (by rw [HN.out] at hm; omega)
      have hs0 := HST0.out hnt
      rw [hmin]
      subst hjn
      clear hmin HBEF hbef hnt
      have c1 : wr.cell? ⟨r, 1, none⟩ = some (.slice LA j lc) := cell_of_row _ _ _ _ _ _ hh
      have hrx0 := hrx
      have b0 : wr.cell? ⟨x, 0, none⟩ = some (.string k) := cell_of_row _ _ _ _ _ _ hrx
      have b1 : wr.cell? ⟨x, 1, none⟩ = some (.int .i64 q) := cell_of_row _ _ _ _ _ _ hrx
      have b2 : wr.cell? ⟨x, 2, none⟩ = some (.bool g) := cell_of_row _ _ _ _ _ _ hrx
      have b3 : wr.cell? ⟨x, 3, none⟩ = some (.string v) := cell_of_row _ _ _ _ _ _ hrx
      have b4 : wr.cell? ⟨x, 4, none⟩ = some (.int .i64 t) := cell_of_row _ _ _ _ _ _ hrx
      have hR2 := Lib.hid hrr
      have HRX := Lib.hid hrx0
      have hrlt : r < wr.heap.size := hrr.lt
      clear hrr hh hrx hrx0 hbw hbw0
      go_wp2_with fail
      refine (HCO2.out _ HBW0.out).mono ?_
      rintro vv w6 ⟨rfl, hb6⟩
      have hr6 := hR2.out.below hb6
      have c2 : w6.cell? ⟨r, 2, none⟩ = some (.int .i64 z) := by
        have := hr6.head
        rw [HZS.out] at this
        exact cell_of_row _ _ _ _ _ _ this
      have f2 : w6.frozen? ⟨r, 2, none⟩ = false := frozen_of_row _ _ _ _ _ hr6.head
      have HR7 := Lib.hid (hr6.setSize (z + C))
      have HK7 : Hid (Keeps [r] w (w6.setCell ⟨r, 2, none⟩ (.int .i64 (z + C)))) := Lib.hid ((Keeps.of_below (HBW0.out.trans (hb6.mono (by have := HBW0.out.size; omega)))).set r 2 _ (.inl (by simp)))
      have HRX7 : Hid ((w6.setCell ⟨r, 2, none⟩ (.int .i64 (z + C))).heap[x]? = some (.cells #[.string k, .int .i64 q, .bool g, .string v, .int .i64 t] 37 (0, 0))) := Lib.hid ((Below.heap_setCell _ _ _ _ (show x ≠ r by omega)).trans ((hb6.block x (by omega)).trans HRX.out))
      have hz7 : x + 1 ≤ (w6.setCell ⟨r, 2, none⟩ (.int .i64 (z + C))).heap.size := by rw [setCell_size]; have := hb6.size; omega
      clear hb6 hr6 c1 b0 b1 b2 b3 b4 hR2 HRX HBW HBW0 HCO2
      go_wp2_with fail
      generalize w6.setCell ⟨r, 2, none⟩ (.int .i64 (z + C)) = w7 at HR7 HK7 HRX7 hz7 ⊢
      clear c2 f2
      go_loopw [10, 11] (fun o i wr => ∃ m : Nat, m ≤ F ∧ i = .int .i64 m ∧ Below w7.heap.size w7 wr ∧ wr.ownsRow w7.heap.size 37 5 o m (ecs (s.l.take m))) (fun _ i _ => F - (intOf i).toNat)
      case atStart => exact ⟨0, by omega, rfl, Below.refl _ _, by simpa [ecs] using World.ownsRow_nil _ _ _ _⟩
      case round =>
        obtain ⟨m, hm, rfl, hbm, hom⟩ := hrel
        have HBM := Lib.hid hbm
        have HOM := Lib.hid hom
        have hsz := hbm.size
        have hrr := HR7.out.below hbm
        have hh := hrr.head
        simp only [HN.out] at hh
        have c1 : wr.cell? ⟨r, 1, none⟩ = some (.slice LA j lc) := cell_of_row _ _ _ _ _ _ hh
        by_cases hlt2 : m < F
        · have hml : m < s.l.length := by rw [HN.out]; omega
          obtain ⟨b, off, hA, hbl, hc⟩ := hrr.ents.at_ (by simp only; omega)
          obtain ⟨z0, z1, z2, z3, z4⟩ := hc m hml
          simp only at z0 z1 z2 z3 z4
          have hec := ecs_snoc (s.l.take m) s.l[m]
          rw [← List.take_succ_eq_append_getElem hml] at hec
          obtain ⟨d, hd⟩ : ∃ d, s.l[m] = d := ⟨_, rfl⟩
          rw [hd] at z0 z1 z2 z3 z4 hec
          obtain ⟨X, hX⟩ : ∃ X, ecs (s.l.take m) = X := ⟨_, rfl⟩
          rw [hX] at HOM hec
          subst hA
          obtain ⟨k2, q2, g2, v2, t2⟩ := d
          simp only [E.cells] at z0 z1 z2 z3 z4 hec
          have HEC := Lib.hid hec
          have g0 : (0 : Int) ≤ (m : Int) := by omega
          have g1 : (m : Int) < (j : Int) := by omega
          have g2' : (m : Int) < (F : Int) := by omega
          clear hc hbm hom hrr hh hd hX hec hbl
          go_wp2_with (at_builtin; refine wpList_append_own _ rfl _ _ 30 rfl (w7.heap.size) 37 i0 _ 5 56 Try.underlying30 hi hz0 hz1 hz2 rfl (by decide) _ _ _ rfl (own_below HOM.out ((Below.refl _ _).alloc (Nat.le_refl _) _)) ⟨wr.heap.size, 0, none⟩ 1 1 [.string k2, .int .i64 q2, .bool g2, .string v2, .int .i64 t2] rfl ?c1 ?c2 ?c3 ?c4 ?c5 ?c6 ?_)
          case c1 => rfl
          case c2 => exact five_cells wr _ _ _ _ _ _
          case c3 => intro u hu; simp at hu; rcases hu with rfl | rfl | rfl | rfl | rfl <;> rfl
          case c4 => unfold maxLen; omega
          case c5 => omega
          case c6 =>
            simp
            try omega
          intro v' w3 hown3 hgrow hnil
          clear hnil
          have HR : Hid (w3.ownsRow w7.heap.size 37 5 v' (m + 1) (ecs (s.l.take (m + 1)))) := Lib.hid (by
            rw [HEC.out]
            exact hown3)
          have HB3 : Hid (Below w7.heap.size w7 w3) := Lib.hid ((HBM.out.alloc hsz _).grown hgrow (by simp; omega) (fun g hg => (HOM.out.lt g hg).1))
          clear hown3 hgrow
          go_wp2
          go_roundw
          case rel => exact ⟨m + 1, by omega, by go_num, HB3.out, HR.out⟩
          case measure => simp [intOf]; omega
        · have hmF : m = F := by omega
          have hrx : wr.heap[x]? = some (.cells #[.string k, .int .i64 q, .bool g, .string v, .int .i64 t] 37 (0, 0)) := (hbm.block x (by omega)).trans HRX7.out
          have b0 : wr.cell? ⟨x, 0, none⟩ = some (.string k) := cell_of_row _ _ _ _ _ _ hrx
          have b1 : wr.cell? ⟨x, 1, none⟩ = some (.int .i64 q) := cell_of_row _ _ _ _ _ _ hrx
          have b2 : wr.cell? ⟨x, 2, none⟩ = some (.bool g) := cell_of_row _ _ _ _ _ _ hrx
          have b3 : wr.cell? ⟨x, 3, none⟩ = some (.string v) := cell_of_row _ _ _ _ _ _ hrx
          have b4 : wr.cell? ⟨x, 4, none⟩ = some (.int .i64 t) := cell_of_row _ _ _ _ _ _ hrx
          subst hmF
          have hec := ecs_snoc (s.l.take m) e
          have HECE : Hid (ecs (s.l.take m ++ [e]) = ecs (s.l.take m) ++ [.string k, .int .i64 q, .bool g, .string v, .int .i64 t]) := Lib.hid (by rw [hec, HEE.out]; rfl)
          clear hec hrr hh hrx hbm hom
          go_wp2_with (at_builtin; refine wpList_append_own _ rfl _ _ 30 rfl (w7.heap.size) 37 i0 _ 5 56 Try.underlying30 hi hz0 hz1 hz2 rfl (by decide) _ _ _ rfl (own_below HOM.out ((Below.refl _ _).alloc (Nat.le_refl _) _)) ⟨wr.heap.size, 0, none⟩ 1 1 [.string k, .int .i64 q, .bool g, .string v, .int .i64 t] rfl ?c1 ?c2 ?c3 ?c4 ?c5 ?c6 ?_)
          case c1 => rfl
          case c2 => exact five_cells wr _ _ _ _ _ _
          case c3 => intro u hu; simp at hu; rcases hu with rfl | rfl | rfl | rfl | rfl <;> rfl
          case c4 => unfold maxLen; omega
          case c5 => omega
          case c6 =>
            simp
            try omega
          intro v' w3 hown3 hgrow hnil
          clear hnil
          have HR : Hid (w3.ownsRow w7.heap.size 37 5 v' (m + 1) (ecs (s.l.take m ++ e :: (s.l.take m).drop m))) := Lib.hid (by
            rw [List.drop_eq_nil_of_le (by rw [List.length_take]; omega), HECE.out]
            exact hown3)
          have HB3 : Hid (Below w7.heap.size w7 w3) := Lib.hid ((HBM.out.alloc hsz _).grown hgrow (by simp; omega) (fun g hg => (HOM.out.lt g hg).1))
          clear hown3 hgrow HOM HBM c1 b0 b1 b2 b3 b4 hsz HECE
          go_wp2_with fail
          go_loopw [10, 12] (fun o i wr => ∃ y : Nat, m ≤ y ∧ y ≤ j ∧ i = .int .i64 y ∧ Below w7.heap.size w7 wr ∧ wr.ownsRow w7.heap.size 37 5 o (y + 1) (ecs (s.l.take m ++ e :: (s.l.take y).drop m))) (fun _ i _ => j - (intOf i).toNat)
          case atStart => exact ⟨m, by omega, by omega, rfl, HB3.out, HR.out⟩
          case round =>
            obtain ⟨y, hmy, hyj, rfl, hbm, hom⟩ := hrel
            have HBM := Lib.hid hbm
            have HOM := Lib.hid hom
            have hsz := hbm.size
            have hrr := HR7.out.below hbm
            have hh := hrr.head
            simp only [HN.out] at hh
            have c1 : wr.cell? ⟨r, 1, none⟩ = some (.slice LA j lc) := cell_of_row _ _ _ _ _ _ hh
            have fc1 : wr.frozen? ⟨r, 1, none⟩ = false := frozen_of_row _ _ _ _ _ hh
            by_cases hlt3 : y < j
            · have hml : y < s.l.length := by rw [HN.out]; omega
              obtain ⟨b, off, hA, hbl, hc⟩ := hrr.ents.at_ (by simp only; omega)
              obtain ⟨z0, z1, z2, z3, z4⟩ := hc y hml
              simp only at z0 z1 z2 z3 z4
              have htk : s.l.take m ++ e :: (s.l.take (y + 1)).drop m = (s.l.take m ++ e :: (s.l.take y).drop m) ++ [s.l[y]] := by
                rw [List.take_succ_eq_append_getElem hml, List.drop_append_of_le_length (by rw [List.length_take]; omega)]
                simp
              have hec := ecs_snoc (s.l.take m ++ e :: (s.l.take y).drop m) s.l[y]
              rw [← htk] at hec
              obtain ⟨d, hd⟩ : ∃ d, s.l[y] = d := ⟨_, rfl⟩
              rw [hd] at z0 z1 z2 z3 z4 hec
              obtain ⟨X, hX⟩ : ∃ X, ecs (s.l.take m ++ e :: (s.l.take y).drop m) = X := ⟨_, rfl⟩
              rw [hX] at HOM hec
              subst hA
              obtain ⟨k2, q2, g2, v2, t2⟩ := d
              simp only [E.cells] at z0 z1 z2 z3 z4 hec
              have HEC := Lib.hid hec
              have g0 : (0 : Int) ≤ (y : Int) := by omega
              have g1 : (y : Int) < (j : Int) := by omega
              clear hc hbm hom hrr hh hd hX hec hbl htk HB3 HR
              go_wp2_with (at_builtin; refine wpList_append_own _ rfl _ _ 30 rfl (w7.heap.size) 37 i0 _ 5 56 Try.underlying30 hi hz0 hz1 hz2 rfl (by decide) _ _ _ rfl (own_below HOM.out ((Below.refl _ _).alloc (Nat.le_refl _) _)) ⟨wr.heap.size, 0, none⟩ 1 1 [.string k2, .int .i64 q2, .bool g2, .string v2, .int .i64 t2] rfl ?c1 ?c2 ?c3 ?c4 ?c5 ?c6 ?_)
              case c1 => rfl
              case c2 => exact five_cells wr _ _ _ _ _ _
              case c3 => intro u hu; simp at hu; rcases hu with rfl | rfl | rfl | rfl | rfl <;> rfl
              case c4 => unfold maxLen; omega
              case c5 => omega
              case c6 =>
                simp
                try omega
              intro v' w3 hown3 hgrow hnil
              clear hnil
              have HR : Hid (w3.ownsRow w7.heap.size 37 5 v' (y + 1 + 1) (ecs (s.l.take m ++ e :: (s.l.take (y + 1)).drop m))) := Lib.hid (by
                rw [HEC.out]
                exact hown3)
              have HB3 : Hid (Below w7.heap.size w7 w3) := Lib.hid ((HBM.out.alloc hsz _).grown hgrow (by simp; omega) (fun g hg => (HOM.out.lt g hg).1))
              clear hown3 hgrow
              go_wp2
              go_roundw
              case rel => exact ⟨y + 1, by omega, by omega, by go_num, HB3.out, HR.out⟩
              case measure => simp [intOf]; omega
            · have hyn : y = j := by omega
              have htk : s.l.take m ++ e :: (s.l.take y).drop m = front e s.l ++ e :: rest e s.l := by
                have h1 : s.l.take y = s.l := List.take_of_length_le (by rw [HN.out]; omega)
                rw [h1, ← HF.out, front_take, rest_drop]
              rw [htk] at hom
              have hle : (front e s.l ++ e :: rest e s.l).length = y + 1 := by
                have h1 := congrArg List.length (front_rest e s.l)
                have h2 := HN.out
                simp at h1 ⊢
                omega
              have hwf : ∀ d ∈ front e s.l ++ e :: rest e s.l, d.wf := fun d hd => by
                have hfr := front_rest e s.l
                rcases List.mem_append.1 hd with hd | hd
                · exact HWF.out d (by rw [← hfr]; exact List.mem_append_left _ hd)
                · rcases List.mem_cons.1 hd with rfl | hd
                  · exact HEW.out
                  · exact HWF.out d (by rw [← hfr]; exact List.mem_append_right _ hd)
              obtain ⟨A', c', hv, hee2, hff⟩ := own_ents hwf hle hom
              have hkw := HK7.out.size
              have hxw := HX.out
              have hbb := HBB0.out
              have hset := hrr.setL A' c' _ hee2 (fun x' hx' => by have := hff x' hx'; omega)
              rw [hle] at hset
              have HRES : Hid (∃ LA' lc', RRep B (wr.setCell ⟨r, 1, none⟩ (.slice A' (y + 1) c')) r cs CA cc LA' lc' R.2 ∧ Keeps [r] w (wr.setCell ⟨r, 1, none⟩ (.slice A' (y + 1) c')) ∧ (LA' = LA ∨ ∀ x ∈ fb LA', w.heap.size ≤ x ∧ x < (wr.setCell ⟨r, 1, none⟩ (.slice A' (y + 1) c')).heap.size)) := Lib.hid (by
                rw [hs0]
                refine ⟨A', c', ?_, ((HK7.out.trans (Keeps.of_below (S := []) hbm) (by simp)).set r 1 _ (.inl (by simp))), .inr fun x' hx' => by have := hff x' hx'; rw [setCell_size]; omega⟩
                rw [HZS.out]
                exact hset)
              have HR0 : Hid (R.1 = 0) := Lib.hid (by rw [hs0])
              subst hv
              subst hyn
              clear hset hee2 hff hom hbm hrr hh htk hle hwf HOM HBM HB3 HR
              go_wp2
              go_ret
              exact ⟨by rw [HR0.out]; rfl, HRES.out⟩

theorem rput_any {B : Nat} {w : World} {r : Nat} {cs : List Int} {CA : Option Addr} {cc : Nat} {LA : Option Addr} {lc : Nat} {s : St} (h : RRep B w r cs CA cc LA lc s) (ok : Ok s) (hB : B ≤ w.heap.size) (e : E) (he : e.wf) (hlen : s.l.length ≤ 1000000) (hcl : cs.length ≤ 140737488351232) :
    Calls Try.prog 15 #[.pointer (some ⟨r, 0, none⟩), e.val] w fun v w' => v = .returned (.int .i64 (s.step cs e).1) ∧
      ∃ LA' lc', RRep B w' r cs CA cc LA' lc' (s.step cs e).2 ∧ Keeps [r] w w' ∧ (LA' = LA ∨ ∀ x ∈ fb LA', w.heap.size ≤ x ∧ x < w'.heap.size) := by
  by_cases hg : good e = 0
  · exact rput_good h ok hB e he hg hlen hcl
  · have hs : s.step cs e = (good e, s) := by
      unfold St.step
      rw [if_pos hg]
    rw [hs]
    refine (rput_bad r e w he hg).mono ?_
    rintro v w' ⟨rfl, hb⟩
    exact ⟨rfl, LA, lc, h.below hb, Keeps.of_below hb, .inl rfl⟩
end Go.Proofs.Ytgnlhnfjanoahaa
