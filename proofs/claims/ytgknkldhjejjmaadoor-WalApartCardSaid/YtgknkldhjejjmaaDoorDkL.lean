/- A loss of power: the walk of lose. -/
import Derived.Test.YtgknkldhjejjmaaDoorDkK
namespace Go.Proofs.YtgknkldhjejjmaaDoor
open Go.RowKit Go.Maps
open DM

/-- what lose leaves -/
def LoseOut (B : Nat) (w : World) (d : Nat) (s : St) (e : Ending) (w' : World) : Prop :=
  e = .returned (.tuple #[]) ∧ Moves B w w' ∧ ∃ g, Rep B w' d s g

theorem lose_fin {B : Nat} {w0 wr : World} {d : Nat} {s : St} {g : Gh} (names : Int) (l : List Int) {bn : Nat} {k : Nat} (hk : rest names (s.queue.length + 1) = k) (hm : Moves B w0 wr)
    (h : ∃ row', Half B wr d { s with lasts := pre s.lasts s.queue k, names := pre s.lasts s.queue k, queue := [], files := lostFs l s.files } { g with q := .slice none 0 0, m1 := some bn, row := row' }
      (((((dC s g (used s.files s.names)).setIfInBounds 5 (.slice none 0 0)).setIfInBounds 3 (.map (some bn))).setIfInBounds 1 (.int .i64 0)).setIfInBounds 1 (.int .i64 (used (lostFs l s.files) (pre s.lasts s.queue k))))) :
    LoseOut B w0 d (loseS s names l) (.returned (.tuple #[])) wr := by
  obtain ⟨row', hh⟩ := h
  refine ⟨rfl, hm, { g with q := .slice none 0 0, m1 := some bn, row := row' }, ?_, ?_, hh.le⟩
  · unfold loseS
    rw [hk]
    exact hh.body
  · rw [hh.at_]
    unfold loseS
    rw [hk]
    simp [dC, lostFs]

theorem lose_start {B : Nat} {w w2 w5 : World} {d : Nat} {s : St} {g : Gh} {C : Array Value} (l : List Int) {X b1 b2 : Nat} {P : Nm} (e1 : g.m1 = some b1) (e2 : g.m2 = some b2) (hP : s.lasts = P) (hBw : B ≤ w.heap.size) (hm : Moves B w w2) (hh : Half B w2 d s g C) (ho : OwnM w2 X P.length (D g.blk P)) (hne : X ≠ b2) (hB : B ≤ X)
    (hrg : w5.ranges Tryd.prog 9 ptrElem X w2.heap.size P.length (D g.blk P) (Maps.has (D g.blk P)) (Maps.size (D g.blk P))) (hg : ((w2.setCell ⟨d, 3, none⟩ (.map (some X))).setCell ⟨d, 1, none⟩ (.int .i64 0)).grownBy w5 none) :
    LoseRel B w d { s with names := P, lasts := P } { g with m1 := some X } (C.setIfInBounds 3 (.map (some X))) l X w2.heap.size (Maps.has (D g.blk P)) (Maps.size (D g.blk P)) w5 := by
  subst hP
  have h1 := hh.renamed e1 e2 ho hne hB
  have h2 := (h1.set 1 (.int .i64 0)).still hg
  have hlf : ∀ p ∈ s.lasts, leftS (Maps.has (D g.blk s.lasts)) p.1 = true := fun p hp => by
    unfold leftS
    rw [D_has]
    cases hf : find s.lasts p.1 with
    | none => exact absurd rfl (find_none hf p hp)
    | some _ => rfl
  have hs2 := hm.size
  have m1 := hm.setCell (p := ⟨d, 3, none⟩) (by omega) hh.le hh.kin (.map (some X))
  have m2 := m1.setCell (p := ⟨d, 1, none⟩) (by rw [setCell_size]; omega) h1.le h1.kin (.int .i64 0)
  refine ⟨hrg, m2.grown hg (by rw [setCell_size, setCell_size]; omega) (fun k e => by cases e), by omega, g.row, ?_⟩
  have hu : usedC { s with names := s.lasts, lasts := s.lasts } l (Maps.has (D g.blk s.lasts)) = .int .i64 0 := by
    unfold usedC
    rw [usedL_start _ hlf]
    rfl
  rw [hu]
  simp only
  rw [fsL_start l s.files hlf]
  exact h2

theorem invK : ∀ key kl, keyOf Tryd.prog 9 key = some kl → ∃ x, key = encStr x := fun key kl hk => by
  obtain ⟨x, hx, _⟩ := Maps.keyOf_str Tryd.underlying9 hk
  exact ⟨x, hx⟩

def mkP (c : Option Nat) : Value := .pointer (c.map fun b => ⟨b, 0, none⟩)
theorem invV : ∀ v y, ptrElem v = some y → ∃ c, v = mkP c := fun v y hv => by
  rcases ptrElem_inv hv with ⟨b, rfl, _⟩ | ⟨rfl, _⟩
  · exact ⟨some b, rfl⟩
  · exact ⟨none, rfl⟩

set_option maxRecDepth 100000 in
set_option maxHeartbeats 2000000 in
theorem lose_some {B : Nat} {w : World} {d : Nat} {s : St} {g : Gh} (h : Rep B w d s g) (ok : Ok s) {b1 b2 : Nat} (e1 : g.m1 = some b1) (e2 : g.m2 = some b2) (hB : B ≤ w.heap.size) (names : Int) (hn : fits names) (A : Option Addr) (cap : Nat) (l : List Int) (hl : l.length ≤ 4611686018427387904) (hst : Stays B w A l) (hfit : ∀ x ∈ l, fits x)
    (hq : s.queue.length < 1099511627776) (hfl : s.files.length < 1099511627776) :
    Calls Tryd.prog 35 #[.pointer (some ⟨d, 0, none⟩), .int .i64 names, .slice A l.length cap] w (LoseOut B w d (loseS s names l)) := by
  obtain ⟨QA, qc, hqs⟩ := q_slice h.half
  have hk := rest_lt names (b := s.queue.length + 1) (by omega)
  obtain ⟨k, hkk⟩ : ∃ k, rest names (s.queue.length + 1) = k := ⟨_, rfl⟩
  have HFIN := Lib.hid (fun (wr : World) (bn : Nat) => @lose_fin B w wr d s g names l bn k hkk)
  have okn := ok_loseS ok names l
  rw [hkk] at hk
  have HREM : Hid (∀ W, Calls Tryd.prog 39 #[.int .i64 names, .int .i64 ((s.queue.length + 1 : Nat) : Int)] W fun e w' => e = .returned (.int .i64 k) ∧ W = w') := fun W => by
    rw [← hkk]; exact rem_any names _ W hn (by omega) (by omega)
  have HSET := Lib.hid (settle_any h.half ok hB rfl rfl k (by omega) hq)
  obtain ⟨P, hP⟩ : ∃ P, pre s.lasts s.queue k = P := ⟨_, rfl⟩
  have ok1 : Ok { s with lasts := P, names := P, queue := [] } := by
    have hg := ok.good k (by omega)
    rw [hP] at hg
    exact { ok with good := fun j _ => by simpa [pre] using hg, names := by simp [pre], ents := by simp }
  have HOK1 := Lib.hid ok1
  have c5 := h.cells.2.2.2.2.2.1
  rw [hqs] at c5
  obtain ⟨qn, hqn⟩ : ∃ qn, s.queue.length = qn := ⟨_, rfl⟩
  rw [hqn] at HREM c5 hq hk
  obtain ⟨M, hM⟩ : ∃ M, qn + 1 = M := ⟨_, rfl⟩
  rw [hM] at HREM
  have v1 : (qn : Int) + 1 = (M : Int) := by omega
  unfold SettleOut at HSET
  rw [hP] at HSET HFIN
  have HST := Lib.hid hst
  have HFI := Lib.hid hfit
  have HE1 := Lib.hid e1
  have HE2 := Lib.hid e2
  obtain ⟨C, hC⟩ : ∃ C, dC s g (used s.files s.names) = C := ⟨_, rfl⟩
  rw [hC] at HSET HFIN
  have hC4 : Hid (C[4]? = some (.map (some b2))) := by rw [← hC, ← e2]; rfl
  have hC3 : Hid (3 < C.size) := by rw [← hC]; show 3 < 11; omega
  clear h ok hn hst hfit hkk hqs okn ok1 hqn hM hP hC e1 e2
  go_enter Tryd.func35, Tryd.ntmps35
  go_wp2_with fail
  refine (HREM.out _).mono ?_
  rintro e w0 ⟨rfl, rfl⟩
  go_wp2_with fail
  refine HSET.out.mono ?_
  rintro e w1 ⟨rfl, hm1, hh1⟩
  have k4 := (hh1.cells 4)
  rw [Array.getElem?_setIfInBounds_ne (by decide)] at k4
  have k4' := k4.trans hC4.out
  have hs1 := hm1.size
  obtain ⟨es, clock, hes, hown⟩ : ∃ es clock, w1.heap[b2]? = some (.map es clock) ∧ (∀ W : World, W.heap = (w1.alloc (.map es clock)).heap → OwnM W w1.heap.size P.length (D g.blk P)) := by
    rcases hh1.body.maps with ⟨e, _⟩ | ⟨_, b, _, e, _, _, _, _, o2⟩
    · rw [HE1.out] at e; cases e
    · rw [HE2.out] at e; cases e
      obtain ⟨es, clock, hb, hr⟩ := o2
      exact ⟨es, clock, hb, fun W hW => ⟨es, clock, by rw [hW]; exact heap_alloc_new w1 _, hr⟩⟩
  have HM2 : Hid (Moves B w (w1.alloc (.map es clock))) := hm1.alloc (by omega) _
  have HH2 := Lib.hid (hh1.alloc (.map es clock))
  have HO2 : Hid (OwnM (w1.alloc (.map es clock)) w1.heap.size P.length (D g.blk P)) := hown _ rfl
  have HCL := Lib.hid (clone_map b2 es clock w1 hes)
  have hbl : Hid (b2 < w1.heap.size) := (Array.getElem?_eq_some_iff.1 hes).1
  have hX : ∃ X, w1.heap.size = X := ⟨_, rfl⟩
  have HBX : Hid (B ≤ w1.heap.size) := by show B ≤ w1.heap.size; omega
  clear k4 hm1 hh1 hes hown
  go_wp2_with fail
  refine HCL.out.mono ?_
  rintro e w2 ⟨rfl, rfl⟩
  clear HCL
  generalize w1.alloc (.map es clock) = w2 at HM2 HH2 HO2 ⊢
  obtain ⟨X, hX⟩ := hX
  rw [hX] at HO2 hbl HBX ⊢
  clear hX k4'
  have f3 := HH2.out.frozen 3
  have f1 := HH2.out.frozen 1
  have x3 : w2.cell? ⟨d, 3, none⟩ = some (C[3]'hC3.out) := by
    rw [HH2.out.cells 3, Array.getElem?_setIfInBounds_ne (by decide), Array.getElem?_eq_getElem hC3.out]
  have x1 : w2.cell? ⟨d, 1, none⟩ = some (C[1]'(by have := hC3.out; omega)) := by
    rw [HH2.out.cells 1, Array.getElem?_setIfInBounds_ne (by decide), Array.getElem?_eq_getElem (by have := hC3.out; omega)]
  have HO3 : Hid (OwnM ((w2.setCell ⟨d, 3, none⟩ (.map (some X))).setCell ⟨d, 1, none⟩ (.int .i64 0)) X P.length (D g.blk P)) :=
    (HO2.out.kept (grownBy_setCell w2 ⟨d, 3, none⟩ _) (fun e => HO2.out.ne HH2.out.at_ (Option.some.inj e))).kept (grownBy_setCell _ ⟨d, 1, none⟩ _) (fun e => HO2.out.ne HH2.out.at_ (Option.some.inj e))
  have HSTART := Lib.hid (fun w5 => @lose_start B w w2 w5 d { s with lasts := P, queue := [] } { g with q := .slice none 0 0 } (C.setIfInBounds 5 (.slice none 0 0)) l X b1 b2 P HE1.out HE2.out rfl hB HM2.out HH2.out HO2.out (by have := hbl.out; omega) HBX.out)
  go_wp2_with (at_range; refine wpList_range_own _ rfl _ 52 rfl 9 68 keyLaw Tryd.underlying52 _ X P.length (D g.blk P) rfl HO3.out ?_; intro w5 hrg5 hg5 hs5; have HREL := Lib.hid (HSTART.out w5 (by simpa using hrg5) hg5); clear hrg5 hg5 hs5)
  go_frame
  obtain ⟨S1, hS1⟩ : ∃ S1 : St, ({ s with lasts := P, names := P, queue := [] } : St) = S1 := ⟨_, rfl⟩
  obtain ⟨G1, hG1⟩ : ∃ G1 : Gh, ({ g with m1 := some X, q := .slice none 0 0 } : Gh) = G1 := ⟨_, rfl⟩
  obtain ⟨C1, hC1⟩ : ∃ C1 : Array Value, (C.setIfInBounds 5 (.slice none 0 0)).setIfInBounds 3 (.map (some X)) = C1 := ⟨_, rfl⟩
  have HREL2 : Hid (LoseRel B w d S1 G1 C1 l X w2.heap.size (Maps.has (D G1.blk S1.names)) (Maps.size (D G1.blk S1.names)) w5) := by
    rw [← hS1, ← hG1, ← hC1]; exact HREL.out
  have HOKS : Hid (Ok S1) := by rw [← hS1]; exact HOK1.out
  have hC1s : Hid (1 < C1.size) := by
    rw [← hC1]
    have h3 : 3 < C.size := hC3.out
    show 1 < _
    rw [Array.size_setIfInBounds, Array.size_setIfInBounds]
    omega
  have HFIN2 : Hid (∀ wr, (Moves B w wr ∧ ∃ row', Half B wr d { S1 with files := lostFs l S1.files } { G1 with row := row' } (C1.setIfInBounds 1 (.int .i64 (used (lostFs l S1.files) S1.names)))) → LoseOut B w d (loseS s names l) (.returned (.tuple #[])) wr) := fun wr ⟨hm, row', hh⟩ => by
    rw [← hS1, ← hG1, ← hC1] at hh
    refine HFIN.out wr X hm ⟨row', ?_⟩
    have he : (((C.setIfInBounds 5 (.slice none 0 0)).setIfInBounds 3 (.map (some X))).setIfInBounds 1 (.int .i64 0)).setIfInBounds 1 (.int .i64 (used (lostFs l s.files) P)) = ((C.setIfInBounds 5 (.slice none 0 0)).setIfInBounds 3 (.map (some X))).setIfInBounds 1 (.int .i64 (used (lostFs l s.files) P)) := by simp
    rw [he]
    exact hh
  have hS1q : Hid (S1.queue = [] ∧ S1.lasts = S1.names ∧ S1.files.length < 1099511627776) := by rw [← hS1]; exact ⟨rfl, rfl, hfl⟩
  obtain ⟨r, hr⟩ : ∃ r, w2.heap.size = r := ⟨_, rfl⟩
  rw [hr] at HREL2
  rw [setCell_size, setCell_size, hr]
  clear HREL HSTART HFIN HM2 HH2 HO2 HO3 x1 x3 f1 f3 hS1 hG1 hC1 hr HOK1 hC3 hC4 hbl HBX
  go_loopw [7] (fun _ wr => ∃ (left : Lit → Bool) (cnt : Nat), LoseRel B w d S1 G1 C1 l X r left cnt wr) (fun _ wr => wr.rangeLeft X r)
  case atStart => exact ⟨_, _, HREL2.out⟩
  case round =>
    clear HREL2
    obtain ⟨left, cnt, hrel⟩ := hrel
    have HR := Lib.hid hrel
    have HRG := Lib.hid hrel.1
    clear hrel
    go_wp2_with (at_next; refine wpList_next_ranges _ rfl _ rfl 9 keyLaw ptrElem encStr mkP invK invV X r _ _ left cnt rfl HRG.out ?_ ?_)
    · intro _ hl0
      have HE := Lib.hid (HFIN2.out wr (lose_end HR.out HOKS.out hS1q.out.1 hS1q.out.2.1 hl0))
      clear hl0
      go_wp2
      go_end0
      exact HE.out
    · intro x c kl yd yp w6 cnt2 hkey hlk hv hat hrg2 hlt2 hg2 hs2 hen
      obtain ⟨m, row', rfl, rfl, hmid⟩ := lose_mid HR.out hkey hlk hv hat hrg2 hg2 hB
      have HMID := Lib.hid hmid
      have HCNT := Lib.hid hlt2
      obtain ⟨hfm, hml⟩ := mid_file hmid HOKS.out
      have hbk : Hid (G1.blk m = G1.blk m) := rfl
      have HFL := Lib.hid (flose_any hfm (HOKS.out.files _ (fileAt_mem hml)) A cap l hl (HST.out.moved hmid.moves) HFI.out (by have := hS1q.out.2.2; omega))
      have hen' : (Instr.entry (.pointer (some ⟨r, 0, none⟩))).run Tryd.prog w6 = .ok (.tuple #[encStr x, .pointer (some ⟨G1.blk m, 0, none⟩)]) w6 := hen
      obtain ⟨bk, hbk⟩ : ∃ bk, G1.blk m = bk := ⟨_, rfl⟩
      have HBK := Lib.hid hbk
      have HFL' : Hid (Calls Tryd.prog 64 #[.pointer (some ⟨bk, 0, none⟩), .slice A l.length cap] w6 (FLoseOut B w6 { G1 with row := row' } m (loseF l m (fileAt S1 m)))) := by rw [← hbk]; exact HFL.out
      rw [hbk] at hen'
      clear hkey hlk hv hat hrg2 hlt2 hg2 hs2 hen hmid hfm hml hbk HFL
      unfold mkP
      simp only [Option.map_some]
      rw [HBK.out]
      go_wp2_with fail
      refine HFL'.out.mono ?_
      rintro e w7 hfo
      obtain ⟨row2, A2, c2, hcell, hm7, hrg7, hh7⟩ := lose_file HMID.out HOKS.out hB hfo
      obtain rfl : e = .returned (.tuple #[]) := hfo.1
      have hll : lens (lostFs l S1.files) m ≤ 1048576 := (ok_loseS HOKS.out 0 l).lens_le m
      have hul : usedL (lostFs l S1.files) S1.names (leftS left) ≤ 4294967296 := by
        have h1 := usedL_le (fs := lostFs l S1.files) (names := S1.names) (left := leftS left) (M := 1048576) (fun n => (ok_loseS HOKS.out 0 l).lens_le n)
        have h2 := HOKS.out.gnames.few
        have h3 : S1.names.length * 1048576 ≤ 4096 * 1048576 := Nat.mul_le_mul_right _ h2
        omega
      rw [HBK.out] at hcell
      have k1 : w7.cell? ⟨d, 1, none⟩ = some (usedC S1 l left) := by
        rw [hh7.cells 1, Array.getElem?_setIfInBounds_self_of_lt hC1s.out]
      unfold usedC at k1
      have fr1 := hh7.frozen 1
      have HNX := Lib.hid (fun (wr : World) (hm : Moves B w wr) (hrg) (hh) => @lose_next B w d S1 G1 C1 l X r left cnt2 x m row2 wr HOKS.out hB hm HMID.out.iter HMID.out.mem HMID.out.here hrg hh)
      have HNX2 := Lib.hid (HNX.out { w7 with drawn := w7.drawn + 1 } hm7.drew hrg7 hh7.drew)
      have HCN : Hid (∀ W, LoseRel B w d S1 G1 C1 l X r (fun z => left z && !z.sameKey (.string x)) cnt2 W → W.rangeLeft X r < wr.rangeLeft X r) := fun W hW => by
        rw [hW.1.left_eq, HRG.out.left_eq]; exact HCNT.out
      obtain ⟨UL, hUL⟩ : ∃ UL, usedL (lostFs l S1.files) S1.names (leftS left) = UL := ⟨_, rfl⟩
      obtain ⟨LL, hLL⟩ : ∃ LL, lens (lostFs l S1.files) m = LL := ⟨_, rfl⟩
      rw [hUL] at k1 hul HNX2
      rw [hLL] at hcell hll HNX2
      have y1 : ({ w7 with drawn := w7.drawn + 1 } : World).cell? ⟨d, 1, none⟩ = some (.int .i64 UL) := k1
      have y2 : ({ w7 with drawn := w7.drawn + 1 } : World).cell? ⟨bk, 1, none⟩ = some (.slice A2 LL c2) := hcell
      have y3 : ({ w7 with drawn := w7.drawn + 1 } : World).frozen? ⟨d, 1, none⟩ = false := fr1
      clear hfo hm7 hrg7 hh7 hUL hLL k1 hcell fr1 HNX HFL' HMID HCNT hen'
      go_wp2_with fail
      refine wp_region_still_tail 12 (by kernel_rfl) (by kernel_rfl) ?_
      simp only [List.take_succ_cons, List.take_zero, List.drop_succ_cons, List.drop_zero]
      generalize ({ w7 with drawn := w7.drawn + 1 } : World) = w8 at HNX2 y1 y2 y3 ⊢
      repeat still_step
      refine wpStill_nil ?_
      go_wp2
      have HN3 : Hid (LoseRel B w d S1 G1 C1 l X r (fun z => left z && !z.sameKey (.string x)) cnt2 (w8.setCell ⟨d, 1, none⟩ (.int .i64 ((UL : Int) + (LL : Int))))) := by
        have := HNX2.out
        rw [show ((UL + LL : Nat) : Int) = (UL : Int) + (LL : Int) from by omega] at this
        exact this
      go_roundw
      case rel => exact ⟨_, cnt2, HN3.out⟩
      case measure => exact HCN.out _ HN3.out

set_option maxRecDepth 100000 in
set_option maxHeartbeats 2000000 in
theorem lose_none {B : Nat} {w : World} {d : Nat} {s : St} {g : Gh} (h : Rep B w d s g) (ok : Ok s) (e1 : g.m1 = none) (hB : B ≤ w.heap.size) (names : Int) (hn : fits names) (A : Option Addr) (cap : Nat) (l : List Int) :
    Calls Tryd.prog 35 #[.pointer (some ⟨d, 0, none⟩), .int .i64 names, .slice A l.length cap] w (LoseOut B w d (loseS s names l)) := by
  obtain ⟨hnm, hls, hqe, e2⟩ : s.names = [] ∧ s.lasts = [] ∧ s.queue = [] ∧ g.m2 = none := by
    rcases h.body.maps with ⟨_, h4, h1, h2, h3⟩ | ⟨b1, b2, e, _⟩
    · exact ⟨h1, h2, h3, h4⟩
    · rw [e1] at e; cases e
  have hk : rest names (s.queue.length + 1) = 0 := by
    have := rest_lt names (b := s.queue.length + 1) (by omega)
    rw [hqe] at this ⊢
    simp at this ⊢
    omega
  have HREM : Hid (∀ W, Calls Tryd.prog 39 #[.int .i64 names, .int .i64 1] W fun e w' => e = .returned (.int .i64 0) ∧ W = w') := fun W => by
    have := rem_any names 1 W hn (by omega) (by omega)
    have h0 : rest names 1 = 0 := by have := rest_lt names (b := 1) (by omega); omega
    rw [h0] at this
    exact this
  have HSET := Lib.hid (settle_any h.half ok hB rfl rfl 0 (by omega) (by rw [hqe]; decide))
  have hpre : pre s.lasts s.queue 0 = [] := by rw [hls]; rfl
  unfold SettleOut at HSET
  rw [hpre] at HSET
  obtain ⟨QA, qc, hqs⟩ := q_slice h.half
  have c5 := h.cells.2.2.2.2.2.1
  rw [hqs, hqe] at c5
  have c5' : w.cell? ⟨d, 5, none⟩ = some (.slice QA 0 qc) := c5
  have hfin : Hid (∀ W W2 : World, Moves B w W → Half B W d { s with lasts := [], queue := [] } { g with q := .slice none 0 0 } ((dC s g (used s.files s.names)).setIfInBounds 5 (.slice none 0 0)) → W2 = (((W.setCell ⟨d, 3, none⟩ (.map none)).setCell ⟨d, 1, none⟩ (.int .i64 0)).alloc (.mapIter none 0 #[] 0)) → LoseOut B w d (loseS s names l) (.returned (.tuple #[])) W2) := fun W W2 hm hh hW2 => by
    subst hW2
    have hs := hm.size
    have h3 := ((hh.set 3 (.map none)).set 1 (.int .i64 0)).alloc (.mapIter none 0 #[] 0)
    have m1 := hm.setCell (p := ⟨d, 3, none⟩) (by omega) hh.le hh.kin (.map none)
    have m2 := m1.setCell (p := ⟨d, 1, none⟩) (by rw [setCell_size]; omega) hh.le (hh.set 3 _).kin (.int .i64 0)
    have hl : loseS s names l = { s with files := lostFs l s.files, names := [], lasts := [], queue := [] } := by
      unfold loseS
      rw [hk, hpre]
    refine ⟨rfl, m2.alloc (by rw [setCell_size, setCell_size]; omega) _, { g with q := .slice none 0 0, m1 := none, m2 := none }, ?_⟩
    rw [hl]
    refine ⟨⟨.inl ⟨rfl, rfl, rfl, rfl, rfl⟩, World.ownsRow_nil _ _ _ _, fun n hn => ?_, fun n m hn => ?_, h3.body.cut, h3.body.bk⟩, ?_, h3.le⟩
    · rcases hn with ⟨p, hp, _⟩ | ⟨e, he, _⟩
      · cases hp
      · cases he
    · rcases hn with ⟨p, hp, _⟩ | ⟨e, he, _⟩
      · cases hp
      · cases he
    · rw [h3.at_]
      simp [dC, lostFs, e2, used]
  have hC4 : Hid ((dC s g (used s.files s.names))[4]? = some (.map none)) := by rw [← e2]; rfl
  have hC3 : Hid ((dC s g (used s.files s.names))[3]? = some (.map none)) := by rw [← e1]; rfl
  have hC1 : Hid ((dC s g (used s.files s.names))[1]? = some (.int .i64 (used s.files s.names))) := rfl
  obtain ⟨C, hC⟩ : ∃ C, dC s g (used s.files s.names) = C := ⟨_, rfl⟩
  rw [hC] at HSET hfin hC4 hC3 hC1
  have hrg := fun W : World => run_range_nilMap (P := Tryd.prog) W 52 9 68 Tryd.underlying52
  clear h ok e1 hn hnm hls hqe e2 hk hpre hqs hC c5
  go_enter Tryd.func35, Tryd.ntmps35
  go_wp2_with fail
  refine (HREM.out _).mono ?_
  rintro e w0 ⟨rfl, rfl⟩
  go_wp2_with fail
  refine HSET.out.mono ?_
  rintro e w1 ⟨rfl, hm1, hh1⟩
  have k4 : w1.cell? ⟨d, 4, none⟩ = some (.map none) := by rw [hh1.cells 4, Array.getElem?_setIfInBounds_ne (by decide)]; exact hC4.out
  have k3 : w1.cell? ⟨d, 3, none⟩ = some (.map none) := by rw [hh1.cells 3, Array.getElem?_setIfInBounds_ne (by decide)]; exact hC3.out
  have k1 : w1.cell? ⟨d, 1, none⟩ = some (.int .i64 (used s.files s.names)) := by rw [hh1.cells 1, Array.getElem?_setIfInBounds_ne (by decide)]; exact hC1.out
  have f3 := hh1.frozen 3
  have f1 := hh1.frozen 1
  have hdl := hh1.lt
  have HEND := Lib.hid (fun W2 => hfin.out w1 W2 hm1 hh1)
  have hnx : ∀ ty, (Instr.next (.pointer (some ⟨((w1.setCell ⟨d, 3, none⟩ (.map none)).setCell ⟨d, 1, none⟩ (.int .i64 0)).heap.size, 0, none⟩)) false ty).run Tryd.prog (((w1.setCell ⟨d, 3, none⟩ (.map none)).setCell ⟨d, 1, none⟩ (.int .i64 0)).alloc (.mapIter none 0 #[] 0)) = _ := fun ty => run_next_nilMap ((w1.setCell ⟨d, 3, none⟩ (.map none)).setCell ⟨d, 1, none⟩ (.int .i64 0)) ty 0 0 #[]
  simp only [setCell_size] at hnx
  clear hm1 hh1 hfin
  go_wp2_with fail
  refine (clone_nil _).mono ?_
  rintro e w2 ⟨rfl, rfl⟩
  go_wp2_with fail
  refine wp_loop_rounds 1 ?_
  rw [rounds_succ]
  go_wp2
  go_end0
  exact HEND.out _ rfl

/-- a loss of power -/
theorem lose_any {B : Nat} {w : World} {d : Nat} {s : St} {g : Gh} (h : Rep B w d s g) (ok : Ok s) (hB : B ≤ w.heap.size) (names : Int) (hn : fits names) (A : Option Addr) (cap : Nat) (l : List Int) (hl : l.length ≤ 4611686018427387904) (hst : Stays B w A l) (hfit : ∀ x ∈ l, fits x)
    (hq : s.queue.length < 1099511627776) (hfl : s.files.length < 1099511627776) :
    Calls Tryd.prog 35 #[.pointer (some ⟨d, 0, none⟩), .int .i64 names, .slice A l.length cap] w (LoseOut B w d (loseS s names l)) := by
  rcases h.body.maps with ⟨e, _⟩ | ⟨b1, b2, e1, e2, _⟩
  · exact lose_none h ok e hB names hn A cap l
  · exact lose_some h ok e1 e2 hB names hn A cap l hl hst hfit hq hfl

theorem on_nil (w : World) : Calls Tryd.prog 36 #[.pointer none] w fun e w' => e = .returned (.tuple #[]) ∧ w = w' := by
  go_enter Tryd.func36, Tryd.ntmps36
  go_wp2
  exact bodyPost_ret (v := .tuple #[]) (by simp [results, Tryd.results36, go_sem]) rfl ⟨rfl, rfl⟩

theorem on_rep {B : Nat} {w W : World} {d : Nat} {s : St} {g : Gh} (h : Rep B w d s g) (hB : B ≤ w.heap.size)
    (hW : W = (((((w.setCell ⟨d, 6, none⟩ (.bool false)).setCell ⟨d, 7, none⟩ (.int .i64 0)).setCell ⟨d, 8, none⟩ (.int .i64 0)).setCell ⟨d, 9, none⟩ (.slice none 0 0)).setCell ⟨d, 10, none⟩ (.int .i64 0))) :
    Moves B w W ∧ ∃ g, Rep B W d (on s) g := by
  subst hW
  have h6 := h.half.set 6 (.bool false)
  have h7 := h6.set 7 (.int .i64 0)
  have h8 := h7.set 8 (.int .i64 0)
  have h9 := h8.set 9 (.slice none 0 0)
  have h10 := h9.set 10 (.int .i64 0)
  refine ⟨(((((Moves.refl B w).setCell (p := ⟨d, 6, none⟩) hB h.le h.half.kin _).setCell (p := ⟨d, 7, none⟩) (by simpa [setCell_size] using hB) h.le h6.kin _).setCell (p := ⟨d, 8, none⟩) (by simpa [setCell_size] using hB) h.le h7.kin _).setCell (p := ⟨d, 9, none⟩) (by simpa [setCell_size] using hB) h.le h8.kin _).setCell (p := ⟨d, 10, none⟩) (by simpa [setCell_size] using hB) h.le h9.kin _, { g with cv := .slice none 0 0, bk := 0 }, ?_, ?_, h10.le⟩
  · exact ⟨h10.body.maps, h10.body.queue, h10.body.files, h10.body.apart, World.ownsRow_nil _ _ _ _, fun _ => rfl, Int.le_refl 0, (by decide : (0 : Int) ≤ 9223372036854775807)⟩
  · rw [h10.at_]
    simp [dC, on]

set_option maxRecDepth 100000 in
set_option maxHeartbeats 1000000 in
theorem on_any {B : Nat} {w : World} {d : Nat} {s : St} {g : Gh} (h : Rep B w d s g) (hB : B ≤ w.heap.size) :
    Calls Tryd.prog 36 #[.pointer (some ⟨d, 0, none⟩)] w (LoseOut B w d (on s)) := by
  have HE := Lib.hid (fun W hW => @on_rep B w W d s g h hB hW)
  have c6 := h.half.cells 6
  have c7 := h.half.cells 7
  have c8 := h.half.cells 8
  have c9 := h.half.cells 9
  have c10 := h.half.cells 10
  simp only [dC] at c6 c7 c8 c9 c10
  have f6 := h.half.frozen 6
  have f7 := h.half.frozen 7
  have f8 := h.half.frozen 8
  have f9 := h.half.frozen 9
  have f10 := h.half.frozen 10
  clear h
  go_enter Tryd.func36, Tryd.ntmps36
  go_wp2
  go_end0
  obtain ⟨h1, h2⟩ := HE.out _ rfl
  exact ⟨rfl, h1, h2⟩
end Go.Proofs.YtgknkldhjejjmaaDoor
