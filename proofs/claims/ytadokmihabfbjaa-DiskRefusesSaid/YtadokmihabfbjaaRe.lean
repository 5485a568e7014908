/- DiskRefuses: a call that is refused leaves the disk as it is. For every room, every script, every call. Made by gen_re.py. -/
import Derived.Test.YtadokmihabfbjaaAcH
import Derived.Outline
namespace Go.Proofs.Ytadokmihabfbjaa
open Go.ChangeShapes Go.WideShapes Go.ChangeAt Go.RowKit Go.Maps
open DM

theorem run_slice_acts (W : World) (A : Option Addr) (n cap m : Nat) (h : m ≤ cap) : (Instr.slice 22 (.slice A n cap) none (some (.int .i64 (m : Int))) none).run Try.prog W = .ok (.slice A m cap) W := by
  have hs : ∀ w, (sizeOf (Try.prog.elem 22)).run Try.prog w = .ok 6 w := fun w => by kernel_rfl
  rw [run_slice_h W 22 A n cap (by kernel_rfl) .i64 (m : Int) (by omega) (by omega), hs]
  simp only [Result.andThen, sliced, Int.toNat_natCast, Nat.sub_zero, Nat.zero_mul, add_zero', Option.map_id']
  split <;> rfl

theorem same_new (room : Int) : Same (RS.new room) (DM.new room) := ⟨rfl, rfl, rfl, rfl, rfl, rfl, rfl, fun _ => rfl, fun _ => rfl, rfl, fun e he => by simp [DM.new] at he⟩

theorem duo_new1 (room : Int) (w : World) (hr : fits room) {B : Nat} (hB : w.heap.size = B) :
    Calls Try.prog 5 #[.int .i64 room] w fun e w' => ∃ d, e = .returned (.pointer (some ⟨d, 0, none⟩)) ∧ Live B w w' d (DM.new room) 0 140737488355328 := by
  subst hB
  exact (live_new room w w w.heap.size (Moves.refl _ _) (Nat.le_refl _) hr 0 140737488355328 (by omega)).mono fun _ _ ⟨he, hl⟩ => ⟨_, he, hl⟩
theorem duo_new2 (room : Int) {w w1 : World} {d B : Nat} (h : Live B w w1 d (DM.new room) 0 140737488355328) :
    Calls Try.prog 6 #[.int .i64 room] w1 fun e w' => ∃ r, e = .returned (.pointer (some ⟨r, 0, none⟩)) ∧ Duo none B w w' d r (DM.new room) 0 140737488355328 :=
  (rnew_any room w1 B h.le').mono fun _ _ ⟨r, he, ⟨g, hg⟩, hb⟩ => ⟨r, he, h.moves.below.trans (hb.mono h.le'), (h.still hb).rebase, ⟨_, g, hg, same_new room⟩, fun x C e => by cases e⟩

/-! ### a call that is refused -/
namespace DM
/-- what List, Used, Read tell is the same -/
def Seen (s s' : St) : Prop := s'.names = s.names ∧ s'.files = s.files ∧ s'.off = s.off
theorem seen_same {s s' : St} {c c' : Int} (h : (c', s) = (c, s')) : Seen s s' := by
  simp only [Prod.mk.injEq] at h
  rw [← h.2]; exact ⟨rfl, rfl, rfl⟩
theorem change_seen {ahead : Bool} {go : St → St} {s s' : St} {c : Int} (h : change ahead go s = (c, s')) (h0 : c ≠ 0) (h13 : c ≠ 13) : Seen s s' := by
  unfold change at h
  split at h
  · simp only [Prod.mk.injEq] at h; exact absurd h.1.symm h13
  · split at h
    · simp only [Prod.mk.injEq] at h; rw [← h.2]; exact ⟨rfl, rfl, rfl⟩
    · simp only [Prod.mk.injEq] at h; exact absurd h.1.symm h0
theorem create_seen {a : Bs} {s s' : St} {c : Int} (h : create a s = (c, s')) (h0 : c ≠ 0) (h13 : c ≠ 13) : Seen s s' := by
  unfold create at h
  split at h
  · exact seen_same h
  · split at h
    · exact seen_same h
    · split at h
      · exact seen_same h
      · split at h
        · exact seen_same h
        · exact change_seen h h0 h13
theorem append_seen {a b : Bs} {s s' : St} {c : Int} (h : append a b s = (c, s')) (h0 : c ≠ 0) (h13 : c ≠ 13) : Seen s s' := by
  unfold append at h
  split at h
  · exact seen_same h
  · split at h
    · exact seen_same h
    · split at h
      · exact seen_same h
      · exact change_seen h h0 h13
theorem sync_seen {a : Bs} {s s' : St} {c : Int} (h : sync a s = (c, s')) (h0 : c ≠ 0) (h13 : c ≠ 13) : Seen s s' := by
  unfold sync at h
  split at h
  · exact seen_same h
  · split at h
    · exact seen_same h
    · exact change_seen h h0 h13
theorem rename_seen {a b : Bs} {s s' : St} {c : Int} (h : rename a b s = (c, s')) (h0 : c ≠ 0) (h13 : c ≠ 13) : Seen s s' := by
  unfold rename at h
  split at h
  · exact seen_same h
  · split at h
    · exact seen_same h
    · split at h
      · exact seen_same h
      · exact change_seen h h0 h13
theorem remove_seen {a : Bs} {s s' : St} {c : Int} (h : remove a s = (c, s')) (h0 : c ≠ 0) (h13 : c ≠ 13) : Seen s s' := by
  unfold remove at h
  split at h
  · exact seen_same h
  · split at h
    · exact seen_same h
    · exact change_seen h h0 h13
theorem read_seen {s s' : St} (h : Seen s s') (a : Bs) : read a s' = read a s := by
  unfold read fileAt
  rw [h.1, h.2.1, h.2.2]
theorem used_seen {s s' : St} (h : Seen s s') : used s'.files s'.names = used s.files s.names := by rw [h.1, h.2.1]
end DM

theorem info_text : (Try.prog.info? 9).map (fun i => (i.zero, i.size, i.bytes)) = some (some (.string ⟨#[]⟩), 1, 16) := by kernel_rfl

/-! ### rows of texts -/
def TextRow (w : World) (A : Option Addr) (xs : List Bs) : Prop := 0 < xs.length → ∃ b, A = some ⟨b, 0, none⟩ ∧ ∃ c : Array Value, w.heap[b]? = some (.cells c 9 (0, 0)) ∧ ∀ (j : Nat) (x : Bs), xs[j]? = some x → c[j]? = some (encS x)

theorem TextRow.kept {w w' : World} {A : Option Addr} {xs : List Bs} (h : TextRow w A xs) (hk : ∀ (b : Nat) (c : Array Value) (fr : Nat × Nat), w.heap[b]? = some (.cells c 9 fr) → w'.heap[b]? = some (.cells c 9 fr)) : TextRow w' A xs := fun hp => by
  obtain ⟨b, hA, c, hc, hx⟩ := h hp
  exact ⟨b, hA, c, hk _ _ _ hc, hx⟩
theorem TextRow.below {w w' : World} {A : Option Addr} {xs : List Bs} (h : TextRow w A xs) (hb : Below w.heap.size w w') : TextRow w' A xs :=
  h.kept fun b _ _ hx => (hb.block b (Array.getElem?_eq_some_iff.1 hx).1).trans hx
theorem TextRow.moved {B : Nat} {w w' : World} {A : Option Addr} {xs : List Bs} (h : TextRow w A xs) (hm : Moves B w w') : TextRow w' A xs :=
  h.kept fun _ _ _ hx => hm.kept _ _ _ _ hx (by decide)
theorem TextRow.grown {w w' : World} {A : Option Addr} {xs : List Bs} {row : Option Nat} (h : TextRow w A xs) (hg : w.grownBy w' row) (hne : ∀ b, A = some ⟨b, 0, none⟩ → row ≠ some b) : TextRow w' A xs := fun hp => by
  obtain ⟨b, hA, c, hc, hx⟩ := h hp
  exact ⟨b, hA, c, (hg.block b (Array.getElem?_eq_some_iff.1 hc).1 (hne b hA).symm).trans hc, hx⟩
theorem TextRow.cell {w : World} {A : Option Addr} {xs : List Bs} (h : TextRow w A xs) (j : Nat) (x : Bs) (hj : xs[j]? = some x) : ∃ b, A = some ⟨b, 0, none⟩ ∧ w.cell? ⟨b, j, none⟩ = some (encS x) := by
  have hl : j < xs.length := (List.getElem?_eq_some_iff.1 hj).1
  obtain ⟨b, hA, c, hc, hx⟩ := h (by omega)
  exact ⟨b, hA, (cell_of_row _ _ _ _ _ _ hc).trans (hx j x hj)⟩

theorem own_text {w : World} {B : Nat} {v : Value} {n : Nat} {xs : List Bs} (h : w.ownsRow B 9 1 v n (xs.map encS)) (hn : xs.length = n) : ∃ A c, v = .slice A n c ∧ TextRow w A xs ∧ ∀ b, A = some ⟨b, 0, none⟩ → B ≤ b ∧ b < w.heap.size := by
  rcases h.2 with ⟨rfl, h0⟩ | ⟨g, cap, cur, rfl, hbg, hg, h1, h2, h3, h4⟩
  · exact ⟨none, 0, by rw [h0], fun hp => by omega, fun b e => by cases e⟩
  · refine ⟨_, cap, rfl, fun hp => ⟨g, rfl, cur, hg, fun j x hj => ?_⟩, fun b e => by cases e; exact ⟨hbg, (Array.getElem?_eq_some_iff.1 hg).1⟩⟩
    have hl : j < xs.length := (List.getElem?_eq_some_iff.1 hj).1
    rw [← Array.getElem?_toList, ← List.getElem?_take_of_lt (show j < n * 1 by omega), h4]
    simp [hj]

/-- a disk over an append to a row of texts -/
theorem Rep.rows {B : Nat} {w w' : World} {d : Nat} {s : St} {g : Gh} (h : Rep B w d s g) (hk : ∀ (b : Nat) (o : Obj), w.heap[b]? = some o → (∀ (c : Array Value) (fr : Nat × Nat), o ≠ .cells c 9 fr) → w'.heap[b]? = some o) : Rep B w' d s g := by
  have hc : ∀ (b : Nat) (c : Array Value) (t : TypeId) (fr : Nat × Nat), w.heap[b]? = some (.cells c t fr) → t ≠ 9 → w'.heap[b]? = some (.cells c t fr) := fun b c t fr h1 h2 => hk b _ h1 (fun c' fr' e => by
    injection e with _ e
    exact h2 e)
  have hmap : ∀ (b : Nat) (es : Array MapEntry) (k : Nat), w.heap[b]? = some (.map es k) → w'.heap[b]? = some (.map es k) := fun b es k h1 => hk b _ h1 (fun c' fr' e => by cases e)
  refine ⟨⟨?_, own_keep h.body.queue (fun b c fr hb => hc b c _ fr hb (by decide)), fun n hn => ?_, h.body.apart, own_keep h.body.cut (fun b c fr hb => hc b c _ fr hb (by decide)), h.body.bk⟩, hc _ _ _ _ h.at_ (by decide), h.le⟩
  · rcases h.body.maps with h1 | ⟨b1, b2, e1, e2, hne, l1, l2, o1, o2⟩
    · exact .inl h1
    · exact .inr ⟨b1, b2, e1, e2, hne, l1, l2, o1.keep hmap, o2.keep hmap⟩
  · obtain ⟨h1, h2, h3⟩ := h.body.files n hn
    exact ⟨h1, hc _ _ _ _ h2 (by decide), h3.keep (fun b c fr hb => hc b c _ fr hb (by decide))⟩

theorem Live.grownText {B : Nat} {w0 w w' : World} {d : Nat} {s : St} {N M : Nat} (h : Live B w0 w d s N M) {base n : Nat} {v : Value} {xs : List Value} (ho : w.ownsRow base 9 1 v n xs) (hg : w.grownBy w' v.ownBlock) : Live B w' w' d s N M := by
  obtain ⟨g, hr⟩ := h.rep
  refine ⟨Moves.refl _ _, h.ok, h.lim, ⟨g, hr.rows fun b o h1 h2 => ?_⟩, Nat.le_trans h.le' hg.size, h.few⟩
  rw [hg.block b (Array.getElem?_eq_some_iff.1 h1).1 (fun e => ?_)]
  · exact h1
  · rcases ho.2 with ⟨rfl, _⟩ | ⟨g', cap, cur, rfl, _, hg', _⟩
    · simp [Value.ownBlock] at e
    · simp [Value.ownBlock] at e
      subst e
      rw [hg'] at h1
      exact h2 cur (0, 0) (Option.some.inj h1).symm

theorem Live.usedAt {B : Nat} {w0 w : World} {d : Nat} {s : St} {N M : Nat} (h : Live B w0 w d s N M) : Calls Try.prog 11 #[.pointer (some ⟨d, 0, none⟩)] w fun e w' => e = .returned (.int .i64 (DM.used s.files s.names)) ∧ w = w' := by
  obtain ⟨g, hg⟩ := h.rep
  exact used_any hg
theorem Live.listAt {B : Nat} {w : World} {d : Nat} {s : St} {N M : Nat} (h : Live B w w d s N M) :
    Calls Try.prog 10 #[.pointer (some ⟨d, 0, none⟩)] w fun e w' => ∃ A c, e = .returned (.slice A s.names.length c) ∧ TextRow w' A (s.names.map (·.1)) ∧ (∀ b, A = some ⟨b, 0, none⟩ → w.heap.size ≤ b ∧ b < w'.heap.size) ∧ Live B w' w' d s N M ∧ Below w.heap.size w w' :=
  h.list.mono fun e w' ⟨⟨v, he, hrow, hb⟩, hl⟩ => by
    rw [List.length_map] at hrow
    obtain ⟨A, c, rfl, h1, h2⟩ := own_text (n := s.names.length) hrow (by rw [List.length_map])
    exact ⟨A, c, he, h1, h2, hl.rebase, hb⟩

set_option maxRecDepth 100000 in
/-- an act that comes in by itself -/
theorem open_act1 {H : Type} {enc : TypeId × Value → H} {w : World} {r : Reach} {b0 : Nat} {v : Value} {d : DataW H} {p : List MemPlace} (hval : Value.okWide Try.prog w r b0 31 v) (h : DataW.Trod enc Try.prog w 0 (fun _ => true) true 31 v d p)
    (hw : ∀ m ∈ d.weights Try.prog 31, m ≤ reachBytes) : ∃ (D : Int) (kk tt : ByteArray) (nn mm : Int) (A' : Option Addr) (n' c' : Nat), v = .agg #[.int .i64 D, .string kk, .string tt, .int .i64 nn, .int .i64 mm, .slice A' n' c'] ∧ fits D ∧ kk.size ≤ 140737488355328 ∧ tt.size ≤ 140737488355328 := by
  unfold Value.okWide at hval
  rw [Try.underlying31] at hval
  obtain ⟨cs, rfl, hsz, -⟩ := hval
  have hsn : cs.size = 6 := hsz
  obtain ⟨c0, c1, c2, c3, c4, c5, rfl⟩ : ∃ c0 c1 c2 c3 c4 c5, cs = #[c0, c1, c2, c3, c4, c5] := by
    obtain ⟨l⟩ := cs
    match l, hsn with
    | [c0, c1, c2, c3, c4, c5], _ => exact ⟨c0, c1, c2, c3, c4, c5, rfl⟩
  obtain ⟨fuel, hf⟩ := h
  obtain ⟨ys, m, -, hx, -, hlen, hel⟩ := DataW.trod_struct Try.underlying31 hf
  have hlenn : ys.length = 6 := hlen
  match ys, hlenn with
  | [y0, y1, y2, y3, y4, y5], _ =>
    have e0 : DataW.trod enc Try.prog w 0 (fun _ => true) true m 3 ((([c0, c1, c2, c3, c4, c5] : List Value).drop 0).take (Try.prog.cellsOf 3)) = some y0 := hel 0 _ rfl
    rw [show Try.prog.cellsOf 3 = 1 by kernel_rfl] at e0
    have e1 : DataW.trod enc Try.prog w 0 (fun _ => true) true m 9 ((([c0, c1, c2, c3, c4, c5] : List Value).drop 1).take (Try.prog.cellsOf 9)) = some y1 := hel 1 _ rfl
    rw [show Try.prog.cellsOf 9 = 1 by kernel_rfl] at e1
    have e2 : DataW.trod enc Try.prog w 0 (fun _ => true) true m 9 ((([c0, c1, c2, c3, c4, c5] : List Value).drop 2).take (Try.prog.cellsOf 9)) = some y2 := hel 2 _ rfl
    rw [show Try.prog.cellsOf 9 = 1 by kernel_rfl] at e2
    have e3 : DataW.trod enc Try.prog w 0 (fun _ => true) true m 3 ((([c0, c1, c2, c3, c4, c5] : List Value).drop 3).take (Try.prog.cellsOf 3)) = some y3 := hel 3 _ rfl
    rw [show Try.prog.cellsOf 3 = 1 by kernel_rfl] at e3
    have e4 : DataW.trod enc Try.prog w 0 (fun _ => true) true m 3 ((([c0, c1, c2, c3, c4, c5] : List Value).drop 4).take (Try.prog.cellsOf 3)) = some y4 := hel 4 _ rfl
    rw [show Try.prog.cellsOf 3 = 1 by kernel_rfl] at e4
    have e5 : DataW.trod enc Try.prog w 0 (fun _ => true) true m 29 ((([c0, c1, c2, c3, c4, c5] : List Value).drop 5).take (Try.prog.cellsOf 29)) = some y5 := hel 5 _ rfl
    rw [show Try.prog.cellsOf 29 = 1 by kernel_rfl] at e5
    simp only [List.drop_zero, List.drop_succ_cons, List.take_succ_cons, List.take_zero] at e0 e1 e2 e3 e4 e5
    obtain ⟨a0, ha0, hx0, hs0⟩ := DataW.trod_int Try.underlying3 e0
    obtain ⟨a1, ha1, hx1, -⟩ := DataW.trod_string Try.underlying9 e1
    obtain ⟨a2, ha2, hx2, -⟩ := DataW.trod_string Try.underlying9 e2
    obtain ⟨a3, ha3, hx3, -⟩ := DataW.trod_int Try.underlying3 e3
    obtain ⟨a4, ha4, hx4, -⟩ := DataW.trod_int Try.underlying3 e4
    obtain ⟨A5, n5, k5, ha5⟩ : ∃ A5 n5 k5, c5 = .slice A5 n5 k5 := by
      rcases Go.Deep.open_slice Try.underlying29 e5 with h0 | ⟨a, len, cap, m, n, D, Pl, hcs, -⟩
      · have h1 := h0.1
        simp at h1
        exact ⟨none, 0, 0, h1⟩
      · simp at hcs
        exact ⟨some a, len, cap, hcs⟩
    simp only [List.cons.injEq, and_true] at ha0 ha1 ha2 ha3 ha4
    subst ha0 ha1 ha2 ha3 ha4 ha5 hx0 hx1 hx2 hx3 hx4
    simp only [Prod.mk.injEq, List.map_cons, List.map_nil] at hx
    obtain ⟨rfl, hp⟩ := hx
    have hz1 : a1.size ≤ reachBytes := by
      refine hw _ ?_
      simp only [DataW.weights, Try.underlying31]
      exact DataW.weights_mem_each (j := 1) (t := 9) (d := .lit (.string a1.data.toList)) rfl rfl _ (by simp [DataW.weights])
    have hz2 : a2.size ≤ reachBytes := by
      refine hw _ ?_
      simp only [DataW.weights, Try.underlying31]
      exact DataW.weights_mem_each (j := 2) (t := 9) (d := .lit (.string a2.data.toList)) rfl rfl _ (by simp [DataW.weights])
    exact ⟨a0, a1, a2, a3, a4, A5, n5, k5, rfl, by simpa [fits, Lit.wf, IntKind.min, IntKind.max, IntKind.signed, IntKind.bits] using hs0, by unfold reachBytes at hz1; omega, by unfold reachBytes at hz2; omega⟩

namespace lawRefuses
set_option maxRecDepth 100000 in
set_option maxHeartbeats 16000000 in
theorem walk (room : Int) (A : Option Addr) (n cap : Nat) (sc : List AD) (D : Int) (kk tt : ByteArray) (nn mm : Int) (A' : Option Addr) (n' c' : Nat) (w : World) (hlen : sc.length = n) (hin : ActsIn w w.heap.size A sc) (hb : n * 80 ≤ reachBytes ∧ n ≤ cap) (hroom : fits room) (hD : fits D) (hkk : kk.size ≤ 140737488355328) :
    Calls Try.prog 4 #[.int .i64 room, .slice A n cap, .agg #[.int .i64 D, .string kk, .string tt, .int .i64 nn, .int .i64 mm, .slice A' n' c']] w fun e w' => e = .returned (.bool true) ∧ Below w.heap.size w w' := by
  have hn : n ≤ 9223372036854775807 := by have := hb.1; unfold reachBytes at this; omega
  have hrow0 := heap_alloc_new w (.cells #[.int .i64 D, .string kk, .string tt, .int .i64 nn, .int .i64 mm, .slice A' n' c'] 31)
  have hbel0 := (Below.refl w.heap.size w).alloc (Nat.le_refl _) (.cells #[.int .i64 D, .string kk, .string tt, .int .i64 nn, .int .i64 mm, .slice A' n' c'] 31)
  have hsz0 : (w.alloc (.cells #[.int .i64 D, .string kk, .string tt, .int .i64 nn, .int .i64 mm, .slice A' n' c'] 31)).heap.size = w.heap.size + 1 := by simp
  have HIN : Hid (∀ wr, Below w.heap.size w wr → ActsIn wr w.heap.size A sc) := Lib.hid fun wr hb => hin.below hb
  have HLEN := Lib.hid hlen
  obtain ⟨N, hN⟩ : ∃ N, min n 60 = N := ⟨_, rfl⟩
  have hmin : min (n : Int) 60 = (N : Int) := by omega
  have hsl := fun W => run_slice_acts W A n cap N (by omega)
  have hNn : N ≤ n := by omega
  have hN1 : N ≤ 60 := by omega
  unfold fits at hD
  clear hin hb hlen hN
  go_enter Try.func4, Try.ntmps4
  go_wp2_with fail
  generalize w.alloc _ = w0 at hrow0 hbel0 hsz0 ⊢
  obtain ⟨b0, hb0⟩ : ∃ b0, w.heap.size = b0 := ⟨_, rfl⟩
  have HB0 := Lib.hid hb0
  rw [hb0] at hrow0 hsz0 hbel0 HIN ⊢
  clear hb0
  obtain ⟨B, hB⟩ : ∃ B, w0.heap.size = B := ⟨_, rfl⟩
  have hBb : B = b0 + 1 := by omega
  have HBB := Lib.hid hBb
  have HROW0 := Lib.hid hrow0
  have HBEL0 := Lib.hid hbel0
  have HFIN : Hid (∀ W, Below B w0 W → Below b0 w W) := Lib.hid fun W h => hbel0.trans (h.mono (by omega))
  have HBOX : Hid (∀ W, Below B w0 W → W.cell? ⟨b0, 0, none⟩ = some (.int .i64 D) ∧ W.cell? ⟨b0, 1, none⟩ = some (.string kk) ∧ W.cell? ⟨b0, 2, none⟩ = some (.string tt)) := Lib.hid fun W h => by
    have hr := (h.block b0 (by omega)).trans hrow0
    exact ⟨cell_of_row _ _ _ _ _ _ hr, cell_of_row _ _ _ _ _ _ hr, cell_of_row _ _ _ _ _ _ hr⟩
  have HNEW := Lib.hid (duo_new1 room w0 hroom hB)
  clear hB hBb hrow0 hbel0 hsz0
  refine HNEW.out.mono ?_
  rintro e w1 ⟨d, rfl, h1⟩
  have H1 := Lib.hid h1
  clear h1 HNEW
  go_wp2_with fail
  refine (duo_new2 room H1.out).mono ?_
  rintro e w2 ⟨r, rfl, h2⟩
  have H2 := Lib.hid h2
  clear h2 H1
  go_wp2_with fail
  go_loopw [34] (fun i wr => ∃ (k : Nat) (s : St), k ≤ N ∧ i = .int .i64 k ∧ Duo none B w0 wr d r s k 140737488355328) (fun i _ => N - (intOf i).toNat)
  case atStart => exact ⟨0, _, by omega, rfl, H2.out⟩
  case round =>
    obtain ⟨k, s, hk, rfl, hbo⟩ := hrel
    have HBO := Lib.hid hbo
    clear hbo
    by_cases hlt : k < N
    · have hkl : k < sc.length := by rw [HLEN.out]; omega
      have hIn := HIN.out wr (HFIN.out _ HBO.out.below)
      obtain ⟨q, off, hA, hql, hc⟩ := hIn.2 (by omega)
      obtain ⟨cc, hnm⟩ := hc k hkl
      obtain ⟨a, ha⟩ : ∃ a, sc[k] = a := ⟨_, rfl⟩
      have hwf : a.wf := hIn.1 a (by rw [← ha]; exact List.getElem_mem hkl)
      rw [ha] at cc hnm
      have hal := (Below.refl wr.heap.size wr).alloc (Nat.le_refl _) (.cells a.cells 31)
      have HAC : Hid (Calls Try.prog 9 #[.pointer (some ⟨d, 0, none⟩), .pointer (some ⟨r, 0, none⟩), .agg a.cells] (wr.alloc (.cells a.cells 31)) (ActOut B w0 d r k 140737488355328)) := act_any (HBO.out.still hal) (by omega) a hwf (by have := hwf.l8; omega) (hnm.below hal)
      obtain ⟨D2, k2, to, nn2, mm2, A2, c2, l2⟩ := a
      unfold AD.cells at HAC
      simp only at HAC
      have c0 : wr.cell? ⟨q, off + k * 6, none⟩ = some (.int .i64 D2) := cc 0 _ rfl
      have c1 : wr.cell? ⟨q, off + k * 6 + 1, none⟩ = some (.string k2) := cc 1 _ rfl
      have c2' : wr.cell? ⟨q, off + k * 6 + 2, none⟩ = some (.string to) := cc 2 _ rfl
      have c3 : wr.cell? ⟨q, off + k * 6 + 3, none⟩ = some (.int .i64 nn2) := cc 3 _ rfl
      have c4 : wr.cell? ⟨q, off + k * 6 + 4, none⟩ = some (.int .i64 mm2) := cc 4 _ rfl
      have c5 : wr.cell? ⟨q, off + k * 6 + 5, none⟩ = some (.slice A2 l2.length c2) := cc 5 _ rfl
      obtain ⟨ln, hln⟩ : ∃ ln, l2.length = ln := ⟨_, rfl⟩
      rw [hln] at c5 HAC
      subst hA
      clear hc ha hwf hal hIn cc hnm hln
      go_wp2_with fail
      refine HAC.out.mono ?_
      rintro e w5 ⟨rfl, s', h5⟩
      have H5 := Lib.hid h5
      clear h5 HAC
      go_wp2
      go_roundw
      case rel => exact ⟨k + 1, s', by omega, by go_num, H5.out⟩
      case measure => simp [intOf]; omega
    · have HL0 : Hid (Live B wr wr d s k 140737488355328) := Lib.hid HBO.out.live
      have HBW : Hid (Below B w0 wr) := Lib.hid HBO.out.below
      have hnl := HBO.out.lens.1
      have HK64 : Hid (∀ p ∈ s.names, p.1.length ≤ 64) := Lib.hid fun p hp => (HBO.out.live.ok.gnames.key p hp).2
      have HBle : Hid (B ≤ wr.heap.size) := Lib.hid HBO.out.live.le'
      clear HBO
      go_wp2_with fail
      refine HL0.out.listAt.mono ?_
      rintro e wl ⟨LA, lc, rfl, hrow, hlb, hl1, hbl⟩
      have HLA := Lib.hid hrow
      have HLB := Lib.hid hlb
      have HL1 := Lib.hid hl1
      have HB1 : Hid (Below B w0 wl) := Lib.hid (HBW.out.trans (hbl.mono HBle.out))
      clear hrow hlb hl1 hbl HL0
      go_wp2_with fail
      refine HL1.out.usedAt.mono ?_
      rintro e wu ⟨rfl, rfl⟩
      obtain ⟨U, hU⟩ : ∃ U, DM.used s.files s.names = U := ⟨_, rfl⟩
      rw [hU]
      have HU := Lib.hid hU
      obtain ⟨nl, hnl2⟩ : ∃ nl, s.names.length = nl := ⟨_, rfl⟩
      have HNL := Lib.hid hnl2
      rw [hnl2] at hnl ⊢
      obtain ⟨xs, hxs⟩ : ∃ xs, s.names.map (·.1) = xs := ⟨_, rfl⟩
      have HXS := Lib.hid hxs
      rw [hxs] at HLA
      obtain ⟨ds, hds⟩ : ∃ ds, xs.map (fun x => (DM.read x s).1) = ds := ⟨_, rfl⟩
      have HDS := Lib.hid hds
      have HXL : Hid (xs.length = nl) := Lib.hid (by rw [← hxs, List.length_map, hnl2])
      have HDL : Hid (ds.length = nl) := Lib.hid (by rw [← hds, List.length_map, HXL.out])
      have HX64 : Hid (∀ x ∈ xs, x.length ≤ 64) := Lib.hid (by
        rw [← hxs]
        intro x hx
        obtain ⟨p, hp, rfl⟩ := List.mem_map.1 hx
        exact HK64.out p hp)
      obtain ⟨i0, hi, hz0, hz1, hz2⟩ := info_parts info_text
      obtain ⟨D0, hD0⟩ : ∃ D0, wl.heap.size = D0 := ⟨_, rfl⟩
      have HLD : Hid (∀ b, LA = some ⟨b, 0, none⟩ → b < D0) := Lib.hid fun b hb => by have := (HLB.out b hb).2; omega
      have HD0 : Hid (D0 ≤ wl.heap.size ∧ B ≤ D0) := Lib.hid ⟨by omega, by have := HL1.out.le'; omega⟩
      clear hU hnl2 hxs hds hD0 HLB HK64 HBle
      go_wp2_with fail
      go_loopw [13, 49] (fun v i wx => ∃ j : Nat, j ≤ nl ∧ i = .int .i64 j ∧ Live B wx wx d s k 140737488355328 ∧ Below B w0 wx ∧ TextRow wx LA xs ∧ wx.ownsRow D0 9 1 v j ((ds.take j).map encS) ∧ D0 ≤ wx.heap.size) (fun _ i _ => nl - (intOf i).toNat)
      case atStart => exact ⟨0, by omega, rfl, HL1.out, HB1.out, HLA.out, World.ownsRow_nil _ _ _ _, HD0.out.1⟩
      case round =>
        obtain ⟨j, hj, rfl, hlv, hbw, hla, hown, hdz⟩ := hrel
        by_cases hlt2 : j < nl
        · have hjx : j < xs.length := by rw [HXL.out]; exact hlt2
          have hxj : xs[j]? = some xs[j] := List.getElem?_eq_getElem hjx
          obtain ⟨lb, hLA, hcl⟩ := hla.cell j _ hxj
          have hx64 := HX64.out xs[j] (List.getElem_mem hjx)
          have hdj : ds[j]? = some (DM.read xs[j] s).1 := by rw [← HDS.out, List.getElem?_map, hxj]; rfl
          obtain ⟨x, hx⟩ : ∃ x, xs[j] = x := ⟨_, rfl⟩
          rw [hx] at hcl hx64 hdj
          obtain ⟨t, ht, htd, hts⟩ := enc_size x
          rw [ht] at hcl
          obtain ⟨X, hX⟩ : ∃ X, DM.read x s = X := ⟨_, rfl⟩
          obtain ⟨X1, X2⟩ := X
          rw [hX] at hdj
          have HRD := Lib.hid (hlv.read t (by omega) (r := (X1, X2)) (by rw [htd]; exact hX))
          obtain ⟨sx, hsx, -, -⟩ := enc_size X1
          have HTX : Hid ((ds.take (j + 1)).map encS = (ds.take j).map encS ++ [.string sx]) := Lib.hid (by
            have hdl : j < ds.length := (List.getElem?_eq_some_iff.1 hdj).1
            rw [List.take_succ_eq_append_getElem hdl, List.map_append, (List.getElem?_eq_some_iff.1 hdj).2]
            simp [hsx])
          obtain ⟨Y, hY⟩ : ∃ Y, (ds.take j).map encS = Y := ⟨_, rfl⟩
          rw [hY] at HTX hown
          have g0 : (0 : Int) ≤ (j : Int) := by omega
          have g1 : (j : Int) < (nl : Int) := by omega
          have HLAX := Lib.hid hla
          have HOWN := Lib.hid hown
          have HBWX := Lib.hid hbw
          have HDZ := Lib.hid hdz
          subst hLA
          clear hla hown hbw hdz hlv hx64 hdj hxj hjx hx hY htd hX
          go_wp2_with fail
          refine HRD.out.mono ?_
          rintro e w5 ⟨he, hl5⟩
          have he' : e = .returned (.tuple #[.string sx, .int .i64 X2]) := by rw [he]; simp only [hsx]
          subst he'
          have HL5 := Lib.hid hl5.rebase
          have HLA5 := Lib.hid (HLAX.out.moved hl5.moves)
          have HO5 : Hid (w5.ownsRow D0 9 1 u13 j Y) := Lib.hid (own_keep HOWN.out (fun b c fr hx => hl5.moves.kept _ _ _ _ hx (by decide)))
          have HB5 : Hid (Below B w0 w5) := Lib.hid (HBWX.out.trans hl5.moves.below)
          have HD5 : Hid (D0 ≤ w5.heap.size) := Lib.hid (by have := hl5.moves.size; have := HDZ.out; omega)
          clear he hl5 HRD HLAX HOWN HBWX HDZ
          go_wp2_with (at_builtin; refine wpList_append_own _ rfl _ _ 34 rfl D0 9 i0 _ 1 16 Try.underlying34 hi hz0 hz1 hz2 rfl (by decide) _ _ _ rfl (own_below HO5.out ((Below.refl _ _).alloc (Nat.le_refl _) _)) ⟨w5.heap.size, 0, none⟩ 1 1 [.string sx] rfl ?c1 ?c2 ?c3 ?c4 ?c5 ?c6 ?_)
          case c1 => rfl
          case c2 =>
            refine World.news_of_block (cs := #[.string sx]) (t := 9) (fr := (0, 0)) ?_
            exact heap_alloc_new w5 _
          case c3 => intro u hu; simp at hu; subst hu; rfl
          case c4 => unfold maxLen; omega
          case c5 => omega
          case c6 => have := HD5.out; simp; omega
          intro v' w6 hown6 hgrow6 hnil6
          have hown5 := own_below HO5.out ((Below.refl w5.heap.size w5).alloc (Nat.le_refl _) (.cells #[.string sx] 9))
          have HR6 : Hid (w6.ownsRow D0 9 1 v' (j + 1) ((ds.take (j + 1)).map encS)) := Lib.hid (by rw [HTX.out]; exact hown6)
          have HL6 : Hid (Live B w6 w6 d s k 140737488355328) := Lib.hid ((HL5.out.still ((Below.refl w5.heap.size w5).alloc (Nat.le_refl _) (.cells #[.string sx] 9))).grownText hown5 hgrow6)
          have HLA6 : Hid (TextRow w6 (some ⟨lb, 0, none⟩) xs) := Lib.hid ((HLA5.out.below ((Below.refl w5.heap.size w5).alloc (Nat.le_refl _) (.cells #[.string sx] 9))).grown hgrow6 (fun b hb e => by
            have h1 := HLD.out b hb
            have h2 := (hown5.lt b e).1
            omega))
          have HB6 : Hid (Below B w0 w6) := Lib.hid ((HB5.out.alloc (by have := HD5.out; have := HD0.out.2; omega) _).grown hgrow6 (by have := HD5.out; have := HD0.out.2; simp; omega) (fun g hg => by
            have h2 := (hown5.lt g hg).1
            have := HD0.out.2
            omega))
          have HD6 : Hid (D0 ≤ w6.heap.size) := Lib.hid (by have := hgrow6.size; have := HD5.out; simp at *; omega)
          clear hown6 hgrow6 hnil6 hown5
          go_wp2
          go_roundw
          case rel => exact ⟨j + 1, by omega, by go_num, HL6.out, HB6.out, HLA6.out, HR6.out, HD6.out⟩
          case measure => simp [intOf]; omega
        · have hjn : j = nl := by omega
          subst hjn
          have htk : ds.take j = ds := List.take_of_length_le (by rw [HDL.out]; exact Nat.le_refl _)
          rw [htk] at hown
          obtain ⟨DA, dc, hv, hda, hdlt⟩ := own_text hown HDL.out
          subst hv
          have HLV := Lib.hid hlv
          have HBW := Lib.hid hbw
          have HLAV := Lib.hid hla
          have HDAV := Lib.hid hda
          have HX : Hid (∀ i x y, xs[i]? = some x → ds[i]? = some y → (DM.read x s).1 = y) := Lib.hid fun i x y h1 h2 => by
            rw [← HDS.out, List.getElem?_map, h1] at h2
            simpa using h2
          obtain ⟨P, hP⟩ : ∃ P, D.toNat = P := ⟨_, rfl⟩
          have hmax : max D (0 : Int) = (P : Int) := by omega
          have hmax' : max (0 : Int) D = (P : Int) := by omega
          obtain ⟨q0, q1, q2⟩ := HBOX.out _ hbw
          clear hlv hbw hla hda hdlt hown htk hP hdz
          have h5 : P % 5 = 0 ∨ P % 5 = 1 ∨ P % 5 = 2 ∨ P % 5 = 3 ∨ P % 5 = 4 := by omega
          rcases h5 with h5 | h5 | h5 | h5 | h5
          · have hrem : (P : Int) % 5 = (0 : Int) := by omega
            obtain ⟨c, s', hcs⟩ : ∃ c s', DM.create kk.data.toList s = (c, s') := ⟨_, _, rfl⟩
            have HSEEN : Hid (c ≠ 0 → c ≠ 13 → Seen s s') := Lib.hid fun h0 h13 => create_seen hcs h0 h13
            have HOP := Lib.hid (HLV.out.create (by omega) kk (by omega) hcs)
            clear hcs h5
            go_wp2_with fail
            refine HOP.out.mono ?_
            rintro e w5 ⟨rfl, hl5⟩
            have HL5 := Lib.hid hl5.rebase
            have HLA5 := Lib.hid (HLAV.out.moved hl5.moves)
            have HDA5 := Lib.hid (HDAV.out.moved hl5.moves)
            have HB5 : Hid (Below B w0 w5) := Lib.hid (HBW.out.trans hl5.moves.below)
            clear hl5 HOP HLAV HDAV HBW HLV
            simp only at HL5
            go_wp2_with fail
            refine (wakes_any _).mono ?_
            rintro e w6 ⟨rfl, hb6⟩
            have HL6 := Lib.hid (HL5.out.still hb6).rebase
            have HLA6 := Lib.hid (HLA5.out.below hb6)
            have HDA6 := Lib.hid (HDA5.out.below hb6)
            have HB6 : Hid (Below B w0 w6) := Lib.hid (HB5.out.trans (hb6.mono HL5.out.le'))
            clear hb6 HL5 HLA5 HDA5 HB5
            by_cases h0 : c = 0
            · subst h0
              go_wp2_with fail
              refine (wakes_any _).mono ?_
              rintro e w7 ⟨rfl, hb7⟩
              have HB7 : Hid (Below B w0 w7) := Lib.hid (HB6.out.trans (hb7.mono HL6.out.le'))
              clear hb7
              go_wp2
              go_ret
              exact ⟨rfl, by rw [HB0.out]; exact HFIN.out _ HB7.out⟩
            · by_cases h13 : c = 13
              · subst h13
                go_wp2_with fail
                refine (wakes_any _).mono ?_
                rintro e w7 ⟨rfl, hb7⟩
                have HB7 : Hid (Below B w0 w7) := Lib.hid (HB6.out.trans (hb7.mono HL6.out.le'))
                clear hb7
                go_wp2
                go_ret
                exact ⟨rfl, by rw [HB0.out]; exact HFIN.out _ HB7.out⟩
              · have t0 : (c == 0) = false := beq_eq_false_iff_ne.2 h0
                have t13 : (c == 13) = false := beq_eq_false_iff_ne.2 h13
                have hseen := HSEEN.out h0 h13
                have HSN := Lib.hid hseen
                have hLI := HL6.out.listAt
                rw [hseen.1, HNL.out, HXS.out] at hLI
                have HLI := Lib.hid hLI
                clear hLI hseen HSEEN h0 h13
                go_wp2_with fail
                refine HLI.out.mono ?_
                rintro e w7 ⟨MA, mc, rfl, hma, -, hl7, hb7⟩
                have HL7 := Lib.hid hl7
                have HMA7 := Lib.hid hma
                have HLA7 := Lib.hid (HLA6.out.below hb7)
                have HDA7 := Lib.hid (HDA6.out.below hb7)
                have HB7 : Hid (Below B w0 w7) := Lib.hid (HB6.out.trans (hb7.mono HL6.out.le'))
                have HUS : Hid (Calls Try.prog 11 #[.pointer (some ⟨d, 0, none⟩)] w7 fun e w' => e = .returned (.int .i64 U) ∧ w7 = w') := Lib.hid (by
                  have h := hl7.usedAt
                  rw [used_seen HSN.out, HU.out] at h
                  exact h)
                have hUU : (U == U) = true := beq_self_eq_true _
                have hnn : ((j : Int) == (j : Int)) = true := beq_self_eq_true _
                clear hl7 hma hb7 HLI HL6 HLA6 HDA6 HB6
                go_wp2_with (go_at_call 11; refine HUS.out.mono ?_; rintro e wz ⟨rfl, rfl⟩)
                go_loopw [128] (fun i wx => ∃ q : Nat, q ≤ j ∧ i = .int .i64 q ∧ Live B wx wx d s' (k + 1) 140737488355328 ∧ Below B w0 wx ∧ TextRow wx LA xs ∧ TextRow wx DA ds ∧ TextRow wx MA xs) (fun i _ => j - (intOf i).toNat)
                case atStart => exact ⟨0, by omega, rfl, HL7.out, HB7.out, HLA7.out, HDA7.out, HMA7.out⟩
                case round =>
                  obtain ⟨q, hq, rfl, hlv, hbw, hla, hda, hma⟩ := hrel
                  by_cases hlt3 : q < j
                  · have hqx : q < xs.length := by rw [HXL.out]; exact hlt3
                    have hqd : q < ds.length := by rw [HDL.out]; exact hlt3
                    have hxq : xs[q]? = some xs[q] := List.getElem?_eq_getElem hqx
                    have hdq : ds[q]? = some ds[q] := List.getElem?_eq_getElem hqd
                    have hx64 := HX64.out xs[q] (List.getElem_mem hqx)
                    have hrd := HX.out q _ _ hxq hdq
                    obtain ⟨x, hx⟩ : ∃ x, xs[q] = x := ⟨_, rfl⟩
                    obtain ⟨y, hy⟩ : ∃ y, ds[q] = y := ⟨_, rfl⟩
                    rw [hx] at hxq hx64 hrd
                    rw [hy] at hdq hrd
                    obtain ⟨t, ht, htd, hts⟩ := enc_size x
                    obtain ⟨sy, hsy, -, -⟩ := enc_size y
                    obtain ⟨X2, hX2⟩ : ∃ X2, (DM.read x s').2 = X2 := ⟨_, rfl⟩
                    have hrd' : DM.read t.data.toList s' = (y, X2) := by
                      rw [htd, ← hX2, ← hrd, read_seen HSN.out]
                    have HRD := Lib.hid (hlv.read t (by omega) hrd')
                    obtain ⟨lb, hLA, hcl⟩ := hla.cell q _ hxq
                    obtain ⟨mb, hMA, hcm⟩ := hma.cell q _ hxq
                    rw [ht] at hcl hcm
                    have HXQ := Lib.hid hxq
                    have HDQ := Lib.hid hdq
                    have htt' : (t.toList == t.toList) = true := beq_self_eq_true _
                    have hss' : (sy.toList == sy.toList) = true := beq_self_eq_true _
                    have g0 : (0 : Int) ≤ (q : Int) := by omega
                    have g1 : (q : Int) < (j : Int) := by omega
                    have HLAX := Lib.hid hla
                    have HDAX := Lib.hid hda
                    have HMAX := Lib.hid hma
                    have HBWX := Lib.hid hbw
                    subst hLA hMA
                    clear hla hda hma hbw hlv hx64 hxq hdq hqx hqd hx hy hrd hrd' hX2
                    go_wp2_with fail
                    refine HRD.out.mono ?_
                    rintro e w9 ⟨he, hl9⟩
                    have he' : e = .returned (.tuple #[.string sy, .int .i64 X2]) := by rw [he]; simp only [hsy]
                    subst he'
                    have HL9 := Lib.hid hl9.rebase
                    have HLA9 := Lib.hid (HLAX.out.moved hl9.moves)
                    have HDA9 := Lib.hid (HDAX.out.moved hl9.moves)
                    have HMA9 := Lib.hid (HMAX.out.moved hl9.moves)
                    have HB9 : Hid (Below B w0 w9) := Lib.hid (HBWX.out.trans hl9.moves.below)
                    obtain ⟨lb2, e2, y1⟩ := HLA9.out.cell q _ HXQ.out
                    obtain ⟨db, e3, y2⟩ := HDA9.out.cell q _ HDQ.out
                    rw [ht] at y1
                    rw [hsy] at y2
                    simp only [Option.some.injEq, Addr.mk.injEq, and_true] at e2
                    rw [← e2] at y1
                    subst e3
                    clear he hl9 HRD HLAX HDAX HMAX HBWX e2 hcl hcm ht hsy
                    go_wp2
                    go_roundw
                    case rel => exact ⟨q + 1, by omega, by go_num, HL9.out, HB9.out, HLA9.out, HDA9.out, HMA9.out⟩
                    case measure => simp [intOf]; omega
                  · have HBE := Lib.hid hbw
                    clear hlv hbw hla hda hma
                    go_wp2
                    go_ret
                    exact ⟨rfl, by rw [HB0.out]; exact HFIN.out _ HBE.out⟩
          · have hrem : (P : Int) % 5 = (1 : Int) := by omega
            obtain ⟨c, s', hcs⟩ : ∃ c s', DM.append kk.data.toList tt.data.toList s = (c, s') := ⟨_, _, rfl⟩
            have HSEEN : Hid (c ≠ 0 → c ≠ 13 → Seen s s') := Lib.hid fun h0 h13 => append_seen hcs h0 h13
            have HOP := Lib.hid (HLV.out.append (by omega) kk tt (by omega) hcs)
            clear hcs h5
            go_wp2_with fail
            refine HOP.out.mono ?_
            rintro e w5 ⟨rfl, hl5⟩
            have HL5 := Lib.hid hl5.rebase
            have HLA5 := Lib.hid (HLAV.out.moved hl5.moves)
            have HDA5 := Lib.hid (HDAV.out.moved hl5.moves)
            have HB5 : Hid (Below B w0 w5) := Lib.hid (HBW.out.trans hl5.moves.below)
            clear hl5 HOP HLAV HDAV HBW HLV
            simp only at HL5
            go_wp2_with fail
            refine (wakes_any _).mono ?_
            rintro e w6 ⟨rfl, hb6⟩
            have HL6 := Lib.hid (HL5.out.still hb6).rebase
            have HLA6 := Lib.hid (HLA5.out.below hb6)
            have HDA6 := Lib.hid (HDA5.out.below hb6)
            have HB6 : Hid (Below B w0 w6) := Lib.hid (HB5.out.trans (hb6.mono HL5.out.le'))
            clear hb6 HL5 HLA5 HDA5 HB5
            by_cases h0 : c = 0
            · subst h0
              go_wp2_with fail
              refine (wakes_any _).mono ?_
              rintro e w7 ⟨rfl, hb7⟩
              have HB7 : Hid (Below B w0 w7) := Lib.hid (HB6.out.trans (hb7.mono HL6.out.le'))
              clear hb7
              go_wp2
              go_ret
              exact ⟨rfl, by rw [HB0.out]; exact HFIN.out _ HB7.out⟩
            · by_cases h13 : c = 13
              · subst h13
                go_wp2_with fail
                refine (wakes_any _).mono ?_
                rintro e w7 ⟨rfl, hb7⟩
                have HB7 : Hid (Below B w0 w7) := Lib.hid (HB6.out.trans (hb7.mono HL6.out.le'))
                clear hb7
                go_wp2
                go_ret
                exact ⟨rfl, by rw [HB0.out]; exact HFIN.out _ HB7.out⟩
              · have t0 : (c == 0) = false := beq_eq_false_iff_ne.2 h0
                have t13 : (c == 13) = false := beq_eq_false_iff_ne.2 h13
                have hseen := HSEEN.out h0 h13
                have HSN := Lib.hid hseen
                have hLI := HL6.out.listAt
                rw [hseen.1, HNL.out, HXS.out] at hLI
                have HLI := Lib.hid hLI
                clear hLI hseen HSEEN h0 h13
                go_wp2_with fail
                refine HLI.out.mono ?_
                rintro e w7 ⟨MA, mc, rfl, hma, -, hl7, hb7⟩
                have HL7 := Lib.hid hl7
                have HMA7 := Lib.hid hma
                have HLA7 := Lib.hid (HLA6.out.below hb7)
                have HDA7 := Lib.hid (HDA6.out.below hb7)
                have HB7 : Hid (Below B w0 w7) := Lib.hid (HB6.out.trans (hb7.mono HL6.out.le'))
                have HUS : Hid (Calls Try.prog 11 #[.pointer (some ⟨d, 0, none⟩)] w7 fun e w' => e = .returned (.int .i64 U) ∧ w7 = w') := Lib.hid (by
                  have h := hl7.usedAt
                  rw [used_seen HSN.out, HU.out] at h
                  exact h)
                have hUU : (U == U) = true := beq_self_eq_true _
                have hnn : ((j : Int) == (j : Int)) = true := beq_self_eq_true _
                clear hl7 hma hb7 HLI HL6 HLA6 HDA6 HB6
                go_wp2_with (go_at_call 11; refine HUS.out.mono ?_; rintro e wz ⟨rfl, rfl⟩)
                go_loopw [128] (fun i wx => ∃ q : Nat, q ≤ j ∧ i = .int .i64 q ∧ Live B wx wx d s' (k + 1) 140737488355328 ∧ Below B w0 wx ∧ TextRow wx LA xs ∧ TextRow wx DA ds ∧ TextRow wx MA xs) (fun i _ => j - (intOf i).toNat)
                case atStart => exact ⟨0, by omega, rfl, HL7.out, HB7.out, HLA7.out, HDA7.out, HMA7.out⟩
                case round =>
                  obtain ⟨q, hq, rfl, hlv, hbw, hla, hda, hma⟩ := hrel
                  by_cases hlt3 : q < j
                  · have hqx : q < xs.length := by rw [HXL.out]; exact hlt3
                    have hqd : q < ds.length := by rw [HDL.out]; exact hlt3
                    have hxq : xs[q]? = some xs[q] := List.getElem?_eq_getElem hqx
                    have hdq : ds[q]? = some ds[q] := List.getElem?_eq_getElem hqd
                    have hx64 := HX64.out xs[q] (List.getElem_mem hqx)
                    have hrd := HX.out q _ _ hxq hdq
                    obtain ⟨x, hx⟩ : ∃ x, xs[q] = x := ⟨_, rfl⟩
                    obtain ⟨y, hy⟩ : ∃ y, ds[q] = y := ⟨_, rfl⟩
                    rw [hx] at hxq hx64 hrd
                    rw [hy] at hdq hrd
                    obtain ⟨t, ht, htd, hts⟩ := enc_size x
                    obtain ⟨sy, hsy, -, -⟩ := enc_size y
                    obtain ⟨X2, hX2⟩ : ∃ X2, (DM.read x s').2 = X2 := ⟨_, rfl⟩
                    have hrd' : DM.read t.data.toList s' = (y, X2) := by
                      rw [htd, ← hX2, ← hrd, read_seen HSN.out]
                    have HRD := Lib.hid (hlv.read t (by omega) hrd')
                    obtain ⟨lb, hLA, hcl⟩ := hla.cell q _ hxq
                    obtain ⟨mb, hMA, hcm⟩ := hma.cell q _ hxq
                    rw [ht] at hcl hcm
                    have HXQ := Lib.hid hxq
                    have HDQ := Lib.hid hdq
                    have htt' : (t.toList == t.toList) = true := beq_self_eq_true _
                    have hss' : (sy.toList == sy.toList) = true := beq_self_eq_true _
                    have g0 : (0 : Int) ≤ (q : Int) := by omega
                    have g1 : (q : Int) < (j : Int) := by omega
                    have HLAX := Lib.hid hla
                    have HDAX := Lib.hid hda
                    have HMAX := Lib.hid hma
                    have HBWX := Lib.hid hbw
                    subst hLA hMA
                    clear hla hda hma hbw hlv hx64 hxq hdq hqx hqd hx hy hrd hrd' hX2
                    go_wp2_with fail
                    refine HRD.out.mono ?_
                    rintro e w9 ⟨he, hl9⟩
                    have he' : e = .returned (.tuple #[.string sy, .int .i64 X2]) := by rw [he]; simp only [hsy]
                    subst he'
                    have HL9 := Lib.hid hl9.rebase
                    have HLA9 := Lib.hid (HLAX.out.moved hl9.moves)
                    have HDA9 := Lib.hid (HDAX.out.moved hl9.moves)
                    have HMA9 := Lib.hid (HMAX.out.moved hl9.moves)
                    have HB9 : Hid (Below B w0 w9) := Lib.hid (HBWX.out.trans hl9.moves.below)
                    obtain ⟨lb2, e2, y1⟩ := HLA9.out.cell q _ HXQ.out
                    obtain ⟨db, e3, y2⟩ := HDA9.out.cell q _ HDQ.out
                    rw [ht] at y1
                    rw [hsy] at y2
                    simp only [Option.some.injEq, Addr.mk.injEq, and_true] at e2
                    rw [← e2] at y1
                    subst e3
                    clear he hl9 HRD HLAX HDAX HMAX HBWX e2 hcl hcm ht hsy
                    go_wp2
                    go_roundw
                    case rel => exact ⟨q + 1, by omega, by go_num, HL9.out, HB9.out, HLA9.out, HDA9.out, HMA9.out⟩
                    case measure => simp [intOf]; omega
                  · have HBE := Lib.hid hbw
                    clear hlv hbw hla hda hma
                    go_wp2
                    go_ret
                    exact ⟨rfl, by rw [HB0.out]; exact HFIN.out _ HBE.out⟩
          · have hrem : (P : Int) % 5 = (2 : Int) := by omega
            obtain ⟨c, s', hcs⟩ : ∃ c s', DM.sync kk.data.toList s = (c, s') := ⟨_, _, rfl⟩
            have HSEEN : Hid (c ≠ 0 → c ≠ 13 → Seen s s') := Lib.hid fun h0 h13 => sync_seen hcs h0 h13
            have HOP := Lib.hid (HLV.out.sync (by omega) kk (by omega) hcs)
            clear hcs h5
            go_wp2_with fail
            refine HOP.out.mono ?_
            rintro e w5 ⟨rfl, hl5⟩
            have HL5 := Lib.hid hl5.rebase
            have HLA5 := Lib.hid (HLAV.out.moved hl5.moves)
            have HDA5 := Lib.hid (HDAV.out.moved hl5.moves)
            have HB5 : Hid (Below B w0 w5) := Lib.hid (HBW.out.trans hl5.moves.below)
            clear hl5 HOP HLAV HDAV HBW HLV
            simp only at HL5
            go_wp2_with fail
            refine (wakes_any _).mono ?_
            rintro e w6 ⟨rfl, hb6⟩
            have HL6 := Lib.hid (HL5.out.still hb6).rebase
            have HLA6 := Lib.hid (HLA5.out.below hb6)
            have HDA6 := Lib.hid (HDA5.out.below hb6)
            have HB6 : Hid (Below B w0 w6) := Lib.hid (HB5.out.trans (hb6.mono HL5.out.le'))
            clear hb6 HL5 HLA5 HDA5 HB5
            by_cases h0 : c = 0
            · subst h0
              go_wp2_with fail
              refine (wakes_any _).mono ?_
              rintro e w7 ⟨rfl, hb7⟩
              have HB7 : Hid (Below B w0 w7) := Lib.hid (HB6.out.trans (hb7.mono HL6.out.le'))
              clear hb7
              go_wp2
              go_ret
              exact ⟨rfl, by rw [HB0.out]; exact HFIN.out _ HB7.out⟩
            · by_cases h13 : c = 13
              · subst h13
                go_wp2_with fail
                refine (wakes_any _).mono ?_
                rintro e w7 ⟨rfl, hb7⟩
                have HB7 : Hid (Below B w0 w7) := Lib.hid (HB6.out.trans (hb7.mono HL6.out.le'))
                clear hb7
                go_wp2
                go_ret
                exact ⟨rfl, by rw [HB0.out]; exact HFIN.out _ HB7.out⟩
              · have t0 : (c == 0) = false := beq_eq_false_iff_ne.2 h0
                have t13 : (c == 13) = false := beq_eq_false_iff_ne.2 h13
                have hseen := HSEEN.out h0 h13
                have HSN := Lib.hid hseen
                have hLI := HL6.out.listAt
                rw [hseen.1, HNL.out, HXS.out] at hLI
                have HLI := Lib.hid hLI
                clear hLI hseen HSEEN h0 h13
                go_wp2_with fail
                refine HLI.out.mono ?_
                rintro e w7 ⟨MA, mc, rfl, hma, -, hl7, hb7⟩
                have HL7 := Lib.hid hl7
                have HMA7 := Lib.hid hma
                have HLA7 := Lib.hid (HLA6.out.below hb7)
                have HDA7 := Lib.hid (HDA6.out.below hb7)
                have HB7 : Hid (Below B w0 w7) := Lib.hid (HB6.out.trans (hb7.mono HL6.out.le'))
                have HUS : Hid (Calls Try.prog 11 #[.pointer (some ⟨d, 0, none⟩)] w7 fun e w' => e = .returned (.int .i64 U) ∧ w7 = w') := Lib.hid (by
                  have h := hl7.usedAt
                  rw [used_seen HSN.out, HU.out] at h
                  exact h)
                have hUU : (U == U) = true := beq_self_eq_true _
                have hnn : ((j : Int) == (j : Int)) = true := beq_self_eq_true _
                clear hl7 hma hb7 HLI HL6 HLA6 HDA6 HB6
                go_wp2_with (go_at_call 11; refine HUS.out.mono ?_; rintro e wz ⟨rfl, rfl⟩)
                go_loopw [128] (fun i wx => ∃ q : Nat, q ≤ j ∧ i = .int .i64 q ∧ Live B wx wx d s' (k + 1) 140737488355328 ∧ Below B w0 wx ∧ TextRow wx LA xs ∧ TextRow wx DA ds ∧ TextRow wx MA xs) (fun i _ => j - (intOf i).toNat)
                case atStart => exact ⟨0, by omega, rfl, HL7.out, HB7.out, HLA7.out, HDA7.out, HMA7.out⟩
                case round =>
                  obtain ⟨q, hq, rfl, hlv, hbw, hla, hda, hma⟩ := hrel
                  by_cases hlt3 : q < j
                  · have hqx : q < xs.length := by rw [HXL.out]; exact hlt3
                    have hqd : q < ds.length := by rw [HDL.out]; exact hlt3
                    have hxq : xs[q]? = some xs[q] := List.getElem?_eq_getElem hqx
                    have hdq : ds[q]? = some ds[q] := List.getElem?_eq_getElem hqd
                    have hx64 := HX64.out xs[q] (List.getElem_mem hqx)
                    have hrd := HX.out q _ _ hxq hdq
                    obtain ⟨x, hx⟩ : ∃ x, xs[q] = x := ⟨_, rfl⟩
                    obtain ⟨y, hy⟩ : ∃ y, ds[q] = y := ⟨_, rfl⟩
                    rw [hx] at hxq hx64 hrd
                    rw [hy] at hdq hrd
                    obtain ⟨t, ht, htd, hts⟩ := enc_size x
                    obtain ⟨sy, hsy, -, -⟩ := enc_size y
                    obtain ⟨X2, hX2⟩ : ∃ X2, (DM.read x s').2 = X2 := ⟨_, rfl⟩
                    have hrd' : DM.read t.data.toList s' = (y, X2) := by
                      rw [htd, ← hX2, ← hrd, read_seen HSN.out]
                    have HRD := Lib.hid (hlv.read t (by omega) hrd')
                    obtain ⟨lb, hLA, hcl⟩ := hla.cell q _ hxq
                    obtain ⟨mb, hMA, hcm⟩ := hma.cell q _ hxq
                    rw [ht] at hcl hcm
                    have HXQ := Lib.hid hxq
                    have HDQ := Lib.hid hdq
                    have htt' : (t.toList == t.toList) = true := beq_self_eq_true _
                    have hss' : (sy.toList == sy.toList) = true := beq_self_eq_true _
                    have g0 : (0 : Int) ≤ (q : Int) := by omega
                    have g1 : (q : Int) < (j : Int) := by omega
                    have HLAX := Lib.hid hla
                    have HDAX := Lib.hid hda
                    have HMAX := Lib.hid hma
                    have HBWX := Lib.hid hbw
                    subst hLA hMA
                    clear hla hda hma hbw hlv hx64 hxq hdq hqx hqd hx hy hrd hrd' hX2
                    go_wp2_with fail
                    refine HRD.out.mono ?_
                    rintro e w9 ⟨he, hl9⟩
                    have he' : e = .returned (.tuple #[.string sy, .int .i64 X2]) := by rw [he]; simp only [hsy]
                    subst he'
                    have HL9 := Lib.hid hl9.rebase
                    have HLA9 := Lib.hid (HLAX.out.moved hl9.moves)
                    have HDA9 := Lib.hid (HDAX.out.moved hl9.moves)
                    have HMA9 := Lib.hid (HMAX.out.moved hl9.moves)
                    have HB9 : Hid (Below B w0 w9) := Lib.hid (HBWX.out.trans hl9.moves.below)
                    obtain ⟨lb2, e2, y1⟩ := HLA9.out.cell q _ HXQ.out
                    obtain ⟨db, e3, y2⟩ := HDA9.out.cell q _ HDQ.out
                    rw [ht] at y1
                    rw [hsy] at y2
                    simp only [Option.some.injEq, Addr.mk.injEq, and_true] at e2
                    rw [← e2] at y1
                    subst e3
                    clear he hl9 HRD HLAX HDAX HMAX HBWX e2 hcl hcm ht hsy
                    go_wp2
                    go_roundw
                    case rel => exact ⟨q + 1, by omega, by go_num, HL9.out, HB9.out, HLA9.out, HDA9.out, HMA9.out⟩
                    case measure => simp [intOf]; omega
                  · have HBE := Lib.hid hbw
                    clear hlv hbw hla hda hma
                    go_wp2
                    go_ret
                    exact ⟨rfl, by rw [HB0.out]; exact HFIN.out _ HBE.out⟩
          · have hrem : (P : Int) % 5 = (3 : Int) := by omega
            obtain ⟨c, s', hcs⟩ : ∃ c s', DM.rename kk.data.toList tt.data.toList s = (c, s') := ⟨_, _, rfl⟩
            have HSEEN : Hid (c ≠ 0 → c ≠ 13 → Seen s s') := Lib.hid fun h0 h13 => rename_seen hcs h0 h13
            have HOP := Lib.hid (HLV.out.rename (by omega) kk tt (by omega) hcs)
            clear hcs h5
            go_wp2_with fail
            refine HOP.out.mono ?_
            rintro e w5 ⟨rfl, hl5⟩
            have HL5 := Lib.hid hl5.rebase
            have HLA5 := Lib.hid (HLAV.out.moved hl5.moves)
            have HDA5 := Lib.hid (HDAV.out.moved hl5.moves)
            have HB5 : Hid (Below B w0 w5) := Lib.hid (HBW.out.trans hl5.moves.below)
            clear hl5 HOP HLAV HDAV HBW HLV
            simp only at HL5
            go_wp2_with fail
            refine (wakes_any _).mono ?_
            rintro e w6 ⟨rfl, hb6⟩
            have HL6 := Lib.hid (HL5.out.still hb6).rebase
            have HLA6 := Lib.hid (HLA5.out.below hb6)
            have HDA6 := Lib.hid (HDA5.out.below hb6)
            have HB6 : Hid (Below B w0 w6) := Lib.hid (HB5.out.trans (hb6.mono HL5.out.le'))
            clear hb6 HL5 HLA5 HDA5 HB5
            by_cases h0 : c = 0
            · subst h0
              go_wp2_with fail
              refine (wakes_any _).mono ?_
              rintro e w7 ⟨rfl, hb7⟩
              have HB7 : Hid (Below B w0 w7) := Lib.hid (HB6.out.trans (hb7.mono HL6.out.le'))
              clear hb7
              go_wp2
              go_ret
              exact ⟨rfl, by rw [HB0.out]; exact HFIN.out _ HB7.out⟩
            · by_cases h13 : c = 13
              · subst h13
                go_wp2_with fail
                refine (wakes_any _).mono ?_
                rintro e w7 ⟨rfl, hb7⟩
                have HB7 : Hid (Below B w0 w7) := Lib.hid (HB6.out.trans (hb7.mono HL6.out.le'))
                clear hb7
                go_wp2
                go_ret
                exact ⟨rfl, by rw [HB0.out]; exact HFIN.out _ HB7.out⟩
              · have t0 : (c == 0) = false := beq_eq_false_iff_ne.2 h0
                have t13 : (c == 13) = false := beq_eq_false_iff_ne.2 h13
                have hseen := HSEEN.out h0 h13
                have HSN := Lib.hid hseen
                have hLI := HL6.out.listAt
                rw [hseen.1, HNL.out, HXS.out] at hLI
                have HLI := Lib.hid hLI
                clear hLI hseen HSEEN h0 h13
                go_wp2_with fail
                refine HLI.out.mono ?_
                rintro e w7 ⟨MA, mc, rfl, hma, -, hl7, hb7⟩
                have HL7 := Lib.hid hl7
                have HMA7 := Lib.hid hma
                have HLA7 := Lib.hid (HLA6.out.below hb7)
                have HDA7 := Lib.hid (HDA6.out.below hb7)
                have HB7 : Hid (Below B w0 w7) := Lib.hid (HB6.out.trans (hb7.mono HL6.out.le'))
                have HUS : Hid (Calls Try.prog 11 #[.pointer (some ⟨d, 0, none⟩)] w7 fun e w' => e = .returned (.int .i64 U) ∧ w7 = w') := Lib.hid (by
                  have h := hl7.usedAt
                  rw [used_seen HSN.out, HU.out] at h
                  exact h)
                have hUU : (U == U) = true := beq_self_eq_true _
                have hnn : ((j : Int) == (j : Int)) = true := beq_self_eq_true _
                clear hl7 hma hb7 HLI HL6 HLA6 HDA6 HB6
                go_wp2_with (go_at_call 11; refine HUS.out.mono ?_; rintro e wz ⟨rfl, rfl⟩)
                go_loopw [128] (fun i wx => ∃ q : Nat, q ≤ j ∧ i = .int .i64 q ∧ Live B wx wx d s' (k + 1) 140737488355328 ∧ Below B w0 wx ∧ TextRow wx LA xs ∧ TextRow wx DA ds ∧ TextRow wx MA xs) (fun i _ => j - (intOf i).toNat)
                case atStart => exact ⟨0, by omega, rfl, HL7.out, HB7.out, HLA7.out, HDA7.out, HMA7.out⟩
                case round =>
                  obtain ⟨q, hq, rfl, hlv, hbw, hla, hda, hma⟩ := hrel
                  by_cases hlt3 : q < j
                  · have hqx : q < xs.length := by rw [HXL.out]; exact hlt3
                    have hqd : q < ds.length := by rw [HDL.out]; exact hlt3
                    have hxq : xs[q]? = some xs[q] := List.getElem?_eq_getElem hqx
                    have hdq : ds[q]? = some ds[q] := List.getElem?_eq_getElem hqd
                    have hx64 := HX64.out xs[q] (List.getElem_mem hqx)
                    have hrd := HX.out q _ _ hxq hdq
                    obtain ⟨x, hx⟩ : ∃ x, xs[q] = x := ⟨_, rfl⟩
                    obtain ⟨y, hy⟩ : ∃ y, ds[q] = y := ⟨_, rfl⟩
                    rw [hx] at hxq hx64 hrd
                    rw [hy] at hdq hrd
                    obtain ⟨t, ht, htd, hts⟩ := enc_size x
                    obtain ⟨sy, hsy, -, -⟩ := enc_size y
                    obtain ⟨X2, hX2⟩ : ∃ X2, (DM.read x s').2 = X2 := ⟨_, rfl⟩
                    have hrd' : DM.read t.data.toList s' = (y, X2) := by
                      rw [htd, ← hX2, ← hrd, read_seen HSN.out]
                    have HRD := Lib.hid (hlv.read t (by omega) hrd')
                    obtain ⟨lb, hLA, hcl⟩ := hla.cell q _ hxq
                    obtain ⟨mb, hMA, hcm⟩ := hma.cell q _ hxq
                    rw [ht] at hcl hcm
                    have HXQ := Lib.hid hxq
                    have HDQ := Lib.hid hdq
                    have htt' : (t.toList == t.toList) = true := beq_self_eq_true _
                    have hss' : (sy.toList == sy.toList) = true := beq_self_eq_true _
                    have g0 : (0 : Int) ≤ (q : Int) := by omega
                    have g1 : (q : Int) < (j : Int) := by omega
                    have HLAX := Lib.hid hla
                    have HDAX := Lib.hid hda
                    have HMAX := Lib.hid hma
                    have HBWX := Lib.hid hbw
                    subst hLA hMA
                    clear hla hda hma hbw hlv hx64 hxq hdq hqx hqd hx hy hrd hrd' hX2
                    go_wp2_with fail
                    refine HRD.out.mono ?_
                    rintro e w9 ⟨he, hl9⟩
                    have he' : e = .returned (.tuple #[.string sy, .int .i64 X2]) := by rw [he]; simp only [hsy]
                    subst he'
                    have HL9 := Lib.hid hl9.rebase
                    have HLA9 := Lib.hid (HLAX.out.moved hl9.moves)
                    have HDA9 := Lib.hid (HDAX.out.moved hl9.moves)
                    have HMA9 := Lib.hid (HMAX.out.moved hl9.moves)
                    have HB9 : Hid (Below B w0 w9) := Lib.hid (HBWX.out.trans hl9.moves.below)
                    obtain ⟨lb2, e2, y1⟩ := HLA9.out.cell q _ HXQ.out
                    obtain ⟨db, e3, y2⟩ := HDA9.out.cell q _ HDQ.out
                    rw [ht] at y1
                    rw [hsy] at y2
                    simp only [Option.some.injEq, Addr.mk.injEq, and_true] at e2
                    rw [← e2] at y1
                    subst e3
                    clear he hl9 HRD HLAX HDAX HMAX HBWX e2 hcl hcm ht hsy
                    go_wp2
                    go_roundw
                    case rel => exact ⟨q + 1, by omega, by go_num, HL9.out, HB9.out, HLA9.out, HDA9.out, HMA9.out⟩
                    case measure => simp [intOf]; omega
                  · have HBE := Lib.hid hbw
                    clear hlv hbw hla hda hma
                    go_wp2
                    go_ret
                    exact ⟨rfl, by rw [HB0.out]; exact HFIN.out _ HBE.out⟩
          · have hrem : (P : Int) % 5 = (4 : Int) := by omega
            obtain ⟨c, s', hcs⟩ : ∃ c s', DM.remove kk.data.toList s = (c, s') := ⟨_, _, rfl⟩
            have HSEEN : Hid (c ≠ 0 → c ≠ 13 → Seen s s') := Lib.hid fun h0 h13 => remove_seen hcs h0 h13
            have HOP := Lib.hid (HLV.out.remove (by omega) kk (by omega) hcs)
            clear hcs h5
            go_wp2_with fail
            refine HOP.out.mono ?_
            rintro e w5 ⟨rfl, hl5⟩
            have HL5 := Lib.hid hl5.rebase
            have HLA5 := Lib.hid (HLAV.out.moved hl5.moves)
            have HDA5 := Lib.hid (HDAV.out.moved hl5.moves)
            have HB5 : Hid (Below B w0 w5) := Lib.hid (HBW.out.trans hl5.moves.below)
            clear hl5 HOP HLAV HDAV HBW HLV
            simp only at HL5
            go_wp2_with fail
            refine (wakes_any _).mono ?_
            rintro e w6 ⟨rfl, hb6⟩
            have HL6 := Lib.hid (HL5.out.still hb6).rebase
            have HLA6 := Lib.hid (HLA5.out.below hb6)
            have HDA6 := Lib.hid (HDA5.out.below hb6)
            have HB6 : Hid (Below B w0 w6) := Lib.hid (HB5.out.trans (hb6.mono HL5.out.le'))
            clear hb6 HL5 HLA5 HDA5 HB5
            by_cases h0 : c = 0
            · subst h0
              go_wp2_with fail
              refine (wakes_any _).mono ?_
              rintro e w7 ⟨rfl, hb7⟩
              have HB7 : Hid (Below B w0 w7) := Lib.hid (HB6.out.trans (hb7.mono HL6.out.le'))
              clear hb7
              go_wp2
              go_ret
              exact ⟨rfl, by rw [HB0.out]; exact HFIN.out _ HB7.out⟩
            · by_cases h13 : c = 13
              · subst h13
                go_wp2_with fail
                refine (wakes_any _).mono ?_
                rintro e w7 ⟨rfl, hb7⟩
                have HB7 : Hid (Below B w0 w7) := Lib.hid (HB6.out.trans (hb7.mono HL6.out.le'))
                clear hb7
                go_wp2
                go_ret
                exact ⟨rfl, by rw [HB0.out]; exact HFIN.out _ HB7.out⟩
              · have t0 : (c == 0) = false := beq_eq_false_iff_ne.2 h0
                have t13 : (c == 13) = false := beq_eq_false_iff_ne.2 h13
                have hseen := HSEEN.out h0 h13
                have HSN := Lib.hid hseen
                have hLI := HL6.out.listAt
                rw [hseen.1, HNL.out, HXS.out] at hLI
                have HLI := Lib.hid hLI
                clear hLI hseen HSEEN h0 h13
                go_wp2_with fail
                refine HLI.out.mono ?_
                rintro e w7 ⟨MA, mc, rfl, hma, -, hl7, hb7⟩
                have HL7 := Lib.hid hl7
                have HMA7 := Lib.hid hma
                have HLA7 := Lib.hid (HLA6.out.below hb7)
                have HDA7 := Lib.hid (HDA6.out.below hb7)
                have HB7 : Hid (Below B w0 w7) := Lib.hid (HB6.out.trans (hb7.mono HL6.out.le'))
                have HUS : Hid (Calls Try.prog 11 #[.pointer (some ⟨d, 0, none⟩)] w7 fun e w' => e = .returned (.int .i64 U) ∧ w7 = w') := Lib.hid (by
                  have h := hl7.usedAt
                  rw [used_seen HSN.out, HU.out] at h
                  exact h)
                have hUU : (U == U) = true := beq_self_eq_true _
                have hnn : ((j : Int) == (j : Int)) = true := beq_self_eq_true _
                clear hl7 hma hb7 HLI HL6 HLA6 HDA6 HB6
                go_wp2_with (go_at_call 11; refine HUS.out.mono ?_; rintro e wz ⟨rfl, rfl⟩)
                go_loopw [128] (fun i wx => ∃ q : Nat, q ≤ j ∧ i = .int .i64 q ∧ Live B wx wx d s' (k + 1) 140737488355328 ∧ Below B w0 wx ∧ TextRow wx LA xs ∧ TextRow wx DA ds ∧ TextRow wx MA xs) (fun i _ => j - (intOf i).toNat)
                case atStart => exact ⟨0, by omega, rfl, HL7.out, HB7.out, HLA7.out, HDA7.out, HMA7.out⟩
                case round =>
                  obtain ⟨q, hq, rfl, hlv, hbw, hla, hda, hma⟩ := hrel
                  by_cases hlt3 : q < j
                  · have hqx : q < xs.length := by rw [HXL.out]; exact hlt3
                    have hqd : q < ds.length := by rw [HDL.out]; exact hlt3
                    have hxq : xs[q]? = some xs[q] := List.getElem?_eq_getElem hqx
                    have hdq : ds[q]? = some ds[q] := List.getElem?_eq_getElem hqd
                    have hx64 := HX64.out xs[q] (List.getElem_mem hqx)
                    have hrd := HX.out q _ _ hxq hdq
                    obtain ⟨x, hx⟩ : ∃ x, xs[q] = x := ⟨_, rfl⟩
                    obtain ⟨y, hy⟩ : ∃ y, ds[q] = y := ⟨_, rfl⟩
                    rw [hx] at hxq hx64 hrd
                    rw [hy] at hdq hrd
                    obtain ⟨t, ht, htd, hts⟩ := enc_size x
                    obtain ⟨sy, hsy, -, -⟩ := enc_size y
                    obtain ⟨X2, hX2⟩ : ∃ X2, (DM.read x s').2 = X2 := ⟨_, rfl⟩
                    have hrd' : DM.read t.data.toList s' = (y, X2) := by
                      rw [htd, ← hX2, ← hrd, read_seen HSN.out]
                    have HRD := Lib.hid (hlv.read t (by omega) hrd')
                    obtain ⟨lb, hLA, hcl⟩ := hla.cell q _ hxq
                    obtain ⟨mb, hMA, hcm⟩ := hma.cell q _ hxq
                    rw [ht] at hcl hcm
                    have HXQ := Lib.hid hxq
                    have HDQ := Lib.hid hdq
                    have htt' : (t.toList == t.toList) = true := beq_self_eq_true _
                    have hss' : (sy.toList == sy.toList) = true := beq_self_eq_true _
                    have g0 : (0 : Int) ≤ (q : Int) := by omega
                    have g1 : (q : Int) < (j : Int) := by omega
                    have HLAX := Lib.hid hla
                    have HDAX := Lib.hid hda
                    have HMAX := Lib.hid hma
                    have HBWX := Lib.hid hbw
                    subst hLA hMA
                    clear hla hda hma hbw hlv hx64 hxq hdq hqx hqd hx hy hrd hrd' hX2
                    go_wp2_with fail
                    refine HRD.out.mono ?_
                    rintro e w9 ⟨he, hl9⟩
                    have he' : e = .returned (.tuple #[.string sy, .int .i64 X2]) := by rw [he]; simp only [hsy]
                    subst he'
                    have HL9 := Lib.hid hl9.rebase
                    have HLA9 := Lib.hid (HLAX.out.moved hl9.moves)
                    have HDA9 := Lib.hid (HDAX.out.moved hl9.moves)
                    have HMA9 := Lib.hid (HMAX.out.moved hl9.moves)
                    have HB9 : Hid (Below B w0 w9) := Lib.hid (HBWX.out.trans hl9.moves.below)
                    obtain ⟨lb2, e2, y1⟩ := HLA9.out.cell q _ HXQ.out
                    obtain ⟨db, e3, y2⟩ := HDA9.out.cell q _ HDQ.out
                    rw [ht] at y1
                    rw [hsy] at y2
                    simp only [Option.some.injEq, Addr.mk.injEq, and_true] at e2
                    rw [← e2] at y1
                    subst e3
                    clear he hl9 HRD HLAX HDAX HMAX HBWX e2 hcl hcm ht hsy
                    go_wp2
                    go_roundw
                    case rel => exact ⟨q + 1, by omega, by go_num, HL9.out, HB9.out, HLA9.out, HDA9.out, HMA9.out⟩
                    case measure => simp [intOf]; omega
                  · have HBE := Lib.hid hbw
                    clear hlv hbw hla hda hma
                    go_wp2
                    go_ret
                    exact ⟨rfl, by rw [HB0.out]; exact HFIN.out _ HBE.out⟩

set_option maxRecDepth 100000 in
set_option maxHeartbeats 1000000 in
theorem contract (H : Type) (enc : TypeId × Value → H) (W : World) (base : Nat) (args : Array Value) (ds gs : List (DataW H)) (before : List MemPlace)
    (hval : ∀ (j : Nat) t v, Try.f4.params[j]? = some t → args[j]? = some v → Value.okWide Try.prog W .any base t v)
    (hW : DataW.Whole enc Try.prog Try.f4.params.toList Rows.diskRefusesSpec.vars false W args.toList ds gs before)
    (hz : (DataW.weightsEach Try.prog Try.f4.params.toList (ds ++ gs)).all (· ≤ reachBytes) = true) :
    Calls Try.prog 4 args W fun e W' => ∃ v, e = .returned v ∧ Rows.diskRefusesSpec.post enc Try.prog Try.f4 false true false false W args v W' := by
  have hW' := hW
  obtain ⟨p, q, hA0, hV, rfl, hfz, hnd⟩ := hW
  have hA : DataW.TrodAll enc Try.prog W 0 (fun _ => true) true Try.f4.params.toList args.toList ds p := hA0
  rw [Try.params4] at hA hval hz
  obtain ⟨v0, vs0, d0, ds0, p0, q0, hargs, rfl, rfl, h0, r0⟩ := trodAll_cons hA
  obtain ⟨v1, vs1, d1, ds1, p1, q1, rfl, rfl, rfl, h1, r1⟩ := trodAll_cons r0
  obtain ⟨v2, vs2, d2, ds2, p2, q2, rfl, rfl, rfl, h2, r2⟩ := trodAll_cons r1
  obtain ⟨rfl, rfl, rfl⟩ := trodAll_nil r2
  obtain rfl : args = #[v0, v1, v2] := by cases args; simp_all
  obtain ⟨rfl, rfl⟩ := trodVars_none hV
  obtain ⟨room, rfl, rfl, rfl, wroom⟩ := open_int Try.underlying3 (hval 0 3 v0 rfl rfl) h0
  have hroom : -9223372036854775808 ≤ room ∧ room ≤ 9223372036854775807 := by simpa [Lit.wf, IntKind.min, IntKind.max, IntKind.signed, IntKind.bits] using wroom
  obtain ⟨scA, scN, scC, sc, rfl, hlensc, hinsc, hbsc⟩ := open_acts (hval 1 22 v1 rfl rfl) h1 (parts_sized hz (j := 1) rfl rfl)
  obtain ⟨aD, aK, aT, aN, aM, aA, an, ac, rfl, hDa, hka, hta⟩ := open_act1 (hval 2 31 v2 rfl rfl) h2 (parts_sized hz (j := 2) rfl rfl)
  refine (walk room scA scN scC sc aD aK aT aN aM aA an ac W hlensc hinsc hbsc hroom hDa hka).mono fun e W' ⟨he, hB⟩ => ?_
  subst he
  exact ⟨_, rfl, law_post Try.laidOut (by kernel_rfl) rfl rfl Try.underlying4 hW' rfl hB⟩

set_option maxRecDepth 100000 in
theorem lifted (os : Os) (started : os.Started) (H : Type) (enc : TypeId × Value → H) :
    ReturnsInHanded {} Try.checked os 4 .any (Rows.diskRefusesSpec.pre6 enc Try.prog Try.f4 Rows.diskRefusesRow.domain false) (Rows.diskRefusesSpec.post enc Try.prog Try.f4 false true false false) := by
  refine returnsInHanded_of_change_sized (C := Try.checked) Try.own started (by kernel_rfl) Try.func4
    (ChangeSpec.witness6 (enc := enc) (C := Try.checked) false ⟨#[], #[.int .i64 0, .slice none 0 0, .agg #[.int .i64 0, .string ⟨#[]⟩, .string ⟨#[]⟩, .int .i64 0, .int .i64 0, .slice none 0 0]], []⟩ 8 (by kernel_rfl) (by kernel_rfl) (by kernel_rfl) (by kernel_rfl)) ?_
  intro W base args ds gs before hval hW _ hz _
  exact contract H enc W base args ds gs before hval hW hz

theorem proved : Rows.DiskRefusesSaid :=
  OpenClaim.holds_of_wide 4 Try.f4 rfl rfl rfl rfl rfl rfl rfl ⟨rfl, rfl, rfl, rfl, rfl⟩ rfl rfl rfl rfl rfl (by kernel_rfl) Try.func4 (by kernel_rfl)
    (of_decide_eq_true (by kernel_rfl)) (by unfold Func.isWrapper; first | (rw [if_pos (by decide +kernel)]; kernel_rfl) | (rw [if_neg (by decide +kernel)]; exact ⟨rfl, rfl⟩))
    (fun os started H enc _ => lifted os started H enc)
end lawRefuses
end Go.Proofs.Ytadokmihabfbjaa
