/- SkipFrom: from every key on the entries come in the document's order; a loop that ends early ends. For every coins, every puts, every key and every end. -/
import Derived.Test.YtgnlhnfjanoahaaLi
import Derived.Test.YtgnlhnfjanoahaaIt
import Derived.Test.YtgnlhnfjanoahaaEq
import Derived.RangeFuncFrom
import Derived.RangeFuncWrites
import Derived.Sort.QuietIn
import Derived.Test.YtgnlhnfjanoahaaQr
namespace Go.Proofs.Ytgnlhnfjanoahaa
open Go.ChangeShapes Go.WideShapes Go.ChangeAt Go.RowKit Go.Shelf
open SK
namespace lawFrom
attribute [local go_sem] Oper.semAt_some

/-- what lies between two rounds: at entries have come -/
structure Inv (w : World) (x y n : Nat) (K : ByteArray) (Q : Int) (WA : Option Addr) (wc : Nat) (want : List E) (N1 : Nat) (at_ : Nat) (W : World) : Prop where
  ask : W.heap[x]? = some (.cells #[.string K, .int .i64 Q] 25 (0, 0))
  res : W.heap[x + 1]? = some (.cells #[.bool false] 4 (0, 0))
  slice : W.heap[y]? = some (.cells #[.slice WA n wc] 30 (0, 0))
  count : W.heap[y + 1]? = some (.cells #[.int .i64 at_] 3 (0, 0))
  ents : EntsIn W WA want
  below : Below x w W
  le : N1 ≤ W.heap.size

theorem Inv.own (w : World) (x y n : Nat) (K : ByteArray) (Q : Int) (WA : Option Addr) (wc : Nat) (want : List E) (N1 : Nat) (hx : x + 2 ≤ N1) (hy : y + 2 ≤ N1) (hf : ∀ b ∈ fb WA, b < N1) (f : List E → Nat) : OwnFrom N1 (fun pre W => Inv w x y n K Q WA wc want N1 (f pre) W) :=
  fun s A B row h hg hr => by
    have far : ∀ b, b < N1 → b < A.heap.size → B.heap[b]? = A.heap[b]? := fun b hb hb2 => hg.block b hb2 (fun e => by have := (hr b e.symm).1; omega)
    have l1 := (Array.getElem?_eq_some_iff.1 h.ask).1
    have l2 := (Array.getElem?_eq_some_iff.1 h.res).1
    have l3 := (Array.getElem?_eq_some_iff.1 h.slice).1
    have l4 := (Array.getElem?_eq_some_iff.1 h.count).1
    refine ⟨(far x (by omega) l1).trans h.ask, (far (x + 1) (by omega) l2).trans h.res, (far y (by omega) l3).trans h.slice, (far (y + 1) (by omega) l4).trans h.count, ?_, h.below.grown hg (by omega) (fun r e => by have := (hr r e).1; omega), Nat.le_trans h.le hg.size⟩
    refine ⟨h.ents.wf, fun hn => ?_⟩
    obtain ⟨b, off, hA, hlt, hc⟩ := h.ents.at_ hn
    have hb := far b (hf b (by rw [hA]; simp [fb])) hlt
    refine ⟨b, off, hA, Nat.lt_of_lt_of_le hlt hg.size, fun j hj => ?_⟩
    obtain ⟨c0, c1, c2, c3, c4⟩ := hc j hj
    exact ⟨(World.cell?_of_block (a := ⟨b, _, none⟩) hb).trans c0, (World.cell?_of_block (a := ⟨b, _, none⟩) hb).trans c1, (World.cell?_of_block (a := ⟨b, _, none⟩) hb).trans c2, (World.cell?_of_block (a := ⟨b, _, none⟩) hb).trans c3, (World.cell?_of_block (a := ⟨b, _, none⟩) hb).trans c4⟩

theorem Inv.step {w : World} {x y n : Nat} {K : ByteArray} {Q : Int} {WA : Option Addr} {wc : Nat} {want : List E} {N1 m : Nat} {W : World} (h : Inv w x y n K Q WA wc want N1 m W) (hx : x + 2 ≤ y) (hf : ∀ b ∈ fb WA, b < y) : Inv w x y n K Q WA wc want N1 (m + 1) (W.setCell ⟨y + 1, 0, none⟩ (.int .i64 ((m : Int) + 1))).drew := by
  have far : ∀ b, b ≠ y + 1 → (W.setCell ⟨y + 1, 0, none⟩ (.int .i64 ((m : Int) + 1))).heap[b]? = W.heap[b]? := fun b hb => Below.heap_setCell _ _ _ _ hb
  have hs : (W.setCell ⟨y + 1, 0, none⟩ (.int .i64 ((m : Int) + 1))).heap.size = W.heap.size := setCell_size _ _ _
  refine ⟨(far x (by omega)).trans h.ask, (far (x + 1) (by omega)).trans h.res, (far y (by omega)).trans h.slice, heap_set_fr h.count 0 _, ⟨h.ents.wf, fun hn => ?_⟩, ?_, Nat.le_trans h.le (Nat.le_of_eq hs.symm)⟩
  · obtain ⟨b, off, hA, hlt, hc⟩ := h.ents.at_ hn
    have hb := far b (by have := hf b (by rw [hA]; simp [fb]); omega)
    refine ⟨b, off, hA, Nat.lt_of_lt_of_le hlt (Nat.le_of_eq hs.symm), fun j hj => ?_⟩
    obtain ⟨c0, c1, c2, c3, c4⟩ := hc j hj
    exact ⟨(World.cell?_of_block (a := ⟨b, _, none⟩) hb).trans c0, (World.cell?_of_block (a := ⟨b, _, none⟩) hb).trans c1, (World.cell?_of_block (a := ⟨b, _, none⟩) hb).trans c2, (World.cell?_of_block (a := ⟨b, _, none⟩) hb).trans c3, (World.cell?_of_block (a := ⟨b, _, none⟩) hb).trans c4⟩
  · have hb : Below x w (W.setCell ⟨y + 1, 0, none⟩ (.int .i64 ((m : Int) + 1))) := h.below.setCell (p := ⟨y + 1, 0, none⟩) (by show x ≤ y + 1; omega) _
    exact below_drewN hb 1

theorem not_prefix {pre want : List E} {e d : E} {h : pre.length < want.length} (hd : want[pre.length] = d) (hne : e ≠ d) : ¬ (pre ++ [e]) <+: want := fun ⟨t, ht⟩ => by
  subst ht
  apply hne
  rw [← hd]
  simp

set_option maxRecDepth 100000 in
set_option maxHeartbeats 8000000 in
theorem walk (cA : Option Addr) (cN cC : Nat) (cs : List Int) (pA : Option Addr) (pN pC : Nat) (ps : List E) (K : ByteArray) (Q : Int) (w : World) (hcn : cs.length = cN) (hci : CoinsIn w cA cs) (hcb : cN * 8 ≤ reachBytes) (hpn : ps.length = pN) (hpi : EntsIn w pA ps) (hpb : pN * 56 ≤ reachBytes) (hpc : pN ≤ pC)
    (hK : K.size ≤ reachBytes) :
    Calls Try.prog 3 #[.slice cA cN cC, .slice pA pN pC, .agg #[.string K, .int .i64 Q]] w fun e w' => e = .returned (.bool true) ∧ Below w.heap.size w w' := by
  have hlen : (after cs (ps.take 100)).l.length ≤ 1000000 := by
    have h1 := (after_ok cs (ps.take 100) (fun x hx => hpi.wf x (List.mem_of_mem_take hx))).2
    have h2 : (ps.take 100).length ≤ 100 := List.length_take_le _ _
    omega
  have hX0 : ((w.alloc (.cells #[.string K, .int .i64 Q] 25)).alloc (.cells #[.bool false] 4)).heap[w.heap.size]? = some (.cells #[.string K, .int .i64 Q] 25 (0, 0)) := (Below.heap_alloc _ _ _ (by simp)).trans (heap_alloc_new w _)
  have hR0 : ((w.alloc (.cells #[.string K, .int .i64 Q] 25)).alloc (.cells #[.bool false] 4)).heap[w.heap.size + 1]? = some (.cells #[.bool false] 4 (0, 0)) := by
    have := heap_alloc_new (w.alloc (.cells #[.string K, .int .i64 Q] 25)) (.cells #[.bool false] 4)
    simpa using this
  have hbel : Below w.heap.size w ((w.alloc (.cells #[.string K, .int .i64 Q] 25)).alloc (.cells #[.bool false] 4)) := ((Below.refl _ w).alloc (Nat.le_refl _) _).alloc (by simp) _
  have hsz0 : ((w.alloc (.cells #[.string K, .int .i64 Q] 25)).alloc (.cells #[.bool false] 4)).heap.size = w.heap.size + 2 := by simp
  have HL := Lib.hid (lists_any cA cN cC cs pA pN pC ps ((w.alloc (.cells #[.string K, .int .i64 Q] 25)).alloc (.cells #[.bool false] 4)) hcn (hci.below hbel) hcb hpn (hpi.below hbel) hpc hpb)
  clear hcn hci hcb hpn hpi hpc hpb
  refine (callsIn_wide (n := 4)).1 ?_
  refine callsIn_of_wp_marks Try.func3 rfl trivial ?_ rfl
  simp only [Try.ntmps3, List.size_toArray, List.length_cons, List.length_nil, Nat.reduceAdd, Nat.reduceSub, Array.replicate_succ, Array.replicate_zero, List.push_toArray, List.append_toArray, List.nil_append, List.cons_append]
  refine wpIn_wide.2 ?_
  go_wp2_with fail
  generalize (w.alloc (.cells #[.string K, .int .i64 Q] 25)).alloc (.cells #[.bool false] 4) = w0 at hX0 hR0 hbel hsz0 HL ⊢
  refine HL.out.mono ?_
  rintro v w1 ⟨a, hb, l, r, CA, cc, LA, lc, rfl, hd⟩
  obtain ⟨x, hx⟩ : ∃ x, w.heap.size = x := ⟨_, rfl⟩
  rw [hx] at hX0 hR0 hbel hsz0 ⊢
  have hle1 := hd.le
  have hbd := hd.below
  have HX1 := Lib.hid ((hbd.block x (by omega)).trans hX0)
  have HR1 := Lib.hid ((hbd.block (x + 1) (by omega)).trans hR0)
  have HB1 : Hid (Below x w w1) := Lib.hid (hbel.trans (hbd.mono (by omega)))
  have HD1 := Lib.hid hd
  have HX := Lib.hid hx
  have k0 : w1.cell? ⟨x, 0, none⟩ = some (.string K) := cell_of_row _ _ _ _ _ _ HX1.out
  clear hX0 hR0 hbel hbd hd HL hx
  go_wp2_with fail
  refine (rfrom_any HD1.out.rrep K hlen).mono ?_
  rintro v w2 ⟨WA, wc, rfl, he2, hb2, hf2⟩
  have HD2 := Lib.hid (HD1.out.still hb2)
  have HX2 := Lib.hid ((hb2.block x (by omega)).trans HX1.out)
  have HR2 := Lib.hid ((hb2.block (x + 1) (by omega)).trans HR1.out)
  have HB2 : Hid (Below x w w2) := Lib.hid (HB1.out.trans (hb2.mono (by omega)))
  obtain ⟨want, hwant⟩ : ∃ want, from_ (after cs (ps.take 100)).l K = want := ⟨_, rfl⟩
  have HWANT := Lib.hid hwant
  rw [hwant] at he2
  obtain ⟨n, hn⟩ : ∃ n, want.length = n := ⟨_, rfl⟩
  have HN := Lib.hid hn
  rw [hwant, hn]
  have HE2 := Lib.hid he2
  have HF2 := Lib.hid hf2
  have hle2 : x + 2 ≤ w2.heap.size := by have := hb2.size; omega
  clear he2 hf2 hwant hn k0 hb2 HD1 HX1 HR1 HB1
  have hW3 := (Below.heap_alloc (w2.alloc (.cells #[.slice WA n wc] 30)) (.cells #[.int .i64 0] 3) w2.heap.size (by simp)).trans (heap_alloc_new w2 (.cells #[.slice WA n wc] 30))
  have hA3 : ((w2.alloc (.cells #[.slice WA n wc] 30)).alloc (.cells #[.int .i64 0] 3)).heap[w2.heap.size + 1]? = some (.cells #[.int .i64 0] 3 (0, 0)) := by
    have := heap_alloc_new (w2.alloc (.cells #[.slice WA n wc] 30)) (.cells #[.int .i64 0] 3)
    simpa using this
  have hb3 : Below w2.heap.size w2 ((w2.alloc (.cells #[.slice WA n wc] 30)).alloc (.cells #[.int .i64 0] 3)) := ((Below.refl _ w2).alloc (Nat.le_refl _) _).alloc (by simp) _
  have hz3 : ((w2.alloc (.cells #[.slice WA n wc] 30)).alloc (.cells #[.int .i64 0] 3)).heap.size = w2.heap.size + 2 := by simp
  go_wp2_with fail
  generalize (w2.alloc (.cells #[.slice WA n wc] 30)).alloc (.cells #[.int .i64 0] 3) = w3 at hW3 hA3 hb3 hz3 ⊢
  refine (wakes_any _).mono ?_
  rintro v w4 ⟨rfl, hb4⟩
  obtain ⟨y, hy⟩ : ∃ y, w2.heap.size = y := ⟨_, rfl⟩
  have hb34 : Below y w2 w4 := by rw [← hy]; exact hb3.trans (hb4.mono (by omega))
  rw [hy] at hW3 hA3 hz3 hle2 HF2
  have HD4 := Lib.hid (HD2.out.still (by rw [hy]; exact hb34))
  have HX4 := Lib.hid ((hb34.block x (by omega)).trans HX2.out)
  have HR4 := Lib.hid ((hb34.block (x + 1) (by omega)).trans HR2.out)
  have HW4 := Lib.hid ((hb4.block y (by omega)).trans hW3)
  have HA4 := Lib.hid ((hb4.block (y + 1) (by omega)).trans hA3)
  have HE4 := Lib.hid (HE2.out.below (by rw [hy]; exact hb34))
  have HB4 : Hid (Below x w w4) := Lib.hid (HB2.out.trans (hb34.mono (by omega)))
  have hz4 : y + 2 ≤ w4.heap.size := by have := hb4.size; omega
  have HDL : Hid ((∀ b ∈ a :: hb :: blks l, b < y)) := Lib.hid fun b hm => by
    have := (HD2.out.rep.lo b hm).2
    omega
  have HDL2 : Hid ((∀ b ∈ a :: hb :: blks l, x + 2 ≤ b)) := Lib.hid fun b hm => by
    have := (HD2.out.rep.lo b hm).1
    omega
  have k0 : w4.cell? ⟨x, 0, none⟩ = some (.string K) := cell_of_row _ _ _ _ _ _ HX4.out
  clear hW3 hA3 hb3 hz3 hb4 hb34 HD2 HX2 HR2 HE2 HB2
  rw [hy]
  clear hy
  go_wp2_with fail
  refine (from_any (some ⟨a, 0, none⟩) K _ (by unfold reachBytes at hK; omega)).mono ?_
  rintro v w5 ⟨rfl, hb5, hs5, c0, c1⟩
  have HD5 := Lib.hid (HD4.out.still hb5)
  have HX5 := Lib.hid ((hb5.block x (by omega)).trans HX4.out)
  have HR5 := Lib.hid ((hb5.block (x + 1) (by omega)).trans HR4.out)
  have HW5 := Lib.hid ((hb5.block y (by omega)).trans HW4.out)
  have HA5 := Lib.hid ((hb5.block (y + 1) (by omega)).trans HA4.out)
  have HE5 := Lib.hid (HE4.out.below hb5)
  have HB5 : Hid (Below x w w5) := Lib.hid (HB4.out.trans (hb5.mono (by omega)))
  obtain ⟨z, hz⟩ : ∃ z, w4.heap.size = z := ⟨_, rfl⟩
  rw [hz] at hs5 c0 c1 hz4
  clear hb5 HD4 HX4 HR4 HW4 HA4 HE4 HB4 k0
  rw [hz]
  clear hz
  go_wp2_with fail
  have HINV : Hid (Inv w x y n K Q WA wc want w5.heap.size 0 w5) := Lib.hid ⟨HX5.out, HR5.out, HW5.out, HA5.out, HE5.out, HB5.out, Nat.le_refl _⟩
  have hsto := from_stops HD5.out.rep HD5.out.oks [y + 1, x + 1] w5.heap.size z (z + 1) (by omega) (by omega) (fun b hm => ⟨(HD5.out.rep.lo b hm).2, by have h1 := HDL.out b hm; have h2 := HDL2.out b hm; simp; omega⟩) (Nat.le_refl _) K (4 - 1) c0 c1
  rw [HWANT.out] at hsto
  clear HX5 HR5 HW5 HA5 HE5 HB5
  refine (wpIn_wide (n := 4)).1 ?_
  refine wpIn_rangeFunc_ownH rfl (by decide) (gf := 19) (lb := #[.pointer (some ⟨z, 0, none⟩), .pointer (some ⟨z + 1, 0, none⟩)]) rfl trivial (enters_of Try.func19 (by kernel_rfl) rfl)
    hsto (fun h k => h.trans k) (fun W l o o' hl h h1 h2 => Kept.put W l o o' (Nat.le_refl _) hl h h1 h2) (Below.refl _ _) (fun _ => rfl)
    (fun pre W => Inv w x y n K Q WA wc want w5.heap.size pre.length W)
    (fun c pre W => (c = .ret ∧ ¬ pre <+: want) ∨ (c = .exit 0 ∧ (pre.length : Int) = Q ∧ Inv w x y n K Q WA wc want w5.heap.size pre.length W))
    (Inv.own w x y n K Q WA wc want _ (by omega) (by omega) (fun b hb => by have := HF2.out b hb; omega) _)
    (fun c s A B row h hg hr => by
      rcases h with h | ⟨h1, h2, h3⟩
      · exact .inl h
      · exact .inr ⟨h1, h2, Inv.own w x y n K Q WA wc want _ (by omega) (by omega) (fun b hb => by have := HF2.out b hb; omega) (fun p => p.length) s A B row h3 hg hr⟩)
    HINV.out
    (fun e a' W => ∃ Bx, w5.heap.size ≤ Bx ∧ W.heap[Bx]? = some (.cells #[.string e.key, .int .i64 e.seq, .bool e.gone, .string e.value, .int .i64 e.til] 36 (0, 0)) ∧ a' = { tmps := #[.slice cA cN cC, .slice pA pN pC, .agg #[.string K, .int .i64 Q], undef, undef, .pointer (some ⟨x, 0, none⟩), .pointer (some ⟨x + 1, 0, none⟩), .pointer (some ⟨a, 0, none⟩), .pointer (some ⟨r, 0, none⟩), .bool true, .pointer (some ⟨y, 0, none⟩), .pointer (some ⟨y + 1, 0, none⟩), .pointer (some ⟨Bx, 0, none⟩), .tuple #[.pointer (some ⟨a, 0, none⟩), .pointer (some ⟨r, 0, none⟩), .bool true], .slice cA cN cC, .slice pA pN pC, .tuple #[.pointer (some ⟨a, 0, none⟩), .pointer (some ⟨r, 0, none⟩), .bool true], .pointer (some ⟨a, 0, none⟩), .pointer (some ⟨r, 0, none⟩), .bool true, .pointer (some ⟨r, 0, none⟩), .pointer (some ⟨x, 0, none⟩), .string K, .slice WA n wc, .bool true, .bool false, .bool false, .bool true, .bool false, .bool false, .pointer (some ⟨a, 0, none⟩), .pointer (some ⟨x, 0, none⟩), .string K, .func (.func 19) #[] #[.pointer (some ⟨z, 0, none⟩), .pointer (some ⟨z + 1, 0, none⟩)], e.val, undef, undef, undef, undef, undef, undef, undef, undef, undef, undef, undef, undef, undef, undef, undef, undef, undef, undef, undef, undef, undef, undef, undef, undef, undef, undef, undef, undef], defers := [] })
    (fun e a' s A B row h hg hr => by
      obtain ⟨Bx, h1, h2, h3⟩ := h
      exact ⟨Bx, h1, (hg.block Bx (Array.getElem?_eq_some_iff.1 h2).1 (fun e' => by obtain ⟨-, o, ho, hc⟩ := hr Bx e'.symm; rw [h2] at ho; cases ho; cases hc)).trans h2, h3⟩) ?assign ?body ?done ?stop
  case assign =>
    rintro id pre ⟨k2, q2, g2, v2, t2⟩ W K' hi hK'
    simp only [E.val] at hK' ⊢
    have hl1 := (Array.getElem?_eq_some_iff.1 hi.count).1
    have HI := Lib.hid hi
    have HK' := Lib.hid hK'
    clear hK'
    gi_wp2
    exact HK'.out _ _ ((KeepsOthers.alloc _ _).from _) (Kept.of_below ((Below.refl _ _).alloc hi.le _)) (OwnFrom.alloc (Inv.own w x y n K Q WA wc want w5.heap.size (by omega) (by omega) (fun b hb => by have := HF2.out b hb; omega) (fun p => p.length)) _ (s := pre) hi) ⟨W.heap.size, hi.le, heap_alloc_new W _, rfl⟩
  case body =>
    rintro id pre ⟨k2, q2, g2, v2, t2⟩ a' W hl ⟨rr, hr⟩ hi ⟨Bx, hBx, hrow, rfl⟩ hlt
    have hz0 : W.cell? ⟨Bx, 0, none⟩ = some (.string k2) := cell_of_row _ _ _ _ _ _ hrow
    have hz1 : W.cell? ⟨Bx, 1, none⟩ = some (.int .i64 q2) := cell_of_row _ _ _ _ _ _ hrow
    have hz2 : W.cell? ⟨Bx, 2, none⟩ = some (.bool g2) := cell_of_row _ _ _ _ _ _ hrow
    have hz3 : W.cell? ⟨Bx, 3, none⟩ = some (.string v2) := cell_of_row _ _ _ _ _ _ hrow
    have hz4 : W.cell? ⟨Bx, 4, none⟩ = some (.int .i64 t2) := cell_of_row _ _ _ _ _ _ hrow
    have ca : W.cell? ⟨y + 1, 0, none⟩ = some (.int .i64 pre.length) := cell_of_row _ _ _ _ _ _ hi.count
    have fa : W.frozen? ⟨y + 1, 0, none⟩ = false := frozen_of_row _ _ _ _ _ hi.count
    have cw : W.cell? ⟨y, 0, none⟩ = some (.slice WA n wc) := cell_of_row _ _ _ _ _ _ hi.slice
    have cr : W.cell? ⟨x + 1, 0, none⟩ = some (.bool false) := cell_of_row _ _ _ _ _ _ hi.res
    have fr : W.frozen? ⟨x + 1, 0, none⟩ = false := frozen_of_row _ _ _ _ _ hi.res
    have cq : W.cell? ⟨x, 1, none⟩ = some (.int .i64 Q) := cell_of_row _ _ _ _ _ _ hi.ask
    obtain ⟨b, off, hA, hbl, hc⟩ := hi.ents.at_ (by omega)
    obtain ⟨z0, z1, z2, z3, z4⟩ := hc pre.length hlt
    have hnp := @not_prefix pre want
    obtain ⟨d, hd⟩ : ∃ d, want[pre.length] = d := ⟨_, rfl⟩
    rw [hd] at z0 z1 z2 z3 z4
    have hnp2 := fun e (hne : e ≠ d) => hnp (h := hlt) hd hne
    have HNP := Lib.hid hnp2
    have hlt' := hlt
    rw [HN.out] at hlt'
    obtain ⟨m, hm⟩ : ∃ m, pre.length = m := ⟨_, rfl⟩
    have HM := Lib.hid hm
    rw [hm] at ca z0 z1 z2 z3 z4 hlt'
    have hiff := eqB_iff ⟨k2, q2, g2, v2, t2⟩ d
    obtain ⟨k3, q3, g3, v3, t3⟩ := d
    simp only at z0 z1 z2 z3 z4
    have hcmp := fun W => rent_any W k2 k3 q2 q3 g2 g3 v2 v3 t2 t3
    have HI := Lib.hid hi
    have hmx : Try.prog.follows .mixedOrders = true := by kernel_rfl
    have g0 : (0 : Int) ≤ (m : Int) := by omega
    have g1 : (m : Int) < (n : Int) := by omega
    have g2' : ¬ (n : Int) ≤ (m : Int) := by omega
    subst hA
    simp only [E.val]
    clear hi hrow hc hd hnp hnp2 hm hbl
    by_cases he : (⟨k2, q2, g2, v2, t2⟩ : E) = ⟨k3, q3, g3, v3, t3⟩
    · have heb := hiff.2 he
      rw [heb] at hcmp
      simp only [Bool.not_true] at hcmp
      have HPRE : Hid (pre ++ [(⟨k2, q2, g2, v2, t2⟩ : E)] = pre ++ [(⟨k2, q2, g2, v2, t2⟩ : E)]) := Lib.hid rfl
      clear hiff he heb HNP
      have hnl : n ≤ 1000000 := by
        rw [← HN.out, ← HWANT.out]
        exact Nat.le_trans (from_len _ _) hlen
      have hwr : IntKind.i64.wrap ((m : Int) + 1) = (m : Int) + 1 := wrap_in _ (by omega)
      have hxy : ¬ x = y + 1 := by omega
      have hyl : y + 1 < W.heap.size := (Array.getElem?_eq_some_iff.1 HI.out.count).1
      have hst : Inv w x y n K Q (some ⟨b, off, none⟩) wc want w5.heap.size (pre ++ [(⟨k2, q2, g2, v2, t2⟩ : E)]).length (W.setCell ⟨y + 1, 0, none⟩ (.int .i64 ((m : Int) + 1))).drew := by
        have := HI.out.step (by omega) (by intro b' hb'; have := HF2.out b' hb'; omega)
        rw [HM.out] at this
        rw [List.length_append, HM.out]
        exact this
      have hkf : KeepsFrom w5.heap.size W (W.setCell ⟨y + 1, 0, none⟩ (.int .i64 ((m : Int) + 1))).drew := ((KeepsOthers.setCell _ _ _).trans (KeepsOthers.drew _)).from _
      have hkp0 : Kept [y + 1, x + 1] w5.heap.size W (W.setCell ⟨y + 1, 0, none⟩ (.int .i64 ((m : Int) + 1))) := (Kept.refl _ _ _).set _ _ _ (.inl (List.mem_cons_self))
      have hkp : Kept [y + 1, x + 1] w5.heap.size W (W.setCell ⟨y + 1, 0, none⟩ (.int .i64 ((m : Int) + 1))).drew := ⟨hkp0.os, hkp0.tape, hkp0.output, hkp0.size, hkp0.block⟩
      clear hkp0
      have hml : (pre ++ [(⟨k2, q2, g2, v2, t2⟩ : E)]).length = m + 1 := by rw [List.length_append, HM.out]; rfl
      have HST := Lib.hid hst
      have HKF := Lib.hid hkf
      have HKP := Lib.hid hkp
      have HML := Lib.hid hml
      clear hst hkf hkp hml hlen
      have gnm : ¬ n ≤ m := by omega
      gi_wp2_with fail
      refine wpIn_region_quiet_lit_r rfl (plain_all (by kernel_rfl)) (by assumption) (by kernel_rfl) ?_
      repeat (gi_big_quiet_step (fail))
      refine wpQuietIn_nil ?_
      intro _ hw'
      obtain ⟨nq, hw''⟩ := hw'
      subst hw''
      have hst : Inv w x y n K Q (some ⟨b, off, none⟩) wc want w5.heap.size (pre ++ [(⟨k2, q2, g2, v2, t2⟩ : E)]).length ((W.drewN nq).setCell ⟨y + 1, 0, none⟩ (.int .i64 ((m : Int) + 1))) := ⟨HST.out.ask, HST.out.res, HST.out.slice, HST.out.count, ⟨HST.out.ents.wf, fun hn => by obtain ⟨b', off', h1, h2, h3⟩ := HST.out.ents.at_ hn; exact ⟨b', off', h1, h2, h3⟩⟩, ⟨HST.out.below.os, HST.out.below.tape, HST.out.below.output, HST.out.below.size, HST.out.below.block⟩, HST.out.le⟩
      have hkf : KeepsFrom w5.heap.size W ((W.drewN nq).setCell ⟨y + 1, 0, none⟩ (.int .i64 ((m : Int) + 1))) := ⟨HKF.out.size, HKF.out.same⟩
      have hkp : Kept [y + 1, x + 1] w5.heap.size W ((W.drewN nq).setCell ⟨y + 1, 0, none⟩ (.int .i64 ((m : Int) + 1))) := ⟨HKP.out.os, HKP.out.tape, HKP.out.output, HKP.out.size, HKP.out.block⟩
      have HST2 := Lib.hid hst
      have HKF2 := Lib.hid hkf
      have HKP2 := Lib.hid hkp
      clear hst hkf hkp HST HKF HKP
      by_cases hq : (m : Int) + 1 = Q
      · have hq1 : decide ((m : Int) + 1 = Q) = true := decide_eq_true hq
        have hq2 : ((m : Int) + 1 == Q) = true := beq_iff_eq.2 hq
        have HQ := Lib.hid hq
        clear hq
        gi_wp2
        exact ⟨HKF2.out, .inr ⟨rfl, by rw [HML.out]; have := HQ.out; omega, HST2.out⟩⟩
      · have hq1 : decide ((m : Int) + 1 = Q) = false := decide_eq_false hq
        have hq2 : ((m : Int) + 1 == Q) = false := beq_false_of_ne hq
        clear hq
        gi_wp2
        exact ⟨HKF2.out, HKP2.out, HST2.out⟩
    · have heb : eqB ⟨k2, q2, g2, v2, t2⟩ ⟨k3, q3, g3, v3, t3⟩ = false := by
        cases h : eqB ⟨k2, q2, g2, v2, t2⟩ ⟨k3, q3, g3, v3, t3⟩ with
        | false => rfl
        | true => exact absurd (hiff.1 h) he
      rw [heb] at hcmp
      have HNP2 := Lib.hid (HNP.out _ he)
      simp only [Bool.not_false] at hcmp
      clear hiff he heb HNP
      have gnm : ¬ n ≤ m := by omega
      gi_wp2_with fail
      refine wpIn_region_quiet_lit_r rfl (plain_all (by kernel_rfl)) (by assumption) (by kernel_rfl) ?_
      repeat (gi_big_quiet_step (fail))
      refine wpQuietIn_nil ?_
      intro _ hw'
      obtain ⟨nq, hw''⟩ := hw'
      subst hw''
      gi_wp2
      have hk := (KeepsOthers.setCell W ⟨x + 1, 0, none⟩ (.bool false)).from w5.heap.size
      exact ⟨⟨hk.size, hk.same⟩, .inl ⟨rfl, HNP2.out⟩⟩
  case done =>
    rintro D ys W hD hS hi hdef
    have hS' : ys = want := hS
    rw [hS', HN.out] at hi
    clear hS hS' ys
    have ca : W.cell? ⟨y + 1, 0, none⟩ = some (.int .i64 n) := cell_of_row _ _ _ _ _ _ hi.count
    have cw : W.cell? ⟨y, 0, none⟩ = some (.slice WA n wc) := cell_of_row _ _ _ _ _ _ hi.slice
    have cr : W.cell? ⟨x + 1, 0, none⟩ = some (.bool false) := cell_of_row _ _ _ _ _ _ hi.res
    have fr : W.frozen? ⟨x + 1, 0, none⟩ = false := frozen_of_row _ _ _ _ _ hi.res
    have cq : W.cell? ⟨x, 1, none⟩ = some (.int .i64 Q) := cell_of_row _ _ _ _ _ _ hi.ask
    have hd1 : (W.setCell ⟨x + 1, 0, none⟩ (.bool true)).heap[D]? = some (.deferred (some [])) := (Below.heap_setCell _ _ _ _ (by show D ≠ x + 1; omega)).trans hdef
    have hb1 : Below x w (W.setCell ⟨x + 1, 0, none⟩ (.bool true)) := hi.below.setCell (p := ⟨x + 1, 0, none⟩) (by show x ≤ x + 1; omega) _
    have HDD := Lib.hid hd1
    have HBB := Lib.hid hb1
    clear hd1 hb1 hdef
    go_wp2_with fail
    refine ⟨by simp, .inl ⟨_, _, rfl, run_takeDeferred HDD.out, ?_⟩⟩
    have hc5 := cell_kept (World.cell?_setCell_same' W ⟨x + 1, 0, none⟩ (.bool true) (by rw [cr]; rfl)) (grownBy_putObj' _ D (.deferred none)) (fun r e => by cases e; exact ⟨_, HDD.out, rfl⟩)
    refine ⟨.bool true, ?_, rfl, by rw [HX.out]; exact HBB.out.trans (belowK_b (w := w5) (by omega) _ D _ _ hD HDD.out rfl rfl)⟩
    simp [results, Try.results3, go_sem, hc5]
  case stop =>
    rintro D c pre W hD hpre hx' hdef
    rcases hx' with ⟨h1, h2⟩ | ⟨rfl, hq, hi⟩
    · exact absurd hpre h2
    obtain ⟨m, hm⟩ : ∃ m, pre.length = m := ⟨_, rfl⟩
    rw [hm] at hq hi
    clear hm hpre
    have ca : W.cell? ⟨y + 1, 0, none⟩ = some (.int .i64 m) := cell_of_row _ _ _ _ _ _ hi.count
    have cw : W.cell? ⟨y, 0, none⟩ = some (.slice WA n wc) := cell_of_row _ _ _ _ _ _ hi.slice
    have cr : W.cell? ⟨x + 1, 0, none⟩ = some (.bool false) := cell_of_row _ _ _ _ _ _ hi.res
    have fr : W.frozen? ⟨x + 1, 0, none⟩ = false := frozen_of_row _ _ _ _ _ hi.res
    have cq : W.cell? ⟨x, 1, none⟩ = some (.int .i64 Q) := cell_of_row _ _ _ _ _ _ hi.ask
    have hd1 : (W.setCell ⟨x + 1, 0, none⟩ (.bool true)).heap[D]? = some (.deferred (some [])) := (Below.heap_setCell _ _ _ _ (by show D ≠ x + 1; omega)).trans hdef
    have hb1 : Below x w (W.setCell ⟨x + 1, 0, none⟩ (.bool true)) := hi.below.setCell (p := ⟨x + 1, 0, none⟩) (by show x ≤ x + 1; omega) _
    have HDD := Lib.hid hd1
    have HBB := Lib.hid hb1
    clear hd1 hb1 hdef
    subst hq
    by_cases hmn : m = n
    · subst hmn
      refine wpIn_wide.2 ?_
      go_wp2_with fail
      refine ⟨by simp, .inl ⟨_, _, rfl, run_takeDeferred HDD.out, ?_⟩⟩
      have hc5 := cell_kept (World.cell?_setCell_same' W ⟨x + 1, 0, none⟩ (.bool true) (by rw [cr]; rfl)) (grownBy_putObj' _ D (.deferred none)) (fun r e => by cases e; exact ⟨_, HDD.out, rfl⟩)
      refine ⟨.bool true, ?_, rfl, by rw [HX.out]; exact HBB.out.trans (belowK_b (w := w5) (by omega) _ D _ _ hD HDD.out rfl rfl)⟩
      simp [results, Try.results3, go_sem, hc5]
    · have e1 : ((m : Int) == (n : Int)) = false := beq_false_of_ne (by omega)
      have e2 : decide ((m : Int) = (n : Int)) = false := decide_eq_false (by omega)
      have e3 : ¬ ((m : Int) = (n : Int)) := by omega
      refine wpIn_wide.2 ?_
      go_wp2_with fail
      refine ⟨by simp, .inl ⟨_, _, rfl, run_takeDeferred HDD.out, ?_⟩⟩
      have hc5 := cell_kept (World.cell?_setCell_same' W ⟨x + 1, 0, none⟩ (.bool true) (by rw [cr]; rfl)) (grownBy_putObj' _ D (.deferred none)) (fun r e => by cases e; exact ⟨_, HDD.out, rfl⟩)
      refine ⟨.bool true, ?_, rfl, by rw [HX.out]; exact HBB.out.trans (belowK_b (w := w5) (by omega) _ D _ _ hD HDD.out rfl rfl)⟩
      simp [results, Try.results3, go_sem, hc5]
set_option maxRecDepth 100000 in
theorem contract (H : Type) (enc : TypeId × Value → H) (W : World) (base : Nat) (args : Array Value) (ds gs : List (DataW H)) (before : List MemPlace)
    (hval : ∀ (j : Nat) t v, Try.f3.params[j]? = some t → args[j]? = some v → Value.okWide Try.prog W .any base t v)
    (hW : DataW.Whole enc Try.prog Try.f3.params.toList Rows.skipFromSpec.vars false W args.toList ds gs before)
    (hz : (DataW.weightsEach Try.prog Try.f3.params.toList (ds ++ gs)).all (· ≤ reachBytes) = true) :
    Calls Try.prog 3 args W fun e W' => ∃ v, e = .returned v ∧ Rows.skipFromSpec.post enc Try.prog Try.f3 false true false false W args v W' := by
  have hW' := hW
  obtain ⟨p, q, hA0, hV, rfl, hfz, hnd⟩ := hW
  have hA : DataW.TrodAll enc Try.prog W 0 (fun _ => true) true Try.f3.params.toList args.toList ds p := hA0
  rw [Try.params3] at hA hval hz
  obtain ⟨v0, vs0, d0, ds0, p0, q0, hargs, rfl, rfl, h0, r0⟩ := trodAll_cons hA
  obtain ⟨v1, vs1, d1, ds1, p1, q1, rfl, rfl, rfl, h1, r1⟩ := trodAll_cons r0
  obtain ⟨v2, vs2, d2, ds2, p2, q2, rfl, rfl, rfl, h2, r2⟩ := trodAll_cons r1
  obtain ⟨rfl, rfl, rfl⟩ := trodAll_nil r2
  obtain rfl : args = #[v0, v1, v2] := by cases args; simp_all
  obtain ⟨rfl, rfl⟩ := trodVars_none hV
  obtain ⟨cA, cN, cC, c, rfl, hlenc, hinc, hbc⟩ := open_coins Try.underlying22 Try.underlying3 (by kernel_rfl) (by kernel_rfl) (hval 0 22 v0 rfl rfl) h0 (parts_sized hz (j := 0) rfl rfl)
  obtain ⟨pA, pN, pC, p, rfl, hlenp, hinp, hbp, hcapp⟩ := open_ents (hval 1 23 v1 rfl rfl) h1 (parts_sized hz (j := 1) rfl rfl)
  obtain ⟨xK, xQ, rfl, rfl, hkx, hqx⟩ := open_ask (hval 2 25 v2 rfl rfl) h2 (parts_sized hz (j := 2) rfl rfl)
  refine (walk cA cN cC c pA pN pC p xK xQ W hlenc hinc hbc hlenp hinp hbp hcapp hkx).mono fun e W' ⟨he, hB⟩ => ?_
  subst he
  exact ⟨_, rfl, law_post Try.laidOut (by kernel_rfl) rfl rfl Try.underlying4 hW' rfl hB⟩

set_option maxRecDepth 100000 in
theorem lifted (os : Os) (started : os.Started) (H : Type) (enc : TypeId × Value → H) :
    ReturnsInHanded {} Try.checked os 3 .any (Rows.skipFromSpec.pre6 enc Try.prog Try.f3 Rows.skipFromRow.domain false) (Rows.skipFromSpec.post enc Try.prog Try.f3 false true false false) := by
  refine returnsInHanded_of_change_sized (C := Try.checked) Try.own started (by kernel_rfl) Try.func3
    (ChangeSpec.witness6 (enc := enc) (C := Try.checked) false ⟨#[], #[.slice none 0 0, .slice none 0 0, .agg #[.string ⟨#[]⟩, .int .i64 0]], []⟩ 8 (by kernel_rfl) (by kernel_rfl) (by kernel_rfl) (by kernel_rfl)) ?_
  intro W base args ds gs before hval hW _ hz _
  exact contract H enc W base args ds gs before hval hW hz

theorem proved : Rows.SkipFromSaid :=
  OpenClaim.holds_of_wide 3 Try.f3 rfl rfl rfl rfl rfl rfl rfl ⟨rfl, rfl, rfl, rfl, rfl⟩ rfl rfl rfl rfl rfl (by kernel_rfl) Try.func3 (by kernel_rfl)
    (of_decide_eq_true (by kernel_rfl)) (by unfold Func.isWrapper; first | (rw [if_pos (by decide +kernel)]; kernel_rfl) | (rw [if_neg (by decide +kernel)]; exact ⟨rfl, rfl⟩))
    (fun os started H enc _ => lifted os started H enc)
end lawFrom
end Go.Proofs.Ytgnlhnfjanoahaa
