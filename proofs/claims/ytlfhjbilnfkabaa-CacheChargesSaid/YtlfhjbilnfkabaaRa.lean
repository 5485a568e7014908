/- The document's cache in memory; Cost, Find, Left. -/
import Derived.Test.YtlfhjbilnfkabaaWk
import Derived.Test.YtlfhjbilnfkabaaRf
import Derived.OwnWalk
namespace Go.Proofs.Ytlfhjbilnfkabaa
open Go.RowKit Go.Maps
open BM CM

def fb (A : Option Addr) : List Nat := match A with | some a => [a.block] | none => []
def bcells (x : Blk) : List Value := [.int .i64 x.file, .int .i64 x.block, .string x.data, .int .i64 x.pins]
def bcs (L : Ls) : List Value := L.flatMap bcells
theorem bcs_len (L : Ls) : (bcs L).length = L.length * 4 := by
  induction L with
  | nil => rfl
  | cons p r ih => show (bcells p ++ bcs r).length = _; rw [List.length_append, ih, List.length_cons]; simp [bcells]; omega
theorem bcs_snoc (L : Ls) (x : Blk) : bcs (L ++ [x]) = bcs L ++ bcells x := by simp [bcs]
theorem bcs_at : ∀ (L : Ls) (j : Nat) (h : j < L.length) (i : Nat), i < 4 → (bcs L)[j * 4 + i]? = (bcells L[j])[i]?
  | p :: r, 0, _, i, hi => by
    show (bcells p ++ bcs r)[0 * 4 + i]? = _
    rw [List.getElem?_append_left (by simp [bcells]; omega)]
    simp
  | p :: r, j + 1, h, i, hi => by
    have := bcs_at r j (by simpa using h) i hi
    show (bcells p ++ bcs r)[(j + 1) * 4 + i]? = _
    rw [List.getElem?_append_right (by simp [bcells]; omega)]
    simp only [List.getElem_cons_succ]
    rw [← this]
    congr 1
    simp [bcells]
    omega
/-- the document's blocks in a slice -/
def BlksIn (w : World) (A : Option Addr) (L : Ls) : Prop := 0 < L.length → ∃ g, A = some ⟨g, 0, none⟩ ∧ g < w.heap.size ∧ ∀ j, (h : j < L.length) →
  w.cell? ⟨g, j * 4, none⟩ = some (.int .i64 L[j].file) ∧ w.cell? ⟨g, j * 4 + 1, none⟩ = some (.int .i64 L[j].block) ∧ w.cell? ⟨g, j * 4 + 2, none⟩ = some (.string L[j].data) ∧ w.cell? ⟨g, j * 4 + 3, none⟩ = some (.int .i64 L[j].pins)
theorem BlksIn.below {w w' : World} {A : Option Addr} {L : Ls} (h : BlksIn w A L) (hb : Below w.heap.size w w') : BlksIn w' A L := fun hn => by
  obtain ⟨g, hA, hlt, hc⟩ := h hn
  refine ⟨g, hA, Nat.lt_of_lt_of_le hlt hb.size, fun j hj => ?_⟩
  obtain ⟨c0, c1, c2, c3⟩ := hc j hj
  have hbb := hb.block g hlt
  exact ⟨(World.cell?_of_block (a := ⟨g, _, none⟩) hbb).trans c0, (World.cell?_of_block (a := ⟨g, _, none⟩) hbb).trans c1, (World.cell?_of_block (a := ⟨g, _, none⟩) hbb).trans c2, (World.cell?_of_block (a := ⟨g, _, none⟩) hbb).trans c3⟩
theorem own_blks {w : World} {base : Nat} {e : TypeId} {v : Value} {n : Nat} {L : Ls} (hn : L.length = n) (h : w.ownsRow base e 4 v n (bcs L)) :
    ∃ A c, v = .slice A n c ∧ BlksIn w A L ∧ ∀ x ∈ fb A, base ≤ x ∧ x < w.heap.size := by
  subst hn
  have h' := h
  rcases h.2 with ⟨rfl, h0⟩ | ⟨g, cap, cur, rfl, hbg, hg, _, _, _, _⟩
  · exact ⟨none, 0, by rw [h0], fun hn => by omega, by simp [fb]⟩
  · have hlt := (Array.getElem?_eq_some_iff.1 hg).1
    refine ⟨some ⟨g, 0, none⟩, cap, rfl, fun _ => ⟨g, rfl, hlt, fun j hj => ?_⟩, by simp [fb]; exact ⟨hbg, hlt⟩⟩
    have hcell : ∀ i x, i < 4 → (bcells L[j])[i]? = some x → w.cell? ⟨g, j * 4 + i, none⟩ = some x := by
      intro i x hi hx
      have hc := h'.cells (g := g) rfl (j * 4 + i) x (by rw [bcs_at L j hj i hi]; exact hx)
      rw [addr_add0] at hc
      exact hc
    exact ⟨hcell 0 _ (by omega) rfl, hcell 1 _ (by omega) rfl, hcell 2 _ (by omega) rfl, hcell 3 _ (by omega) rfl⟩

structure Good (L : Ls) (s : S) : Prop where
  ok : Ok s
  sum : s.k1 = totB L
  wf : ∀ x ∈ L, x.wf
  len : L.length ≤ 1000000
structure RRep (w : World) (B r rb : Nat) (LA : Option Addr) (lc : Nat) (L : Ls) (s : S) : Prop where
  head : w.heap[r]? = some (.cells #[.slice LA L.length lc, .pointer (some ⟨rb, 0, none⟩)] 32 (0, 0))
  row : w.ownsRow B 84 4 (.slice LA L.length lc) L.length (bcs L)
  bud : RAt w rb s
def rown (r rb : Nat) (LA : Option Addr) (g : Nat) : Prop := g = r ∨ g = rb ∨ g ∈ fb LA
theorem own_slice_blk {w : World} {B : Nat} {e : TypeId} {A : Option Addr} {n c : Nat} {xs : List Value} (h : w.ownsRow B e 4 (.slice A n c) n xs) : ∀ g ∈ fb A, B ≤ g ∧ ∃ cur, w.heap[g]? = some (.cells cur e (0, 0)) := by
  intro g hg
  rcases h.2 with ⟨hv, -⟩ | ⟨g', cap, cur, hv, hbg, hh, _⟩
  · simp only [Value.slice.injEq] at hv
    rw [hv.1] at hg; simp [fb] at hg
  · simp only [Value.slice.injEq] at hv
    rw [hv.1] at hg
    simp [fb] at hg
    subst hg
    exact ⟨hbg, cur, hh⟩
theorem ne_types : (84 : TypeId) ≠ 32 ∧ (84 : TypeId) ≠ 81 ∧ (32 : TypeId) ≠ 81 := by decide

section
variable {w w' : World} {B r rb : Nat} {LA : Option Addr} {lc : Nat} {L : Ls} {s : S}
theorem RRep.c0 (h : RRep w B r rb LA lc L s) : w.cell? ⟨r, 0, none⟩ = some (.slice LA L.length lc) := cell_of_row _ _ _ _ _ _ h.head
theorem RRep.c1 (h : RRep w B r rb LA lc L s) : w.cell? ⟨r, 1, none⟩ = some (.pointer (some ⟨rb, 0, none⟩)) := cell_of_row _ _ _ _ _ _ h.head
theorem RRep.below (h : RRep w B r rb LA lc L s) (hb : Below w.heap.size w w') : RRep w' B r rb LA lc L s :=
  ⟨(hb.block r (Array.getElem?_eq_some_iff.1 h.head).1).trans h.head, own_below h.row hb, (hb.block rb (Array.getElem?_eq_some_iff.1 h.bud).1).trans h.bud⟩
theorem RRep.apart (h : RRep w B r rb LA lc L s) : r ≠ rb ∧ r ∉ fb LA ∧ rb ∉ fb LA := by
  have hh := h.head
  have hb : w.heap[rb]? = some (.cells #[.int .i64 s.lim, .int .i64 s.k0, .int .i64 s.k1, .int .i64 s.k2, .int .i64 s.k3, .int .i64 s.high] 81 (0, 0)) := h.bud
  obtain ⟨n1, n2, n3⟩ := ne_types
  refine ⟨?_, fun hm => ?_, fun hm => ?_⟩
  · rintro rfl
    rw [hh] at hb
    simp at hb
  · obtain ⟨-, cur, hc⟩ := own_slice_blk h.row r hm
    rw [hh] at hc
    simp only [Option.some.injEq, Obj.cells.injEq] at hc
    exact n1 hc.2.1.symm
  · obtain ⟨-, cur, hc⟩ := own_slice_blk h.row rb hm
    rw [hb] at hc
    simp only [Option.some.injEq, Obj.cells.injEq] at hc
    exact n2 hc.2.1.symm
theorem RRep.blks (h : RRep w B r rb LA lc L s) : BlksIn w LA L := by
  obtain ⟨A, c, hv, hb, -⟩ := own_blks rfl h.row
  simp only [Value.slice.injEq] at hv
  rw [hv.1]; exact hb
theorem RRep.own_lt (h : RRep w B r rb LA lc L s) : ∀ g, rown r rb LA g → g < w.heap.size := by
  rintro g (rfl | rfl | hm)
  · exact (Array.getElem?_eq_some_iff.1 h.head).1
  · exact (Array.getElem?_eq_some_iff.1 h.bud).1
  · obtain ⟨-, cur, hc⟩ := own_slice_blk h.row g hm
    exact (Array.getElem?_eq_some_iff.1 hc).1

theorem rcost_any (d : ByteArray) (w : World) (hd : d.size ≤ 140737488351232) :
    Calls Try.prog 15 #[.string d] w fun e w' => e = .returned (.int .i64 (cost d : Nat)) ∧ w = w' := by
  have hw : IntKind.i64.wrap ((d.size : Int) + 64) = (cost d : Nat) := by rw [IntWalk.i64_in _ ⟨by omega, by omega⟩]; unfold cost; omega
  obtain ⟨K, hK⟩ : ∃ K, cost d = K := ⟨_, rfl⟩
  rw [hK] at hw ⊢
  go_enter Try.func15, Try.ntmps15
  go_wp2
  go_ret
  exact ⟨rfl, rfl⟩

set_option maxRecDepth 100000 in
set_option maxHeartbeats 2000000 in
theorem rleft_any (h : RRep w B r rb LA lc L s) (ok : Ok s) :
    Calls Try.prog 50 #[.pointer (some ⟨r, 0, none⟩)] w fun e w' => e = .returned (.int .i64 (left s)) ∧ Below w.heap.size w w' := by
  have HU := Lib.hid ((Sm.of_ok ok).used h.bud)
  have HREP := Lib.hid h
  have hr := left_range ok
  have hlf : s.lim - s.used = left s := rfl
  have hw : IntKind.i64.wrap (s.lim - s.used) = left s := by rw [hlf]; exact IntWalk.i64_in _ ⟨by omega, by omega⟩
  have c1 := h.c1
  have hbu : w.heap[rb]? = some (.cells #[.int .i64 s.lim, .int .i64 s.k0, .int .i64 s.k1, .int .i64 s.k2, .int .i64 s.k3, .int .i64 s.high] 81 (0, 0)) := h.bud
  have HBU := Lib.hid hbu
  obtain ⟨u, hu⟩ : ∃ u, s.used = u := ⟨_, rfl⟩
  rw [hu] at HU hw
  obtain ⟨F, hF⟩ : ∃ F, left s = F := ⟨_, rfl⟩
  rw [hF] at hw ⊢
  obtain ⟨t, ht⟩ : ∃ t, s.lim = t := ⟨_, rfl⟩
  rw [ht] at hw HBU
  clear h hu hF ht hlf hr hbu
  go_enter Try.func50, Try.ntmps50
  go_wp2_with fail
  refine HU.out.mono ?_
  rintro e w1 ⟨rfl, n, rfl⟩
  have c1' : (w.drewN n).cell? ⟨r, 1, none⟩ = some (.pointer (some ⟨rb, 0, none⟩)) := c1
  have c0' : (w.drewN n).cell? ⟨rb, 0, none⟩ = some (.int .i64 t) := cell_of_row _ _ _ _ _ _ HBU.out
  have HB := Lib.hid (below_drewN (Below.refl w.heap.size w) n)
  clear c1
  generalize w.drewN n = w1 at c1' c0' HB ⊢
  go_wp2
  go_ret
  exact ⟨rfl, HB.out⟩

set_option maxRecDepth 100000 in
set_option maxHeartbeats 2000000 in
theorem rfind_any (h : RRep w B r rb LA lc L s) (f k : Int) (hlen : L.length ≤ 1000000) :
    Calls Try.prog 47 #[.pointer (some ⟨r, 0, none⟩), .int .i64 f, .int .i64 k] w fun e w' => e = .returned (.int .i64 (match findB f k L with | some i => (i : Int) | none => -1)) ∧ w = w' := by
  obtain ⟨n, hn⟩ : ∃ n, L.length = n := ⟨_, rfl⟩
  have HN := Lib.hid hn
  have HIN := Lib.hid h.blks
  have c0 := h.c0
  rw [hn] at c0 hlen
  obtain ⟨R, hR⟩ : ∃ R : Int, (match findB f k L with | some i => (i : Int) | none => -1) = R := ⟨_, rfl⟩
  have HR := Lib.hid hR
  rw [hR]
  clear h hn hR
  go_enter Try.func47, Try.ntmps47
  go_wp2_with fail
  go_loopw [7] (fun i wr => ∃ j : Nat, j ≤ n ∧ i = .int .i64 j ∧ wr = w ∧ Hid (∀ m, (hm : m < L.length) → m < j → hitB f k L[m] = false)) (fun i _ => n - (intOf i).toNat)
  case atStart => exact ⟨0, by omega, rfl, rfl, Lib.hid fun m _ h => by omega⟩
  case round =>
    obtain ⟨j, hj, rfl, rfl, hbef⟩ := hrel
    by_cases hlt : j < n
    · have hjl : j < L.length := by rw [HN.out]; exact hlt
      obtain ⟨g, hA, -, hc⟩ := HIN.out (by omega)
      obtain ⟨z0, z1, -, -⟩ := hc j hjl
      have hnx : hitB f k L[j] = false → ∀ m, (hm : m < L.length) → m < j + 1 → hitB f k L[m] = false := fun hp m hm hmj => by
        rcases Nat.lt_or_ge m j with h | h
        · exact hbef.out m hm h
        · obtain rfl : m = j := by omega
          exact hp
      have hyes : hitB f k L[j] = true → R = j := fun hp => by
        have : findB f k L = some j := by
          unfold findB
          rw [List.findIdx?_eq_some_iff_getElem]
          exact ⟨hjl, hp, fun i hi => by rw [hbef.out i (by omega) hi]; simp⟩
        have h2 := HR.out
        rw [this] at h2
        exact h2.symm
      have HNX := Lib.hid hnx
      have HYES := Lib.hid hyes
      obtain ⟨x, hx⟩ : ∃ x, L[j] = x := ⟨_, rfl⟩
      rw [hx] at z0 z1 HNX HYES
      obtain ⟨xf, hxf⟩ : ∃ y, x.file = y := ⟨_, rfl⟩
      obtain ⟨xk, hxk⟩ : ∃ y, x.block = y := ⟨_, rfl⟩
      have HH : Hid (hitB f k x = (xf == f && xk == k)) := Lib.hid (by unfold hitB; rw [hxf, hxk])
      rw [hxf] at z0
      rw [hxk] at z1
      subst hA
      have g0 : (0 : Int) ≤ (j : Int) := by omega
      have g1 : (j : Int) < (n : Int) := by omega
      clear hc hnx hyes hx hxf hxk hbef
      by_cases h1 : xf = f
      · subst h1
        by_cases h2 : xk = k
        · subst h2
          have hR := HYES.out (by rw [HH.out]; simp)
          clear HYES HNX HH
          subst hR
          go_wp2
          go_ret
          exact ⟨rfl, rfl⟩
        · have hb : (xk == k) = false := beq_eq_false_iff_ne.2 h2
          have hn := HNX.out (by rw [HH.out]; simp [hb])
          have HN2 := Lib.hid hn
          clear hn HNX HYES HH
          go_wp2
          go_roundw
          case rel => exact ⟨j + 1, by omega, by go_num, trivial, HN2⟩
          case measure => simp [intOf]; omega
      · have hb : (xf == f) = false := beq_eq_false_iff_ne.2 h1
        have hn := HNX.out (by rw [HH.out]; simp [hb])
        have HN2 := Lib.hid hn
        clear hn HNX HYES HH
        go_wp2
        go_roundw
        case rel => exact ⟨j + 1, by omega, by go_num, trivial, HN2⟩
        case measure => simp [intOf]; omega
    · have hjn : j = n := by omega
      have hR : R = -1 := by
        have : findB f k L = none := by
          unfold findB
          rw [List.findIdx?_eq_none_iff]
          intro x hx
          obtain ⟨i, hi, rfl⟩ := List.getElem_of_mem hx
          exact hbef.out i hi (by rw [hjn, ← HN.out]; exact hi)
        have h2 := HR.out
        rw [this] at h2
        exact h2.symm
      subst hR
      subst hjn
      clear hbef HR
      go_wp2
      go_ret
      exact ⟨rfl, rfl⟩
end

theorem info_rblk : (Try.prog.info? 84).map (fun i => (i.zero, i.size, i.bytes)) = some (some (.agg #[.int .i64 0, .int .i64 0, .string ⟨#[]⟩, .int .i64 0]), 4, 40) := by kernel_rfl
theorem four_cells (w : World) (a b c d : Value) (t : TypeId) : ∀ j u, [a, b, c, d][j]? = some u → (w.alloc (.cells #[a, b, c, d] t)).cell? ((⟨w.heap.size, 0, none⟩ : Addr).add j) = some u := by
  intro j u hj
  rw [addr_add0, cell_of_row _ _ _ _ _ _ (heap_alloc_new w _)]
  simpa using hj
theorem wo_step {L : Ls} {i j : Nat} (h : j < L.length) : (L.take (j + 1)).eraseIdx i = if j = i then (L.take j).eraseIdx i else (L.take j).eraseIdx i ++ [L[j]] := by
  have ht : L.take (j + 1) = L.take j ++ [L[j]] := List.take_succ_eq_append_getElem h
  have hl : (L.take j).length = j := by rw [List.length_take]; omega
  rw [ht]
  by_cases hji : j = i
  · subst hji
    have e1 : (L.take j ++ [L[j]]).eraseIdx j = L.take j := by rw [List.eraseIdx_append_of_length_le (by omega), hl]; simp
    have e2 : (L.take j).eraseIdx j = L.take j := List.eraseIdx_of_length_le (by omega)
    rw [if_pos rfl, e1, e2]
  · rw [if_neg hji]
    rcases Nat.lt_or_gt_of_ne hji with h1 | h1
    · have e1 : (L.take j ++ [L[j]]).eraseIdx i = L.take j ++ [L[j]] := List.eraseIdx_of_length_le (by rw [List.length_append, hl]; simp; omega)
      have e2 : (L.take j).eraseIdx i = L.take j := List.eraseIdx_of_length_le (by omega)
      rw [e1, e2]
    · rw [List.eraseIdx_append_of_lt_length (by omega)]
theorem wo_len (L : Ls) (i j : Nat) : ((L.take j).eraseIdx i).length ≤ j := by
  have h1 := (List.eraseIdx_sublist (L.take j) i).length_le
  have h2 := List.length_take_le j L
  omega

set_option maxRecDepth 100000 in
set_option maxHeartbeats 2000000 in
theorem rwithout_any {w : World} {A : Option Addr} {n c : Nat} {L : Ls} (hin : BlksIn w A L) (hn : L.length = n) (hlen : n ≤ 1000000) (i : Nat) :
    Calls Try.prog 48 #[.slice A n c, .int .i64 i] w fun e w' => ∃ v, e = .returned v ∧ w'.ownsRow w.heap.size 84 4 v (L.eraseIdx i).length (bcs (L.eraseIdx i)) ∧ Below w.heap.size w w' := by
  obtain ⟨i0, hi, hz0, hz1, hz2⟩ := info_parts info_rblk
  have HIN := Lib.hid hin
  have HN := Lib.hid hn
  clear hin hn
  go_enter Try.func48, Try.ntmps48
  go_wp2_with fail
  go_loopw [5, 6] (fun o p wr => ∃ j : Nat, j ≤ n ∧ p = .int .i64 j ∧ Hid (Below w.heap.size w wr) ∧ Hid (wr.ownsRow w.heap.size 84 4 o ((L.take j).eraseIdx i).length (bcs ((L.take j).eraseIdx i)))) (fun _ p _ => n - (intOf p).toNat)
  case atStart => exact ⟨0, by omega, rfl, Lib.hid (Below.refl _ _), Lib.hid (by simpa [bcs] using World.ownsRow_nil _ _ _ _)⟩
  case round =>
    obtain ⟨j, hj, rfl, HB, HO⟩ := hrel
    by_cases hlt : j < n
    · have hjl : j < L.length := by rw [HN.out]; exact hlt
      obtain ⟨g, hA, hgl, hc⟩ := (BlksIn.below HIN.out HB.out) (by omega)
      obtain ⟨z0, z1, z2, z3⟩ := hc j hjl
      have HST := Lib.hid (wo_step (i := i) hjl)
      have hwl := wo_len L i j
      obtain ⟨x, hx⟩ : ∃ x, L[j] = x := ⟨_, rfl⟩
      rw [hx] at z0 z1 z2 z3 HST
      obtain ⟨X, hX⟩ : ∃ X, (L.take j).eraseIdx i = X := ⟨_, rfl⟩
      obtain ⟨Y, hY⟩ : ∃ Y, (L.take (j + 1)).eraseIdx i = Y := ⟨_, rfl⟩
      rw [hX] at HO hwl HST
      rw [hY] at HST
      have HY := Lib.hid hY
      obtain ⟨xf, xk, xd, xp⟩ := x
      simp only at z0 z1 z2 z3
      have hec := bcs_snoc X ⟨xf, xk, xd, xp⟩
      simp only [bcells] at hec
      have HEC := Lib.hid hec
      subst hA
      have g0 : (0 : Int) ≤ (j : Int) := by omega
      have g1 : (j : Int) < (n : Int) := by omega
      have hsz := HB.out.size
      clear hc hx hX hY hec
      by_cases hji : j = i
      · have hb : ((j : Int) == (i : Int)) = true := by simp [hji]
        have hs := HST.out
        rw [if_pos hji] at hs
        have HR : Hid (wr.ownsRow w.heap.size 84 4 u5 ((L.take (j + 1)).eraseIdx i).length (bcs ((L.take (j + 1)).eraseIdx i))) := Lib.hid (by rw [HY.out, hs]; exact HO.out)
        clear hs HST
        subst hji
        go_wp2
        go_roundw
        case rel => exact ⟨j + 1, by omega, by go_num, HB, HR⟩
        case measure => simp [intOf]; omega
      · have hb : ((j : Int) == (i : Int)) = false := beq_eq_false_iff_ne.2 (by omega)
        have hs := HST.out
        rw [if_neg hji] at hs
        have HS := Lib.hid hs
        clear hs HST
        go_wp2_with (at_builtin; refine wpList_append_own _ rfl _ _ 30 rfl (w.heap.size) 84 i0 _ 4 40 Try.underlying30 hi hz0 hz1 hz2 rfl (by decide) _ _ _ rfl (own_below HO.out ((Below.refl _ _).alloc (Nat.le_refl _) _)) ⟨wr.heap.size, 0, none⟩ 1 1 [.int .i64 xf, .int .i64 xk, .string xd, .int .i64 xp] rfl ?c1 ?c2 ?c3 ?c4 ?c5 ?c6 ?_)
        case c1 => rfl
        case c2 => exact four_cells wr _ _ _ _ _
        case c3 => intro u hu; simp at hu; rcases hu with rfl | rfl | rfl | rfl <;> rfl
        case c4 => unfold maxLen; omega
        case c5 => omega
        case c6 => simp; try omega
        intro v' w3 hown3 hgrow hnil
        clear hnil
        have HR : Hid (w3.ownsRow w.heap.size 84 4 v' ((L.take (j + 1)).eraseIdx i).length (bcs ((L.take (j + 1)).eraseIdx i))) := Lib.hid (by
          rw [HY.out, HS.out, HEC.out, List.length_append]
          exact hown3)
        have HB3 : Hid (Below w.heap.size w w3) := Lib.hid ((HB.out.alloc hsz _).grown hgrow (by simp; omega) (fun g hg => (HO.out.lt g hg).1))
        clear hown3 hgrow
        go_wp2
        go_roundw
        case rel => exact ⟨j + 1, by omega, by go_num, HB3, HR⟩
        case measure => simp [intOf]; omega
    · have hjn : j = n := by omega
      have htk : L.take j = L := List.take_of_length_le (by rw [HN.out]; omega)
      rw [htk] at HO
      subst hjn
      clear htk
      go_wp2
      go_ret
      exact ⟨_, rfl, HO.out, HB.out⟩
end Go.Proofs.Ytlfhjbilnfkabaa
