/- The document's drop and Shrink. -/
import Derived.Test.YtlfhjbilnfkabaaRa
import Derived.Maps.AppendAt
import Derived.Laws.OwnMore
namespace Go.Proofs.Ytlfhjbilnfkabaa
open Go.RowKit Go.Maps
open BM CM

/-- what a call of the document's leaves -/
structure RTurn (w w' : World) (B r rb : Nat) (LA LA' : Option Addr) (lc' : Nat) (L' : Ls) (s' : S) : Prop where
  rep : RRep w' B r rb LA' lc' L' s'
  only : Only (rown r rb LA) w w'
  own_ : ∀ g, rown r rb LA' g → rown r rb LA g ∨ w.heap.size ≤ g
theorem RTurn.trans {a d e : World} {B r rb : Nat} {LA LB LC : Option Addr} {lb lc : Nat} {L M : Ls} {s t : S} (h : RTurn a d B r rb LA LB lb L s) (k : RTurn d e B r rb LB LC lc M t) : RTurn a e B r rb LA LC lc M t :=
  ⟨k.rep, h.only.trans k.only (fun g hg ho => (h.own_ g ho).elim id (fun hl => by omega)), fun g hg => (k.own_ g hg).elim (fun ho => h.own_ g ho) (fun hl => .inr (Nat.le_trans h.only.size hl))⟩
theorem own_same {w w' : World} {B : Nat} {e : TypeId} {k : Nat} {A : Option Addr} {n c : Nat} {xs : List Value} (h : w.ownsRow B e k (.slice A n c) n xs) (hs : ∀ g ∈ fb A, w'.heap[g]? = w.heap[g]?) : w'.ownsRow B e k (.slice A n c) n xs := by
  refine ⟨h.1, ?_⟩
  rcases h.2 with hn | ⟨g, cap, cur, hv, hb, hgg, rest⟩
  · exact .inl hn
  · refine .inr ⟨g, cap, cur, hv, hb, ?_, rest⟩
    simp only [Value.slice.injEq] at hv
    exact (hs g (by rw [hv.1]; simp [fb])).trans hgg
theorem own_base {w : World} {B B' : Nat} {e : TypeId} {k : Nat} {v : Value} {n : Nat} {xs : List Value} (h : w.ownsRow B e k v n xs) (hB : B' ≤ B) : w.ownsRow B' e k v n xs := by
  refine ⟨h.1, ?_⟩
  rcases h.2 with hn | ⟨g, cap, cur, hv, hb, rest⟩
  · exact .inl hn
  · exact .inr ⟨g, cap, cur, hv, Nat.le_trans hB hb, rest⟩

section
variable {w w' : World} {B r rb : Nat} {LA : Option Addr} {lc : Nat} {L : Ls} {s : S}
theorem RRep.stay (h : RRep w B r rb LA lc L s) (hb : Below w.heap.size w w') : RTurn w w' B r rb LA LA lc L s := ⟨h.below hb, Only.of_below hb, fun _ hg => .inl hg⟩
theorem RRep.f0 (h : RRep w B r rb LA lc L s) : w.frozen? ⟨r, 0, none⟩ = false := frozen_of_row _ _ _ _ _ h.head
/-- another row is stored -/
theorem RRep.setL (h : RRep w B r rb LA lc L s) (ho : Only (rown r rb LA) w w') (hr : w'.heap[r]? = w.heap[r]?) (hrb : w'.heap[rb]? = w.heap[rb]?) {A' : Option Addr} {c' : Nat} {L' : Ls}
    (hrow : w'.ownsRow B 84 4 (.slice A' L'.length c') L'.length (bcs L')) (hA : ∀ g ∈ fb A', g ∈ fb LA ∨ w.heap.size ≤ g) :
    RTurn w (w'.setCell ⟨r, 0, none⟩ (.slice A' L'.length c')) B r rb LA A' c' L' s := by
  obtain ⟨n1, n2, n3⟩ := ne_types
  have hh : w'.heap[r]? = _ := hr.trans h.head
  have hne : ∀ g, g ≠ r → (w'.setCell ⟨r, 0, none⟩ (.slice A' L'.length c')).heap[g]? = w'.heap[g]? := fun g hg => Below.heap_setCell _ _ _ _ hg
  have hap := h.apart
  have hAr : ∀ g ∈ fb A', g ≠ r := fun g hg e => by
    obtain ⟨-, cur, hc⟩ := own_slice_blk hrow g hg
    rw [e, hh] at hc
    simp only [Option.some.injEq, Obj.cells.injEq] at hc
    exact n1 hc.2.1.symm
  refine ⟨⟨?_, own_same hrow (fun g hg => hne g (hAr g hg)), ?_⟩, ?_, ?_⟩
  · rw [heap_set_fr hh]; rfl
  · exact (hne rb (Ne.symm hap.1)).trans (hrb.trans h.bud)
  · exact ho.trans (Only.of_grown (r := r) (grownBy_setCell w' ⟨r, 0, none⟩ _) (Or.inl rfl) : Only (rown r rb LA) w' _) (fun _ _ h => h)
  · rintro g (hg | hg | hg)
    · exact .inl (.inl hg)
    · exact .inl (.inr (.inl hg))
    · exact (hA g hg).imp (fun h => .inr (.inr h)) id

set_option maxRecDepth 100000 in
set_option maxHeartbeats 2000000 in
theorem rdrop_any (h : RRep w B r rb LA lc L s) (g : Good L s) (hB : B ≤ w.heap.size) {i : Nat} (hi : i < L.length) :
    Calls Try.prog 49 #[.pointer (some ⟨r, 0, none⟩), .int .i64 i] w fun e w' => e = .returned (.tuple #[]) ∧ ∃ LA' lc', RTurn w w' B r rb LA LA' lc' (L.eraseIdx i) (BM.release 1 (cost L[i].data : Nat) s).2 := by
  have HREP := Lib.hid h
  have HB := Lib.hid hB
  have HOK := Lib.hid g.ok
  obtain ⟨n, hn⟩ : ∃ n, L.length = n := ⟨_, rfl⟩
  have HN := Lib.hid hn
  have c0 := h.c0
  have c1 := h.c1
  have f0 := h.f0
  have hwt := rwithout_any (c := lc) h.blks hn (by rw [← hn]; exact g.len) i
  have HWT := Lib.hid hwt
  obtain ⟨gb, hA, -, hc⟩ := h.blks (by omega)
  obtain ⟨-, -, z2, -⟩ := hc i hi
  have hd := (g.wf _ (List.getElem_mem hi)).d
  have HCO := Lib.hid (fun W => rcost_any L[i].data W hd)
  have hap := h.apart
  have HAP := Lib.hid hap
  rw [hn] at c0
  have g0 : (0 : Int) ≤ (i : Int) := by omega
  have g1 : (i : Int) < (n : Int) := by omega
  obtain ⟨d, hdd⟩ : ∃ d, L[i].data = d := ⟨_, rfl⟩
  rw [hdd] at z2 HCO hd ⊢
  obtain ⟨K, hK⟩ : ∃ K, cost d = K := ⟨_, rfl⟩
  have hKb : (K : Int) ≤ 281474976710656 := by rw [← hK]; unfold cost; omega
  rw [hK] at HCO ⊢
  have HKB := Lib.hid hKb
  have HA := Lib.hid hA
  clear h g hB hwt hc hap hd hdd hK hKb hi hA
  have hA2 := HA.out
  subst hA2
  go_enter Try.func49, Try.ntmps49
  go_wp2_with fail
  refine (HCO.out _).mono ?_
  rintro e w1 ⟨rfl, rfl⟩
  go_wp2_with fail
  refine HWT.out.mono ?_
  rintro e w2 ⟨v, rfl, hown, hb2⟩
  obtain ⟨A', c', rfl, hbl, hf⟩ := own_blks rfl hown
  have hrl : r < w.heap.size := HREP.out.own_lt r (Or.inl rfl)
  have hrbl : rb < w.heap.size := HREP.out.own_lt rb (Or.inr (Or.inl rfl))
  have ht := HREP.out.setL (Only.of_below hb2 : Only _ w w2) (hb2.block r hrl) (hb2.block rb hrbl) (own_base hown HB.out) (fun g hg => .inr (hf g hg).1)
  have HT := Lib.hid ht
  have c0' : w2.cell? ⟨r, 0, none⟩ = some (.slice (some ⟨gb, 0, none⟩) n lc) := (World.cell?_of_block (a := ⟨r, 0, none⟩) (hb2.block r hrl)).trans c0
  have f0' : w2.frozen? ⟨r, 0, none⟩ = false := frozen_of_row _ _ _ _ _ ((hb2.block r hrl).trans HREP.out.head)
  have e1 := ht.rep.c1
  obtain ⟨m, hm⟩ : ∃ m, (L.eraseIdx i).length = m := ⟨_, rfl⟩
  have HM := Lib.hid hm
  rw [hm] at e1 ⊢
  have HRE := Lib.hid (rrelease_any ht.rep.bud HOK.out 1 (K : Nat) (by have := HKB.out; omega))
  rw [hm] at HRE
  clear hbl hf hown hb2 ht c0 c1 f0 z2 HWT hrl hrbl hm
  go_wp2_with fail
  refine HRE.out.mono ?_
  rintro e w3 ⟨rfl, hb3, hg3⟩
  have HT3 : Hid (RTurn w w3 B r rb (some ⟨gb, 0, none⟩) A' c' (L.eraseIdx i) (BM.release 1 (K : Nat) s).2) := Lib.hid (by
    have ht := HT.out
    rw [HM.out] at ht
    have hap := ht.rep.apart
    refine ht.trans (d := _) (LB := A') ⟨⟨(hg3.block r (Array.getElem?_eq_some_iff.1 ht.rep.head).1 (fun e => hap.1 (by cases e; rfl))).trans ht.rep.head, own_same ht.rep.row (fun q hg => hg3.block q (ht.rep.own_lt q (Or.inr (Or.inr hg))) (fun e => hap.2.2 (by cases e; exact hg))), hb3⟩,
      Only.of_grown hg3 (Or.inr (Or.inl rfl)), fun _ hg => .inl hg⟩)
  clear hb3 hg3 e1 c0' f0'
  go_wp2
  go_end0
  exact ⟨rfl, A', c', HT3.out⟩

theorem totB_app (L M : Ls) : totB (L ++ M) = totB L + totB M := by simp [totB]
theorem totB_cons (x : Blk) (L : Ls) : totB (x :: L) = cost x.data + totB L := by simp [totB]
theorem totB_sub {L M : Ls} (h : L.Sublist M) : totB L ≤ totB M := by
  induction h with
  | slnil => exact Nat.le_refl _
  | cons a _ ih => rw [totB_cons]; omega
  | cons_cons a _ ih => rw [totB_cons, totB_cons]; omega
theorem Good.tot (g : Good L s) : totB L ≤ 1099511627776 := by
  have h0 := g.sum
  obtain ⟨p0, p1, p2, p3, uh, h1, h2⟩ := g.ok
  unfold S.used at uh
  omega
theorem Good.off {done rest : Ls} {x : Blk} (g : Good (done ++ x :: rest) s) : Good (done ++ rest) (BM.release 1 (cost x.data : Nat) s).2 := by
  have hs := g.sum
  rw [totB_app, totB_cons] at hs
  refine ⟨ok_release g.ok _ _, ?_, fun y hy => g.wf y ?_, ?_⟩
  · rw [rel_k1 (by omega), totB_app]; omega
  · rcases List.mem_append.1 hy with h | h
    · exact List.mem_append_left _ h
    · exact List.mem_append_right _ (List.mem_cons_of_mem _ h)
  · have := g.len
    simp only [List.length_append, List.length_cons] at this ⊢
    omega
theorem erase_mid (done rest : Ls) (x : Blk) : (done ++ x :: rest).eraseIdx done.length = done ++ rest := by
  rw [List.eraseIdx_append_of_length_le (Nat.le_refl _)]; simp
theorem get_mid (done rest : Ls) (x : Blk) (h : done.length < (done ++ x :: rest).length) : (done ++ x :: rest)[done.length] = x := by simp

theorem loose_step {L : Ls} {j : Nat} (h : j < L.length) : totB ((L.take (j + 1)).filter loose) = totB ((L.take j).filter loose) + if L[j].pins = 0 then cost L[j].data else 0 := by
  rw [List.take_succ_eq_append_getElem h, List.filter_append, totB_app]
  by_cases hp : L[j].pins = 0
  · rw [if_pos hp]; simp [loose, hp, totB]
  · rw [if_neg hp]; simp [loose, hp, totB]
theorem loose_le (L : Ls) (j : Nat) : totB ((L.take j).filter loose) ≤ totB L := totB_sub (List.filter_sublist.trans (List.take_sublist _ _))

set_option maxRecDepth 100000 in
set_option maxHeartbeats 4000000 in
theorem rshrink_any (h : RRep w B r rb LA lc L s) (g : Good L s) (hB : B ≤ w.heap.size) (n : Int) :
    Calls Try.prog 31 #[.pointer (some ⟨r, 0, none⟩), .int .i64 n] w fun e w' => e = .returned (.bool (shrB n L s).1) ∧ ∃ LA' lc', RTurn w w' B r rb LA LA' lc' (shrB n L s).2.1 (shrB n L s).2.2 ∧ Good (shrB n L s).2.1 (shrB n L s).2.2 := by
  have HREP := Lib.hid h
  have HB := Lib.hid hB
  have HG := Lib.hid g
  have HLF := Lib.hid (rleft_any h g.ok)
  have hlr := left_range g.ok
  have hgt := g.tot
  obtain ⟨m, hm⟩ : ∃ m, L.length = m := ⟨_, rfl⟩
  have HM := Lib.hid hm
  obtain ⟨R, hR⟩ : ∃ R, shrB n L s = R := ⟨_, rfl⟩
  have HR : Hid ((if left s + totB (L.filter loose) < n then (false, L, s) else (true, (dl (fun t => decide (n ≤ left t)) loose [] L s).1, (dl (fun t => decide (n ≤ left t)) loose [] L s).2)) = R) := Lib.hid hR
  rw [hR]
  obtain ⟨F, hF⟩ : ∃ F, left s = F := ⟨_, rfl⟩
  rw [hF] at HLF hlr HR
  have hl6 : m ≤ 1000000 := by rw [← hm]; exact g.len
  clear h g hB hm hR hF
  go_enter Try.func31, Try.ntmps31
  go_wp2_with fail
  refine HLF.out.mono ?_
  rintro e w1 ⟨rfl, hb1⟩
  have HT1 := Lib.hid (HREP.out.stay hb1)
  have c0 := HT1.out.rep.c0
  rw [HM.out] at c0
  clear hb1
  go_wp2_with fail
  go_loopw [5, 6, 7] (fun o i v wr => ∃ j : Nat, j ≤ m ∧ i = .int .i64 j ∧ wr = w1 ∧ o = .int .i64 (F + totB ((L.take j).filter loose))) (fun _ i _ _ => m - (intOf i).toNat)
  case atStart => exact ⟨0, by omega, rfl, rfl, by simp [totB]⟩
  case round =>
    obtain ⟨j, hj, rfl, rfl, rfl⟩ := hrel
    by_cases hlt : j < m
    · have hjl : j < L.length := by rw [HM.out]; exact hlt
      obtain ⟨gb, hA, -, hc⟩ := HT1.out.rep.blks (by omega)
      obtain ⟨-, -, z2, z3⟩ := hc j hjl
      have hst := loose_step hjl
      have hle := loose_le L j
      have hle2 := loose_le L (j + 1)
      have hd := (HG.out.wf _ (List.getElem_mem hjl)).d
      have HCO := Lib.hid (fun W => rcost_any L[j].data W hd)
      obtain ⟨P, hP⟩ : ∃ P, totB ((L.take j).filter loose) = P := ⟨_, rfl⟩
      obtain ⟨Q, hQ⟩ : ∃ Q, totB ((L.take (j + 1)).filter loose) = Q := ⟨_, rfl⟩
      rw [hP] at hst hle ⊢
      rw [hQ] at hst hle2
      have HQ := Lib.hid hQ
      obtain ⟨x, hx⟩ : ∃ x, L[j] = x := ⟨_, rfl⟩
      rw [hx] at z2 z3 hst HCO
      obtain ⟨xf, xk, xd, xp⟩ := x
      simp only at z2 z3 hst HCO
      obtain ⟨K, hK⟩ : ∃ K, cost xd = K := ⟨_, rfl⟩
      rw [hK] at hst HCO
      have HA := Lib.hid hA
      have hA2 := HA.out
      subst hA2
      have g0 : (0 : Int) ≤ (j : Int) := by omega
      have g1 : (j : Int) < (m : Int) := by omega
      have HST := Lib.hid hst
      clear hc hx hd hP hQ hK hst hA
      by_cases hp : xp = 0
      · subst hp
        have hs := HST.out
        rw [if_pos rfl] at hs
        have hw : IntKind.i64.wrap (F + (P : Int) + (K : Int)) = F + (Q : Int) := by rw [IntWalk.i64_in _ ⟨by omega, by omega⟩]; omega
        have HS := Lib.hid hs
        clear hs HST
        go_wp2_with fail
        refine (HCO.out _).mono ?_
        rintro e w2 ⟨rfl, rfl⟩
        go_wp2
        go_roundw
        case rel => exact ⟨j + 1, by omega, by go_num, trivial, by rw [HQ.out]⟩
        case measure => simp [intOf]; omega
      · have hb : ((xp : Int) == 0) = false := beq_eq_false_iff_ne.2 (by omega)
        have hs := HST.out
        rw [if_neg hp, Nat.add_zero] at hs
        have HS := Lib.hid hs
        clear hs HST
        go_wp2
        go_roundw
        case rel => exact ⟨j + 1, by omega, by go_num, trivial, by rw [HQ.out, HS.out]⟩
        case measure => simp [intOf]; omega
    · have hjm : j = m := by omega
      have htk : L.take j = L := List.take_of_length_le (by rw [HM.out]; omega)
      rw [htk]
      have hle : totB (L.filter loose) ≤ totB L := totB_sub List.filter_sublist
      obtain ⟨P, hP⟩ : ∃ P, totB (L.filter loose) = P := ⟨_, rfl⟩
      rw [hP] at HR hle ⊢
      subst hjm
      clear hP htk
      by_cases hsh : F + (P : Int) < n
      · have hd : decide (F + (P : Int) < n) = true := decide_eq_true hsh
        have hr := HR.out
        rw [if_pos hsh] at hr
        subst hr
        clear hsh
        go_wp2
        go_ret
        exact ⟨rfl, ⟨LA, lc, HT1.out⟩, HG.out⟩
      · have hd : decide (F + (P : Int) < n) = false := decide_eq_false hsh
        have hr := HR.out
        rw [if_neg hsh] at hr
        have HD0 : Hid (dl (fun t => decide (n ≤ left t)) loose [] L s = R.2) := Lib.hid (by rw [← hr])
        have HR1 : Hid (R.1 = true) := Lib.hid (by rw [← hr])
        clear hr hsh HR hle hlr
        go_wp2_with fail
        go_loopg [8, 9] L.length (fun kk i v wq => ∃ (done rest : Ls) (s' : S) (LA' : Option Addr) (lc' : Nat), i = .int .i64 (done.length : Nat) ∧ rest.length ≤ kk ∧ Hid (dl (fun t => decide (n ≤ left t)) loose done rest s' = R.2) ∧ Hid (RTurn w wq B r rb LA LA' lc' (done ++ rest) s') ∧ Hid (Good (done ++ rest) s'))
        case atStart => exact ⟨[], L, s, LA, lc, rfl, Nat.le_refl _, HD0, HT1, HG⟩
        case round =>
          obtain ⟨done, rest, s', LA', lc', rfl, hk, HD, HT, HGG⟩ := hrel
          have c0 := HT.out.rep.c0
          cases rest with
          | nil =>
            have hd := HD.out
            rw [dl] at hd
            have HRR : Hid (R = (true, done, s')) := Lib.hid (Prod.ext HR1.out hd.symm)
            rw [List.append_nil] at HT HGG c0
            obtain ⟨q, hq⟩ : ∃ q, done.length = q := ⟨_, rfl⟩
            rw [hq] at c0 ⊢
            have hr := HRR.out
            clear hd hq HRR HD
            subst hr
            go_wp2
            go_ret
            exact ⟨rfl, ⟨LA', lc', HT.out⟩, HGG.out⟩
          | cons x rest =>
            have hd := HD.out
            rw [dl] at hd
            have hlen : done.length < (done ++ x :: rest).length := by simp
            obtain ⟨gb, hA, -, hc⟩ := HT.out.rep.blks (by omega)
            obtain ⟨-, -, -, z3⟩ := hc done.length hlen
            rw [get_mid] at z3
            have HBQ : Hid (B ≤ wr.heap.size) := Lib.hid (Nat.le_trans HB.out HT.out.only.size)
            have HLQ := Lib.hid (rleft_any HT.out.rep HGG.out.ok)
            have HDR : Hid (∀ W, RRep W B r rb LA' lc' (done ++ x :: rest) s' → B ≤ W.heap.size → Calls Try.prog 49 #[.pointer (some ⟨r, 0, none⟩), .int .i64 (done.length : Nat)] W fun e w' => e = .returned (.tuple #[]) ∧ ∃ LA2 lc2, RTurn W w' B r rb LA' LA2 lc2 (done ++ rest) (BM.release 1 (cost x.data : Nat) s').2) := Lib.hid fun W hW hBW => by
              have := rdrop_any hW HGG.out hBW hlen
              rw [erase_mid, get_mid] at this
              exact this
            have hll := left_range HGG.out.ok
            obtain ⟨E, hE⟩ : ∃ E, left s' = E := ⟨_, rfl⟩
            rw [hE] at HLQ hll hd
            obtain ⟨q, hq⟩ : ∃ q, done.length = q := ⟨_, rfl⟩
            obtain ⟨M, hMM⟩ : ∃ M, (done ++ x :: rest).length = M := ⟨_, rfl⟩
            rw [hMM] at c0 hlen
            rw [hq] at z3 hlen HDR ⊢
            have HQL := Lib.hid hq
            have g0 : (0 : Int) ≤ (q : Int) := by omega
            have g1 : (q : Int) < (M : Int) := by omega
            have hM6 : M ≤ 1000000 := by rw [← hMM]; exact HGG.out.len
            have HHD := Lib.hid hd
            have HA := Lib.hid hA
            have HMM := Lib.hid hMM
            simp only [List.length_cons] at hk
            clear hc hd hE hq hMM hA
            go_wp2_with fail
            refine HLQ.out.mono ?_
            rintro e w3 ⟨rfl, hb3⟩
            have hT3 := HT.out.trans (HT.out.rep.stay hb3)
            have HT3 := Lib.hid hT3
            have c0 := hT3.rep.c0
            rw [HMM.out, HA.out] at c0
            have z3 : w3.cell? ⟨gb, q * 4 + 3, none⟩ = some (.int .i64 x.pins) := by
              obtain ⟨g2, hA2, -, hc2⟩ := hT3.rep.blks (by simp only [List.length_append, List.length_cons]; omega)
              obtain ⟨-, -, -, y3⟩ := hc2 done.length (by simp only [List.length_append, List.length_cons]; omega)
              rw [get_mid, HQL.out] at y3
              have := HA.out.symm.trans hA2
              simp only [Option.some.injEq, Addr.mk.injEq, and_true] at this
              rw [this]; exact y3
            have HB3 : Hid (B ≤ w3.heap.size) := Lib.hid (Nat.le_trans HBQ.out hb3.size)
            clear hb3 hT3
            by_cases hs : n ≤ E
            · have hd2 : decide (n ≤ E) = true := decide_eq_true hs
              have h2 := HHD.out
              rw [hd2, if_pos rfl] at h2
              have HRR : Hid (R = (true, done ++ x :: rest, s')) := Lib.hid (Prod.ext HR1.out h2.symm)
              have hr := HRR.out
              clear h2 HRR HD HHD hs HDR
              subst hr
              go_wp2
              go_ret
              exact ⟨rfl, ⟨LA', lc', HT3.out⟩, HGG.out⟩
            · have hd2 : decide (n ≤ E) = false := decide_eq_false hs
              have h2 := HHD.out
              rw [hd2, if_neg (by simp)] at h2
              clear HHD HD hs
              obtain ⟨xf, xk, xd, xp⟩ := x
              simp only at z3 h2 HDR
              by_cases hp : xp = 0
              · subst hp
                have hlo : loose ⟨xf, xk, xd, 0⟩ = true := rfl
                rw [hlo, if_pos rfl] at h2
                have HN := Lib.hid h2
                have HGN := Lib.hid (Good.off HGG.out)
                have HDX := Lib.hid (HDR.out w3 HT3.out.rep HB3.out)
                clear h2 hlo HDR
                go_wp2_with fail
                refine HDX.out.mono ?_
                rintro e w4 ⟨rfl, LA2, lc2, ht2⟩
                have HT4 := Lib.hid (HT3.out.trans ht2)
                clear ht2
                go_wp2
                go_roundg rest.length
                case measure => omega
                case rel => exact ⟨done, rest, _, LA2, lc2, by rw [HQL.out], Nat.le_refl _, HN, HT4, HGN⟩
              · have hlo : loose ⟨xf, xk, xd, xp⟩ = false := by simp [loose, hp]
                rw [hlo, if_neg (by simp)] at h2
                have HN := Lib.hid h2
                have hb : ((xp : Int) == 0) = false := beq_eq_false_iff_ne.2 (by omega)
                have hap : done ++ ⟨xf, xk, xd, xp⟩ :: rest = (done ++ [⟨xf, xk, xd, xp⟩]) ++ rest := by simp
                have HT4 : Hid (RTurn w w3 B r rb LA LA' lc' ((done ++ [⟨xf, xk, xd, xp⟩]) ++ rest) s') := Lib.hid (by rw [← hap]; exact HT3.out)
                have HG4 : Hid (Good ((done ++ [⟨xf, xk, xd, xp⟩]) ++ rest) s') := Lib.hid (by rw [← hap]; exact HGG.out)
                clear h2 hlo HDR hap
                go_wp2
                go_roundg rest.length
                case measure => omega
                case rel => exact ⟨done ++ [⟨xf, xk, xd, xp⟩], rest, s', LA', lc', by rw [List.length_append, HQL.out]; go_num, Nat.le_refl _, HN, HT4, HG4⟩
end
end Go.Proofs.Ytlfhjbilnfkabaa
