/- The document's Put, Drop. -/
import Derived.Test.YtlfhjbilnfkabaaRb
namespace Go.Proofs.Ytlfhjbilnfkabaa
open Go.RowKit Go.Maps
open BM CM

section
variable {w w' : World} {B r rb : Nat} {LA : Option Addr} {lc : Nat} {L : Ls} {s : S}

set_option maxRecDepth 100000 in
set_option maxHeartbeats 4000000 in
theorem rdropf_any (h : RRep w B r rb LA lc L s) (g : Good L s) (hB : B ≤ w.heap.size) (f : Int) :
    Calls Try.prog 30 #[.pointer (some ⟨r, 0, none⟩), .int .i64 f] w fun e w' => e = .returned (.tuple #[]) ∧ ∃ LA' lc', RTurn w w' B r rb LA LA' lc' (dropB f L s).1 (dropB f L s).2 ∧ Good (dropB f L s).1 (dropB f L s).2 := by
  have HT1 := Lib.hid (h.stay (Below.refl _ _))
  have HB := Lib.hid hB
  have HG := Lib.hid g
  obtain ⟨R, hR⟩ : ∃ R, dropB f L s = R := ⟨_, rfl⟩
  have HD0 : Hid (dl (fun _ => false) (ofFile f) [] L s = R) := Lib.hid hR
  rw [hR]
  clear h g hB hR
  go_enter Try.func30, Try.ntmps30
  go_wp2_with fail
  go_loopg [4] L.length (fun kk i wq => ∃ (done rest : Ls) (s' : S) (LA' : Option Addr) (lc' : Nat), i = .int .i64 (done.length : Nat) ∧ rest.length ≤ kk ∧ Hid (dl (fun _ => false) (ofFile f) done rest s' = R) ∧ Hid (RTurn w wq B r rb LA LA' lc' (done ++ rest) s') ∧ Hid (Good (done ++ rest) s'))
  case atStart => exact ⟨[], L, s, LA, lc, rfl, Nat.le_refl _, HD0, HT1, HG⟩
  case round =>
    obtain ⟨done, rest, s', LA', lc', rfl, hk, HD, HT, HGG⟩ := hrel
    have c0 := HT.out.rep.c0
    cases rest with
    | nil =>
      have hd := HD.out
      rw [dl] at hd
      rw [List.append_nil] at HT HGG c0
      obtain ⟨q, hq⟩ : ∃ q, done.length = q := ⟨_, rfl⟩
      rw [hq] at c0 ⊢
      clear hq HD HD0
      subst hd
      go_wp2
      go_end0
      exact ⟨rfl, ⟨LA', lc', HT.out⟩, HGG.out⟩
    | cons x rest =>
      have hd := HD.out
      rw [dl] at hd
      simp only [Bool.false_eq_true, if_false] at hd
      have hlen : done.length < (done ++ x :: rest).length := by simp
      obtain ⟨gb, hA, -, hc⟩ := HT.out.rep.blks (by omega)
      obtain ⟨z0, -, -, -⟩ := hc done.length hlen
      rw [get_mid] at z0
      have HBQ : Hid (B ≤ wr.heap.size) := Lib.hid (Nat.le_trans HB.out HT.out.only.size)
      have hdr := rdrop_any HT.out.rep HGG.out HBQ.out hlen
      rw [erase_mid, get_mid] at hdr
      obtain ⟨q, hq⟩ : ∃ q, done.length = q := ⟨_, rfl⟩
      obtain ⟨M, hMM⟩ : ∃ M, (done ++ x :: rest).length = M := ⟨_, rfl⟩
      rw [hMM] at c0 hlen
      rw [hq] at z0 hlen hdr ⊢
      have HDR := Lib.hid hdr
      have HQL := Lib.hid hq
      have g0 : (0 : Int) ≤ (q : Int) := by omega
      have g1 : (q : Int) < (M : Int) := by omega
      have hM6 : M ≤ 1000000 := by rw [← hMM]; exact HGG.out.len
      simp only [List.length_cons] at hk
      rw [hA] at c0
      clear hc hdr hq hMM hA
      obtain ⟨xf, xk, xd, xp⟩ := x
      simp only at z0 hd HDR
      by_cases hp : xf = f
      · subst hp
        have hlo : ofFile xf ⟨xf, xk, xd, xp⟩ = true := by simp [ofFile]
        rw [hlo, if_pos rfl] at hd
        have HN := Lib.hid hd
        have HGN := Lib.hid (Good.off HGG.out)
        clear hd hlo
        go_wp2_with fail
        refine HDR.out.mono ?_
        rintro e w4 ⟨rfl, LA2, lc2, ht2⟩
        have HT4 := Lib.hid (HT.out.trans ht2)
        clear ht2
        go_wp2
        go_roundg rest.length
        case measure => omega
        case rel => exact ⟨done, rest, _, LA2, lc2, by rw [HQL.out], Nat.le_refl _, HN, HT4, HGN⟩
      · have hlo : ofFile f ⟨xf, xk, xd, xp⟩ = false := by simp [ofFile, hp]
        rw [hlo, if_neg (by simp)] at hd
        have HN := Lib.hid hd
        have hb : (xf == f) = false := beq_eq_false_iff_ne.2 hp
        have hap : done ++ ⟨xf, xk, xd, xp⟩ :: rest = (done ++ [⟨xf, xk, xd, xp⟩]) ++ rest := by simp
        have HT4 : Hid (RTurn w wr B r rb LA LA' lc' ((done ++ [⟨xf, xk, xd, xp⟩]) ++ rest) s') := Lib.hid (by rw [← hap]; exact HT.out)
        have HG4 : Hid (Good ((done ++ [⟨xf, xk, xd, xp⟩]) ++ rest) s') := Lib.hid (by rw [← hap]; exact HGG.out)
        clear hd hlo hap
        go_wp2
        go_roundg rest.length
        case measure => omega
        case rel => exact ⟨done ++ [⟨xf, xk, xd, xp⟩], rest, s', LA', lc', by rw [List.length_append, HQL.out]; go_num, Nat.le_refl _, HN, HT4, HG4⟩

/-- a block is appended -/
theorem RRep.app (h : RRep w B r rb LA lc L s) {w1 w2 : World} (hal : Below w.heap.size w w1) (h1s : w.heap.size ≤ w1.heap.size) {v : Value} {x : Blk} (hown : w2.ownsRow B 84 4 v (L.length + 1) (bcs (L ++ [x]))) (hg : w1.grownBy w2 (Value.slice LA L.length lc).ownBlock)
    (hloc : v.ownBlock = (Value.slice LA L.length lc).ownBlock ∨ v.ownBlock = some w1.heap.size) :
    ∃ A' c', v = .slice A' (L.length + 1) c' ∧ RTurn w (w2.setCell ⟨r, 0, none⟩ (.slice A' (L.length + 1) c')) B r rb LA A' c' (L ++ [x]) s ∧ w2.cell? ⟨r, 0, none⟩ = some (.slice LA L.length lc) ∧ w2.frozen? ⟨r, 0, none⟩ = false := by
  obtain ⟨A', c', rfl, -, -⟩ := own_blks (by simp) hown
  have hap := h.apart
  have hfb : ∀ g, (Value.slice LA L.length lc).ownBlock = some g → g ∈ fb LA := fun g hg => by
    cases LA with
    | none => simp [Value.ownBlock] at hg
    | some a => simp [Value.ownBlock] at hg; simp [fb, hg]
  have hrl : r < w.heap.size := h.own_lt r (Or.inl rfl)
  have hbl : rb < w.heap.size := h.own_lt rb (Or.inr (Or.inl rfl))
  have hr : w2.heap[r]? = w.heap[r]? := (hg.block r (by omega) (fun e => hap.2.1 (hfb r e.symm))).trans (hal.block r hrl)
  have hrb : w2.heap[rb]? = w.heap[rb]? := (hg.block rb (by omega) (fun e => hap.2.2 (hfb rb e.symm))).trans (hal.block rb hbl)
  have hlen : (L ++ [x]).length = L.length + 1 := by simp
  have ho : Only (rown r rb LA) w w2 := (Only.of_below hal : Only (rown r rb LA) w w1).trans (T := rown r rb LA) (by
    cases hq : (Value.slice LA L.length lc).ownBlock with
    | none =>
      rw [hq] at hg
      exact ⟨hg.os, hg.tape, hg.output, hg.size, fun g hg2 _ => hg.block g hg2 (by simp)⟩
    | some g =>
      rw [hq] at hg
      exact Only.of_grown hg (Or.inr (Or.inr (hfb g hq)))) (fun _ _ h => h)
  refine ⟨A', c', rfl, ?_, ?_, ?_⟩
  · have := h.setL ho hr hrb (A' := A') (c' := c') (L' := L ++ [x]) (by rw [hlen]; exact hown) (fun g hg => by
      have hgo : (Value.slice A' (L.length + 1) c').ownBlock = some g := by
        cases A' with
        | none => simp [fb] at hg
        | some a => simp [fb] at hg; simp [Value.ownBlock, hg]
      rcases hloc with e | e
      · exact .inl (hfb g (by rw [← e]; exact hgo))
      · rw [hgo] at e
        cases e
        exact .inr h1s)
    rw [hlen] at this
    exact this
  · exact (World.cell?_of_block (a := ⟨r, 0, none⟩) hr).trans h.c0
  · exact frozen_of_row _ _ _ _ _ (hr.trans h.head)

theorem putB_good {f k : Int} {d : ByteArray} (g : Good L s) (hwf : Blk.wf ⟨f, k, d, 0⟩) (hlen : L.length + 1 ≤ 1000000) (h3 : Good (shrB (cost d : Nat) L s).2.1 (shrB (cost d : Nat) L s).2.2) (hsl : (shrB (cost d : Nat) L s).2.1.length ≤ L.length) (hroom : (shrB (cost d : Nat) L s).1 = true → (cost d : Int) ≤ left (shrB (cost d : Nat) L s).2.2) :
    Good (putB f k d L s).2.1 (putB f k d L s).2.2 := by
  unfold putB
  split
  · exact g
  · split
    · rename_i hs
      rw [reserve_ok (hroom hs)]
      refine ⟨?_, ?_, ?_, ?_⟩
      · have := ok_reserve h3.ok 1 (cost d : Nat)
        rw [reserve_ok (hroom hs)] at this
        exact this
      · simp only [totB_app]
        have := h3.sum
        show (shrB (cost d : Nat) L s).2.2.k1 + (cost d : Int) = _
        simp [totB] at this ⊢
        omega
      · intro x hx
        rcases List.mem_append.1 hx with h | h
        · exact h3.wf x h
        · simp at h; rw [h]; exact hwf
      · simp only [List.length_append, List.length_singleton]; omega
    · exact g
theorem dl_len (stop : S → Bool) (m : Blk → Bool) : ∀ (rest done : Ls) (s : S), (dl stop m done rest s).1.length ≤ done.length + rest.length
  | [], done, s => by simp [dl]
  | x :: r, done, s => by
    rw [dl]
    split
    · simp
    · split
      · have := dl_len stop m r done (BM.release 1 (cost x.data : Nat) s).2
        simp only [List.length_cons]; omega
      · have := dl_len stop m r (done ++ [x]) s
        simp only [List.length_append, List.length_cons, List.length_nil] at this ⊢; omega
theorem shrB_len (n : Int) : (shrB n L s).2.1.length ≤ L.length := by
  unfold shrB
  split
  · exact Nat.le_refl _
  · simpa using dl_len (fun t => decide (n ≤ left t)) loose L [] s

def mark : Nat → Ls → Zs
  | _, [] => []
  | i, x :: r => (i, x) :: mark (i + 1) r
theorem mark_bl : ∀ (i : Nat) (L : Ls), bl (mark i L) = L
  | _, [] => rfl
  | i, x :: r => by show x :: bl (mark (i + 1) r) = _; rw [mark_bl]
theorem mark_ads : ∀ (i : Nat) (L : Ls), ads (mark i L) = List.range' i L.length
  | _, [] => rfl
  | i, x :: r => by show i :: ads (mark (i + 1) r) = _; rw [mark_ads, List.length_cons, List.range'_succ]
theorem shrB_room {n : Int} (ok : Ok s) (hs : s.k1 = totB L) (h : (shrB n L s).1 = true) : n ≤ left (shrB n L s).2.2 := by
  have hb := mark_bl 0 L
  have hs' : s.k1 = tot (mark 0 L) := by rw [← totB_bl, hb]; exact hs
  have he := shr_eq (n := n) ok hs' (by rw [mark_ads]; exact List.nodup_range')
  rw [hb] at he
  rw [he] at h ⊢
  exact shr_room ok hs' h

set_option maxRecDepth 100000 in
set_option maxHeartbeats 4000000 in
theorem rput_any (h : RRep w B r rb LA lc L s) (g : Good L s) (hB : B ≤ w.heap.size) (hlen : L.length + 1 ≤ 1000000) {f k : Int} {d : ByteArray} (hwf : Blk.wf ⟨f, k, d, 0⟩) :
    Calls Try.prog 34 #[.pointer (some ⟨r, 0, none⟩), .int .i64 f, .int .i64 k, .string d] w fun e w' => e = .returned (.int .i64 (putB f k d L s).1) ∧ ∃ LA' lc', RTurn w w' B r rb LA LA' lc' (putB f k d L s).2.1 (putB f k d L s).2.2 ∧ Good (putB f k d L s).2.1 (putB f k d L s).2.2 := by
  obtain ⟨i0, hi, hz0, hz1, hz2⟩ := info_parts info_rblk
  have HREP := Lib.hid h
  have HB := Lib.hid hB
  have hfd := rfind_any h f k (by omega)
  have HCO := Lib.hid (fun W => rcost_any d W hwf.d)
  have hsh := rshrink_any h g hB (cost d : Nat)
  have hroom := shrB_room (n := (cost d : Nat)) g.ok g.sum
  have hsl := shrB_len (L := L) (s := s) (cost d : Nat)
  have hpg : Good (shrB (cost d : Nat) L s).2.1 (shrB (cost d : Nat) L s).2.2 → Good (putB f k d L s).2.1 (putB f k d L s).2.2 := fun h3 => putB_good g hwf hlen h3 hsl hroom
  have HPG := Lib.hid hpg
  have HG := Lib.hid g
  have HPB : Hid (putB f k d L s = if (findB f k L).isSome then (11, L, s) else if (shrB (cost d : Nat) L s).1 then (0, (shrB (cost d : Nat) L s).2.1 ++ [⟨f, k, d, 0⟩], (BM.reserve 1 (cost d : Nat) (shrB (cost d : Nat) L s).2.2).2) else (14, L, s)) := Lib.hid rfl
  have hdz := hwf.d
  simp only at hdz
  obtain ⟨Q, hQ⟩ : ∃ Q, putB f k d L s = Q := ⟨_, rfl⟩
  rw [hQ] at HPG HPB ⊢
  obtain ⟨K, hK⟩ : ∃ K, cost d = K := ⟨_, rfl⟩
  have hKb : (K : Int) ≤ 281474976710656 := by rw [← hK]; unfold cost; omega
  rw [hK] at HCO hsh hroom hsl HPG HPB
  have HSAME : Hid ((shrB (K : Nat) L s).1 = false → (shrB (K : Nat) L s).2 = (L, s)) := Lib.hid (by
    unfold shrB
    split
    · intro _; rfl
    · intro h; cases h)
  obtain ⟨R, hR⟩ : ∃ R, shrB (K : Nat) L s = R := ⟨_, rfl⟩
  rw [hR] at hsh hroom hsl HPG HPB HSAME
  have HSH := Lib.hid hsh
  have HRO := Lib.hid hroom
  have HSL := Lib.hid hsl
  have HKB := Lib.hid hKb
  have HLN := Lib.hid hlen
  clear h g hB hwf hsh hroom hsl hpg hQ hK hR hKb hlen
  cases hff : findB f k L with
  | some i =>
    rw [hff] at hfd HPB
    have HFD := Lib.hid hfd
    have hq := HPB.out
    simp only [Option.isSome_some, if_true] at hq
    subst hq
    have hd : decide ((0 : Int) ≤ (i : Int)) = true := decide_eq_true (by omega)
    clear hfd HPB hff
    go_enter Try.func34, Try.ntmps34
    go_wp2_with fail
    refine HFD.out.mono ?_
    rintro e w1 ⟨rfl, rfl⟩
    go_wp2
    go_ret
    first | exact ⟨rfl, LA, lc, HREP.out.stay (Below.refl _ _), HG.out⟩ | exact ⟨rfl, ⟨LA, lc, HREP.out.stay (Below.refl _ _)⟩, HG.out⟩
  | none =>
    rw [hff] at hfd HPB
    have HFD := Lib.hid hfd
    obtain ⟨rt, L3, s3⟩ := R
    simp only at HSH HRO HSL HPG HPB HSAME
    clear hfd hff
    go_enter Try.func34, Try.ntmps34
    go_wp2_with fail
    refine HFD.out.mono ?_
    rintro e w1 ⟨rfl, rfl⟩
    go_wp2_with fail
    refine (HCO.out _).mono ?_
    rintro e w1 ⟨rfl, rfl⟩
    go_wp2_with fail
    refine HSH.out.mono ?_
    rintro e w3 ⟨rfl, LA3, lc3, ht3, hg3⟩
    have HT3 := Lib.hid ht3
    have HG3 := Lib.hid hg3
    clear ht3 hg3 HFD HSH HCO
    cases rt with
    | false =>
      have hq := HPB.out
      simp only [Option.isSome_none, Bool.false_eq_true, if_false] at hq
      subst hq
      have hsm := HSAME.out rfl
      simp only [Prod.mk.injEq] at hsm
      obtain ⟨rfl, rfl⟩ := hsm
      go_wp2
      go_ret
      first | exact ⟨rfl, LA3, lc3, HT3.out, HG3.out⟩ | exact ⟨rfl, ⟨LA3, lc3, HT3.out⟩, HG3.out⟩
    | true =>
      have hq := HPB.out
      simp only [Option.isSome_none, Bool.false_eq_true, if_false, if_true] at hq
      have hroom := HRO.out rfl
      have hrs := reserve_ok hroom
      have HRS := Lib.hid hrs
      have HQ := Lib.hid hq
      have c1 := HT3.out.rep.c1
      have hre := rreserve_any HT3.out.rep.bud HG3.out.ok 1 (K : Nat) (by have := HKB.out; omega)
      rw [hrs] at hre
      have HRE := Lib.hid hre
      clear hroom hrs hq hre HRO HPB HSAME
      obtain ⟨n3, hn3⟩ : ∃ n3, L3.length = n3 := ⟨_, rfl⟩
      have HN3 := Lib.hid hn3
      clear hn3
      go_wp2_with fail
      refine HRE.out.mono ?_
      rintro e w4 ⟨rfl, hb4, hg4⟩
      have hT4 : RTurn w w4 B r rb LA LA3 lc3 L3 (s3.put 1 (s3.k1 + (K : Nat))) := by
        have hap := HT3.out.rep.apart
        exact HT3.out.trans ⟨⟨(hg4.block r (Array.getElem?_eq_some_iff.1 HT3.out.rep.head).1 (fun e => hap.1 (by cases e; rfl))).trans HT3.out.rep.head, own_same HT3.out.rep.row (fun q hg => hg4.block q (HT3.out.rep.own_lt q (Or.inr (Or.inr hg))) (fun e => hap.2.2 (by cases e; exact hg))), hb4⟩,
          Only.of_grown hg4 (Or.inr (Or.inl rfl)), fun _ hg => .inl hg⟩
      have HT4 := Lib.hid hT4
      have c0 := hT4.rep.c0
      have hrow := hT4.rep.row
      rw [HN3.out] at c0 hrow
      have HROW := Lib.hid hrow
      have HBW : Hid (B ≤ w4.heap.size) := Lib.hid (Nat.le_trans HB.out hT4.only.size)
      have hn6 : n3 + 1 ≤ 1000000 := by have h1 := HSL.out; have h2 := HLN.out; have h3 := HN3.out; omega
      clear hb4 hg4 c1 hT4 hrow HRE
      go_wp2_with (at_builtin; refine wpList_append_own_at _ rfl _ _ 30 rfl B 84 i0 _ 4 40 Try.underlying30 hi hz0 hz1 hz2 rfl (by decide) _ _ _ rfl (own_below HROW.out ((Below.refl _ _).alloc (Nat.le_refl _) _)) ⟨w4.heap.size, 0, none⟩ 1 1 [.int .i64 f, .int .i64 k, .string d, .int .i64 0] rfl ?c1 ?c2 ?c3 ?c4 ?c5 ?c6 ?_)
      case c1 => rfl
      case c2 => exact four_cells w4 _ _ _ _ _
      case c3 => intro u hu; simp at hu; rcases hu with rfl | rfl | rfl | rfl <;> rfl
      case c4 => unfold maxLen; omega
      case c5 => omega
      case c6 => have := HBW.out; simp; try omega
      intro v' w6 hown6 hgrow hnil hloc
      clear hnil
      have hown7 : w6.ownsRow B 84 4 v' (L3.length + 1) (bcs (L3 ++ [⟨f, k, d, 0⟩])) := by rw [HN3.out, bcs_snoc]; exact hown6
      have hal : Below w4.heap.size w4 (w4.alloc (.cells #[.int .i64 f, .int .i64 k, .string d, .int .i64 0] 84)) := (Below.refl _ _).alloc (Nat.le_refl _) _
      have hsz4 : (w4.alloc (.cells #[.int .i64 f, .int .i64 k, .string d, .int .i64 0] 84)).heap.size = w4.heap.size + 1 := by simp
      obtain ⟨A', c', rfl, ht7, c07, f07⟩ := HT4.out.rep.app hal hal.size hown7 (by rw [HN3.out]; exact hgrow) (by rw [HN3.out, hsz4]; exact hloc)
      have hg9 : Good Q.2.1 Q.2.2 := HPG.out HG3.out
      have hq := HQ.out
      rw [HRS.out] at hq
      subst hq
      have HT7 := Lib.hid (HT4.out.trans ht7)
      rw [HN3.out] at HT7 c07 ⊢
      have HG9 := Lib.hid hg9
      clear hown6 hown7 hgrow hloc hal ht7 hg9 c0 hsz4
      go_wp2
      go_ret
      first | exact ⟨rfl, A', c', HT7.out, HG9.out⟩ | exact ⟨rfl, ⟨A', c', HT7.out⟩, HG9.out⟩
end
end Go.Proofs.Ytlfhjbilnfkabaa
