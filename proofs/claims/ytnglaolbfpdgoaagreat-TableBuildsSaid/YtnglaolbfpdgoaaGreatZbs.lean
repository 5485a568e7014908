/- Texts joined by bundle.py: Rz. -/
import Derived.Test.YtnglaolbfpdgoaaGreatZat
import Derived.Test.YtnglaolbfpdgoaaGreatZbp
import Derived.Test.YtnglaolbfpdgoaaGreatZbq
import Derived.Test.YtnglaolbfpdgoaaGreatZbr
import Derived.Deep.CutBlock

/- The document's side: Build. Made by gen_rz.py. -/
namespace Go.Proofs.YtnglaolbfpdgoaaGreat
open Go.RowKit
open SK
open TB (Bs Sp)

theorem keys_first {l : List E} (h : 0 < l.length) : TB.keys (l.take 1) = TB.keys (l.take 0) ++ [l[0].key] := by
  cases l with
  | nil => simp at h
  | cons a r => simp [TB.keys, TB.ded, TB.dedF]
theorem keys_next {l : List E} {m : Nat} (h : m + 1 < l.length) : TB.keys (l.take (m + 1 + 1)) = TB.keys (l.take (m + 1)) ++ (if l[m].key = l[m + 1].key then [] else [l[m + 1].key]) := by
  unfold TB.keys TB.ded
  rw [List.take_succ_eq_append_getElem h, List.map_append, List.map_cons, List.map_nil, dedF_snoc]
  have : ((l.take (m + 1)).map E.key).getLast? = some l[m].key := by rw [List.take_succ_eq_append_getElem (by omega : m < l.length), List.map_append, List.map_cons, List.map_nil, List.getLast?_concat]
  rw [this]
  simp

theorem strs_of_own {w : World} {base : Nat} {e : TypeId} {v : Value} {n : Nat} {l : List ByteArray} (hn : l.length = n) (h : w.ownsRow base e 1 v n (strV l)) : ∃ A c, v = .slice A n c ∧ B9.StrsIn w w.heap.size A l := by
  subst hn
  have h' := h
  rcases h.2 with ⟨rfl, h0⟩ | ⟨g, cap, cur, rfl, _, hg, _, _, _, _⟩
  · exact ⟨none, 0, by rw [h0], fun hn => by omega⟩
  · refine ⟨some ⟨g, 0, none⟩, cap, rfl, fun _ => ⟨g, 0, rfl, (Array.getElem?_eq_some_iff.1 hg).1, fun j hj => ?_⟩⟩
    have hc := h'.cells (g := g) rfl j (.string l[j]) (by simp [strV, hj])
    rw [addr_add0] at hc
    rw [Nat.zero_add, hc]

theorem cut_rents (W : World) (b off n cap k t : Nat) (ht : 0 < t) (h : k + t ≤ cap) : (Instr.slice 24 (.slice (some ⟨b, off, none⟩) n cap) (some (.int .i64 (k : Int))) (some (.int .i64 ((k + t : Nat) : Int))) none).run Tryz.prog W = .ok (.slice (some ⟨b, off + k * 5, none⟩) t (cap - k)) W := by
  have hs : ∀ w, (sizeOf (Tryz.prog.elem 24)).run Tryz.prog w = .ok 5 w := fun w => by kernel_rfl
  rw [run_slice_lh W 24 (some ⟨b, off, none⟩) n cap (by kernel_rfl) .i64 .i64 (k : Int) ((k + t : Nat) : Int) (by omega) (by omega) (by omega), hs]
  simp only [Result.andThen, sliced, Int.toNat_natCast]
  rw [if_neg (by omega)]
  simp [add_off]

/-- what the document's loop still has to take -/
theorem tk_more {S i h T : Nat} {l : List E} {j : Nat} (hj : j < l.length) (he : TB.tk S i h (l.drop j) = T) : (i = 2048 ∨ S ≤ h → T = i) ∧ (¬ (i = 2048 ∨ S ≤ h) → TB.tk S (i + 1) (h + (l[j].key.size + l[j].value.size)) (l.drop (j + 1)) = T) := by
  rw [List.drop_eq_getElem_cons hj] at he
  unfold TB.tk at he
  exact ⟨fun hc => by rw [if_pos hc] at he; exact he.symm, fun hc => by rw [if_neg hc] at he; exact he⟩

theorem mk_size2 (l : Bs) : (⟨l.toArray⟩ : ByteArray).size = l.length := by show l.toArray.size = _; rw [List.size_toArray]
theorem mk_app (a b : Bs) : (⟨a.toArray⟩ : ByteArray) ++ ⟨b.toArray⟩ = ⟨(a ++ b).toArray⟩ := str_append a b

set_option maxRecDepth 100000 in
set_option maxHeartbeats 16000000 in
theorem rbuildT_good (A : Option Addr) (n cap S b : Nat) (l : List E) (w : World) (hn : l.length = n) (hcap : n ≤ cap) (hin : EntsIn w A l) (hf : Fine l) (hok : BK.OkF [] l) (hb : n ≤ 65536) (hS : 1 ≤ S) (hS2 : S ≤ 4096) (hb1 : 1 ≤ b) (hb2 : b ≤ 16) :
    Calls Tryz.prog 8 #[.slice A n cap, .int .i64 S, .int .i64 b] w fun e w' => e = .returned (buildV (if 65535 < (TB.ixOf S l).length ∨ 65535 < (TB.flOf b l).length then ([], 5) else (TB.bytes S b l, 0))) ∧ Below w.heap.size w w' := by
  obtain ⟨s0, hs1, hs2, hs3, hs4⟩ := info_parts info_strs
  obtain ⟨B, hBB⟩ : ∃ B, w.heap.size = B := ⟨_, rfl⟩
  obtain ⟨b0, off0, hA0⟩ : ∃ b0 off0, 0 < n → A = some ⟨b0, off0, none⟩ := by
    by_cases h0 : 0 < n
    · obtain ⟨b0, off0, hA, -⟩ := hin.at_ (by omega)
      exact ⟨b0, off0, fun _ => hA⟩
    · exact ⟨0, 0, fun h => absurd h h0⟩
  have HENT : Hid (∀ W k, Below B w W → k < n → EntsIn W (some ⟨b0, off0 + k * 5, none⟩) (l.drop k)) := Lib.hid fun W k hW hk => ents_drop (by rw [← hA0 (by omega)]; exact hin.below (by rw [hBB]; exact hW))
  have HCEL : Hid (∀ W j (hj : j < l.length), Below B w W → W.cell? ⟨b0, off0 + j * 5, none⟩ = some (.string l[j].key) ∧ W.cell? ⟨b0, off0 + j * 5 + 3, none⟩ = some (.string l[j].value)) := Lib.hid fun W j hj hW => by
    obtain ⟨b', off', hA, -, hc⟩ := (hin.below (by rw [hBB]; exact hW)).at_ (by omega)
    rw [hA0 (by omega)] at hA
    simp only [Option.some.injEq, Addr.mk.injEq] at hA
    obtain ⟨rfl, rfl, -⟩ := hA
    obtain ⟨c0, -, -, c3, -⟩ := hc j hj
    exact ⟨c0, c3⟩
  have hord := rord_any A n cap l w hn hcap hin (by omega)
  have ho : BK.ord l = (0, 0) := by unfold BK.ord; exact BK.ordF_ok _ _ hok
  rw [ho] at hord
  have HORD := Lib.hid hord
  have HN := Lib.hid hn
  have HFI := Lib.hid hf
  have HOK := Lib.hid hok
  have HWF := Lib.hid hin.wf
  have hkl : (TB.keys l).length ≤ n := Nat.le_trans (dedF_len _ _) (by rw [List.length_map, hn]; exact Nat.le_refl _)
  have hkm : ∀ q ∈ TB.keys l, q.size ≤ 64 := fun q hq => by
    obtain ⟨e, he, rfl⟩ := List.mem_map.1 (dedF_mem _ _ _ hq)
    exact (good_zero (hf e he).2.1).2.1
  obtain ⟨fl, hfl⟩ : ∃ fl, TB.flOf b l = fl := ⟨_, rfl⟩
  have hflen : fl.length ≤ 131073 := by
    rw [← hfl]
    unfold TB.flOf
    rw [B9.BL.filter_len]
    have := (B9.BL.bytes_lt (b := b) (n := (B9.keysOf (TB.keys l)).length) hb2 (by unfold B9.keysOf; rw [List.length_map]; omega)).2
    omega
  have HNEW : Hid (∀ W A3 c3, B9.StrsIn W W.heap.size A3 (TB.keys l) → Calls Tryz.prog 25 #[.int .i64 b, .slice A3 (TB.keys l).length c3] W fun e w' => e = .returned (.tuple #[.string ⟨fl.toArray⟩, .int .i64 0]) ∧ Below W.heap.size W w') := Lib.hid fun W A3 c3 h3 => by
    have h := B9.rnew_any b A3 (TB.keys l).length c3 (TB.keys l) W (by omega) (by omega) rfl h3 (by unfold reachBytes; omega) (fun q hq => by have := hkm q hq; omega)
    unfold B9.NewOut B9.BL.new at h
    rw [if_neg (by omega), if_neg (by unfold B9.keysOf; rw [List.length_map]; omega), Int.toNat_natCast] at h
    rw [← hfl]
    exact h
  have HKL := Lib.hid hkl
  have HFLN := Lib.hid hflen
  have HFL := Lib.hid hfl
  have HA0 := Lib.hid hA0
  have HCAP := Lib.hid hcap
  have HNB := Lib.hid hb
  simp only [hBB]
  simp only [hBB] at HORD
  obtain ⟨R, hR⟩ : ∃ R, (if 65535 < (TB.ixOf S l).length ∨ 65535 < (TB.flOf b l).length then ([], 5) else (TB.bytes S b l, 0) : Bs × Int) = R := ⟨_, rfl⟩
  rw [hR]
  have HRR := Lib.hid hR
  have d1 : decide ((S : Int) < 1) = false := decide_eq_false (by omega)
  have d2 : decide ((4096 : Int) < (S : Int)) = false := decide_eq_false (by omega)
  have d2' : decide (4096 < S) = false := decide_eq_false (by omega)
  have d3 : decide ((b : Int) < 1) = false := decide_eq_false (by omega)
  have d4 : decide ((16 : Int) < (b : Int)) = false := decide_eq_false (by omega)
  have d4' : decide (16 < b) = false := decide_eq_false (by omega)
  have d5 : decide ((65536 : Int) < (n : Int)) = false := decide_eq_false (by omega)
  have d5' : decide (65536 < n) = false := decide_eq_false (by omega)
  clear hn hcap hin hf hok hA0 hord ho hkl hkm hflen hfl hR
  go_enter Tryz.func8, Tryz.ntmps8
  go_wp2_with fail
  refine HORD.out.mono ?_
  rintro e w1 ⟨rfl, hb1'⟩
  have HB1 := Lib.hid hb1'
  clear hb1' HORD d1 d2 d2' d3 d4 d4' d5 d5'
  go_wp2_with fail
  go_loopw [10, 11] (fun v i wr => ∃ j : Nat, j ≤ n ∧ i = .int .i64 j ∧ wr.ownsRow B 9 1 v (TB.keys (l.take j)).length (strV (TB.keys (l.take j))) ∧ Below B w wr) (fun _ i _ => n - (intOf i).toNat)
  case atStart => exact ⟨0, by omega, rfl, World.ownsRow_nil _ _ _ _, HB1.out⟩
  case round =>
    obtain ⟨j, hj, rfl, hown, hb⟩ := hrel
    obtain ⟨V, vc, rfl⟩ := B9.own_slice hown
    have HB := Lib.hid hb
    have HOWN := Lib.hid hown
    clear hb hown
    by_cases hlt : j < n
    · have hjl : j < l.length := by rw [HN.out]; exact hlt
      obtain ⟨z0, -⟩ := HCEL.out wr j hjl HB.out
      obtain rfl := HA0.out (by omega)
      have hml : (TB.keys (l.take j)).length ≤ j := Nat.le_trans (dedF_len _ _) (by rw [List.length_map, List.length_take]; omega)
      obtain ⟨M, hM⟩ : ∃ M, (TB.keys (l.take j)).length = M := ⟨_, rfl⟩
      rw [hM] at HOWN hml ⊢
      have HM := Lib.hid hM
      have hnb := HNB.out
      have hMb : M ≤ 65536 := by omega
      have g0 : (0 : Int) ≤ (j : Int) := by omega
      have g1 : (j : Int) < (n : Int) := by omega
      have dn : decide ((j : Int) < (n : Int)) = true := decide_eq_true (by omega)
      have dn' : decide (j < n) = true := decide_eq_true hlt
      clear hM
      by_cases h0 : j = 0
      · have HNK : Hid (TB.keys (l.take (j + 1)) = TB.keys (l.take j) ++ [(l[j]'hjl).key]) := Lib.hid (by subst h0; exact keys_first hjl)
        obtain ⟨kj, hkj⟩ : ∃ kj, (l[j]'hjl).key = kj := ⟨_, rfl⟩
        rw [hkj] at HNK z0
        clear hkj
        have j0 : ((j : Int) == 0) = true := beq_iff_eq.2 (by omega)
        have j0' : (j == 0) = true := beq_iff_eq.2 h0
        clear h0
        go_wp2_with fail
        go_quiet (fail)
        have HBQ : Hid (∀ i, Below B w (World.drewN wr i)) := Lib.hid fun i => below_drewN HB.out i
        have HOQ : Hid (∀ i, (World.drewN wr i).ownsRow B 9 1 (.slice V M vc) M (strV (TB.keys (l.take j)))) := Lib.hid fun i => own_below HOWN.out (below_drewN (Below.refl _ _) i)
        have HZQ : Hid (∀ i, (World.drewN wr i).cell? ⟨b0, off0 + j * 5, none⟩ = some (.string kj)) := Lib.hid fun i => by rw [← z0]; rfl
        generalize hq : World.drewN wr _ = wq
        have HB1 : Hid (Below B w wq) := Lib.hid (by rw [← hq]; exact HBQ.out _)
        have HOWN1 : Hid (wq.ownsRow B 9 1 (.slice V M vc) M (strV (TB.keys (l.take j)))) := Lib.hid (by rw [← hq]; exact HOQ.out _)
        have z0q : wq.cell? ⟨b0, off0 + j * 5, none⟩ = some (.string kj) := by rw [← hq]; exact HZQ.out _
        have HSZQ : Hid (B ≤ wq.heap.size) := Lib.hid (by have := HB1.out.size; omega)
        clear hq HBQ HOQ HZQ z0
        obtain ⟨Y, hY⟩ : ∃ Y, strV (TB.keys (l.take j)) = Y := ⟨_, rfl⟩
        rw [hY] at HOWN1
        have HYY := Lib.hid hY
        clear hY
        go_wp2_with (at_builtin; refine wpList_append_own _ rfl _ _ 66 rfl B 9 s0 _ 1 16 Tryz.underlying66 hs1 hs2 hs3 hs4 rfl (by decide) _ _ _ rfl (own_below HOWN1.out ((Below.refl _ _).alloc (Nat.le_refl _) _)) ⟨wq.heap.size, 0, none⟩ 1 1 [.string kj] rfl ?c1 ?c2 ?c3 ?c4 ?c5 ?c6 ?_)
        case c1 => rfl
        case c2 =>
          refine World.news_of_block (cs := #[.string kj]) (t := 9) (fr := (0, 0)) ?_
          exact heap_alloc_new wq _
        case c3 => simp [Value.oneCell']
        case c4 => unfold maxLen; omega
        case c5 => omega
        case c6 => have := HSZQ.out; simp; omega
        intro v' w6 hown6 hgrow6 hnil6
        have hob : ∀ g, (Value.slice V M vc).ownBlock = some g → B ≤ g := fun g hg => (HOWN1.out.lt g hg).1
        have HR6 : Hid (w6.ownsRow B 9 1 v' (TB.keys (l.take (j + 1))).length (strV (TB.keys (l.take (j + 1))))) := Lib.hid (by
          rw [HNK.out, List.length_append, HM.out]
          have : strV (TB.keys (l.take j) ++ [kj]) = Y ++ [.string kj] := by rw [← HYY.out]; simp [strV]
          rw [this]
          exact hown6)
        have HB6 : Hid (Below B w w6) := Lib.hid ⟨hgrow6.os.trans HB1.out.os, hgrow6.tape.trans HB1.out.tape, hgrow6.output.trans HB1.out.output, by have := hgrow6.size; have := HB1.out.size; simp at *; omega, fun z hz =>
          (hgrow6.block z (by have := HSZQ.out; simp; omega) (by intro he; have := hob z he.symm; omega)).trans ((Below.heap_alloc _ _ _ (by have := HSZQ.out; omega)).trans (HB1.out.block z hz))⟩
        clear hown6 hgrow6 hnil6 hob
        go_wp2
        go_roundw
        case rel => exact ⟨j + 1, by omega, by go_num, HR6.out, HB6.out⟩
        case measure => simp [intOf]; omega
      · obtain ⟨m, rfl⟩ : ∃ m, j = m + 1 := ⟨j - 1, by omega⟩
        obtain ⟨zm, -⟩ := HCEL.out wr m (by omega) HB.out
        have HNX := Lib.hid (keys_next hjl)
        obtain ⟨kj, hkj⟩ : ∃ kj, (l[m + 1]'hjl).key = kj := ⟨_, rfl⟩
        obtain ⟨km, hkm⟩ : ∃ km, (l[m]'(by omega)).key = km := ⟨_, rfl⟩
        rw [hkj] at HNX z0
        rw [hkm] at HNX zm
        obtain ⟨j, hjm⟩ : ∃ j, m + 1 = j := ⟨_, rfl⟩
        have hwr : IntKind.i64.wrap ((j : Int) - 1) = (m : Int) := by rw [IntWalk.i64_in _ ⟨by omega, by omega⟩]; omega
        rw [hjm] at HNX z0 HOWN HM hml g0 g1 dn dn' hlt ⊢
        have m0 : (0 : Int) ≤ (m : Int) := by omega
        have m1 : (m : Int) < (n : Int) := by omega
        have j0 : ((j : Int) == 0) = false := beq_eq_false_iff_ne.2 (by omega)
        have j0' : (j == 0) = false := beq_eq_false_iff_ne.2 (by omega)
        clear hkj hkm hj h0 hjm hjl
        by_cases hk : km = kj
        · subst hk
          have HNK : Hid (TB.keys (l.take (j + 1)) = TB.keys (l.take j)) := Lib.hid (by rw [HNX.out, if_pos rfl, List.append_nil])
          have dk : (km.toList == km.toList) = true := by simp
          go_wp2_with fail
          go_quiet (fail)
          have HBQ : Hid (∀ i, Below B w (World.drewN wr i)) := Lib.hid fun i => below_drewN HB.out i
          have HOQ : Hid (∀ i, (World.drewN wr i).ownsRow B 9 1 (.slice V M vc) M (strV (TB.keys (l.take j)))) := Lib.hid fun i => own_below HOWN.out (below_drewN (Below.refl _ _) i)
          generalize hq : World.drewN wr _ = wq
          have HB1' : Hid (Below B w wq) := Lib.hid (by rw [← hq]; exact HBQ.out _)
          have HOWN1 : Hid (wq.ownsRow B 9 1 (.slice V M vc) M (strV (TB.keys (l.take j)))) := Lib.hid (by rw [← hq]; exact HOQ.out _)
          clear hq HBQ HOQ
          go_wp2
          go_roundw
          case rel => exact ⟨j + 1, by omega, by go_num, by rw [HNK.out, HM.out]; exact HOWN1.out, HB1'.out⟩
          case measure => simp [intOf]; omega
        · have HNK : Hid (TB.keys (l.take (j + 1)) = TB.keys (l.take j) ++ [kj]) := Lib.hid (by rw [HNX.out, if_neg hk])
          have dk : (kj.toList == km.toList) = false := by rw [text_eq]; exact decide_eq_false (fun h => hk h.symm)
          clear HNX hk
          go_wp2_with fail
          go_quiet (fail)
          have HBQ : Hid (∀ i, Below B w (World.drewN wr i)) := Lib.hid fun i => below_drewN HB.out i
          have HOQ : Hid (∀ i, (World.drewN wr i).ownsRow B 9 1 (.slice V M vc) M (strV (TB.keys (l.take j)))) := Lib.hid fun i => own_below HOWN.out (below_drewN (Below.refl _ _) i)
          have HZQ : Hid (∀ i, (World.drewN wr i).cell? ⟨b0, off0 + j * 5, none⟩ = some (.string kj)) := Lib.hid fun i => by rw [← z0]; rfl
          generalize hq : World.drewN wr _ = wq
          have HB1 : Hid (Below B w wq) := Lib.hid (by rw [← hq]; exact HBQ.out _)
          have HOWN1 : Hid (wq.ownsRow B 9 1 (.slice V M vc) M (strV (TB.keys (l.take j)))) := Lib.hid (by rw [← hq]; exact HOQ.out _)
          have z0q : wq.cell? ⟨b0, off0 + j * 5, none⟩ = some (.string kj) := by rw [← hq]; exact HZQ.out _
          have HSZQ : Hid (B ≤ wq.heap.size) := Lib.hid (by have := HB1.out.size; omega)
          clear hq HBQ HOQ HZQ z0
          obtain ⟨Y, hY⟩ : ∃ Y, strV (TB.keys (l.take j)) = Y := ⟨_, rfl⟩
          rw [hY] at HOWN1
          have HYY := Lib.hid hY
          clear hY
          go_wp2_with (at_builtin; refine wpList_append_own _ rfl _ _ 66 rfl B 9 s0 _ 1 16 Tryz.underlying66 hs1 hs2 hs3 hs4 rfl (by decide) _ _ _ rfl (own_below HOWN1.out ((Below.refl _ _).alloc (Nat.le_refl _) _)) ⟨wq.heap.size, 0, none⟩ 1 1 [.string kj] rfl ?c1 ?c2 ?c3 ?c4 ?c5 ?c6 ?_)
          case c1 => rfl
          case c2 =>
            refine World.news_of_block (cs := #[.string kj]) (t := 9) (fr := (0, 0)) ?_
            exact heap_alloc_new wq _
          case c3 => simp [Value.oneCell']
          case c4 => unfold maxLen; omega
          case c5 => omega
          case c6 => have := HSZQ.out; simp; omega
          intro v' w6 hown6 hgrow6 hnil6
          have hob : ∀ g, (Value.slice V M vc).ownBlock = some g → B ≤ g := fun g hg => (HOWN1.out.lt g hg).1
          have HR6 : Hid (w6.ownsRow B 9 1 v' (TB.keys (l.take (j + 1))).length (strV (TB.keys (l.take (j + 1))))) := Lib.hid (by
            rw [HNK.out, List.length_append, HM.out]
            have : strV (TB.keys (l.take j) ++ [kj]) = Y ++ [.string kj] := by rw [← HYY.out]; simp [strV]
            rw [this]
            exact hown6)
          have HB6 : Hid (Below B w w6) := Lib.hid ⟨hgrow6.os.trans HB1.out.os, hgrow6.tape.trans HB1.out.tape, hgrow6.output.trans HB1.out.output, by have := hgrow6.size; have := HB1.out.size; simp at *; omega, fun z hz =>
            (hgrow6.block z (by have := HSZQ.out; simp; omega) (by intro he; have := hob z he.symm; omega)).trans ((Below.heap_alloc _ _ _ (by have := HSZQ.out; omega)).trans (HB1.out.block z hz))⟩
          clear hown6 hgrow6 hnil6 hob
          go_wp2
          go_roundw
          case rel => exact ⟨j + 1, by omega, by go_num, HR6.out, HB6.out⟩
          case measure => simp [intOf]; omega
    · obtain rfl : n = j := by omega
      have dn : decide ((n : Int) < (n : Int)) = false := decide_eq_false (by omega)
      have dn' : decide (n < n) = false := decide_eq_false (by omega)
      have htk : l.take n = l := List.take_of_length_le (by rw [HN.out]; exact Nat.le_refl _)
      rw [htk] at HOWN ⊢
      obtain ⟨V', vc', hsl, hst⟩ := strs_of_own rfl HOWN.out
      obtain ⟨rfl, rfl⟩ : V' = V ∧ vc' = vc := by simp only [Value.slice.injEq] at hsl; exact ⟨hsl.1.symm, hsl.2.2.symm⟩
      have HNW := Lib.hid (HNEW.out wr V' vc' hst)
      clear hsl hst htk HOWN
      go_wp2_with fail
      refine HNW.out.mono ?_
      rintro e w2 ⟨rfl, hb2'⟩
      have HB2 := Lib.hid (below_seq HB.out hb2' (by have := HB.out.size; omega))
      clear hb2' HNW HNEW HB HB1
      go_wp2_with fail
      clear dn dn'
      go_loopw [14, 15, 16, 17] (fun sv iv cv av wr => ∃ (k : Nat) (D : List (List E)), k ≤ n ∧ av = .int .i64 k ∧ sv = .string ⟨(TB.body D).toArray⟩ ∧ iv = .string ⟨((TB.sps 0 D).flatMap TB.spB).toArray⟩ ∧ cv = .int .i64 D.length ∧ D ++ TB.cuts S (l.drop k) = TB.cuts S l ∧ D.length ≤ k ∧ (TB.body D).length ≤ k * 718 ∧ (∀ y ∈ TB.sps 0 D, y.wf ∧ y.last.size ≤ 64) ∧ Below B w wr) (fun _ _ _ av _ => n - (intOf av).toNat)
      case atStart => exact ⟨0, [], by omega, rfl, by simp [TB.body], by simp [TB.sps], rfl, by simp, by simp, by simp [TB.body], by simp [TB.sps], HB2.out⟩
      case round =>
        obtain ⟨k, D, hk, rfl, rfl, rfl, rfl, hcut, hDl, hDb, hwf, hb⟩ := hrel
        have HCUT := Lib.hid hcut
        have HDL := Lib.hid hDl
        have HDB := Lib.hid hDb
        have HWFD := Lib.hid hwf
        have HB := Lib.hid hb
        have hFLn := flat_len (TB.sps 0 D) hwf
        rw [TB.sps_len] at hFLn
        have HFLn := Lib.hid hFLn
        clear hcut hDl hDb hwf hb hFLn
        by_cases hlt : k < n
        · obtain rfl := HA0.out (by omega)
          have hLne : l.drop k ≠ [] := by intro h; have := congrArg List.length h; rw [List.length_drop, HN.out] at this; simp at this; omega
          have hLl : (l.drop k).length = n - k := by rw [List.length_drop, HN.out]
          obtain ⟨ht1, ht2, ht3⟩ := TB.taken_bounds hS hLne
          have HCS := Lib.hid (TB.cuts_step hS hLne)
          have HFT := Lib.hid (block_fits hS hS2 hLne (HFI.out.drop k))
          obtain ⟨T, htt⟩ : ∃ T, TB.taken S (l.drop k) = T := ⟨_, rfl⟩
          rw [htt] at HCS HFT ht1 ht2 ht3
          rw [hLl] at ht2
          have HTT : Hid (TB.tk S 0 0 (l.drop k) = T) := Lib.hid htt
          have hBL : ((l.drop k).take T).length = T := by rw [List.length_take, hLl]; omega
          have HBO := Lib.hid (build_ok (b := (l.drop k).take T) (by omega) (okF_take T _ _ (okF_drop k _ _ HOK.out)))
          have HBLn := Lib.hid hBL
          have hnb := HNB.out
          have dn : decide ((k : Int) < (n : Int)) = true := decide_eq_true (by omega)
          have dn' : decide (k < n) = true := decide_eq_true hlt
          clear hLne hLl htt hBL
          generalize hIX : (⟨((TB.sps 0 D).flatMap TB.spB).toArray⟩ : ByteArray) = IX
          generalize hSS : (⟨(TB.body D).toArray⟩ : ByteArray) = SS
          have HIX := Lib.hid hIX
          have HSS := Lib.hid hSS
          clear hIX hSS
          go_wp2_with fail
          go_loopw [18, 19] (fun ev hv wq => ∃ en H : Nat, k ≤ en ∧ en ≤ k + T ∧ ev = .int .i64 en ∧ hv = .int .i64 H ∧ Hid (TB.tk S (en - k) H (l.drop en) = T) ∧ en - k ≤ 2048 ∧ H ≤ (en - k) * 100000 ∧ (en = k → H = 0) ∧ Below B w wq) (fun ev _ _ => k + T - (intOf ev).toNat)
          case atStart => exact ⟨k, 0, by omega, by omega, rfl, rfl, by rw [Nat.sub_self]; exact HTT, by omega, by omega, fun _ => rfl, HB.out⟩
          case round =>
            obtain ⟨en, H, hen1, hen2, rfl, rfl, HTK, hen3, hHb, hH0, hb⟩ := hrel
            have HBq := Lib.hid hb
            clear hb
            have HTK2 := HTK.out
            have hwe : IntKind.i64.wrap ((en : Int) - (k : Int)) = (en : Int) - (k : Int) := IntWalk.i64_in _ ⟨by omega, by omega⟩
            have HHB := Lib.hid hHb
            have HH0 := Lib.hid hH0
            clear hHb hH0 dn dn'
            obtain ⟨CB, hCB⟩ : ∃ CB : Bool, decide (en < n ∧ (en = k ∨ (H < S ∧ en - k < 2048))) = CB := ⟨_, rfl⟩
            have HCB := Lib.hid hCB
            clear hCB
            go_upto_region 22 with fail
            go_cut [118] from 99 to 135 (fun c wx => c = .bool CB ∧ wx = wr)
            case first =>
              by_cases c1 : en < n
              · have e1 : decide ((en : Int) < (n : Int)) = true := decide_eq_true (by omega)
                have e1' : decide (en < n) = true := decide_eq_true c1
                by_cases c2 : en = k
                · have e2 : ((en : Int) == (k : Int)) = true := beq_iff_eq.2 (by omega)
                  have e2' : (en == k) = true := beq_iff_eq.2 c2
                  have HD : Hid (CB = true) := Lib.hid (by rw [← HCB.out]; exact decide_eq_true ⟨c1, Or.inl c2⟩)
                  clear c2
                  go_wp2
                  go_meet
                  exact ⟨by rw [HD.out], rfl⟩
                · have e2 : ((en : Int) == (k : Int)) = false := beq_eq_false_iff_ne.2 (by omega)
                  have e2' : (en == k) = false := beq_eq_false_iff_ne.2 c2
                  by_cases c3 : H < S
                  · have e3 : decide ((H : Int) < (S : Int)) = true := decide_eq_true (by omega)
                    have e3' : decide (H < S) = true := decide_eq_true c3
                    by_cases c4 : en - k < 2048
                    · have e4 : decide ((en : Int) - (k : Int) < 2048) = true := decide_eq_true (by omega)
                      have HD : Hid (CB = true) := Lib.hid (by rw [← HCB.out]; exact decide_eq_true ⟨c1, Or.inr ⟨c3, c4⟩⟩)
                      go_wp2
                      go_meet
                      exact ⟨by rw [HD.out], rfl⟩
                    · have e4 : decide ((en : Int) - (k : Int) < 2048) = false := decide_eq_false (by omega)
                      have HD : Hid (CB = false) := Lib.hid (by rw [← HCB.out]; exact decide_eq_false (by omega))
                      go_wp2
                      go_meet
                      exact ⟨by rw [HD.out], rfl⟩
                  · have e3 : decide ((H : Int) < (S : Int)) = false := decide_eq_false (by omega)
                    have e3' : decide (H < S) = false := decide_eq_false c3
                    have HD : Hid (CB = false) := Lib.hid (by rw [← HCB.out]; exact decide_eq_false (by omega))
                    go_wp2
                    go_meet
                    exact ⟨by rw [HD.out], rfl⟩
              · have e1 : decide ((en : Int) < (n : Int)) = false := decide_eq_false (by omega)
                have e1' : decide (en < n) = false := decide_eq_false c1
                have HD : Hid (CB = false) := Lib.hid (by rw [← HCB.out]; exact decide_eq_false (by omega))
                go_wp2
                go_meet
                exact ⟨by rw [HD.out], rfl⟩
            case rest =>
            obtain ⟨rfl, rfl⟩ := hcut
            by_cases hC : en < n ∧ (en = k ∨ (H < S ∧ en - k < 2048))
            · have hCB : CB = true := by rw [← HCB.out]; exact decide_eq_true hC
              clear HCB
              subst hCB
              have hel : en < l.length := by rw [HN.out]; exact hC.1
              have hnc : ¬ (en - k = 2048 ∨ S ≤ H) := by have := HH0.out; omega
              have HTN := Lib.hid ((tk_more hel HTK.out).2 hnc)
              have HEN2 : Hid (en + 1 ≤ k + T) := Lib.hid (by
                have h1 := HTN.out
                have := (TB.tk_bounds S (l.drop (en + 1)) (en - k + 1) (H + (l[en].key.size + l[en].value.size)) (by omega)).1
                rw [h1] at this
                omega)
              obtain ⟨z0, z3⟩ := HCEL.out _ en hel HBq.out
              obtain ⟨y, hy⟩ : ∃ y, l[en]'hel = y := ⟨_, rfl⟩
              have hyg := good_zero (HFI.out y (by rw [← hy]; exact List.getElem_mem hel)).2.1
              rw [hy] at HTN z0 z3
              obtain ⟨-, hys1, hys2, -⟩ := hyg
              obtain ⟨yk, ys, yg, yv, yt⟩ := y
              simp only at HTN z0 z3 hys1 hys2
              have hHb2 := HHB.out
              have hen2k : (en - k) * 100000 ≤ 2048 * 100000 := Nat.mul_le_mul_right _ hen3
              have hv1 : IntKind.i64.wrap ((H : Int) + (yk.size : Int)) = (H : Int) + (yk.size : Int) := IntWalk.i64_in _ ⟨by omega, by omega⟩
              have hv2 : IntKind.i64.wrap ((H : Int) + (yk.size : Int) + (yv.size : Int)) = (H : Int) + (yk.size : Int) + (yv.size : Int) := IntWalk.i64_in _ ⟨by omega, by omega⟩
              have hv3 : IntKind.i64.wrap ((en : Int) + 1) = ((en + 1 : Nat) : Int) := by rw [IntWalk.i64_in _ ⟨by omega, by omega⟩]; omega
              have g0 : (0 : Int) ≤ (en : Int) := by omega
              have g1 : (en : Int) < (n : Int) := by omega
              have HNX : Hid (en + 1 - k = en - k + 1) := Lib.hid (by omega)
              have HHX : Hid (H + (yk.size + yv.size) ≤ (en - k + 1) * 100000) := Lib.hid (by rw [Nat.add_mul]; omega)
              have HC := Lib.hid hC
              clear hy hel hnc hC HTK2 HTK hHb2 hen2k
              go_wp2_with fail
              go_quiet (fail)
              have HBQ : Hid (∀ i, Below B w (World.drewN _ i)) := Lib.hid fun i => below_drewN HBq.out i
              generalize hq : World.drewN _ _ = wq
              have HB1' : Hid (Below B w wq) := Lib.hid (by rw [← hq]; exact HBQ.out _)
              clear hq HBQ
              go_wp2
              go_roundw
              case rel => exact ⟨en + 1, H + (yk.size + yv.size), by omega, HEN2.out, by first | rfl | go_num, by go_num, by rw [HNX.out]; exact HTN, by rw [HNX.out]; have := HC.out; have := HH0.out; omega, by rw [HNX.out]; exact HHX.out, by omega, HB1'.out⟩
              case measure => have := HEN2.out; simp [intOf]; omega
            · have hCB : CB = false := by rw [← HCB.out]; exact decide_eq_false hC
              clear HCB
              subst hCB
              have hen : en = k + T := by
                by_cases c1 : en < n
                · have hel : en < l.length := by rw [HN.out]; exact c1
                  have := (tk_more hel HTK.out).1 (by omega)
                  omega
                · have h1 := HTK.out
                  rw [List.drop_eq_nil_of_le (by rw [HN.out]; omega)] at h1
                  simp only [TB.tk] at h1
                  omega
              have HEN := Lib.hid hen
              clear hC HTK HTK2 hwe hen3 HHB HH0
              obtain ⟨m, hm⟩ : ∃ m, T = m + 1 := ⟨T - 1, by omega⟩
              have hkm : k + m < l.length := by rw [HN.out]; omega
              have hml : m < (l.drop k).length := by rw [List.length_drop, HN.out]; omega
              obtain ⟨y, hy⟩ : ∃ y, l[k + m]'hkm = y := ⟨_, rfl⟩
              have hyd : (l.drop k)[m]'hml = y := by rw [List.getElem_drop]; exact hy
              have hyg := good_zero (HFI.out y (by rw [← hy]; exact List.getElem_mem hkm)).2.1
              have HKEY : Hid (∀ W, Below B w W → W.cell? ⟨b0, off0 + (k + m) * 5, none⟩ = some (.string y.key)) := Lib.hid fun W hW => by
                have := (HCEL.out W (k + m) hkm hW).1
                rw [hy] at this
                exact this
              have HLK : Hid (BK.lastKey ((l.drop k).take T) = y.key) := Lib.hid (by
                unfold BK.lastKey
                rw [hm, List.take_succ_eq_append_getElem hml, hyd]
                simp)
              obtain ⟨ky, hky⟩ : ∃ ky, y.key = ky := ⟨_, rfl⟩
              rw [hky] at HKEY HLK hyg
              obtain ⟨-, hks, -⟩ := hyg
              have hsl := fun W => cut_rents W b0 off0 n cap k T (by omega) (by have := HCAP.out; omega)
              rw [← hen] at hsl
              have HBD : Hid (∀ W, Below B w W → Calls Tryz.prog 26 #[.slice (some ⟨b0, off0 + k * 5, none⟩) T (cap - k), .int .i64 16] W fun e w' => e = .returned (.tuple #[.string ⟨(BK.buildB ((l.drop k).take T) 16).toArray⟩, .int .i64 0]) ∧ Below W.heap.size W w') := Lib.hid fun W hW => by
                have h := rbuild_any (some ⟨b0, off0 + k * 5, none⟩) T (cap - k) ((l.drop k).take T) 16 W HBLn.out (by have := HCAP.out; omega) ((HENT.out W k hW (by omega)).take T) (by omega)
                rw [HBO.out] at h
                exact h
              obtain ⟨P, hP⟩ : ∃ P, BK.buildB ((l.drop k).take T) 16 = P := ⟨_, rfl⟩
              rw [hP] at HFT
              simp only [hP] at HBD
              have HPP := Lib.hid hP
              have HFRM := Lib.hid fun W => rframe_any P W HFT.out
              have hFFs : (⟨(TB.fr P).toArray⟩ : ByteArray).size = 8 + P.length := by rw [mk_size2, TB.fr_len]
              obtain ⟨FF, hFF⟩ : ∃ FF : ByteArray, ⟨(TB.fr P).toArray⟩ = FF := ⟨_, rfl⟩
              rw [hFF] at hFFs
              simp only [hFF] at HFRM
              have HFF := Lib.hid hFF
              have hSSs : SS.size = (TB.body D).length := by rw [← HSS.out, mk_size2]
              have hIXs : IX.size = ((TB.sps 0 D).flatMap TB.spB).length := by rw [← HIX.out, mk_size2]
              have hDb := HDB.out
              have hDl := HDL.out
              have hFl := HFLn.out
              have hPl := HFT.out
              have HP1 := Lib.hid fun W => refPut_any (ky.size : Int) W (by omega) (by omega)
              have HP2 := Lib.hid fun W => refPut_any (SS.size : Int) W (by omega) (by omega)
              have HP3 := Lib.hid fun W => refPut_any (FF.size : Int) W (by omega) (by omega)
              have he1 := (VM.enc_len (n := (ky.size : Int)) (by omega) (by omega)).2
              have he2 := (VM.enc_len (n := (SS.size : Int)) (by omega) (by omega)).2
              have he3 := (VM.enc_len (n := (FF.size : Int)) (by omega) (by omega)).2
              rw [← mk_size2] at he1 he2 he3
              obtain ⟨E1, hE1⟩ : ∃ E1 : ByteArray, ⟨(VM.enc (ky.size : Int)).toArray⟩ = E1 := ⟨_, rfl⟩
              obtain ⟨E2, hE2⟩ : ∃ E2 : ByteArray, ⟨(VM.enc (SS.size : Int)).toArray⟩ = E2 := ⟨_, rfl⟩
              obtain ⟨E3, hE3⟩ : ∃ E3 : ByteArray, ⟨(VM.enc (FF.size : Int)).toArray⟩ = E3 := ⟨_, rfl⟩
              rw [hE1] at he1
              rw [hE2] at he2
              rw [hE3] at he3
              simp only [hE1] at HP1
              simp only [hE2] at HP2
              simp only [hE3] at HP3
              have HSP : Hid (TB.sps 0 (D ++ [(l.drop k).take T]) = TB.sps 0 D ++ [⟨ky, (TB.body D).length, 8 + P.length⟩]) := Lib.hid (by rw [TB.sps_snoc, HLK.out, HPP.out, TB.fr_len, Nat.zero_add])
              have HIX2 : Hid (⟨((TB.sps 0 (D ++ [(l.drop k).take T])).flatMap TB.spB).toArray⟩ = IX ++ E1 ++ ky ++ E2 ++ E3) := Lib.hid (by
                rw [HSP.out, ← HIX.out, ← hE1, ← hE2, ← hE3, hSSs, hFFs]
                apply str_ext
                simp [TB.spB, BK.textB])
              have HSS2 : Hid (⟨(TB.body (D ++ [(l.drop k).take T])).toArray⟩ = SS ++ FF) := Lib.hid (by
                rw [TB.body_snoc, HPP.out, ← HSS.out, ← HFF.out, mk_app])
              have HDB2 : Hid ((TB.body (D ++ [(l.drop k).take T])).length ≤ (k + T) * 718) := Lib.hid (by
                rw [TB.body_snoc, List.length_append, TB.fr_len]
                have h1 := BK.bodyF_len 16 [] ((l.drop k).take T) fun e he => by
                  have := HFI.out e (List.mem_of_mem_drop (List.mem_of_mem_take he))
                  exact ⟨this.2.1, this.1, this.2.2⟩
                have h2 := (VM.enc_len (n := (((l.drop k).take T).length : Int)) (by omega) (by rw [HBLn.out]; omega)).2
                unfold BK.buildB
                rw [List.length_append]
                rw [HBLn.out] at h1 h2 ⊢
                omega)
              have HWF6 : Hid (∀ y ∈ TB.sps 0 (D ++ [(l.drop k).take T]), y.wf ∧ y.last.size ≤ 64) := Lib.hid fun y hy => by
                rw [HSP.out] at hy
                rcases List.mem_append.1 hy with h | h
                · exact HWFD.out y h
                · simp only [List.mem_singleton] at h
                  rw [h]
                  exact ⟨⟨by show ky.size ≤ _; omega, by show (TB.body D).length ≤ _; omega, by show 8 + P.length ≤ _; omega⟩, hks⟩
              have HCUT6 : Hid ((D ++ [(l.drop k).take T]) ++ TB.cuts S (l.drop (k + T)) = TB.cuts S l) := Lib.hid (by
                rw [List.append_assoc, ← HCUT.out, HCS.out, List.drop_drop]
                rfl)
              have HD2 : Hid ((D ++ [(l.drop k).take T]).length = D.length + 1) := Lib.hid (by rw [List.length_append]; rfl)
              have hwm : IntKind.i64.wrap ((en : Int) - 1) = ((k + m : Nat) : Int) := by rw [IntWalk.i64_in _ ⟨by omega, by omega⟩]; omega
              obtain ⟨q, hq⟩ : ∃ q, k + m = q := ⟨_, rfl⟩
              rw [hq] at hwm HKEY
              have hwc : IntKind.i64.wrap ((D.length : Int) + 1) = ((D.length + 1 : Nat) : Int) := by rw [IntWalk.i64_in _ ⟨by omega, by omega⟩]; omega
              have g0 : (0 : Int) ≤ (q : Int) := by omega
              have g1 : (q : Int) < (n : Int) := by omega
              have i0 : (0 : Int) ≤ (k : Int) := by omega
              have i1 : (k : Int) ≤ (en : Int) := by omega
              have i2 : (en : Int) ≤ (cap : Int) := by have := HCAP.out; omega
              have hz1 : IX.size ≤ 65536 * 94 := by omega
              have hz2 : SS.size ≤ 65536 * 718 := by omega
              have hz3 : FF.size ≤ 65543 := by omega
              have HZ1 := Lib.hid hz1
              have HZ2 := Lib.hid hz2
              have HZ3 := Lib.hid hz3
              have HKS := Lib.hid hks
              obtain ⟨dl, hdl⟩ : ∃ dl, D.length = dl := ⟨_, rfl⟩
              rw [hdl] at HD2 hwc HDL hDl ⊢
              clear hm hkm hml hy hyd hky hen hP hFF hE1 hE2 hE3 hDb hDl hFl hPl hSSs hIXs hFFs hq hdl
              go_wp2_with fail
              refine (HBD.out _ HBq.out).mono ?_
              rintro e w3 ⟨rfl, hb3⟩
              have HB3 := Lib.hid (below_seq HBq.out hb3 (by have := HBq.out.size; omega))
              clear hb3 HBD
              go_wp2_with fail
              refine (HFRM.out _).mono ?_
              rintro e w4 ⟨rfl, hb4⟩
              have HB4 := Lib.hid (below_seq HB3.out hb4 (by have := HB3.out.size; omega))
              have z0 := HKEY.out _ HB4.out
              clear hb4 HFRM HB3
              go_wp2_with fail
              refine (HP1.out _).mono ?_
              rintro e w5 ⟨rfl, hb5⟩
              have HB5 := Lib.hid (below_seq HB4.out hb5 (by have := HB4.out.size; omega))
              clear hb5 HP1 HB4 z0
              go_wp2_with fail
              refine (HP2.out _).mono ?_
              rintro e w6 ⟨rfl, hb6⟩
              have HB6 := Lib.hid (below_seq HB5.out hb6 (by have := HB5.out.size; omega))
              clear hb6 HP2 HB5
              go_wp2_with fail
              refine (HP3.out _).mono ?_
              rintro e w7 ⟨rfl, hb7⟩
              have HB7 := Lib.hid (below_seq HB6.out hb7 (by have := HB6.out.size; omega))
              clear hb7 HP3 HB6
              go_wp2
              go_roundw
              case rel => exact ⟨k + T, D ++ [(l.drop k).take T], by omega, by rw [HEN.out], by rw [HSS2.out], by rw [HIX2.out], by rw [HD2.out]; rfl, HCUT6.out, by rw [HD2.out]; have := HDL.out; omega, HDB2.out, HWF6.out, HB7.out⟩
              case measure => have := HEN.out; simp [intOf]; omega
        · have hkn : k = n := by omega
          have hD : D = TB.cuts S l := by
            have h := HCUT.out
            rw [List.drop_eq_nil_of_le (by rw [HN.out]; omega), TB.cuts_nil, List.append_nil] at h
            exact h
          have dn : decide ((k : Int) < (n : Int)) = false := decide_eq_false (by omega)
          have dn' : decide (k < n) = false := decide_eq_false hlt
          have hnb := HNB.out
          have hDl := HDL.out
          have hDb := HDB.out
          have hFl := HFLn.out
          have HPC := Lib.hid fun W => refPut_any (D.length : Int) W (by omega) (by omega)
          have heC := (VM.enc_len (n := (D.length : Int)) (by omega) (by omega)).2
          have hix : TB.ixOf S l = VM.enc (D.length : Int) ++ (TB.sps 0 D).flatMap TB.spB := by
            unfold TB.ixOf TB.idx
            rw [← hD, TB.sps_len]
          have hixl : (TB.ixOf S l).length ≤ 6200000 := by rw [hix, List.length_append]; omega
          have hixs : (⟨(VM.enc (D.length : Int)).toArray⟩ : ByteArray) ++ ⟨((TB.sps 0 D).flatMap TB.spB).toArray⟩ = ⟨(TB.ixOf S l).toArray⟩ := by rw [hix, mk_app]
          obtain ⟨ix, hixx⟩ : ∃ ix, TB.ixOf S l = ix := ⟨_, rfl⟩
          rw [hixx] at hixs hixl
          obtain ⟨G, hG⟩ : ∃ G, TB.body D = G := ⟨_, rfl⟩
          have HBY : Hid (TB.bytes S b l = G ++ (TB.fr ix ++ (TB.fr fl ++ TB.fr (TB.ftOf G.length (G.length + (TB.fr ix).length))))) := Lib.hid (by unfold TB.bytes; rw [← hD, hixx, HFL.out, hG])
          have HR2 : Hid (R = if 65535 < ix.length ∨ 65535 < fl.length then ([], 5) else (TB.bytes S b l, 0)) := Lib.hid (by rw [← HRR.out, hixx, HFL.out])
          rw [hG] at hDb ⊢
          have hec2 : (⟨(VM.enc (D.length : Int)).toArray⟩ : ByteArray).size ≤ 10 := by rw [mk_size2]; exact heC
          have hfs2 : (⟨((TB.sps 0 D).flatMap TB.spB).toArray⟩ : ByteArray).size ≤ 65536 * 94 := by rw [mk_size2]; omega
          have hixz : (⟨ix.toArray⟩ : ByteArray).size = ix.length := mk_size2 ix
          have hgz : (⟨G.toArray⟩ : ByteArray).size = G.length := mk_size2 G
          have hflz : (⟨fl.toArray⟩ : ByteArray).size = fl.length := mk_size2 fl
          generalize (⟨(VM.enc (D.length : Int)).toArray⟩ : ByteArray) = EC at HPC hixs hec2
          generalize (⟨((TB.sps 0 D).flatMap TB.spB).toArray⟩ : ByteArray) = IX at hixs hfs2 ⊢
          have HIXS := Lib.hid hixs
          have HGL : Hid (G.length ≤ 65536 * 718) := Lib.hid (by omega)
          generalize hIXX : (⟨ix.toArray⟩ : ByteArray) = IXX at hixz hixs HIXS
          have HIXX := Lib.hid hIXX
          generalize hGG : (⟨G.toArray⟩ : ByteArray) = GG at hgz ⊢
          have HGG := Lib.hid hGG
          generalize hFLL : (⟨fl.toArray⟩ : ByteArray) = FLL at hflz ⊢
          have HFLL := Lib.hid hFLL
          have hfll := HFLN.out
          clear hkn hD hDl hDb hFl heC hix hixx hG hIXX hGG hFLL HCUT HDB HFLn HWFD HRR HDL
          go_wp2_with fail
          refine (HPC.out _).mono ?_
          rintro e w3 ⟨rfl, hb3⟩
          have HB3 := Lib.hid (below_seq HB.out hb3 (by have := HB.out.size; omega))
          clear hb3 HPC
          by_cases hx : 65535 < ix.length
          · have hF : R = ([], 5) := by rw [HR2.out, if_pos (Or.inl hx)]
            have e1 : decide ((65535 : Int) < (IXX.size : Int)) = true := decide_eq_true (by omega)
            have e1' : decide (65535 < IXX.size) = true := decide_eq_true (by omega)
            clear HR2
            subst hF
            go_wp2
            go_ret2
            exact ⟨rfl, HB3.out⟩
          · have e1 : decide ((65535 : Int) < (IXX.size : Int)) = false := decide_eq_false (by omega)
            have e1' : decide (65535 < IXX.size) = false := decide_eq_false (by omega)
            by_cases hf : 65535 < fl.length
            · have hF : R = ([], 5) := by rw [HR2.out, if_pos (Or.inr hf)]
              have e2 : decide ((65535 : Int) < (FLL.size : Int)) = true := decide_eq_true (by omega)
              have e2' : decide (65535 < FLL.size) = true := decide_eq_true (by omega)
              clear HR2
              subst hF
              go_wp2
              go_ret2
              exact ⟨rfl, HB3.out⟩
            · have e2 : decide ((65535 : Int) < (FLL.size : Int)) = false := decide_eq_false (by omega)
              have e2' : decide (65535 < FLL.size) = false := decide_eq_false (by omega)
              have HF1 := Lib.hid fun W => rframe_any ix W (by omega)
              have HF2 := Lib.hid fun W => rframe_any fl W (by omega)
              simp only [HIXX.out] at HF1
              simp only [HFLL.out] at HF2
              have hf1 : (⟨(TB.fr ix).toArray⟩ : ByteArray).size = 8 + ix.length := by rw [mk_size2, TB.fr_len]
              have hf2 : (⟨(TB.fr fl).toArray⟩ : ByteArray).size = 8 + fl.length := by rw [mk_size2, TB.fr_len]
              have HY1 := Lib.hid fun W => reight_any GG.size W (by have := HGL.out; omega)
              obtain ⟨F1, hF1⟩ : ∃ F1 : ByteArray, ⟨(TB.fr ix).toArray⟩ = F1 := ⟨_, rfl⟩
              obtain ⟨F2, hF2⟩ : ∃ F2 : ByteArray, ⟨(TB.fr fl).toArray⟩ = F2 := ⟨_, rfl⟩
              rw [hF1] at hf1
              rw [hF2] at hf2
              simp only [hF1] at HF1
              simp only [hF2] at HF2
              have HY2 := Lib.hid fun W => reight_any (GG.size + F1.size) W (by have := HGL.out; omega)
              have HF3 := Lib.hid fun W => rframe_any (TB.be 8 GG.size ++ TB.be 8 (GG.size + F1.size)) W (by rw [List.length_append, TB.be_len, TB.be_len]; decide)
              simp only [← mk_app] at HF3
              have hy1 : (⟨(TB.be 8 GG.size).toArray⟩ : ByteArray).size = 8 := by rw [mk_size2, TB.be_len]
              have hy2 : (⟨(TB.be 8 (GG.size + F1.size)).toArray⟩ : ByteArray).size = 8 := by rw [mk_size2, TB.be_len]
              have hf3 : (⟨(TB.fr (TB.be 8 GG.size ++ TB.be 8 (GG.size + F1.size))).toArray⟩ : ByteArray).size = 24 := by rw [mk_size2, TB.fr_len, List.length_append, TB.be_len, TB.be_len]
              have hfin : buildV R = .tuple #[.string (GG ++ F1 ++ F2 ++ ⟨(TB.fr (TB.be 8 GG.size ++ TB.be 8 (GG.size + F1.size))).toArray⟩), .int .i64 0] := by
                rw [HR2.out, if_neg (by omega), HBY.out]
                unfold buildV TB.ftOf
                rw [← hF1, ← hF2, ← HGG.out, mk_app, mk_app, mk_app, mk_size2, mk_size2]
                simp [TB.fr_len]
              obtain ⟨Y1, hY1⟩ : ∃ Y1 : ByteArray, ⟨(TB.be 8 GG.size).toArray⟩ = Y1 := ⟨_, rfl⟩
              obtain ⟨Y2, hY2⟩ : ∃ Y2 : ByteArray, ⟨(TB.be 8 (GG.size + F1.size)).toArray⟩ = Y2 := ⟨_, rfl⟩
              obtain ⟨F3, hF3⟩ : ∃ F3 : ByteArray, ⟨(TB.fr (TB.be 8 GG.size ++ TB.be 8 (GG.size + F1.size))).toArray⟩ = F3 := ⟨_, rfl⟩
              rw [hF3] at hf3 hfin
              have HFIN := Lib.hid hfin
              simp only [hY1, hY2, hF3] at HF3
              simp only [hY1] at HY1
              simp only [hY2] at HY2
              rw [hY1] at hy1
              rw [hY2] at hy2
              obtain ⟨Z, hZ⟩ : ∃ Z : Nat, GG.size + F1.size = Z := ⟨_, rfl⟩
              rw [hZ] at HY2
              have hws : IntKind.i64.wrap ((GG.size : Int) + (F1.size : Int)) = (Z : Int) := by rw [IntWalk.i64_in _ ⟨by omega, by have := HGL.out; omega⟩]; omega
              have hGl := HGL.out
              have k1 : F1.size ≤ 65543 := by omega
              have k2 : F2.size ≤ 65543 := by omega
              have k3 : F3.size ≤ 24 := by omega
              have k4 : Y1.size ≤ 8 := by omega
              have k5 : Y2.size ≤ 8 := by omega
              have k6 : GG.size ≤ 65536 * 718 := by omega
              have k7 : IXX.size ≤ 65535 := by omega
              have k8 : FLL.size ≤ 65535 := by omega
              clear hF1 hF2 hF3 hY1 hY2 hfin HR2 HBY hf1 hf2 hf3 hy1 hy2 hZ hgz hixz hflz hGl hx hf hixl hfll
              go_wp2_with fail
              refine (HF1.out _).mono ?_
              rintro e w4 ⟨rfl, hb4⟩
              have HB4 := Lib.hid (below_seq HB3.out hb4 (by have := HB3.out.size; omega))
              clear hb4 HF1
              go_wp2_with fail
              refine (HF2.out _).mono ?_
              rintro e w5 ⟨rfl, hb5⟩
              have HB5 := Lib.hid (below_seq HB4.out hb5 (by have := HB4.out.size; omega))
              clear hb5 HF2 HB4
              go_wp2_with fail
              refine (HY1.out _).mono ?_
              rintro e w6 ⟨rfl, hb6⟩
              have HB6 := Lib.hid (below_seq HB5.out hb6 (by have := HB5.out.size; omega))
              clear hb6 HY1 HB5
              go_wp2_with fail
              refine (HY2.out _).mono ?_
              rintro e w7 ⟨rfl, hb7⟩
              have HB7 := Lib.hid (below_seq HB6.out hb7 (by have := HB6.out.size; omega))
              clear hb7 HY2 HB6
              go_wp2_with fail
              refine (HF3.out _).mono ?_
              rintro e w8 ⟨rfl, hb8⟩
              have HB8 := Lib.hid (below_seq HB7.out hb8 (by have := HB7.out.size; omega))
              clear hb8 HF3 HB7
              go_wp2
              go_ret2
              exact ⟨by rw [HFIN.out]; rfl, HB8.out⟩
end Go.Proofs.YtnglaolbfpdgoaaGreat

