/- Texts joined by bundle.py: Pr. -/
import Derived.Test.YtnglaolbfpdgoaaGreatZaz
import Derived.Deep.CutRange

/- The walk of the document's Build. Made by gen_pr.py. -/
namespace Go.Proofs.YtnglaolbfpdgoaaGreat
open Go.RowKit
open SK

/-- the document's text -/
theorem rtext_any (s : ByteArray) (w : World) (hs : s.size ≤ 140737488355328) :
    Calls Tryz.prog 61 #[.string s] w fun e w' => e = .returned (.string ⟨(BK.textB s).toArray⟩) ∧ Below w.heap.size w w' := by
  have hen := VM.enc_len (n := (s.size : Int)) (by omega) (by omega)
  have he : (⟨(VM.enc s.size).toArray⟩ : ByteArray) ++ s = ⟨(BK.textB s).toArray⟩ := by
    apply ByteArray.ext
    apply Array.toList_inj.1
    simp [BK.textB]
  have HE := Lib.hid he
  obtain ⟨l, hl⟩ : ∃ l : List UInt8, VM.enc (s.size : Int) = l := ⟨_, rfl⟩
  have HP := Lib.hid (fun W => refPut_any (s.size : Int) W (by omega) (by omega))
  rw [hl] at hen HE HP
  obtain ⟨hen1, hen2⟩ := hen
  clear he hl
  go_enter Tryz.func61, Tryz.ntmps61
  go_wp2_with fail
  refine (HP.out _).mono ?_
  rintro e w1 ⟨rfl, hB⟩
  go_wp2
  go_ret
  exact ⟨by rw [HE.out]; rfl, hB⟩


theorem str_app3 (a b : List UInt8) : (⟨a.toArray⟩ : ByteArray) ++ ⟨b.toArray⟩ = ⟨(a ++ b).toArray⟩ := by
  apply str_ext
  simp

set_option maxRecDepth 100000 in
set_option maxHeartbeats 8000000 in
theorem rbuild_any (A : Option Addr) (n cap : Nat) (l : List E) (v : Int) (w : World) (hn : l.length = n) (hcap : n ≤ cap) (hin : EntsIn w A l) (hb : n ≤ 140737488351232) :
    Calls Tryz.prog 26 #[.slice A n cap, .int .i64 v] w fun e w' => e = .returned (.tuple #[.string ⟨(BK.buildOut l v).1.toArray⟩, .int .i64 (BK.buildOut l v).2]) ∧ Below w.heap.size w w' := by
  have HP : Hid (BK.buildOut l v = if v < 1 ∨ 64 < v then ([], 2) else if 4096 < l.length then ([], 5) else if (BK.ord l).2 ≠ 0 then ([], (BK.ord l).2) else (BK.buildB l v.toNat, 0)) := Lib.hid rfl
  obtain ⟨R, hR⟩ : ∃ R, BK.buildOut l v = R := ⟨_, rfl⟩
  rw [hR] at HP ⊢
  clear hR
  by_cases hv0 : v < 1
  · have HR : Hid (R = ([], 2)) := Lib.hid (by rw [HP.out, if_pos (Or.inl hv0)])
    rw [HR.out]
    clear hin hn hcap hb HP
    go_enter Tryz.func26, Tryz.ntmps26
    go_wp2
    go_ret2
    exact ⟨rfl, Below.refl _ _⟩
  by_cases hv1 : 64 < v
  · have HR : Hid (R = ([], 2)) := Lib.hid (by rw [HP.out, if_pos (Or.inr hv1)])
    rw [HR.out]
    clear hin hn hcap hb HP
    go_enter Tryz.func26, Tryz.ntmps26
    go_wp2
    go_ret2
    exact ⟨rfl, Below.refl _ _⟩
  obtain ⟨V, rfl⟩ := Int.eq_ofNat_of_zero_le (show 0 ≤ v by omega)
  by_cases hlong : 4096 < n
  · have HR : Hid (R = ([], 5)) := Lib.hid (by rw [HP.out, if_neg (by omega), if_pos (by omega)])
    have hi : (4096 : Int) < (n : Int) := by omega
    rw [HR.out]
    clear hin hn hcap hb HP
    go_enter Tryz.func26, Tryz.ntmps26
    go_wp2
    go_ret2
    exact ⟨rfl, Below.refl _ _⟩
  have hi : ¬ (4096 : Int) < (n : Int) := by omega
  have HO : Hid (Calls Tryz.prog 24 #[.slice A n cap] w fun r w' => r = .returned (.tuple #[.int .i64 (BK.ord l).1, .int .i64 (BK.ord l).2]) ∧ Below w.heap.size w w') := Lib.hid (rord_any A n cap l w hn hcap hin hb)
  have HP2 : Hid (R = if (BK.ord l).2 ≠ 0 then ([], (BK.ord l).2) else (BK.buildB l V, 0)) := Lib.hid (by rw [HP.out, if_neg (by omega), if_neg (by omega), Int.toNat_natCast])
  have HOK : Hid ((BK.ord l).2 = 0 → BK.OkF [] l) := Lib.hid (fun h => BK.okF_ord [] l h)
  obtain ⟨o1, ho1⟩ : ∃ o1, (BK.ord l).1 = o1 := ⟨_, rfl⟩
  obtain ⟨o2, ho2⟩ : ∃ o2, (BK.ord l).2 = o2 := ⟨_, rfl⟩
  rw [ho1, ho2] at HO
  rw [ho2] at HP2 HOK
  clear ho1 ho2 HP
  by_cases ho : o2 ≠ 0
  · have HR : Hid (R = ([], o2)) := Lib.hid (by rw [HP2.out, if_pos ho])
    have hbe : (o2 == 0) = false := by simpa using ho
    have hbn : (o2 != 0) = true := by simpa using ho
    rw [HR.out]
    clear hin hn hcap hb HP2 HOK
    go_enter Tryz.func26, Tryz.ntmps26
    go_wp2_with fail
    refine HO.out.mono ?_
    rintro e w1 ⟨rfl, hb1⟩
    go_wp2
    go_ret2
    exact ⟨rfl, hb1⟩
  have ho0 : o2 = 0 := by simpa using ho
  subst ho0
  have HR : Hid (R = (BK.buildB l V, 0)) := Lib.hid (by rw [HP2.out, if_neg ho])
  have hok := HOK.out rfl
  have HGOOD : Hid (∀ j (h : j < l.length), good l[j] = 0 ∧ (l[j]).til ≠ 9223372036854775807) := Lib.hid (fun j h => BK.okF_all _ _ hok _ (List.getElem_mem h))
  have hen := (VM.enc_len (n := (n : Int)) (by omega) (by omega)).2
  have HN := Lib.hid (fun W => refPut_any (n : Int) W (by omega) (by omega))
  have HPB : Hid (BK.buildB l V = VM.enc (n : Int) ++ BK.bodyF V [] l) := Lib.hid (by unfold BK.buildB; rw [hn])
  have HBL : Hid (∀ j, (BK.bodyF V [] (l.take j)).length ≤ 2867200) := Lib.hid (fun j => by have := BK.body_len hok hin.wf V j; omega)
  obtain ⟨N, hN⟩ : ∃ N, VM.enc (n : Int) = N := ⟨_, rfl⟩
  rw [hN] at hen HN HPB
  have HIN := Lib.hid hin
  have HLN := Lib.hid hn
  have HEN := Lib.hid hen
  have HLG : Hid (n ≤ 4096) := Lib.hid (by omega)
  have HVV : Hid (1 ≤ V ∧ V ≤ 64) := Lib.hid (by omega)
  clear hN hin hn hen hlong HP2 HOK hok ho hcap hb
  go_enter Tryz.func26, Tryz.ntmps26
  go_wp2_with fail
  refine HO.out.mono ?_
  rintro e w0 ⟨rfl, hb0⟩
  go_wp2_with fail
  refine (HN.out _).mono ?_
  rintro e w1 ⟨rfl, hb1⟩
  have HB1 : Hid (Below w.heap.size w w1) := Lib.hid (hb0.trans (hb1.mono hb0.size))
  clear hb0 hb1 HO
  go_wp2_with fail
  go_loopw [8, 9] (fun s i wr => ∃ j : Nat, j ≤ n ∧ i = .int .i64 j ∧ s = .string ⟨(N ++ BK.bodyF V [] (l.take j)).toArray⟩ ∧ Below w.heap.size w wr) (fun _ i _ => n - (intOf i).toNat)
  case atStart => exact ⟨0, by omega, rfl, by simp [BK.bodyF], HB1.out⟩
  case round =>
    obtain ⟨j, hj, rfl, rfl, hbel⟩ := hrel
    by_cases hlt : j < n
    · have hjl : j < l.length := by rw [HLN.out]; omega
      obtain ⟨b, off, hA, hbl, hc⟩ := (HIN.out.below hbel).at_ (by omega)
      obtain ⟨z0, z1, z2, z3, z4⟩ := hc j hjl
      have hwf := HIN.out.wf _ (List.getElem_mem hjl)
      have hgd := HGOOD.out j hjl
      have hgz := good_zero hgd.1
      have hALL := Lib.hid (BK.body_take (l := l) (j := j) V hjl)
      have hLEN : Hid ((N ++ BK.bodyF V [] (l.take j)).length ≤ 2867210) := Lib.hid (by
        have h1 := HBL.out j
        have h3 := HEN.out
        rw [List.length_append]; omega)
      have hshl := BK.sh_le V (l.take j) l[j]
      have hS0 : j % V = 0 → BK.sh V (l.take j) l[j] = 0 := fun h => BK.sh_zero hjl h _
      have hS1 : ∀ m (h : j = m + 1), j % V ≠ 0 → BK.sh V (l.take j) l[j] = BK.alike l[j].key.data.toList l[m].key.data.toList := fun m h h0 => by rw [BK.sh_some hjl h0 h, BK.alike_comm]
      have hks2 : ∀ m (h : j = m + 1), l[m].key.size ≤ 64 := fun m h => (good_zero (HGOOD.out m (by omega)).1).2.1
      have hcm : ∀ m (h : j = m + 1), wr.cell? ⟨b, off + m * 5, none⟩ = some (.string l[m].key) := fun m h => (hc m (by omega)).1
      obtain ⟨e, he⟩ : ∃ e, l[j] = e := ⟨_, rfl⟩
      rw [he] at z0 z1 z2 z3 z4 hALL hS0 hwf hgd hgz hshl
      simp only [he] at hS1
      obtain ⟨sh, hsh⟩ : ∃ sh, BK.sh V (l.take j) e = sh := ⟨_, rfl⟩
      rw [hsh] at hALL hS0 hshl
      simp only [hsh] at hS1
      have hts := BK.tail_size e.key sh
      have hsq := hwf.seq
      have htl := hwf.til
      have htn := hgd.2
      have lp := (VM.enc_len (n := (sh : Int)) (by omega) (by omega)).2
      have lq := (VM.enc_len (n := e.seq) (by omega) (by omega)).2
      have lk := BK.textB_len (e.key.extract sh e.key.size) (by omega)
      have lv := BK.textB_len e.value (by omega)
      have HPN := Lib.hid (fun W => refPut_any (sh : Int) W (by omega) (by omega))
      have HPQ := Lib.hid (fun W => refPut_any e.seq W (by omega) (by omega))
      have HTK := Lib.hid (fun W => rtext_any (e.key.extract sh e.key.size) W (by omega))
      have HTV := Lib.hid (fun W => rtext_any e.value W (by omega))
      have hsl := fun W => str_tail W e.key sh (by omega)
      have hsn : (0 : Int) ≤ (sh : Int) := by omega
      have HIT : Hid (BK.entB e sh = VM.enc (sh : Int) ++ (BK.textB (e.key.extract sh e.key.size) ++ (VM.enc e.seq ++ (if e.gone = true then VM.enc 0 else VM.enc (e.til + 1) ++ BK.textB e.value)))) := Lib.hid rfl
      obtain ⟨TP, hTP⟩ : ∃ TP, VM.enc (sh : Int) = TP := ⟨_, rfl⟩
      obtain ⟨TQ, hTQ⟩ : ∃ TQ, VM.enc e.seq = TQ := ⟨_, rfl⟩
      obtain ⟨TK, hTK⟩ : ∃ TK, BK.textB (e.key.extract sh e.key.size) = TK := ⟨_, rfl⟩
      obtain ⟨TV, hTV⟩ : ∃ TV, BK.textB e.value = TV := ⟨_, rfl⟩
      obtain ⟨KT, hKT⟩ : ∃ KT, e.key.extract sh e.key.size = KT := ⟨_, rfl⟩
      rw [hTP] at lp HPN HIT
      rw [hTQ] at lq HPQ HIT
      rw [hTK] at lk HTK HIT
      rw [hTV] at lv HTV HIT
      rw [hKT] at HTK
      simp only [hKT] at hsl
      obtain ⟨IB, hIB⟩ : ∃ IB, BK.entB e sh = IB := ⟨_, rfl⟩
      rw [hIB] at HIT hALL
      obtain ⟨S, hS⟩ : ∃ S, N ++ BK.bodyF V [] (l.take j) = S := ⟨_, rfl⟩
      have HS2 : Hid (N ++ BK.bodyF V [] (l.take (j + 1)) = S ++ IB) := Lib.hid (by rw [hALL.out, ← List.append_assoc, hS])
      rw [hS] at hLEN ⊢
      have HBEL := Lib.hid hbel
      have HLS : Hid (S.length ≤ 2867210 ∧ TP.length ≤ 10 ∧ TQ.length ≤ 10 ∧ TK.length ≤ 74 ∧ TV.length ≤ 522) := Lib.hid ⟨hLEN.out, lp, lq, by omega, by omega⟩
      have HTIL : Hid (0 ≤ e.til ∧ e.til < 9223372036854775807) := Lib.hid (by omega)
      have HKL : Hid (e.key.size ≤ 64) := Lib.hid (by omega)
      subst hA
      obtain ⟨k2, q2, g2, v2, t2⟩ := e
      simp only at z0 z1 z2 z3 z4 HPN HPQ HTK HTV HIT HTIL hS1 hS0 hsl HKL
      have HCELL : Hid (∀ W, Below wr.heap.size wr W → W.cell? ⟨b, off + j * 5, none⟩ = some (.string k2) ∧ W.cell? ⟨b, off + j * 5 + 1, none⟩ = some (.int .i64 q2) ∧ W.cell? ⟨b, off + j * 5 + 2, none⟩ = some (.bool g2) ∧ W.cell? ⟨b, off + j * 5 + 3, none⟩ = some (.string v2) ∧ W.cell? ⟨b, off + j * 5 + 4, none⟩ = some (.int .i64 t2)) := Lib.hid (fun W h => by
        have hm := fun (p : Addr) (hp : p.block < wr.heap.size) => h.cell (p := p) hp
        exact ⟨(hm ⟨_, _, none⟩ hbl).trans z0, (hm ⟨_, _, none⟩ hbl).trans z1, (hm ⟨_, _, none⟩ hbl).trans z2, (hm ⟨_, _, none⟩ hbl).trans z3, (hm ⟨_, _, none⟩ hbl).trans z4⟩)
      have HCM : Hid (∀ m (h : j = m + 1), ∀ W, Below wr.heap.size wr W → W.cell? ⟨b, off + m * 5, none⟩ = some (.string l[m].key)) := Lib.hid (fun m h W hw => (hw.cell (p := ⟨b, off + m * 5, none⟩) hbl).trans (hcm m h))
      have HSH0 := Lib.hid hS0
      have HSH1 := Lib.hid hS1
      have HKS2 := Lib.hid hks2
      have g0 : (0 : Int) ≤ (j : Int) := by omega
      have g1 : (j : Int) < (n : Int) := by omega
      have hjn : n ≤ 4096 := HLG.out
      have hV1 : 1 ≤ V := HVV.out.1
      have hV2 : V ≤ 64 := HVV.out.2
      have hVz : ((V : Int) == 0) = false := beq_eq_false_iff_ne.2 (by omega)
      clear hbel hc hwf he hsh hIB hgd hshl hgz hts hsq htl htn lp lq lk lv hTP hTQ hTK hTV hKT hS hALL hLEN hS0 hS1 hks2 hcm hbl z0 z1 z2 z3 z4
      go_upto_if 46 with fail
      go_cut [10] from 37 to 132 (fun x wc => x = .int .i64 sh ∧ Below wr.heap.size wr wc)
      case first =>
        by_cases hm0 : j % V = 0
        · have hrem : (j : Int) % (V : Int) = 0 := by rw [← Int.natCast_emod, hm0]; rfl
          have hsh := HSH0.out hm0
          go_wp2
          go_meet
          exact ⟨by rw [hsh]; rfl, Below.refl _ _⟩
        · have hrem : (0 : Int) < (j : Int) % (V : Int) := by rw [← Int.natCast_emod]; omega
          obtain ⟨m, hjm⟩ : ∃ m, j = m + 1 := ⟨j - 1, by have : j ≠ 0 := (fun h => hm0 (by rw [h]; exact Nat.zero_mod _)); omega⟩
          have HAK := Lib.hid (HSH1.out m hjm hm0)
          have HKM := Lib.hid (HCM.out m hjm)
          have hk2 := HKS2.out m hjm
          obtain ⟨km, hkm2⟩ : ∃ km, l[m].key = km := ⟨_, rfl⟩
          rw [hkm2] at HAK hk2
          simp only [hkm2] at HKM
          have HST : Hid (∀ i (h1 : i < k2.size) (h2 : i < km.size), k2.data.toList.take i = km.data.toList.take i → k2[i] ≠ km[i] → sh = i) := Lib.hid (fun i h1 h2 h hne => HAK.out.trans (BK.alike_stop h (by rw [size_list]; exact h1) (by rw [size_list]; exact h2) hne))
          have HNX : Hid (∀ i (h1 : i < k2.size) (h2 : i < km.size), k2.data.toList.take i = km.data.toList.take i → k2[i] = km[i] → k2.data.toList.take (i + 1) = km.data.toList.take (i + 1)) := Lib.hid (fun i h1 h2 h he => BK.alike_next h (by rw [size_list]; exact h1) (by rw [size_list]; exact h2) he)
          have HEN2 : Hid (∀ i, i ≤ k2.size → i ≤ km.size → (i = k2.size ∨ i = km.size) → k2.data.toList.take i = km.data.toList.take i → sh = i) := Lib.hid (fun i h1 h2 hm h => HAK.out.trans (BK.alike_end h (by rw [size_list]; exact h1) (by rw [size_list]; exact h2) (by rw [size_list, size_list]; exact hm)))
          have hwr : IntKind.i64.wrap ((j : Int) - 1) = (m : Int) := by rw [IntWalk.i64_in _ ⟨by omega, by omega⟩]; omega
          have m0 : (0 : Int) ≤ (m : Int) := by omega
          have m1 : (m : Int) < (n : Int) := by omega
          have hkl : k2.size ≤ 64 := HKL.out
          clear HSH0 HSH1 HCM HKS2 hm0 hkm2 hjm HAK HIN
          go_wp2_with fail
          go_loopw [10] (fun i wq => ∃ c : Nat, c ≤ k2.size ∧ c ≤ km.size ∧ i = .int .i64 c ∧ k2.data.toList.take c = km.data.toList.take c ∧ Below wr.heap.size wr wq) (fun i _ => k2.size - (intOf i).toNat)
          case atStart => exact ⟨0, by omega, by omega, rfl, by simp, Below.refl _ _⟩
          case round =>
            obtain ⟨c, hc1, hc2, rfl, htk, hbq⟩ := hrel
            have zk := (HCELL.out _ hbq).1
            have zm := HKM.out _ hbq
            have HBQ := Lib.hid hbq
            have HTKE := Lib.hid htk
            clear hbq htk
            by_cases h1 : c < k2.size
            · have d1 : decide (c < k2.size) = true := decide_eq_true h1
              by_cases h2 : c < km.size
              · have d2 : decide (c < km.size) = true := decide_eq_true h2
                have g2 : (0 : Int) ≤ (c : Int) := by omega
                have g3 : (c : Int) < (k2.size : Int) := by omega
                have g4 : (c : Int) < (km.size : Int) := by omega
                by_cases he : k2[c] = km[c]
                · have heq : ((k2[c].toNat : Int) == (km[c].toNat : Int)) = true := by rw [he]; exact beq_self_eq_true _
                  have HN2 := Lib.hid (HNX.out c h1 h2 HTKE.out he)
                  clear he
                  go_wp2_with fail
                  go_quiet (fail)
                  go_wp2
                  go_roundw
                  case rel => exact ⟨c + 1, by omega, by omega, by go_num, HN2.out, below_drewN HBQ.out _⟩
                  case measure => simp [intOf]; omega
                · have heq : ((k2[c].toNat : Int) == (km[c].toNat : Int)) = false := beq_eq_false_iff_ne.2 (fun h => he (UInt8.toNat_inj.1 (by omega)))
                  have HR2 : Hid (sh = c) := Lib.hid (HST.out c h1 h2 HTKE.out he)
                  clear he
                  go_wp2_with fail
                  go_quiet (fail)
                  go_wp2
                  go_meet
                  exact ⟨by rw [HR2.out], below_drewN HBQ.out _⟩
              · have d2 : decide (c < km.size) = false := decide_eq_false h2
                have HR2 : Hid (sh = c) := Lib.hid (HEN2.out c hc1 hc2 (Or.inr (by omega)) HTKE.out)
                go_wp2_with fail
                go_quiet (fail)
                go_wp2
                go_meet
                exact ⟨by rw [HR2.out], below_drewN HBQ.out _⟩
            · have d1 : decide (c < k2.size) = false := decide_eq_false h1
              have HR2 : Hid (sh = c) := Lib.hid (HEN2.out c hc1 hc2 (Or.inl (by omega)) HTKE.out)
              go_wp2_with fail
              go_quiet (fail)
              go_wp2
              go_meet
              exact ⟨by rw [HR2.out], below_drewN HBQ.out _⟩
      case rest =>
      obtain ⟨rfl, hbc⟩ := hcut
      have HBC := Lib.hid hbc
      obtain ⟨z0, -, -, -, -⟩ := HCELL.out _ hbc
      clear hbc HSH0 HSH1 HCM HKS2 HIN
      have HSTEP : Hid (∀ W W', Below wr.heap.size wr W → Below W.heap.size W W' → Below wr.heap.size wr W') := Lib.hid (fun W W' h1 h2 => h1.trans (h2.mono h1.size))
      go_wp2_with fail
      refine (HPN.out _).mono ?_
      rintro r w2 ⟨rfl, hb⟩
      have HBW2 := Lib.hid (HSTEP.out _ _ HBC.out hb)
      obtain ⟨z0, -, -, -, -⟩ := HCELL.out _ HBW2.out
      clear hb
      go_wp2_with fail
      refine (HTK.out _).mono ?_
      rintro r w3 ⟨rfl, hb⟩
      have HBW3 := Lib.hid (HSTEP.out _ _ HBW2.out hb)
      obtain ⟨-, z1, -, -, -⟩ := HCELL.out _ HBW3.out
      clear hb
      go_wp2_with fail
      refine (HPQ.out _).mono ?_
      rintro r w4 ⟨rfl, hb⟩
      have HBW4 := Lib.hid (HSTEP.out _ _ HBW3.out hb)
      obtain ⟨-, -, z2, -, z4⟩ := HCELL.out _ HBW4.out
      have z3 := (HCELL.out _ HBW4.out).2.2.2.1
      obtain ⟨s1, s2, s3, s4, s5⟩ := HLS.out
      have n1 : ¬ 9223372036854775807 < S.length + TP.length := by omega
      have n2 : ¬ 9223372036854775807 < S.length + TP.length + TK.length := by omega
      have n3 : ¬ 9223372036854775807 < S.length + TP.length + TK.length + TQ.length := by omega
      clear hb s1 s2 s3 s4 s5
      cases g2 with
      | true =>
        have HM := Lib.hid (fun W => refPut_any 0 W (by omega) (by omega))
        have hm := (VM.enc_len (n := 0) (by omega) (by omega)).2
        have HIT2 : Hid (S ++ IB = S ++ TP ++ TK ++ TQ ++ VM.enc 0) := Lib.hid (by rw [HIT.out]; simp)
        obtain ⟨M, hM⟩ : ∃ M, VM.enc 0 = M := ⟨_, rfl⟩
        rw [hM] at HM hm HIT2
        have n4 : ¬ 9223372036854775807 < S.length + TP.length + TK.length + TQ.length + M.length := by have := HLS.out; omega
        clear hM HIT hm
        go_wp2_with fail
        refine (HM.out _).mono ?_
        rintro r w5 ⟨rfl, hb⟩
        have HBW5 : Hid (Below w.heap.size w w5) := Lib.hid (HBEL.out.trans ((HSTEP.out _ _ HBW4.out hb).mono HBEL.out.size))
        clear hb
        go_wp2
        go_roundw
        case rel => exact ⟨j + 1, by omega, by go_num, by rw [HS2.out, HIT2.out]; simp [str_append], HBW5.out⟩
        case measure => simp [intOf]; omega
      | false =>
        have HM := Lib.hid (fun W => refPut_any (t2 + 1) W (by have := HTIL.out; omega) (by have := HTIL.out; omega))
        have hm := (VM.enc_len (n := t2 + 1) (by have := HTIL.out; omega) (by have := HTIL.out; omega)).2
        have HIT2 : Hid (S ++ IB = S ++ TP ++ TK ++ TQ ++ VM.enc (t2 + 1) ++ TV) := Lib.hid (by rw [HIT.out]; simp)
        obtain ⟨M, hM⟩ : ∃ M, VM.enc (t2 + 1) = M := ⟨_, rfl⟩
        rw [hM] at HM hm HIT2
        have hwr : IntKind.i64.wrap (t2 + 1) = t2 + 1 := IntWalk.i64_in _ ⟨by have := HTIL.out; omega, by have := HTIL.out; omega⟩
        have n4 : ¬ 9223372036854775807 < S.length + TP.length + TK.length + TQ.length + M.length := by have := HLS.out; omega
        have n5 : ¬ 9223372036854775807 < S.length + TP.length + TK.length + TQ.length + M.length + TV.length := by have := HLS.out; omega
        clear hM HIT hm
        go_wp2_with fail
        refine (HTV.out _).mono ?_
        rintro r w5 ⟨rfl, hb⟩
        have HBW5 := Lib.hid (HSTEP.out _ _ HBW4.out hb)
        clear hb
        go_wp2_with fail
        refine (HM.out _).mono ?_
        rintro r w6 ⟨rfl, hb⟩
        have HBW6 : Hid (Below w.heap.size w w6) := Lib.hid (HBEL.out.trans ((HSTEP.out _ _ HBW5.out hb).mono HBEL.out.size))
        clear hb
        go_wp2
        go_roundw
        case rel => exact ⟨j + 1, by omega, by go_num, by rw [HS2.out, HIT2.out]; simp [str_append], HBW6.out⟩
        case measure => simp [intOf]; omega
    · have hjn : j = n := by omega
      have hlj : l.take j = l := List.take_of_length_le (by rw [HLN.out]; omega)
      rw [hlj, ← HPB.out]
      have HBEL := Lib.hid hbel
      subst hjn
      clear hlj hbel
      go_wp2
      rw [HR.out]
      go_ret2
      exact ⟨rfl, HBEL.out⟩
end Go.Proofs.YtnglaolbfpdgoaaGreat

