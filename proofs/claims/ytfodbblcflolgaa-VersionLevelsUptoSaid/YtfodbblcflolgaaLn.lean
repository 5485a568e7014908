/- VersionLevels: the walk. -/
import Derived.Test.YtfodbblcflolgaaLl
import Derived.Test.YtfodbblcflolgaaSt
namespace Go.Proofs.Ytfodbblcflolgaa
open Go.RowKit Go.Maps
open VS
attribute [local go_sem ↓] Go.wp_at_zero Go.wp_at_succ
namespace lawLevels
set_option maxRecDepth 100000 in
set_option maxHeartbeats 4000000 in
theorem walk (A0 : Option Addr) (n0 c0 : Nat) (l0 : List EX) (w : World) (hl : l0.length = n0) (hin : EdsIn w A0 l0) (hc : n0 ≤ c0) (hs : (l0.map fun x => x.e.wt).sum ≤ 1048576) :
    Calls Try.prog 7 #[.slice A0 n0 c0] w fun r w' => r = .returned (.bool true) ∧ Below w.heap.size w w' := by
  have HAF := Lib.hid (after_any A0 n0 c0 l0 w hl hin hc hs)
  have HWK := Lib.hid wakes_any
  have hmm := @run_makeMap Try.prog
  clear hl hin hc hs
  go_enter Try.func7, Try.ntmps7
  go_wp2_with fail
  refine HAF.out.mono ?_
  rintro r w1 ⟨⟨A, N, C, A5, n5, c5, ⟨L, lg, nx, sq⟩, rfl, hv, -, hn, hn6, hok, -⟩, hb1⟩
  simp only at hv hn
  have HV := Lib.hid hv
  have HN := Lib.hid (And.intro hn hn6)
  have HOK := Lib.hid hok
  have HB1 := Lib.hid hb1
  have HIX := Lib.hid (fun (k : Nat) (hk : k < 4) W => arr_index A N C hk W)
  have HFC := Lib.hid (fun (k j : Nat) (hk : k < 4) (hj : j < (lev k L).length) => lev_facts hok hk hj)
  have HNX := Lib.hid (fun (k j : Nat) (hk : k < 4) (hj : j + 1 < (lev k L).length) => lev_next hok hk hj)
  have HHD : Hid (lg < nx ∨ lg = 0 ∧ nx = 0) := Lib.hid hok.head
  have HFL := Lib.hid (fun k : Nat => front_len L k)
  simp only at HFC HNX
  clear hv hn hn6 hok hb1 HOK
  go_upto_region 3 with fail
  have hb2 : Below w1.heap.size w1 (((w1.alloc (.cells #[.slice (A 0) (N 0) (C 0), .slice (A 1) (N 1) (C 1), .slice (A 2) (N 2) (C 2), .slice (A 3) (N 3) (C 3), .int .i64 lg, .int .i64 nx, .int .i64 sq] 26)).alloc (.cells #[.slice A5 n5 c5, .int .i64 lg, .int .i64 nx, .int .i64 sq] 29)).alloc (.map #[] 0)) := (((Below.refl _ w1).alloc (Nat.le_refl _) _).alloc (by simp) _).alloc (by simp <;> omega) _
  have hr0 : (((w1.alloc (.cells #[.slice (A 0) (N 0) (C 0), .slice (A 1) (N 1) (C 1), .slice (A 2) (N 2) (C 2), .slice (A 3) (N 3) (C 3), .int .i64 lg, .int .i64 nx, .int .i64 sq] 26)).alloc (.cells #[.slice A5 n5 c5, .int .i64 lg, .int .i64 nx, .int .i64 sq] 29)).alloc (.map #[] 0)).heap[w1.heap.size]? = some (.cells #[.slice (A 0) (N 0) (C 0), .slice (A 1) (N 1) (C 1), .slice (A 2) (N 2) (C 2), .slice (A 3) (N 3) (C 3), .int .i64 lg, .int .i64 nx, .int .i64 sq] 26 (0, 0)) := by
    rw [Below.heap_alloc _ _ _ (by simp <;> omega), Below.heap_alloc _ _ _ (by simp <;> omega)]
    exact heap_alloc_new w1 _
  have him := Im.made ((w1.alloc (.cells #[.slice (A 0) (N 0) (C 0), .slice (A 1) (N 1) (C 1), .slice (A 2) (N 2) (C 2), .slice (A 3) (N 3) (C 3), .int .i64 lg, .int .i64 nx, .int .i64 sq] 26)).alloc (.cells #[.slice A5 n5 c5, .int .i64 lg, .int .i64 nx, .int .i64 sq] 29))
  have hsz : ((w1.alloc (.cells #[.slice (A 0) (N 0) (C 0), .slice (A 1) (N 1) (C 1), .slice (A 2) (N 2) (C 2), .slice (A 3) (N 3) (C 3), .int .i64 lg, .int .i64 nx, .int .i64 sq] 26)).alloc (.cells #[.slice A5 n5 c5, .int .i64 lg, .int .i64 nx, .int .i64 sq] 29)).heap.size = w1.heap.size + 2 := by simp
  rw [hsz] at him
  generalize (((w1.alloc (.cells #[.slice (A 0) (N 0) (C 0), .slice (A 1) (N 1) (C 1), .slice (A 2) (N 2) (C 2), .slice (A 3) (N 3) (C 3), .int .i64 lg, .int .i64 nx, .int .i64 sq] 26)).alloc (.cells #[.slice A5 n5 c5, .int .i64 lg, .int .i64 nx, .int .i64 sq] 29)).alloc (.map #[] 0)) = w2 at hb2 hr0 him ⊢
  obtain ⟨p, hp⟩ : ∃ p, w1.heap.size = p := ⟨_, rfl⟩
  have HV2 := Lib.hid (HV.out.below hb2)
  have HB2 : Hid (Below w.heap.size w w2) := Lib.hid (HB1.out.trans (hb2.mono HB1.out.size))
  rw [hp] at hr0 him ⊢
  try rw [show p + 1 + 1 = p + 2 by omega]
  have HIM := Lib.hid him
  have HPP : Hid (w1.heap.size ≤ p) := Lib.hid (by omega)
  have HPW : Hid (w.heap.size ≤ p) := Lib.hid (by have := HB1.out.size; omega)
  obtain ⟨S0, hS0⟩ : ∃ S0, Value.slice (A 0) (N 0) (C 0) = S0 := ⟨_, rfl⟩
  obtain ⟨S1, hS1⟩ : ∃ S1, Value.slice (A 1) (N 1) (C 1) = S1 := ⟨_, rfl⟩
  obtain ⟨S2, hS2⟩ : ∃ S2, Value.slice (A 2) (N 2) (C 2) = S2 := ⟨_, rfl⟩
  obtain ⟨S3, hS3⟩ : ∃ S3, Value.slice (A 3) (N 3) (C 3) = S3 := ⟨_, rfl⟩
  rw [hS0, hS1, hS2, hS3] at HIX hr0
  simp only [hS0, hS1, hS2, hS3]
  have HR0 : Hid (∀ W, Below (p + 2) w2 W → W.heap[p]? = some (.cells #[S0, S1, S2, S3, .int .i64 lg, .int .i64 nx, .int .i64 sq] 26 (0, 0))) := Lib.hid fun W h => (h.block p (by omega)).trans hr0
  have HVW : Hid (∀ W, Below (p + 2) w2 W → VerIn W A N C L) := Lib.hid fun W hW => HV.out.below (hb2.trans (by rw [hp]; exact hW.mono (by omega)))
  have HBW : Hid (∀ W, Below (p + 2) w2 W → Below w.heap.size w W) := Lib.hid fun W hW => HB2.out.trans (hW.mono (by have := HPW.out; omega))
  have q0 : w2.cell? ⟨p, 0, none⟩ = some S0 := cell_of_row _ _ _ _ _ _ hr0
  have q1 : w2.cell? ⟨p, 1, none⟩ = some S1 := cell_of_row _ _ _ _ _ _ hr0
  have q2 : w2.cell? ⟨p, 2, none⟩ = some S2 := cell_of_row _ _ _ _ _ _ hr0
  have q3 : w2.cell? ⟨p, 3, none⟩ = some S3 := cell_of_row _ _ _ _ _ _ hr0
  clear hb2 hr0 him hsz hp hS0 hS1 hS2 hS3 hmm
  go_wp2_with fail
  go_loopw [18] (fun i wr => ∃ k n : Nat, k ≤ 4 ∧ i = .int .i64 k ∧ n ≤ (front L k).length ∧ Im wr (p + 2) n (stays (front L k)) ∧ Below (p + 2) w2 wr) (fun i _ => 4 - (intOf i).toNat)
  case atStart => exact ⟨0, 0, by omega, rfl, by simp [front], HIM.out, Below.refl _ _⟩
  case round =>
    obtain ⟨k, n, hk, rfl, hnk0, hfm, hbw⟩ := hrel
    clear q0 q1 q2 q3
    by_cases hk4 : k < 4
    · have hd4 : decide ((k : Int) < 4) = true := decide_eq_true (by omega)
      have hd4' : decide (k < 4) = true := decide_eq_true hk4
      have hix := HIX.out k hk4
      have hlen := HV.out.len k hk4
      have HK4 := Lib.hid hk4
      have HFK : Hid (front L (k + 1) = front L k ++ lev k L) := Lib.hid rfl
      have HFJ := Lib.hid (fun j hj => HFC.out k j hk4 hj)
      have HNJ := Lib.hid (fun j hj => HNX.out k j hk4 hj)
      have hfl := HFL.out k
      obtain ⟨F, hF⟩ : ∃ F, front L k = F := ⟨_, rfl⟩
      have hll : (lev k L).length ≤ 1048576 := by have := lev_len (k : Int) L; have := HN.out; omega
      have hF4 : F.length ≤ 8000000 := by
        rw [← hF]
        have := HN.out
        have h2 : k * L.length ≤ 4 * L.length := Nat.mul_le_mul_right _ (by omega)
        omega
      rw [hF] at HFK hfm hnk0
      simp only [hF] at HFJ
      obtain ⟨nk, hnk⟩ : ∃ x, N k = x := ⟨_, rfl⟩
      obtain ⟨ck, hck⟩ : ∃ x, C k = x := ⟨_, rfl⟩
      obtain ⟨ak, hak⟩ : ∃ x, A k = x := ⟨_, rfl⟩
      rw [hak, hnk, hck] at hix
      rw [hnk] at hlen
      have HAK := Lib.hid hak
      have HLEN := Lib.hid hlen
      have HFM0 := Lib.hid hfm
      have HN0 := Lib.hid hnk0
      have HB0 := Lib.hid hbw
      have HSM : Hid ((lev k L).length ≤ 1048576 ∧ F.length ≤ 8000000) := Lib.hid ⟨hll, hF4⟩
      have hnb : nk ≤ 1048576 := by omega
      clear hfm hnk0 hbw hlen hF hak hnk hck hfl hll hF4
      go_wp2_with fail
      go_loopw [24] (fun i wr => ∃ j n : Nat, j ≤ nk ∧ i = .int .i64 j ∧ n ≤ (F ++ (lev k L).take j).length ∧ Im wr (p + 2) n (stays (F ++ (lev k L).take j)) ∧ Below (p + 2) w2 wr) (fun i _ => nk - (intOf i).toNat)
      case atStart => exact ⟨0, n, by omega, rfl, by simpa using HN0.out, by simpa using HFM0.out, HB0.out⟩
      case round =>
        obtain ⟨j, n, hj, rfl, hnn, hfm, hbw⟩ := hrel
        by_cases hlt : j < nk
        · skip
          have hjl : j < (lev k L).length := by rw [← HLEN.out]; exact hlt
          obtain ⟨hlv, ⟨hf0, hf1⟩, hlo, hnot⟩ := HFJ.out j hjl
          obtain ⟨c, off, hA, hbl, hc⟩ := ((HVW.out wr hbw).at_ k HK4.out).at_ (by omega)
          obtain ⟨c0, c1, c2, c3⟩ := hc j hjl
          have HCC := Lib.hid hc
          have HTK : Hid ((lev k L).take (j + 1) = (lev k L).take j ++ [(lev k L)[j]]) := Lib.hid (List.take_succ_eq_append_getElem hjl)
          have HWF := Lib.hid (((HVW.out wr hbw).at_ k HK4.out).wf _ (List.getElem_mem hjl))
          have HNJ2 := HNJ
          obtain ⟨e, he⟩ : ∃ e, (lev k L)[j] = e := ⟨_, rfl⟩
          have HEJ := Lib.hid he
          rw [he] at c0 c1 c2 c3 HTK HWF hf0 hf1 hlo hnot
          rw [HAK.out] at hA
          obtain ⟨lv, q, g, s, t⟩ := e
          simp only at c0 c1 c2 c3 hf0 hf1 hlo hnot
          have hal := (Below.refl wr.heap.size wr).alloc (Nat.le_refl _) (.cells #[.int .i64 q, .int .i64 g, .string s, .string t] 64)
          have hrx := heap_alloc_new wr (.cells #[.int .i64 q, .int .i64 g, .string s, .string t] 64)
          have hmb : n < maxLen := by
            have := HSM.out
            rw [List.length_append, List.length_take] at hnn
            unfold maxLen
            omega
          have hst0 : stays (F ++ (lev k L).take j) q = 0 := by unfold stays; rw [if_neg hnot]
          have hlk := (hfm.below hal).look HWF.out.file
          obtain ⟨w4, hput, hfm4, hg4⟩ := (hfm.below hal).put hmb HWF.out.file (f := 1) (by constructor <;> omega)
          simp only at hlk hput hfm4
          rw [hst0] at hlk
          have hlk4 := hfm4.look (z := q) HWF.out.file
          rw [if_pos rfl] at hlk4
          have hst := stays_snoc (F ++ (lev k L).take j) ⟨lv, q, g, s, t⟩
          simp only at hst
          rw [hst, List.append_assoc, ← HTK.out] at hfm4
          have hpl := hfm.lt
          have hre4 := (hg4.block wr.heap.size (by simp) (fun e => by have := Option.some.inj e; omega)).trans hrx
          have HIM4 := Lib.hid hfm4
          have HB4 : Hid (Below (p + 2) w2 w4) := Lib.hid ((hbw.trans (hal.mono (by omega))).grown hg4 (by have := hbw.size; have := hal.size; omega) (fun r e => by cases e; exact Nat.le_refl _))
          have HNN : Hid (n + 1 ≤ (F ++ (lev k L).take (j + 1)).length) := Lib.hid (by rw [HTK.out, ← List.append_assoc, List.length_append]; simpa using hnn)
          have HSZ : Hid (p + 2 ≤ w4.heap.size) := Lib.hid (by have := hg4.size; have := hal.size; omega)
          have HCB : Hid (c < w4.heap.size) := Lib.hid (by have := hg4.size; have := hal.size; omega)
          have HCK : Hid (∀ kk, c ≠ p + 2 → w4.cell? ⟨c, kk, none⟩ = wr.cell? ⟨c, kk, none⟩) := Lib.hid fun kk h => by
            have h1 := (hg4.block c (by have := hal.size; omega) (fun e => by cases e; exact h rfl)).trans (hal.block c hbl)
            simp only [World.cell?, h1]
          have hr0 := HR0.out w4 HB4.out
          have n2 : w4.cell? ⟨p, 5, none⟩ = some (.int .i64 nx) := cell_of_row _ _ _ _ _ _ hr0
          have hra : (wr.alloc (.cells #[.int .i64 q, .int .i64 g, .string s, .string t] 64)).heap[wr.heap.size]? = some (.cells #[.int .i64 q, .int .i64 g, .string s, .string t] 64 (0, 0)) := hrx
          have HRE4 := Lib.hid hre4
          have y0 : (wr.alloc (.cells #[.int .i64 q, .int .i64 g, .string s, .string t] 64)).cell? ⟨wr.heap.size, 0, none⟩ = some (.int .i64 q) := cell_of_row _ _ _ _ _ _ hra
          have y1 : (wr.alloc (.cells #[.int .i64 q, .int .i64 g, .string s, .string t] 64)).cell? ⟨wr.heap.size, 1, none⟩ = some (.int .i64 g) := cell_of_row _ _ _ _ _ _ hra
          have y2 : (wr.alloc (.cells #[.int .i64 q, .int .i64 g, .string s, .string t] 64)).cell? ⟨wr.heap.size, 2, none⟩ = some (.string s) := cell_of_row _ _ _ _ _ _ hra
          have y3 : (wr.alloc (.cells #[.int .i64 q, .int .i64 g, .string s, .string t] 64)).cell? ⟨wr.heap.size, 3, none⟩ = some (.string t) := cell_of_row _ _ _ _ _ _ hra
          have z0 : w4.cell? ⟨wr.heap.size, 0, none⟩ = some (.int .i64 q) := cell_of_row _ _ _ _ _ _ hre4
          have z1 : w4.cell? ⟨wr.heap.size, 1, none⟩ = some (.int .i64 g) := cell_of_row _ _ _ _ _ _ hre4
          have z2 : w4.cell? ⟨wr.heap.size, 2, none⟩ = some (.string s) := cell_of_row _ _ _ _ _ _ hre4
          have z3 : w4.cell? ⟨wr.heap.size, 3, none⟩ = some (.string t) := cell_of_row _ _ _ _ _ _ hre4
          have dq0 : decide (q < 0) = false := decide_eq_false (by omega)
          have dq1 : decide (nx ≤ q) = false := decide_eq_false (by omega)
          have hgt : (!Op.bytesLess s.toList t.toList && !(s.toList == t.toList)) = false := by rw [text_gtr]; exact hlo
          have g0 : (0 : Int) ≤ (j : Int) := by omega
          have g1 : (j : Int) < (nk : Int) := by omega
          subst hA
          have HCP : Hid (c ≠ p + 2) := Lib.hid (fun e => by
            have h1 := (((HVW.out w2 (Below.refl _ _)).at_ k HK4.out).at_ (by omega))
            obtain ⟨c', off', hA', hbl', -⟩ := h1
            rw [HAK.out] at hA'
            have e2 : c = c' := by
              have := Option.some.inj hA'
              exact congrArg Addr.block this
            have h3 := HIM.out.lt
            have h4 := ((HV.out.at_ k HK4.out).at_ (by omega))
            obtain ⟨c'', off'', hA'', hbl'', -⟩ := h4
            rw [HAK.out] at hA''
            have e3 : c = c'' := congrArg Addr.block (Option.some.inj hA'')
            have := HPP.out
            omega)
          clear hfm hfm4 hg4 hbw hal hc hst hre4 hr0 hrx hlv hnot hpl hnn
          go_upto_region 12 with fail
          clear hlk hput hlk4 y0 y1 y2 y3 z0 z1 z2 z3 n2 dq0 dq1 hgt c0 c1 c2 c3
          rcases Nat.eq_zero_or_pos j with hj0 | hj0
          · subst hj0
            have hdr : Below w4.heap.size w4 { w4 with drawn := w4.drawn + 1 } := (Below.refl _ w4).drew
            have hre : ({ w4 with drawn := w4.drawn + 1 } : World).heap[wr.heap.size]? = some (.cells #[.int .i64 q, .int .i64 g, .string s, .string t] 64 (0, 0)) := HRE4.out
            have HIM5 : Hid (Im { w4 with drawn := w4.drawn + 1 } (p + 2) (n + 1) (stays (F ++ (lev k L).take (0 + 1)))) := Lib.hid (HIM4.out.below hdr)
            refine wp_region_still_lit (by kernel_rfl) (by kernel_rfl) ?_
            generalize ({ w4 with drawn := w4.drawn + 1 } : World) = wd at hdr hre HIM5 ⊢
            have HBD : Hid (Below (p + 2) w2 wd) := Lib.hid (HB4.out.trans (hdr.mono (by have := HSZ.out; omega)))
            have e0 : wd.cell? ⟨wr.heap.size, 0, none⟩ = some (.int .i64 q) := cell_of_row _ _ _ _ _ _ hre
            have e1 : wd.cell? ⟨wr.heap.size, 1, none⟩ = some (.int .i64 g) := cell_of_row _ _ _ _ _ _ hre
            have e2 : wd.cell? ⟨wr.heap.size, 2, none⟩ = some (.string s) := cell_of_row _ _ _ _ _ _ hre
            have e3 : wd.cell? ⟨wr.heap.size, 3, none⟩ = some (.string t) := cell_of_row _ _ _ _ _ _ hre
            clear hdr hre
            refine still_letter fun W hW => ?_
            iterate 36 (refine hW.out.cons (fun K hK => ?_); go_simp; refine hK _ ?_; clear hK K)
            refine hW.out.nil ?_
            clear hW W
            go_wp2_with fail
            go_roundw
            case rel => exact ⟨0 + 1, n + 1, by omega, by go_num, HNN.out, HIM5.out, HBD.out⟩
            case measure => simp [intOf]; omega
          · obtain ⟨i, rfl⟩ : ∃ i, j = i + 1 := ⟨j - 1, by omega⟩
            have hi : i < (lev k L).length := by omega
            obtain ⟨p0, -, -, p3⟩ := HCC.out i hi
            rw [← HCK.out _ HCP.out] at p0 p3
            obtain ⟨hn0, hn1⟩ := HNJ2.out i hjl
            rw [HEJ.out] at hn0 hn1
            obtain ⟨e2, he2⟩ : ∃ e, (lev k L)[i] = e := ⟨_, rfl⟩
            rw [he2] at p0 p3 hn0 hn1
            obtain ⟨lv2, q2, z2', s2, t2⟩ := e2
            simp only at p0 p3 hn0 hn1
            have hwi : IntKind.i64.wrap (((i + 1 : Nat) : Int) - 1) = (i : Int) := by rw [IntWalk.i64_in _ ⟨by omega, by omega⟩]; omega
            have hwi2 : IntKind.i64.wrap ((i : Int) + 1 - 1) = (i : Int) := by rw [IntWalk.i64_in _ ⟨by omega, by omega⟩]; omega
            have hwi3 : IntKind.i64.wrap (i : Int) = (i : Int) := IntWalk.i64_in _ ⟨by omega, by omega⟩
            have di : decide ((0 : Int) < ((i + 1 : Nat) : Int)) = true := decide_eq_true (by omega)
            have g2 : (0 : Int) ≤ (i : Int) := by omega
            have g3 : (i : Int) < (nk : Int) := by omega
            clear HNJ HFJ HFC HNX HNJ2 HCC HEJ he hi he2 hjl
            rcases Nat.eq_zero_or_pos k with hk0 | hk0
            · have dk0 : ((k : Int) == 0) = true := by simp; omega
              have dk2 : decide (0 < k) = false := decide_eq_false (by omega)
              have dk3 : decide ((0 : Int) < (k : Int)) = false := decide_eq_false (by omega)
              have dle : decide (q2 ≤ q) = false := decide_eq_false (by have := hn0 hk0; omega)
              clear hn0 hn1 hk0
              have hdr : Below w4.heap.size w4 { w4 with drawn := w4.drawn + 1 } := (Below.refl _ w4).drew
              have hre : ({ w4 with drawn := w4.drawn + 1 } : World).heap[wr.heap.size]? = some (.cells #[.int .i64 q, .int .i64 g, .string s, .string t] 64 (0, 0)) := HRE4.out
              have HIM5 : Hid (Im { w4 with drawn := w4.drawn + 1 } (p + 2) (n + 1) (stays (F ++ (lev k L).take (i + 1 + 1)))) := Lib.hid (HIM4.out.below hdr)
              refine wp_region_still_lit (by kernel_rfl) (by kernel_rfl) ?_
              generalize ({ w4 with drawn := w4.drawn + 1 } : World) = wd at hdr hre HIM5 ⊢
              have HBD : Hid (Below (p + 2) w2 wd) := Lib.hid (HB4.out.trans (hdr.mono (by have := HSZ.out; omega)))
              have e0 : wd.cell? ⟨wr.heap.size, 0, none⟩ = some (.int .i64 q) := cell_of_row _ _ _ _ _ _ hre
              have e1 : wd.cell? ⟨wr.heap.size, 1, none⟩ = some (.int .i64 g) := cell_of_row _ _ _ _ _ _ hre
              have e2 : wd.cell? ⟨wr.heap.size, 2, none⟩ = some (.string s) := cell_of_row _ _ _ _ _ _ hre
              have e3 : wd.cell? ⟨wr.heap.size, 3, none⟩ = some (.string t) := cell_of_row _ _ _ _ _ _ hre
              have f0 : wd.cell? ⟨c, off + i * 4, none⟩ = some (.int .i64 q2) := (hdr.cell (p := ⟨c, off + i * 4, none⟩) (by have := HCB.out; omega)).trans p0
              have f3 : wd.cell? ⟨c, off + i * 4 + 3, none⟩ = some (.string t2) := (hdr.cell (p := ⟨c, off + i * 4 + 3, none⟩) (by have := HCB.out; omega)).trans p3
              clear hdr hre p0 p3
              refine still_letter fun W hW => ?_
              iterate 36 (refine hW.out.cons (fun K hK => ?_); go_simp; refine hK _ ?_; clear hK K)
              refine hW.out.nil ?_
              clear hW W
              go_wp2_with fail
              go_roundw
              case rel => exact ⟨i + 1 + 1, n + 1, by omega, by go_num, HNN.out, HIM5.out, HBD.out⟩
              case measure => simp [intOf]; omega
            · have dk0 : ((k : Int) == 0) = false := by simp; omega
              have dk1 : decide ((0 : Int) < (k : Int)) = true := decide_eq_true (by omega)
              have dle : Op.bytesLess t2.toList s.toList = true := by rw [text_less]; exact hn1 hk0
              clear hn0 hn1
              have hdr : Below w4.heap.size w4 { w4 with drawn := w4.drawn + 1 } := (Below.refl _ w4).drew
              have hre : ({ w4 with drawn := w4.drawn + 1 } : World).heap[wr.heap.size]? = some (.cells #[.int .i64 q, .int .i64 g, .string s, .string t] 64 (0, 0)) := HRE4.out
              have HIM5 : Hid (Im { w4 with drawn := w4.drawn + 1 } (p + 2) (n + 1) (stays (F ++ (lev k L).take (i + 1 + 1)))) := Lib.hid (HIM4.out.below hdr)
              refine wp_region_still_lit (by kernel_rfl) (by kernel_rfl) ?_
              generalize ({ w4 with drawn := w4.drawn + 1 } : World) = wd at hdr hre HIM5 ⊢
              have HBD : Hid (Below (p + 2) w2 wd) := Lib.hid (HB4.out.trans (hdr.mono (by have := HSZ.out; omega)))
              have e0 : wd.cell? ⟨wr.heap.size, 0, none⟩ = some (.int .i64 q) := cell_of_row _ _ _ _ _ _ hre
              have e1 : wd.cell? ⟨wr.heap.size, 1, none⟩ = some (.int .i64 g) := cell_of_row _ _ _ _ _ _ hre
              have e2 : wd.cell? ⟨wr.heap.size, 2, none⟩ = some (.string s) := cell_of_row _ _ _ _ _ _ hre
              have e3 : wd.cell? ⟨wr.heap.size, 3, none⟩ = some (.string t) := cell_of_row _ _ _ _ _ _ hre
              have f0 : wd.cell? ⟨c, off + i * 4, none⟩ = some (.int .i64 q2) := (hdr.cell (p := ⟨c, off + i * 4, none⟩) (by have := HCB.out; omega)).trans p0
              have f3 : wd.cell? ⟨c, off + i * 4 + 3, none⟩ = some (.string t2) := (hdr.cell (p := ⟨c, off + i * 4 + 3, none⟩) (by have := HCB.out; omega)).trans p3
              clear hdr hre p0 p3
              refine still_letter fun W hW => ?_
              iterate 36 (refine hW.out.cons (fun K hK => ?_); go_simp; refine hK _ ?_; clear hK K)
              refine hW.out.nil ?_
              clear hW W
              go_wp2_with fail
              go_roundw
              case rel => exact ⟨i + 1 + 1, n + 1, by omega, by go_num, HNN.out, HIM5.out, HBD.out⟩
              case measure => simp [intOf]; omega
        · obtain rfl : j = nk := by omega
          have htk : (lev k L).take j = lev k L := List.take_of_length_le (by rw [← HLEN.out]; exact Nat.le_refl _)
          rw [htk, ← HFK.out] at hnn hfm
          have H1 := Lib.hid hnn
          have H2 := Lib.hid hfm
          have H3 := Lib.hid hbw
          clear hnn hfm hbw htk
          go_wp2_with fail
          go_roundw
          case rel => exact ⟨k + 1, n, by omega, by go_num, H1.out, H2.out, H3.out⟩
          case measure => simp [intOf]; omega
    · obtain rfl : k = 4 := by omega
      have hr0 := HR0.out wr hbw
      have qa0 : wr.cell? ⟨p, 0, none⟩ = some (S0) := cell_of_row _ _ _ _ _ _ hr0
      have qa1 : wr.cell? ⟨p, 1, none⟩ = some (S1) := cell_of_row _ _ _ _ _ _ hr0
      have qa2 : wr.cell? ⟨p, 2, none⟩ = some (S2) := cell_of_row _ _ _ _ _ _ hr0
      have qa3 : wr.cell? ⟨p, 3, none⟩ = some (S3) := cell_of_row _ _ _ _ _ _ hr0
      have qa4 : wr.cell? ⟨p, 4, none⟩ = some (.int .i64 lg) := cell_of_row _ _ _ _ _ _ hr0
      have qa5 : wr.cell? ⟨p, 5, none⟩ = some (.int .i64 nx) := cell_of_row _ _ _ _ _ _ hr0
      have qa6 : wr.cell? ⟨p, 6, none⟩ = some (.int .i64 sq) := cell_of_row _ _ _ _ _ _ hr0
      have HB3 := Lib.hid hbw
      clear hfm hnk0 hbw hr0
      go_wp2_with fail
      refine (HWK.out _).mono ?_
      rintro r w3 ⟨rfl, hb3⟩
      have hp : p < wr.heap.size := (Array.getElem?_eq_some_iff.1 (HR0.out wr HB3.out)).1
      have hr0 := (hb3.block p hp).trans (HR0.out wr HB3.out)
      have qb0 : w3.cell? ⟨p, 0, none⟩ = some (S0) := cell_of_row _ _ _ _ _ _ hr0
      have qb1 : w3.cell? ⟨p, 1, none⟩ = some (S1) := cell_of_row _ _ _ _ _ _ hr0
      have qb2 : w3.cell? ⟨p, 2, none⟩ = some (S2) := cell_of_row _ _ _ _ _ _ hr0
      have qb3 : w3.cell? ⟨p, 3, none⟩ = some (S3) := cell_of_row _ _ _ _ _ _ hr0
      have qb4 : w3.cell? ⟨p, 4, none⟩ = some (.int .i64 lg) := cell_of_row _ _ _ _ _ _ hr0
      have qb5 : w3.cell? ⟨p, 5, none⟩ = some (.int .i64 nx) := cell_of_row _ _ _ _ _ _ hr0
      have qb6 : w3.cell? ⟨p, 6, none⟩ = some (.int .i64 sq) := cell_of_row _ _ _ _ _ _ hr0
      have HEND : Hid (Below w.heap.size w w3) := Lib.hid ((HBW.out wr HB3.out).trans (hb3.mono (HBW.out wr HB3.out).size))
      clear hb3 hr0 hp qa0 qa1 qa2 qa3 qa4 qa5 qa6
      have hhd := HHD.out
      by_cases hlt : lg < nx
      · clear hhd
        go_wp2_with fail
        go_ret
        exact ⟨rfl, HEND.out⟩
      · obtain ⟨rfl, rfl⟩ : lg = 0 ∧ nx = 0 := by omega
        clear hhd
        go_wp2_with fail
        go_ret
        exact ⟨rfl, HEND.out⟩
end lawLevels
end Go.Proofs.Ytfodbblcflolgaa
