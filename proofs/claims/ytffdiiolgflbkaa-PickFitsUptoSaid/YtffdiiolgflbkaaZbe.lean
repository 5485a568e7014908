/- Texts joined by bundle.py: Ka, Kb, Kc, Kd. -/
import Derived.Test.YtffdiiolgflbkaaZbd
import Derived.Test.YtffdiiolgflbkaaZba
import Derived.Lib.MinMaxS
import Derived.Lib.MinMax
import Derived.Deep.CutRange

/- Plain mathematics of picks: what a merged table spans; it fits into the lower level. -/
namespace Go.Proofs.Ytffdiiolgflbkaa
open Go.RowKit
namespace VS

theorem lt_list (a b : ByteArray) : lt a b = decide (a.data.toList < b.data.toList) := by
  rw [← text_less, toList_data, toList_data]
  exact Proofs.bytesLess_eq _ _
theorem minS_facts (x y : ByteArray) : lt x (Lib.minS x y) = false ∧ lt y (Lib.minS x y) = false ∧ (Lib.minS x y = x ∨ Lib.minS x y = y) := by
  unfold Lib.minS
  by_cases h : x.data.toList < y.data.toList
  · have hx : lt x y = true := by rw [lt_list]; exact decide_eq_true h
    rw [if_pos (Or.inl h)]
    exact ⟨lt_irrefl _, lt_asymm hx, .inl rfl⟩
  · by_cases h' : x.data.toList = y.data.toList
    · have hxy : x = y := str_ext h'
      subst hxy
      rw [if_pos (Or.inr rfl)]
      exact ⟨lt_irrefl _, lt_irrefl _, .inl rfl⟩
    · rw [if_neg (by simp [h, h'])]
      have hx : lt x y = false := by rw [lt_list]; exact decide_eq_false h
      exact ⟨hx, lt_irrefl _, .inr rfl⟩
theorem maxS_facts (x y : ByteArray) : lt (Lib.maxS x y) x = false ∧ lt (Lib.maxS x y) y = false ∧ (Lib.maxS x y = x ∨ Lib.maxS x y = y) := by
  unfold Lib.maxS
  by_cases h : x.data.toList < y.data.toList
  · have hx : lt x y = true := by rw [lt_list]; exact decide_eq_true h
    rw [if_pos h]
    exact ⟨lt_asymm hx, lt_irrefl _, .inr rfl⟩
  · rw [if_neg h]
    have hx : lt x y = false := by rw [lt_list]; exact decide_eq_false h
    exact ⟨lt_irrefl _, hx, .inl rfl⟩

/-- lo is the least Lo of tables -/
def IsLo (l : List M) (lo : ByteArray) : Prop := (∀ m ∈ l, lt m.lo lo = false) ∧ ∃ m ∈ l, lo = m.lo
def IsHi (l : List M) (hi : ByteArray) : Prop := (∀ m ∈ l, lt hi m.hi = false) ∧ ∃ m ∈ l, hi = m.hi
theorem isLo_one (m : M) : IsLo [m] m.lo := ⟨fun x hx => by rw [List.mem_singleton.1 hx]; exact lt_irrefl _, m, List.mem_cons_self .., rfl⟩
theorem isHi_one (m : M) : IsHi [m] m.hi := ⟨fun x hx => by rw [List.mem_singleton.1 hx]; exact lt_irrefl _, m, List.mem_cons_self .., rfl⟩
theorem IsLo.more {l : List M} {lo : ByteArray} (h : IsLo l lo) (m : M) : IsLo (l ++ [m]) (Lib.minS lo m.lo) := by
  obtain ⟨h1, h2, h3⟩ := minS_facts lo m.lo
  refine ⟨fun x hx => ?_, ?_⟩
  · rcases List.mem_append.1 hx with hx | hx
    · exact le_trans h1 (h.1 x hx)
    · rw [List.mem_singleton.1 hx]; exact h2
  · rcases h3 with e | e
    · obtain ⟨x, hx, ex⟩ := h.2
      exact ⟨x, List.mem_append_left _ hx, by rw [e, ex]⟩
    · exact ⟨m, List.mem_append_right _ (List.mem_cons_self ..), e⟩
theorem IsHi.more {l : List M} {hi : ByteArray} (h : IsHi l hi) (m : M) : IsHi (l ++ [m]) (Lib.maxS hi m.hi) := by
  obtain ⟨h1, h2, h3⟩ := maxS_facts hi m.hi
  refine ⟨fun x hx => ?_, ?_⟩
  · rcases List.mem_append.1 hx with hx | hx
    · exact le_trans (h.1 x hx) h1
    · rw [List.mem_singleton.1 hx]; exact h2
  · rcases h3 with e | e
    · obtain ⟨x, hx, ex⟩ := h.2
      exact ⟨x, List.mem_append_left _ hx, by rw [e, ex]⟩
    · exact ⟨m, List.mem_append_right _ (List.mem_cons_self ..), e⟩
theorem IsLo.of_mem {l k : List M} {lo : ByteArray} (h : IsLo l lo) (hk : ∀ m, m ∈ l ↔ m ∈ k) : IsLo k lo :=
  ⟨fun m hm => h.1 m ((hk m).2 hm), by obtain ⟨m, hm, e⟩ := h.2; exact ⟨m, (hk m).1 hm, e⟩⟩
theorem IsHi.of_mem {l k : List M} {hi : ByteArray} (h : IsHi l hi) (hk : ∀ m, m ∈ l ↔ m ∈ k) : IsHi k hi :=
  ⟨fun m hm => h.1 m ((hk m).2 hm), by obtain ⟨m, hm, e⟩ := h.2; exact ⟨m, (hk m).1 hm, e⟩⟩

/-- a job's tables: some of one level, and those of the next one that may hold a key of their span -/
structure Job (v : V) (k : Nat) (fr tw : List M) : Prop where
  lvl : k < 3
  fr_ne : fr ≠ []
  fr_in : ∀ m ∈ fr, m ∈ v.L ∧ m.lvl = k
  fr_nd : fr.Nodup
  span : ∃ lo hi, IsLo fr lo ∧ IsHi fr hi ∧ tw = over (k + 1 : Int) lo hi v.L

theorem Ok.nodup {v : V} (h : Ok v) : v.L.Nodup := List.Pairwise.of_map _ (fun _ _ h e => h (by rw [e])) h.uniq
theorem over_mem {z : Int} {lo hi : ByteArray} {l : List M} {m : M} : m ∈ over z lo hi l ↔ m ∈ l ∧ m.lvl = z ∧ touch lo hi m = true := by
  unfold over lev
  rw [List.mem_filter, List.mem_filter]
  simp only [decide_eq_true_eq]
  constructor
  · rintro ⟨⟨h1, h2⟩, h3⟩; exact ⟨h1, h2, h3⟩
  · rintro ⟨h1, h2, h3⟩; exact ⟨⟨h1, h2⟩, h3⟩

theorem nodup_files : ∀ {l : List M}, l.Nodup → (∀ a ∈ l, ∀ b ∈ l, a.file = b.file → a = b) → (files l).Nodup
  | [], _, _ => by simp [files]
  | x :: l, hn, hi => by
    obtain ⟨h1, h2⟩ := List.nodup_cons.1 hn
    have h3 := nodup_files h2 fun a ha b hb => hi a (List.mem_cons_of_mem _ ha) b (List.mem_cons_of_mem _ hb)
    show (x.file :: files l).Nodup
    refine List.nodup_cons.2 ⟨fun hm => ?_, h3⟩
    obtain ⟨y, hy, e⟩ := List.mem_map.1 hm
    exact h1 (hi y (List.mem_cons_of_mem _ hy) x (List.mem_cons_self ..) e ▸ hy)

/-- the merged table fits -/
theorem job_fits {v : V} (hv : Ok v) (hn : Nums v) {k : Nat} {fr tw : List M} (hj : Job v k fr tw) {lo hi : ByteArray} (hlo : IsLo (fr ++ tw) lo) (hhi : IsHi (fr ++ tw) hi) (hnx : v.next < 9223372036854775807) :
    good v ⟨[⟨(k : Int) + 1, v.next, 0, lo, hi⟩], files fr ++ files tw, v.log, v.next + 1, v.seq⟩ = true := by
  obtain ⟨h3, -, hfi, hfn, lf, hf, hlf, hhf, hto⟩ := hj
  have hk3 : (k : Int) < 3 := by omega
  have hti : ∀ m ∈ tw, m ∈ v.L ∧ m.lvl = (k : Int) + 1 ∧ touch lf hf m = true := fun m hm => by rw [hto] at hm; exact over_mem.1 hm
  have hbi : ∀ m ∈ fr ++ tw, m ∈ v.L := fun m hm => by
    rcases List.mem_append.1 hm with hm | hm
    · exact (hfi m hm).1
    · exact (hti m hm).1
  have htn : tw.Nodup := by rw [hto]; exact (hv.nodup.filter _).filter _
  have hbn : (fr ++ tw).Nodup := List.nodup_append.2 ⟨hfn, htn, fun a ha b hb e => by
    have h1 := (hfi a ha).2
    have h2 := (hti b hb).2.1
    rw [e] at h1
    omega⟩
  have hfb : files fr ++ files tw = files (fr ++ tw) := (files_append _ _).symm
  have hlh : lt hi lo = false := by
    obtain ⟨m, hm, e⟩ := hlo.2
    have h1 := hhi.1 m hm
    have h2 := fine_lo (hv.fine m (hbi m hm))
    rw [e]
    exact le_trans h2 h1
  rw [hfb]
  unfold good
  simp only [Bool.and_eq_true, decide_eq_true_eq]
  refine ⟨⟨⟨?_, ?_⟩, ?_⟩, ?_⟩
  · unfold headOk
    simp only [decide_eq_true_eq]
    have := hv.head
    have := hn.2
    omega
  · rw [dropOk_iff]
    refine ⟨fun z hz => ?_, ?_⟩
    · obtain ⟨m, hm, rfl⟩ := List.mem_map.1 hz
      exact ⟨List.mem_map.2 ⟨m, hbi m hm, rfl⟩, by simp⟩
    · exact nodup_files hbn fun a ha b hb e => uniq_of hv.uniq a (hbi a ha) b (hbi b hb) e
  · rw [addOk_iff]
    refine ⟨fun m hm => ?_, by simp [files]⟩
    obtain rfl := List.mem_singleton.1 hm
    refine ⟨?_, ?_, by simp⟩
    · unfold fine
      simp only [Bool.and_eq_true, decide_eq_true_eq, Bool.not_eq_true']
      have := hn.2
      exact ⟨by omega, hlh⟩
    · intro hm
      obtain ⟨x, hx, e⟩ := List.mem_map.1 hm
      have := (fine_num (hv.fine x hx)).2.2.2.1
      simp only at e
      omega
  · refine (apart_perm (behind_perm v _)).2 ?_
    unfold apart
    refine List.pairwise_append.2 ⟨List.Pairwise.sublist List.filter_sublist hv.apart, List.pairwise_singleton _ _, fun m hm x hx => ?_⟩
    obtain rfl := List.mem_singleton.1 hx
    have hmL := (List.mem_filter.1 hm).1
    have hmd : m.file ∉ files (fr ++ tw) := by simpa using (List.mem_filter.1 hm).2
    unfold ov
    by_cases hl : 0 < m.lvl ∧ m.lvl = (k : Int) + 1
    · rw [decide_eq_true hl, Bool.true_and]
      have hmt : m ∉ tw := fun h => hmd (List.mem_map.2 ⟨m, List.mem_append_right _ h, rfl⟩)
      have hnt : touch lf hf m = false := by
        cases ht : touch lf hf m with
        | false => rfl
        | true => exact absurd (by rw [hto]; exact over_mem.2 ⟨hmL, hl.2, ht⟩) hmt
      have hml := fine_lo (hv.fine m hmL)
      -- no table of To has a key in common with it
      have hap : ∀ t ∈ tw, lt t.hi m.lo = true ∨ lt m.hi t.lo = true := fun t ht => by
        have hne : t ≠ m := fun e => hmt (e ▸ ht)
        have h1 := pair_of (fun h => ov_symm h) hv.apart t (hti t ht).1 m hmL hne
        unfold ov at h1
        rw [decide_eq_true ⟨by rw [(hti t ht).2.1]; omega, by rw [(hti t ht).2.1, hl.2]⟩, Bool.true_and] at h1
        cases h2 : lt m.hi t.lo with
        | true => exact .inr rfl
        | false =>
          rw [h2] at h1
          left
          simpa using h1
      simp only
      cases hA : lt hi m.lo with
      | true => rfl
      | false =>
        cases hB : lt m.hi lo with
        | true => simp
        | false =>
          exfalso
          unfold touch at hnt
          cases hC : lt m.hi lf with
          | true =>
            obtain ⟨t, ht, e⟩ := hlo.2
            rcases List.mem_append.1 ht with ht | ht
            · have h1 := hlf.1 t ht
              rw [e] at hB
              have := lt_of_lt_le hC h1
              rw [hB] at this
              cases this
            · have h2 := (hti t ht).2.2
              unfold touch at h2
              simp only [Bool.and_eq_true, Bool.not_eq_true'] at h2
              rcases hap t ht with h3 | h3
              · have h5 := lt_of_lt_le hC h2.1
                have h6 := lt_trans h3 (lt_of_le_lt hml h5)
                rw [lt_irrefl] at h6
                cases h6
              · rw [e] at hB
                rw [h3] at hB
                cases hB
          | false =>
            rw [hC] at hnt
            have hD : lt hf m.lo = true := by simpa using hnt
            obtain ⟨t, ht, e⟩ := hhi.2
            rcases List.mem_append.1 ht with ht | ht
            · have h1 := hhf.1 t ht
              rw [e] at hA
              have := lt_of_le_lt h1 hD
              rw [hA] at this
              cases this
            · have h2 := (hti t ht).2.2
              unfold touch at h2
              simp only [Bool.and_eq_true, Bool.not_eq_true'] at h2
              rcases hap t ht with h3 | h3
              · rw [e] at hA
                rw [h3] at hA
                cases hA
              · have h4 := lt_of_lt_le hD hml
                have h5 := lt_of_le_lt h2.2 h4
                have h6 := lt_trans h5 h3
                rw [lt_irrefl] at h6
                cases h6
    · rw [decide_eq_false hl, Bool.false_and]
end VS
end Go.Proofs.Ytffdiiolgflbkaa

/- The room of a level; is a level full? -/
namespace Go.Proofs.Ytffdiiolgflbkaa
open Go.RowKit Go.Maps
open VS
attribute [local go_sem ↓] Go.wp_at_zero Go.wp_at_succ

namespace VS
def most : Int := 1152921504606846976
def roomGo (q : Int) : Nat → Int → Int
  | 0, r => r
  | n + 1, r => if most / q < r then most else roomGo q n (r * q)
theorem roomGo_bounds {q : Int} (hq : 1 ≤ q) : ∀ (n : Nat) {r : Int}, 1 ≤ r → r ≤ most → 1 ≤ roomGo q n r ∧ roomGo q n r ≤ most
  | 0, r, h1, h2 => ⟨h1, h2⟩
  | n + 1, r, h1, h2 => by
    unfold roomGo
    split
    · exact ⟨by unfold most; omega, Int.le_refl _⟩
    · rename_i h
      have h3 : r * q ≤ most := by
        have h4 : r ≤ most / q := by omega
        have h5 : r * q ≤ most / q * q := Int.mul_le_mul_of_nonneg_right h4 (by omega)
        have h6 : most / q * q ≤ most := Int.ediv_mul_le _ (by omega)
        omega
      have h7 : 1 * 1 ≤ r * q := Int.mul_le_mul h1 hq (by omega) (by omega)
      exact roomGo_bounds hq n (by omega) h3
theorem mul_room {q r : Int} (hq : 1 ≤ q) (h1 : 1 ≤ r) (h : ¬ most / q < r) : 1 ≤ r * q ∧ r * q ≤ most := by
  have h4 : r ≤ most / q := by omega
  have h5 : r * q ≤ most / q * q := Int.mul_le_mul_of_nonneg_right h4 (by omega)
  have h6 : most / q * q ≤ most := Int.ediv_mul_le _ (by omega)
  have h7 : 1 * 1 ≤ r * q := Int.mul_le_mul h1 hq (by omega) (by omega)
  exact ⟨by omega, by omega⟩
end VS

set_option maxRecDepth 100000 in
set_option maxHeartbeats 4000000 in
theorem room_any (zr base ratio : Int) (k : Nat) (w : World) (hk1 : 1 ≤ k) (hk3 : k < 3) (hr : i64 ratio) :
    Calls Try.prog 53 #[.agg #[.int .i64 zr, .int .i64 base, .int .i64 ratio], .int .i64 k] w fun r w' => r = .returned (.int .i64 (roomGo (max ratio 1) (k - 1) (min (max base 1) most))) ∧ Below w.heap.size w w' := by
  obtain ⟨q, hq⟩ : ∃ q, max ratio 1 = q := ⟨_, rfl⟩
  obtain ⟨r0, hr0⟩ : ∃ r0, min (max base 1) most = r0 := ⟨_, rfl⟩
  have hq1 : 1 ≤ q := by omega
  have hq2 : q ≤ 9223372036854775807 := by have := hr.2; omega
  have hr1 : 1 ≤ r0 ∧ r0 ≤ most := by unfold most at hr0 ⊢; omega
  obtain ⟨R, hR⟩ : ∃ R, roomGo q (k - 1) r0 = R := ⟨_, rfl⟩
  have HR := Lib.hid hR
  rw [hq, hr0, hR]
  have d1 : decide ((k : Int) < 1) = false := decide_eq_false (by omega)
  have d1' : decide (k < 1) = false := decide_eq_false (by omega)
  have d2 : decide ((4 : Int) ≤ (k : Int)) = false := decide_eq_false (by omega)
  have d2' : decide (4 ≤ k) = false := decide_eq_false (by omega)
  have HK := Lib.hid hk1
  clear hR
  have HQ := Lib.hid hq
  have HR0 : Hid (min (max base 1) 1152921504606846976 = r0) := Lib.hid hr0
  have HQ1 := Lib.hid (And.intro hq1 hq2)
  have HR1 := Lib.hid hr1
  obtain ⟨K, rfl⟩ : ∃ K, k = K + 1 := ⟨k - 1, by omega⟩
  have hK3 : K ≤ 2 := by omega
  have e1 : decide ((K : Int) + 1 < 1) = false := decide_eq_false (by omega)
  have e2 : decide ((4 : Int) ≤ (K : Int) + 1) = false := decide_eq_false (by omega)
  have hkw : IntKind.i64.wrap (((K + 1 : Nat) : Int) - 1) = (K : Int) := by rw [IntWalk.i64_in _ ⟨by omega, by omega⟩]; omega
  have hkw2 : IntKind.i64.wrap ((K : Int) + 1 - 1) = (K : Int) := by rw [IntWalk.i64_in _ ⟨by omega, by omega⟩]; omega
  have hkw3 : IntKind.i64.wrap (K : Int) = (K : Int) := by rw [IntWalk.i64_in _ ⟨by omega, by omega⟩]
  rw [Nat.add_sub_cancel] at HR
  clear hq hr0 hq1 hq2 hr1 hr hk1 hk3 HK
  go_enter Try.func53, Try.ntmps53
  go_wp2_with fail
  go_region
  simp only [HR0.out, HQ.out]
  have HBD : Hid (Below w.heap.size w (w.alloc (.cells #[.int .i64 zr, .int .i64 base, .int .i64 ratio] 79)).drew) := Lib.hid ((Below.refl _ w).alloc (Nat.le_refl _) _).drew
  generalize (w.alloc (.cells #[.int .i64 zr, .int .i64 base, .int .i64 ratio] 79)).drew = w0 at HBD ⊢
  go_wp2_with fail
  go_loop [5, 22] (fun s i => ∃ (j : Nat) (rm : Int), j ≤ K ∧ i = .int .i64 j ∧ s = .int .i64 rm ∧ 1 ≤ rm ∧ Hid (rm ≤ most) ∧ Hid (roomGo q (K - j) rm = R)) (fun _ i => K - (intOf i).toNat)
  case atStart => exact ⟨0, r0, by omega, rfl, rfl, HR1.out.1, Lib.hid HR1.out.2, HR⟩
  case round =>
    obtain ⟨j, rm, hj, rfl, rfl, h1, HM, HG⟩ := hrel
    by_cases hlt : j < K
    · have hq1 := HQ1.out.1
      have hdv : (1152921504606846976 : Int) / q = most / q := rfl
      obtain ⟨D, hD⟩ : ∃ D, (1152921504606846976 : Int) / q = D := ⟨_, rfl⟩
      have hst : roomGo q (K - j) rm = if most / q < rm then most else roomGo q (K - (j + 1)) (rm * q) := by
        rw [show K - j = (K - (j + 1)) + 1 by omega]
        rfl
      rw [← hdv, hD] at hst
      by_cases hbig : D < rm
      · have HF : Hid (R = 1152921504606846976) := Lib.hid (by rw [← HG.out, hst, if_pos hbig]; rfl)
        have dD : decide (D < rm) = true := decide_eq_true hbig
        clear hst hdv
        go_wp2
        go_ret
        exact ⟨by rw [HF.out]; rfl, HBD.out⟩
      · have hmr := mul_room hq1 h1 (by rw [← hdv, hD]; exact hbig)
        have HST : Hid (roomGo q (K - (j + 1)) (rm * q) = R) := Lib.hid (by rw [← HG.out, hst, if_neg hbig])
        have dD : decide (D < rm) = false := decide_eq_false hbig
        obtain ⟨P, hP⟩ : ∃ P, rm * q = P := ⟨_, rfl⟩
        have hPw : IntKind.i64.wrap (rm * q) = P := by rw [hP] at hmr ⊢; exact IntWalk.i64_in _ ⟨by omega, by unfold most at hmr; omega⟩
        rw [hP] at hmr HST
        have HMR := Lib.hid hmr
        clear hst hdv hmr hP
        go_wp2
        go_round
        case rel => exact ⟨j + 1, P, by omega, by go_num, rfl, HMR.out.1, Lib.hid HMR.out.2, HST⟩
        case measure => simp [intOf]; omega
    · obtain rfl : j = K := by omega
      have HF : Hid (rm = R) := Lib.hid (by rw [← HG.out, Nat.sub_self]; rfl)
      go_wp2
      go_ret
      exact ⟨by rw [HF.out]; rfl, HBD.out⟩
end Go.Proofs.Ytffdiiolgflbkaa

/- Is a level full? What is merged has tables. -/
namespace Go.Proofs.Ytffdiiolgflbkaa
open Go.RowKit Go.Maps
open VS
attribute [local go_sem ↓] Go.wp_at_zero Go.wp_at_succ

/-- what Full answers -/
def FullOut (zr : Int) (L : List M) (k : Nat) (r : Ending) : Prop := ∃ b, r = .returned (.bool b) ∧ (b = true → k < 3 ∧ lev k L ≠ []) ∧ (k = 0 → b = decide (max zr 1 ≤ ((lev 0 L).length : Int)))

set_option maxRecDepth 100000 in
set_option maxHeartbeats 4000000 in
theorem full_any (A : Nat → Option Addr) (N C : Nat → Nat) (L : List M) (lg nx sq zr base ratio : Int) (k : Nat) (w : World) (h : VerIn w A N C L) (hk : k < 4) (hL : L.length ≤ 10000000) (hf : ∀ m ∈ L, 0 ≤ m.size) (hr : i64 ratio) :
    Calls Try.prog 50 #[.agg #[.int .i64 zr, .int .i64 base, .int .i64 ratio], .agg #[.slice (A 0) (N 0) (C 0), .slice (A 1) (N 1) (C 1), .slice (A 2) (N 2) (C 2), .slice (A 3) (N 3) (C 3), .int .i64 lg, .int .i64 nx, .int .i64 sq], .int .i64 k] w fun r w' => FullOut zr L k r ∧ Below w.heap.size w w' := by
  have hlen0 := h.len 0 (by omega)
  have hlen := h.len k hk
  have HIN := Lib.hid (h.at_ k hk)
  have HCL : Hid (∀ (s : World), s.cell? ⟨w.heap.size + 1, 0, none⟩ = some (.slice (A 0) (N 0) (C 0)) → s.cell? ⟨w.heap.size + 1, 1, none⟩ = some (.slice (A 1) (N 1) (C 1)) → s.cell? ⟨w.heap.size + 1, 2, none⟩ = some (.slice (A 2) (N 2) (C 2)) → s.cell? ⟨w.heap.size + 1, 3, none⟩ = some (.slice (A 3) (N 3) (C 3)) → s.cell? ⟨w.heap.size + 1, k, none⟩ = some (.slice (A k) (N k) (C k))) := Lib.hid fun s h0 h1 h2 h3 => by
    rcases (by omega : k = 0 ∨ k = 1 ∨ k = 2 ∨ k = 3) with rfl | rfl | rfl | rfl <;> assumption
  have HEND : Hid (Below w.heap.size w ((w.alloc (.cells #[.int .i64 zr, .int .i64 base, .int .i64 ratio] 79)).alloc (.cells #[.slice (A 0) (N 0) (C 0), .slice (A 1) (N 1) (C 1), .slice (A 2) (N 2) (C 2), .slice (A 3) (N 3) (C 3), .int .i64 lg, .int .i64 nx, .int .i64 sq] 26))) := Lib.hid (((Below.refl _ w).alloc (Nat.le_refl _) _).alloc (by simp) _)
  by_cases hk0 : k = 0
  · subst hk0
    have HR : Hid (FullOut zr L 0 (.returned (.bool (decide (max zr 1 ≤ (N 0 : Int)))))) := Lib.hid ⟨_, rfl, fun hb => ⟨by omega, fun he => by
      have h1 : N 0 = 0 := by rw [hlen0]; show (lev 0 L).length = 0; rw [show lev 0 L = [] from he]; rfl
      have h2 := of_decide_eq_true hb
      omega⟩, fun _ => by rw [hlen0]; rfl⟩
    obtain ⟨n0, hn0⟩ : ∃ n, N 0 = n := ⟨_, rfl⟩
    obtain ⟨c0, hc0⟩ : ∃ n, C 0 = n := ⟨_, rfl⟩
    obtain ⟨a0, ha0⟩ : ∃ n, A 0 = n := ⟨_, rfl⟩
    rw [hn0] at HR
    rw [hn0, hc0, ha0] at HEND ⊢
    clear h hk hL hf hr hlen0 hlen HIN HCL hn0 hc0 ha0
    go_enter Try.func50, Try.ntmps50
    go_wp2
    go_ret
    exact ⟨HR.out, HEND.out⟩
  by_cases hk3 : k = 3
  · subst hk3
    have HR : Hid (FullOut zr L 3 (.returned (.bool false))) := Lib.hid ⟨_, rfl, (fun hb => by cases hb), fun h => by omega⟩
    clear h hk hL hf hr hlen0 hlen HIN HCL
    go_enter Try.func50, Try.ntmps50
    go_wp2
    go_ret
    exact ⟨HR.out, HEND.out⟩
  obtain ⟨l, hl⟩ : ∃ l, lev k L = l := ⟨_, rfl⟩
  have HRF : Hid (FullOut zr L k (.returned (.bool false))) := Lib.hid ⟨_, rfl, (fun hb => by cases hb), fun h => absurd h hk0⟩
  have HRT : Hid (0 < l.length → FullOut zr L k (.returned (.bool true))) := Lib.hid fun hp => ⟨_, rfl, fun _ => ⟨by omega, by rw [hl]; intro he; rw [he] at hp; simp at hp⟩, fun h => absurd h hk0⟩
  have HSZ : Hid (∀ m ∈ l, 0 ≤ m.size) := Lib.hid fun m hm => hf m (by rw [← hl] at hm; exact (lev_mem hm).2)
  have hll : l.length ≤ 10000000 := by rw [← hl]; exact Nat.le_trans (lev_len _ _) hL
  rw [hl] at HIN hlen
  have HROOM := Lib.hid (fun W => room_any zr base ratio k W (by omega) (by omega) hr)
  have hq1 : 1 ≤ max ratio 1 := by omega
  have hbd := roomGo_bounds hq1 (k - 1) (r := min (max base 1) most) (by unfold most; omega) (by omega)
  obtain ⟨X, hX⟩ : ∃ X, roomGo (max ratio 1) (k - 1) (min (max base 1) most) = X := ⟨_, rfl⟩
  rw [hX] at HROOM hbd
  have HX := Lib.hid hbd
  have HK : Hid (k < 4) := Lib.hid hk
  obtain ⟨nk, hnk⟩ : ∃ x, N k = x := ⟨_, rfl⟩
  rw [hnk] at hlen
  have HNK := Lib.hid hnk
  have HLEN := Lib.hid hlen
  have g0 : (0 : Int) ≤ (k : Int) := by omega
  have g1 : (k : Int) < 4 := by omega
  have d0 : ((k : Int) == 0) = false := by simp; omega
  have d1 : decide ((k : Int) < 0) = false := decide_eq_false (by omega)
  have d2 : decide ((3 : Int) ≤ (k : Int)) = false := decide_eq_false (by omega)
  have d2' : decide (3 ≤ k) = false := decide_eq_false (by omega)
  have hnb : nk ≤ 10000000 := by omega
  obtain ⟨S0, hS0⟩ : ∃ S0, Value.slice (A 0) (N 0) (C 0) = S0 := ⟨_, rfl⟩
  obtain ⟨S1, hS1⟩ : ∃ S1, Value.slice (A 1) (N 1) (C 1) = S1 := ⟨_, rfl⟩
  obtain ⟨S2, hS2⟩ : ∃ S2, Value.slice (A 2) (N 2) (C 2) = S2 := ⟨_, rfl⟩
  obtain ⟨S3, hS3⟩ : ∃ S3, Value.slice (A 3) (N 3) (C 3) = S3 := ⟨_, rfl⟩
  rw [hS0, hS1, hS2, hS3] at HCL HEND
  rw [hS0, hS1, hS2, hS3]
  clear hS0 hS1 hS2 hS3 h hL hlen hl hll hk hnk hk0 hk3 hf hr hq1 hbd hX hlen0
  go_enter Try.func50, Try.ntmps50
  go_wp2_with fail
  have hrv : ((w.alloc (.cells #[.int .i64 zr, .int .i64 base, .int .i64 ratio] 79)).alloc (.cells #[S0, S1, S2, S3, .int .i64 lg, .int .i64 nx, .int .i64 sq] 26)).heap[w.heap.size + 1]? = some (.cells #[S0, S1, S2, S3, .int .i64 lg, .int .i64 nx, .int .i64 sq] 26 (0, 0)) := by
    have := heap_alloc_new (w.alloc (.cells #[.int .i64 zr, .int .i64 base, .int .i64 ratio] 79)) (.cells #[S0, S1, S2, S3, .int .i64 lg, .int .i64 nx, .int .i64 sq] 26)
    simpa using this
  generalize ((w.alloc (.cells #[.int .i64 zr, .int .i64 base, .int .i64 ratio] 79)).alloc (.cells #[S0, S1, S2, S3, .int .i64 lg, .int .i64 nx, .int .i64 sq] 26)) = w0 at HEND hrv ⊢
  refine (HROOM.out _).mono ?_
  rintro r w1 ⟨rfl, hb1⟩
  have hrv1 := (hb1.block (w.heap.size + 1) (Array.getElem?_eq_some_iff.1 hrv).1).trans hrv
  have HB1 : Hid (Below w.heap.size w w1) := Lib.hid (HEND.out.trans (hb1.mono HEND.out.size))
  have qk := HCL.out w1 (cell_of_row _ _ _ _ _ _ hrv1) (cell_of_row _ _ _ _ _ _ hrv1) (cell_of_row _ _ _ _ _ _ hrv1) (cell_of_row _ _ _ _ _ _ hrv1)
  obtain ⟨ak, hak⟩ : ∃ x, A k = x := ⟨_, rfl⟩
  obtain ⟨ck, hck⟩ : ∃ x, C k = x := ⟨_, rfl⟩
  rw [HNK.out, hak, hck] at qk
  rw [hak] at HIN
  clear hrv hrv1 hb1 hak hck HROOM
  go_wp2_with fail
  clear qk g0 g1 d0 d1 d2 d2'
  go_loopw [7, 36] (fun s i wr => ∃ (j : Nat) (z : Int), j ≤ nk ∧ i = .int .i64 j ∧ s = .int .i64 z ∧ 0 ≤ z ∧ Hid (z ≤ most) ∧ Below w.heap.size w wr) (fun _ i _ => nk - (intOf i).toNat)
  case atStart => exact ⟨0, X, by omega, rfl, rfl, by have := HX.out; omega, Lib.hid HX.out.2, HB1.out⟩
  case round =>
    obtain ⟨j, z, hj, rfl, rfl, hz, HZ, hbw⟩ := hrel
    have HB := Lib.hid hbw
    by_cases hlt : j < nk
    · have hjl : j < l.length := by rw [← HLEN.out]; exact hlt
      obtain ⟨c, off, hA, hbl, hc⟩ := (HIN.out.below hbw).at_ (by omega)
      obtain ⟨c0, c1, c2, c3⟩ := hc j hjl
      have hsz := HSZ.out _ (List.getElem_mem hjl)
      have hwf := (HIN.out.wf _ (List.getElem_mem hjl)).size
      have HT := Lib.hid (HRT.out (by omega))
      obtain ⟨e, he⟩ : ∃ e, l[j] = e := ⟨_, rfl⟩
      rw [he] at c0 c1 c2 c3 hsz hwf
      obtain ⟨lv, q, g, s, t⟩ := e
      simp only at c0 c1 c2 c3 hsz hwf
      have hal := (Below.refl wr.heap.size wr).alloc (Nat.le_refl _) (.cells #[.int .i64 q, .int .i64 g, .string s, .string t] 64)
      have hra := heap_alloc_new wr (.cells #[.int .i64 q, .int .i64 g, .string s, .string t] 64)
      subst hA
      clear hc he hbw
      go_upto_region 9 with fail
      generalize wr.alloc (.cells #[.int .i64 q, .int .i64 g, .string s, .string t] 64) = wa at hal hra ⊢
      have y1 : wa.cell? ⟨wr.heap.size, 1, none⟩ = some (.int .i64 g) := cell_of_row _ _ _ _ _ _ hra
      have HBA : Hid (Below w.heap.size w wa) := Lib.hid (HB.out.trans (hal.mono HB.out.size))
      clear hal hra c0 c1 c2 c3
      by_cases hbig : z < g
      · have dz : decide (z < g) = true := decide_eq_true hbig
        clear hwf hbig
        go_wp2
        go_ret
        exact ⟨HT.out, HBA.out⟩
      · have dz : decide (z < g) = false := decide_eq_false hbig
        have hz2 : z ≤ 1152921504606846976 := HZ.out
        have hzg : g ≤ z := by omega
        have HZ2 : Hid (z - g ≤ most) := Lib.hid (by have := HZ.out; omega)
        have HZ3 : Hid (0 ≤ z - g) := Lib.hid (by omega)
        clear hbig
        go_wp2
        go_roundw
        case rel => exact ⟨j + 1, z - g, by omega, by go_num, rfl, HZ3.out, HZ2, HBA.out⟩
        case measure => simp [intOf]; omega
    · obtain rfl : j = nk := by omega
      clear hbw
      go_wp2
      go_ret
      exact ⟨HRF.out, HB.out⟩
end Go.Proofs.Ytffdiiolgflbkaa

/- next: the tables whose turn it is. -/
namespace Go.Proofs.Ytffdiiolgflbkaa
open Go.RowKit Go.Maps
open VS
attribute [local go_sem ↓] Go.wp_at_zero Go.wp_at_succ

theorem cf_enter {P : Program} {f : FuncId} {fn : Func} (hf : P.funcs[f]? = some fn) (hname : (fn.name == "runtime.NumGoroutine") = false) (hb : fn.body.isSome = true) (args : Array Value) (w : World) : (callFunc f args).run P w = .ok (.enter f args) w := by
  have h1 : fn.name ≠ "runtime.NumGoroutine" := by simpa using hname
  obtain ⟨c, hc⟩ := Option.isSome_iff_exists.1 hb
  simp [callFunc, hf, h1, hc]

/-- 'l[a:b:b]' of tables -/
theorem metas_cut (W : World) (q f n c a b : Nat) (h1 : a < b) (h2 : b ≤ c) : (Instr.slice 23 (.slice (some ⟨q, f, none⟩) n c) (some (.int .i64 (a : Int))) (some (.int .i64 (b : Int))) (some (.int .i64 (b : Int)))).run Try.prog W = .ok (.slice (some ⟨q, f + a * 4, none⟩) (b - a) (b - a)) W := by
  have hs : ∀ w, (sizeOf (Try.prog.elem 23)).run Try.prog w = .ok 4 w := fun w => by kernel_rfl
  rw [run_slice_lhm W 23 (some ⟨q, f, none⟩) n c (by kernel_rfl) .i64 .i64 .i64 (a : Int) (b : Int) (b : Int) (by omega) (by omega) (by omega) (by omega), hs]
  simp only [Result.andThen, sliced, Int.toNat_natCast]
  rw [if_neg (by omega), Option.map_some, add_off]

set_option maxRecDepth 100000 in
theorem behind_any (q g : Int) (s t cur : ByteArray) (bx : Nat) (w : World) (hc : w.cell? ⟨bx, 0, none⟩ = some (.string cur)) (hbx : bx < w.heap.size) :
    Calls Try.prog 93 #[.agg #[.int .i64 q, .int .i64 g, .string s, .string t], .pointer (some ⟨bx, 0, none⟩)] w fun r w' => (∃ b, r = .returned (.bool b)) ∧ Below w.heap.size w w' := by
  have hal := (Below.refl w.heap.size w).alloc (Nat.le_refl _) (.cells #[.int .i64 q, .int .i64 g, .string s, .string t] 64)
  have hc2 : (w.alloc (.cells #[.int .i64 q, .int .i64 g, .string s, .string t] 64)).cell? ⟨bx, 0, none⟩ = some (.string cur) := (hal.cell (p := ⟨bx, 0, none⟩) hbx).trans hc
  have HAL := Lib.hid hal
  clear hal hbx
  go_enter Try.func93, Try.ntmps93
  go_wp2
  go_ret
  exact ⟨⟨_, rfl⟩, HAL.out⟩

set_option maxRecDepth 100000 in
set_option maxHeartbeats 2000000 in
theorem index4_any (A : Option Addr) (n c : Nat) (l : List M) (cur : ByteArray) (bx : Nat) (w : World) (hin : In4 w A l) (hn : l.length = n) (hnb : n ≤ 10000000) (hc : w.cell? ⟨bx, 0, none⟩ = some (.string cur)) (hbx : bx < w.heap.size) :
    Calls Try.prog 94 #[.slice A n c, .func (.func 93) #[] #[.pointer (some ⟨bx, 0, none⟩)]] w fun r w' => (∃ i : Int, r = .returned (.int .i64 i) ∧ -1 ≤ i ∧ (i < n ∨ i = -1)) ∧ Below w.heap.size w w' := by
  have HIN := Lib.hid hin
  have HN := Lib.hid hn
  have HCF := Lib.hid (fun W q => cf_enter Try.func93 (by kernel_rfl) (by kernel_rfl) (#[q] ++ #[.pointer (some ⟨bx, 0, none⟩)]) W)
  have HCC := Lib.hid (fun W (hW : Below w.heap.size w W) q g s t => behind_any q g s t cur bx W ((hW.cell (p := ⟨bx, 0, none⟩) hbx).trans hc) (Nat.lt_of_lt_of_le hbx hW.size))
  clear hin hn hc
  go_enter Try.func94, Try.ntmps94
  go_wp2_with fail
  go_loopw [8] (fun i wr => ∃ j : Nat, j ≤ n ∧ i = .int .i64 j ∧ Below w.heap.size w wr) (fun i _ => n - (intOf i).toNat)
  case atStart => exact ⟨0, by omega, rfl, Below.refl _ _⟩
  case round =>
    obtain ⟨j, hj, rfl, hB⟩ := hrel
    have HB := Lib.hid hB
    by_cases hlt : j < n
    · have hjl : j < l.length := by rw [HN.out]; exact hlt
      obtain ⟨b, off, hA, hbl, hc⟩ := (HIN.out.below hB).at_ (by omega)
      obtain ⟨c0, c1, c2, c3⟩ := hc j hjl
      obtain ⟨e, he⟩ : ∃ e, l[j] = e := ⟨_, rfl⟩
      rw [he] at c0 c1 c2 c3
      obtain ⟨lv, q, g, s, t⟩ := e
      simp only at c0 c1 c2 c3
      have hcf := HCF.out
      have HC1 := Lib.hid (HCC.out wr hB q g s t)
      subst hA
      clear hc he hB
      go_wp2_with fail
      refine HC1.out.mono ?_
      rintro r w1 ⟨⟨bb, rfl⟩, hb1⟩
      have HB1 : Hid (Below w.heap.size w w1) := Lib.hid (HB.out.trans (hb1.mono HB.out.size))
      clear hb1 hcf
      cases bb with
      | true =>
        have HJ : Hid ((j : Int) < (n : Int)) := Lib.hid (by omega)
        go_wp2
        go_ret
        exact ⟨⟨_, rfl, by omega, .inl HJ.out⟩, HB1.out⟩
      | false =>
        go_wp2
        go_roundw
        case rel => exact ⟨j + 1, by omega, by go_num, HB1.out⟩
        case measure => simp [intOf]; omega
    · obtain rfl : j = n := by omega
      clear hB
      go_wp2
      go_ret
      exact ⟨⟨-1, rfl, by omega, .inr rfl⟩, HB.out⟩

/-- what next answers -/
def NextOut (L : List M) (k : Nat) (B : Nat) (r : Ending) (w' : World) : Prop := ∃ c off fr, r = .returned (.slice (some ⟨c, off, none⟩) fr.length fr.length) ∧ In4 w' (some ⟨c, off, none⟩) fr ∧ c < B ∧ fr ≠ [] ∧ (∀ m ∈ fr, m ∈ lev k L) ∧ fr.Nodup ∧ (k = 0 → fr = lev 0 L) ∧ fr.length ≤ (lev k L).length

set_option maxRecDepth 100000 in
set_option maxHeartbeats 4000000 in
theorem next_any (A : Nat → Option Addr) (N C : Nat → Nat) (L : List M) (lg nx sq : Int) (k : Nat) (cur : ByteArray) (w : World) (h : VerIn w A N C L) (hk : k < 4) (hL : L.length ≤ 10000000) (hne : lev k L ≠ []) (hnd : L.Nodup) :
    Calls Try.prog 68 #[.agg #[.slice (A 0) (N 0) (C 0), .slice (A 1) (N 1) (C 1), .slice (A 2) (N 2) (C 2), .slice (A 3) (N 3) (C 3), .int .i64 lg, .int .i64 nx, .int .i64 sq], .int .i64 k, .string cur] w fun r w' => NextOut L k w.heap.size r w' ∧ Below w.heap.size w w' := by
  have hlen := h.len k hk
  have hcap := h.cap k hk
  have hin := h.at_ k hk
  have hpos : 0 < (lev k L).length := List.length_pos_iff.2 hne
  obtain ⟨c, off, hA, hbl, -⟩ := hin.at_ hpos
  have HIN := Lib.hid hin
  have HCL : Hid (∀ (s : World), s.cell? ⟨w.heap.size, 0, none⟩ = some (.slice (A 0) (N 0) (C 0)) → s.cell? ⟨w.heap.size, 1, none⟩ = some (.slice (A 1) (N 1) (C 1)) → s.cell? ⟨w.heap.size, 2, none⟩ = some (.slice (A 2) (N 2) (C 2)) → s.cell? ⟨w.heap.size, 3, none⟩ = some (.slice (A 3) (N 3) (C 3)) → s.cell? ⟨w.heap.size, k, none⟩ = some (.slice (A k) (N k) (C k))) := Lib.hid fun s h0 h1 h2 h3 => by
    rcases (by omega : k = 0 ∨ k = 1 ∨ k = 2 ∨ k = 3) with rfl | rfl | rfl | rfl <;> assumption
  obtain ⟨l, hl⟩ : ∃ l, lev k L = l := ⟨_, rfl⟩
  have hll : l.length ≤ 10000000 := by rw [← hl]; exact Nat.le_trans (lev_len _ _) hL
  have HLV : Hid (lev k L = l) := Lib.hid hl
  have HND : Hid l.Nodup := Lib.hid (by rw [← hl]; exact hnd.filter _)
  rw [hl] at HIN hlen hpos
  rw [hA] at HIN
  obtain ⟨nk, hnk⟩ : ∃ x, N k = x := ⟨_, rfl⟩
  obtain ⟨ck, hck⟩ : ∃ x, C k = x := ⟨_, rfl⟩
  rw [hnk] at hlen hcap
  rw [hck] at hcap
  have HNK : Hid (N k = nk ∧ C k = ck ∧ A k = some ⟨c, off, none⟩) := Lib.hid ⟨hnk, hck, hA⟩
  have HLEN := Lib.hid hlen
  have g0 : (0 : Int) ≤ (k : Int) := by omega
  have g1 : (k : Int) < 4 := by omega
  have hkc : decide (k < 4) = true := decide_eq_true hk
  have hnb : nk ≤ 10000000 := by omega
  have hnp : 0 < nk := by omega
  have HK := Lib.hid hk
  have HCAP := Lib.hid hcap
  obtain ⟨S0, hS0⟩ : ∃ S0, Value.slice (A 0) (N 0) (C 0) = S0 := ⟨_, rfl⟩
  obtain ⟨S1, hS1⟩ : ∃ S1, Value.slice (A 1) (N 1) (C 1) = S1 := ⟨_, rfl⟩
  obtain ⟨S2, hS2⟩ : ∃ S2, Value.slice (A 2) (N 2) (C 2) = S2 := ⟨_, rfl⟩
  obtain ⟨S3, hS3⟩ : ∃ S3, Value.slice (A 3) (N 3) (C 3) = S3 := ⟨_, rfl⟩
  rw [hS0, hS1, hS2, hS3] at HCL
  rw [hS0, hS1, hS2, hS3]
  have hcb : c < w.heap.size := hbl
  have HCB := Lib.hid hcb
  have hal : Below w.heap.size w ((w.alloc (.cells #[S0, S1, S2, S3, .int .i64 lg, .int .i64 nx, .int .i64 sq] 26)).alloc (.cells #[.string cur] 9)) := ((Below.refl _ w).alloc (Nat.le_refl _) _).alloc (by simp) _
  have hrp : ((w.alloc (.cells #[S0, S1, S2, S3, .int .i64 lg, .int .i64 nx, .int .i64 sq] 26)).alloc (.cells #[.string cur] 9)).heap[w.heap.size]? = some (.cells #[S0, S1, S2, S3, .int .i64 lg, .int .i64 nx, .int .i64 sq] 26 (0, 0)) := (Below.heap_alloc _ _ _ (by simp)).trans (heap_alloc_new w _)
  have hrc : ((w.alloc (.cells #[S0, S1, S2, S3, .int .i64 lg, .int .i64 nx, .int .i64 sq] 26)).alloc (.cells #[.string cur] 9)).heap[w.heap.size + 1]? = some (.cells #[.string cur] 9 (0, 0)) := by
    have := heap_alloc_new (w.alloc (.cells #[S0, S1, S2, S3, .int .i64 lg, .int .i64 nx, .int .i64 sq] 26)) (.cells #[.string cur] 9)
    simpa using this
  have HIN1 := Lib.hid (HIN.out.below hal)
  have qk := HCL.out _ (cell_of_row _ _ _ _ _ _ hrp) (cell_of_row _ _ _ _ _ _ hrp) (cell_of_row _ _ _ _ _ _ hrp) (cell_of_row _ _ _ _ _ _ hrp)
  rw [HNK.out.1, HNK.out.2.1, HNK.out.2.2] at qk
  have HAL := Lib.hid hal
  have HRC := Lib.hid hrc
  clear hS0 hS1 hS2 hS3 h hL hlen hl hll hnk hck hne hnd hin hA hbl hcap hpos hcb hal hrp hrc
  by_cases hk0 : k = 0
  · have dk : decide ((0 : Int) < (k : Int)) = false := decide_eq_false (by omega)
    have dk' : decide (0 < k) = false := decide_eq_false (by omega)
    have hcut : ∀ W, (Instr.slice 23 (.slice (some ⟨c, off, none⟩) nk ck) (some (.int .i64 0)) (some (.int .i64 (nk : Int))) (some (.int .i64 (nk : Int)))).run Try.prog W = .ok (.slice (some ⟨c, off, none⟩) nk nk) W := fun W => by
      have := metas_cut W c off nk ck 0 nk hnp HCAP.out
      simpa using this
    have HOUT : Hid (∀ W, In4 W (some ⟨c, off, none⟩) l → NextOut L k w.heap.size (.returned (.slice (some ⟨c, off, none⟩) nk nk)) W) := Lib.hid fun W hW => ⟨c, off, l, by rw [HLEN.out], hW, HCB.out, by intro e; have := HLEN.out; rw [e] at this; simp at this; omega, fun m hm => by rw [HLV.out]; exact hm, HND.out, fun _ => by rw [← HLV.out, hk0]; rfl, by rw [HLV.out]; exact Nat.le_refl _⟩
    clear hk0
    go_enter Try.func68, Try.ntmps68
    go_wp2
    go_ret
    exact ⟨HOUT.out _ HIN1.out, HAL.out⟩
  · have dk : decide ((0 : Int) < (k : Int)) = true := decide_eq_true (by omega)
    have dk' : decide (0 < k) = true := decide_eq_true (by omega)
    have HK0 := Lib.hid hk0
    clear hk0
    go_enter Try.func68, Try.ntmps68
    go_wp2_with fail
    generalize ((w.alloc (.cells #[S0, S1, S2, S3, .int .i64 lg, .int .i64 nx, .int .i64 sq] 26)).alloc (.cells #[.string cur] 9)) = w1 at HIN1 qk HAL HRC ⊢
    refine (index4_any (some ⟨c, off, none⟩) nk ck l cur (w.heap.size + 1) w1 HIN1.out HLEN.out.symm hnb (cell_of_row _ _ _ _ _ _ HRC.out) (Array.getElem?_eq_some_iff.1 HRC.out).1).mono ?_
    rintro r w2 ⟨⟨i, rfl, hi1, hi2⟩, hb2⟩
    obtain ⟨st, hst⟩ : ∃ st : Nat, max i 0 = st := ⟨(max i 0).toNat, by omega⟩
    have hstn : st < nk := by omega
    have HIN2 := Lib.hid (HIN1.out.below hb2)
    have HB2 : Hid (Below w.heap.size w w2) := Lib.hid (HAL.out.trans (hb2.mono HAL.out.size))
    have HST := Lib.hid hst
    have hcut : ∀ W, (Instr.slice 23 (.slice (some ⟨c, off, none⟩) nk ck) (some (.int .i64 (st : Int))) (some (.int .i64 ((st : Int) + 1))) (some (.int .i64 ((st : Int) + 1)))).run Try.prog W = .ok (.slice (some ⟨c, off + st * 4, none⟩) 1 1) W := fun W => by
      have := metas_cut W c off nk ck st (st + 1) (by omega) (by have := HCAP.out; omega)
      rw [show st + 1 - st = 1 by omega] at this
      exact this
    have HOUT : Hid (∀ W, In4 W (some ⟨c, off, none⟩) l → NextOut L k w.heap.size (.returned (.slice (some ⟨c, off + st * 4, none⟩) 1 1)) W) := Lib.hid fun W hW => by
      have hsl : st < l.length := by rw [← HLEN.out]; exact hstn
      refine ⟨c, off + st * 4, [l[st]], rfl, ⟨fun e he => ?_, fun _ => ?_⟩, HCB.out, by simp, fun m hm => ?_, by simp, (fun h => absurd h HK0.out), by rw [HLV.out]; simp; omega⟩
      · rw [List.mem_singleton.1 he]; exact hW.wf _ (List.getElem_mem hsl)
      · obtain ⟨c', off', e, hlt, hc⟩ := hW.at_ (by omega)
        cases e
        refine ⟨c, off + st * 4, rfl, hlt, fun j hj => ?_⟩
        have hj0 : j = 0 := by simpa using hj
        subst hj0
        simpa using hc st hsl
      · rw [List.mem_singleton.1 hm, HLV.out]; exact List.getElem_mem hsl
    clear hst hi1 hi2 hb2 qk
    go_upto_region 6 with fail
    simp only [HST.out]
    go_wp2
    go_ret
    exact ⟨HOUT.out _ HIN2.out, HB2.out⟩
end Go.Proofs.Ytffdiiolgflbkaa

