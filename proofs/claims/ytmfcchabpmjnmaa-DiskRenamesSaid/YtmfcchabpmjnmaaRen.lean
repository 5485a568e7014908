/- DiskRenames: behind a loss of power there is the elder file or the newer one, whole. For every two texts, every two numbers, every list of numbers. -/
import Derived.Test.YtmfcchabpmjnmaaDkT
import Derived.Test.YtmfcchabpmjnmaaDmE
import Derived.Outline
namespace Go.Proofs.Ytmfcchabpmjnmaa
open Go.ChangeShapes Go.WideShapes Go.ChangeAt Go.RowKit Go.Maps
namespace lawRen
open DM

/-- the world with the array of two numbers in it -/
structure Arr (w W : World) (c n : Int) (A : Option Addr) (l : List Int) : Prop where
  below : Below w.heap.size w W
  at0 : W.cell? ⟨w.heap.size, 0, none⟩ = some (.int .i64 c)
  at1 : W.cell? ⟨w.heap.size, 1, none⟩ = some (.int .i64 n)
  lt : w.heap.size < W.heap.size
  nums : NumsAt W A l

theorem arr_of (w : World) (c n : Int) (A : Option Addr) (l : List Int) (h : NumsAt w A l) : Arr w (w.alloc (.cells #[.int .i64 c, .int .i64 n] 44)) c n A l := by
  have hb := (Below.refl w.heap.size w).alloc (Nat.le_refl _) (.cells #[.int .i64 c, .int .i64 n] 44)
  refine ⟨hb, ?_, ?_, by simp, fun h0 => ?_⟩
  · rw [cell_of_row _ _ _ _ _ _ (heap_alloc_new w _)]; rfl
  · rw [cell_of_row _ _ _ _ _ _ (heap_alloc_new w _)]; rfl
  · obtain ⟨b, off, hA, hlt, hc⟩ := h h0
    exact ⟨b, off, hA, by simp; omega, fun j hj => (hb.cell (p := ⟨b, off + j, none⟩) hlt).trans (hc j hj)⟩

theorem encS_back (x : ByteArray) : Ending.returned (.tuple #[encS x.data.toList, .int .i64 0]) = .returned (.tuple #[.string x, .int .i64 0]) := by
  have : encS x.data.toList = .string x := by unfold encS; simp
  rw [this]

theorem extract_some (j : ByteArray) : ∃ x, j.extract 0 (min (j.size : Int) 500).toNat = x ∧ x.data.toList.length ≤ 1000 ∧ x.size ≤ 1000 := by
  refine ⟨_, rfl, ?_, ?_⟩
  · rw [size_list, ByteArray.size_extract]; omega
  · rw [ByteArray.size_extract]; omega

set_option maxRecDepth 100000 in
set_option maxHeartbeats 1000000 in
theorem walk (j k : ByteArray) (c n : Int) (A : Option Addr) (m cap : Nat) (l : List Int) (w : World) (hm : l.length = m) (hl : NumsAt w A l) (hlf : ∀ z ∈ l, fits z) (hl8 : m * 8 ≤ reachBytes) (hj : j.size ≤ 140737488351232) (hk : k.size ≤ 140737488351232) (hn : fits n) :
    Calls Try.prog 5 #[.string j, .string k, .agg #[.int .i64 c, .int .i64 n], .slice A m cap] w fun e w' => e = .returned (.bool true) ∧ Below w.heap.size w w' := by
  have HA := Lib.hid (arr_of w c n A l hl)
  subst hm
  go_enter Try.func5, Try.ntmps5
  go_wp2_with fail
  obtain ⟨W, hW⟩ : ∃ W, w.alloc (.cells #[.int .i64 c, .int .i64 n] 44) = W := ⟨_, rfl⟩
  rw [hW] at HA ⊢
  clear hW
  refine (live_new 1099511627776 W W W.heap.size (Moves.refl _ _) (Nat.le_refl _) (by unfold fits; omega) 0 l.length (by unfold reachBytes at hl8; omega)).mono ?_
  rintro e w1 ⟨rfl, hl⟩
  have HL := Lib.hid hl
  clear hl
  go_wp2_with fail
  go_region
  have HL0 := Lib.hid (Live.still HL.out (Below.refl _ _).drew)
  obtain ⟨x, hx, hx1, hx2⟩ := extract_some j
  obtain ⟨y, hy, hy1, hy2⟩ := extract_some k
  simp only [hx, hy]
  clear HL hx hy
  go_wp2_with fail
  refine (wakes_any _).mono ?_
  rintro e w2 ⟨rfl, hB⟩
  have HL2 := Lib.hid (HL0.out.still hB)
  clear hB HL0
  go_wp2_with fail
  refine (HL2.out.create (by omega) ⟨#[97]⟩ (by decide) rn_start1).mono ?_
  rintro e w3 ⟨rfl, hl⟩
  have HL3 := Lib.hid hl
  clear hl
  go_wp2_with fail
  refine (HL3.out.append (by omega) ⟨#[97]⟩ x (by decide) (rn_start2 _ hx1)).mono ?_
  rintro e w4 ⟨rfl, hl⟩
  have HL4 := Lib.hid hl
  clear hl
  go_wp2_with fail
  refine (HL4.out.sync (by omega) ⟨#[97]⟩ (by decide) (rn_start3 _)).mono ?_
  rintro e w5 ⟨rfl, hl⟩
  have HL5 := Lib.hid hl
  clear hl
  go_wp2_with fail
  refine (HL5.out.syncDir (by omega) (rn_start4 _)).mono ?_
  rintro e w6 ⟨rfl, hl⟩
  have HL6 := Lib.hid hl
  clear hl
  have c0 : w6.cell? ⟨w.heap.size, 0, none⟩ = some (.int .i64 c) := (HL6.out.moves.below.cell (p := ⟨w.heap.size, 0, none⟩) HA.out.lt).trans HA.out.at0
  have c1 : w6.cell? ⟨w.heap.size, 1, none⟩ = some (.int .i64 n) := (HL6.out.moves.below.cell (p := ⟨w.heap.size, 1, none⟩) HA.out.lt).trans HA.out.at1
  clear HL2 HL3 HL4 HL5
  go_wp2_with fail
  have HST := Lib.hid HA.out.nums.stays
  have hxx : (x.toList == x.toList) = true := by simp
  have hyy : (y.toList == y.toList) = true := by simp
  obtain ⟨q, hq, hq1, hq6⟩ : ∃ q : Nat, 1 + max 0 c % 6 = (q : Int) ∧ 1 ≤ q ∧ q ≤ 6 := ⟨(1 + max 0 c % 6).toNat, by omega, by omega, by omega⟩
  rw [hq]
  refine (HL6.out.cut (q : Int) n (by unfold fits; omega) hn A cap l (Nat.le_refl _) (by unfold reachBytes at hl8; omega) (HST.out.moved HL6.out.moves) hlf).mono ?_
  rintro e w7 ⟨rfl, hl⟩
  rw [rn_cut _ _ hq1] at hl
  have HL7 := Lib.hid hl
  clear hl HL6 c0 c1 hq
  go_wp2_with fail
  refine (HL7.out.create (by omega) ⟨#[116]⟩ (by decide) (rn_create x.data.toList (q) n l)).mono ?_
  rintro e w8 ⟨he, hl⟩
  have HL8 := Lib.hid hl
  clear hl HL7
  by_cases q0 : q = 1
  · simp only [if_pos q0] at he HL8
    subst he
    have c8 : w8.cell? ⟨w.heap.size, 1, none⟩ = some (.int .i64 n) := (HL8.out.moves.below.cell (p := ⟨w.heap.size, 1, none⟩) HA.out.lt).trans HA.out.at1
    go_wp2_with fail
    refine (HL8.out.crash n hn A cap l (Nat.le_refl _) (HST.out.moved HL8.out.moves) hlf).mono ?_
    rintro e u1 ⟨rfl, hl⟩
    have HU := Lib.hid hl
    clear hl
    go_wp2_with fail
    obtain ⟨t, ht, hp⟩ := holds_read (holds_dark (holds2 x.data.toList y.data.toList _ n l) n l) n l
    refine (HU.out.read ⟨#[97]⟩ (by decide) ht).mono ?_
    rintro e u2 ⟨he, hl⟩
    have HB : Hid (Below w.heap.size w u2) := Lib.hid (HA.out.below.trans (hl.moves.below.mono (Nat.le_of_lt HA.out.lt)))
    clear hl ht
    rcases hp with rfl | rfl
    · have he' : e = .returned (.tuple #[.string x, .int .i64 0]) := by rw [he]; exact encS_back x
      clear he
      subst he'
      cases hxy : (x.toList == y.toList)
      · go_wp2
        go_ret
        exact ⟨rfl, HB.out⟩
      · go_wp2
        go_ret
        exact ⟨rfl, HB.out⟩
    · have he' : e = .returned (.tuple #[.string y, .int .i64 0]) := by rw [he]; exact encS_back y
      clear he
      subst he'
      go_wp2
      go_ret
      exact ⟨rfl, HB.out⟩
  · simp only [if_neg q0] at he HL8
    subst he
    go_wp2_with fail
    refine (HL8.out.append (by omega) ⟨#[116]⟩ y (by decide) (rn_append x.data.toList y.data.toList (q - 1) n l hx1 hy1)).mono ?_
    rintro e w9 ⟨he, hl⟩
    have HL9 := Lib.hid hl
    clear hl HL8
    by_cases q1 : q - 1 = 1
    · simp only [if_pos q1] at he HL9
      subst he
      have c9 : w9.cell? ⟨w.heap.size, 1, none⟩ = some (.int .i64 n) := (HL9.out.moves.below.cell (p := ⟨w.heap.size, 1, none⟩) HA.out.lt).trans HA.out.at1
      go_wp2_with fail
      refine (HL9.out.crash n hn A cap l (Nat.le_refl _) (HST.out.moved HL9.out.moves) hlf).mono ?_
      rintro e u1 ⟨rfl, hl⟩
      have HU := Lib.hid hl
      clear hl
      go_wp2_with fail
      obtain ⟨t, ht, hp⟩ := holds_read (holds_dark (holds3 x.data.toList y.data.toList _ n l) n l) n l
      refine (HU.out.read ⟨#[97]⟩ (by decide) ht).mono ?_
      rintro e u2 ⟨he, hl⟩
      have HB : Hid (Below w.heap.size w u2) := Lib.hid (HA.out.below.trans (hl.moves.below.mono (Nat.le_of_lt HA.out.lt)))
      clear hl ht
      rcases hp with rfl | rfl
      · have he' : e = .returned (.tuple #[.string x, .int .i64 0]) := by rw [he]; exact encS_back x
        clear he
        subst he'
        cases hxy : (x.toList == y.toList)
        · go_wp2
          go_ret
          exact ⟨rfl, HB.out⟩
        · go_wp2
          go_ret
          exact ⟨rfl, HB.out⟩
      · have he' : e = .returned (.tuple #[.string y, .int .i64 0]) := by rw [he]; exact encS_back y
        clear he
        subst he'
        go_wp2
        go_ret
        exact ⟨rfl, HB.out⟩
    · simp only [if_neg q1] at he HL9
      subst he
      go_wp2_with fail
      refine (HL9.out.sync (by omega) ⟨#[116]⟩ (by decide) (rn_sync x.data.toList y.data.toList (q - 1 - 1) n l)).mono ?_
      rintro e w10 ⟨he, hl⟩
      have HL10 := Lib.hid hl
      clear hl HL9
      by_cases q2 : q - 1 - 1 = 1
      · simp only [if_pos q2] at he HL10
        subst he
        have c10 : w10.cell? ⟨w.heap.size, 1, none⟩ = some (.int .i64 n) := (HL10.out.moves.below.cell (p := ⟨w.heap.size, 1, none⟩) HA.out.lt).trans HA.out.at1
        go_wp2_with fail
        refine (HL10.out.crash n hn A cap l (Nat.le_refl _) (HST.out.moved HL10.out.moves) hlf).mono ?_
        rintro e u1 ⟨rfl, hl⟩
        have HU := Lib.hid hl
        clear hl
        go_wp2_with fail
        obtain ⟨t, ht, hp⟩ := holds_read (holds_dark (holds3 x.data.toList y.data.toList _ n l) n l) n l
        refine (HU.out.read ⟨#[97]⟩ (by decide) ht).mono ?_
        rintro e u2 ⟨he, hl⟩
        have HB : Hid (Below w.heap.size w u2) := Lib.hid (HA.out.below.trans (hl.moves.below.mono (Nat.le_of_lt HA.out.lt)))
        clear hl ht
        rcases hp with rfl | rfl
        · have he' : e = .returned (.tuple #[.string x, .int .i64 0]) := by rw [he]; exact encS_back x
          clear he
          subst he'
          cases hxy : (x.toList == y.toList)
          · go_wp2
            go_ret
            exact ⟨rfl, HB.out⟩
          · go_wp2
            go_ret
            exact ⟨rfl, HB.out⟩
        · have he' : e = .returned (.tuple #[.string y, .int .i64 0]) := by rw [he]; exact encS_back y
          clear he
          subst he'
          go_wp2
          go_ret
          exact ⟨rfl, HB.out⟩
      · simp only [if_neg q2] at he HL10
        subst he
        go_wp2_with fail
        refine (HL10.out.rename (by omega) ⟨#[116]⟩ ⟨#[97]⟩ (by decide) (rn_rename x.data.toList y.data.toList (q - 1 - 1 - 1) n l)).mono ?_
        rintro e w11 ⟨he, hl⟩
        have HL11 := Lib.hid hl
        clear hl HL10
        by_cases q3 : q - 1 - 1 - 1 = 1
        · simp only [if_pos q3] at he HL11
          subst he
          have c11 : w11.cell? ⟨w.heap.size, 1, none⟩ = some (.int .i64 n) := (HL11.out.moves.below.cell (p := ⟨w.heap.size, 1, none⟩) HA.out.lt).trans HA.out.at1
          go_wp2_with fail
          refine (HL11.out.crash n hn A cap l (Nat.le_refl _) (HST.out.moved HL11.out.moves) hlf).mono ?_
          rintro e u1 ⟨rfl, hl⟩
          have HU := Lib.hid hl
          clear hl
          go_wp2_with fail
          obtain ⟨t, ht, hp⟩ := holds_read (holds_dark (holds5 x.data.toList y.data.toList _ n l) n l) n l
          refine (HU.out.read ⟨#[97]⟩ (by decide) ht).mono ?_
          rintro e u2 ⟨he, hl⟩
          have HB : Hid (Below w.heap.size w u2) := Lib.hid (HA.out.below.trans (hl.moves.below.mono (Nat.le_of_lt HA.out.lt)))
          clear hl ht
          rcases hp with rfl | rfl
          · have he' : e = .returned (.tuple #[.string x, .int .i64 0]) := by rw [he]; exact encS_back x
            clear he
            subst he'
            cases hxy : (x.toList == y.toList)
            · go_wp2
              go_ret
              exact ⟨rfl, HB.out⟩
            · go_wp2
              go_ret
              exact ⟨rfl, HB.out⟩
          · have he' : e = .returned (.tuple #[.string y, .int .i64 0]) := by rw [he]; exact encS_back y
            clear he
            subst he'
            go_wp2
            go_ret
            exact ⟨rfl, HB.out⟩
        · simp only [if_neg q3] at he HL11
          subst he
          go_wp2_with fail
          refine (HL11.out.syncDir (by omega) (rn_syncDir x.data.toList y.data.toList (q - 1 - 1 - 1 - 1) n l)).mono ?_
          rintro e w12 ⟨he, hl⟩
          have HL12 := Lib.hid hl
          clear hl HL11
          by_cases q4 : q - 1 - 1 - 1 - 1 = 1
          · simp only [if_pos q4] at he HL12
            subst he
            have c12 : w12.cell? ⟨w.heap.size, 1, none⟩ = some (.int .i64 n) := (HL12.out.moves.below.cell (p := ⟨w.heap.size, 1, none⟩) HA.out.lt).trans HA.out.at1
            go_wp2_with fail
            refine (HL12.out.crash n hn A cap l (Nat.le_refl _) (HST.out.moved HL12.out.moves) hlf).mono ?_
            rintro e u1 ⟨rfl, hl⟩
            have HU := Lib.hid hl
            clear hl
            go_wp2_with fail
            obtain ⟨t, ht, hp⟩ := holds_read (holds_dark (holds5 x.data.toList y.data.toList _ n l) n l) n l
            refine (HU.out.read ⟨#[97]⟩ (by decide) ht).mono ?_
            rintro e u2 ⟨he, hl⟩
            have HB : Hid (Below w.heap.size w u2) := Lib.hid (HA.out.below.trans (hl.moves.below.mono (Nat.le_of_lt HA.out.lt)))
            clear hl ht
            rcases hp with rfl | rfl
            · have he' : e = .returned (.tuple #[.string x, .int .i64 0]) := by rw [he]; exact encS_back x
              clear he
              subst he'
              cases hxy : (x.toList == y.toList)
              · go_wp2
                go_ret
                exact ⟨rfl, HB.out⟩
              · go_wp2
                go_ret
                exact ⟨rfl, HB.out⟩
            · have he' : e = .returned (.tuple #[.string y, .int .i64 0]) := by rw [he]; exact encS_back y
              clear he
              subst he'
              go_wp2
              go_ret
              exact ⟨rfl, HB.out⟩
          · simp only [if_neg q4] at he HL12
            subst he
            have c12 : w12.cell? ⟨w.heap.size, 1, none⟩ = some (.int .i64 n) := (HL12.out.moves.below.cell (p := ⟨w.heap.size, 1, none⟩) HA.out.lt).trans HA.out.at1
            go_wp2_with fail
            refine (HL12.out.crash n hn A cap l (Nat.le_refl _) (HST.out.moved HL12.out.moves) hlf).mono ?_
            rintro e u1 ⟨rfl, hl⟩
            have HU := Lib.hid hl
            clear hl
            go_wp2_with fail
            obtain ⟨t, ht, hp⟩ := holds_read (holds6 x.data.toList y.data.toList _ n l) n l
            refine (HU.out.read ⟨#[97]⟩ (by decide) ht).mono ?_
            rintro e u2 ⟨he, hl⟩
            have HB : Hid (Below w.heap.size w u2) := Lib.hid (HA.out.below.trans (hl.moves.below.mono (Nat.le_of_lt HA.out.lt)))
            clear hl ht
            have hp' : t = y.data.toList := hp
            clear hp
            subst hp'
            have he' : e = .returned (.tuple #[.string y, .int .i64 0]) := by rw [he]; exact encS_back y
            clear he
            subst he'
            go_wp2
            go_ret
            exact ⟨rfl, HB.out⟩

set_option maxRecDepth 100000 in
set_option maxHeartbeats 1000000 in
theorem contract (H : Type) (enc : TypeId × Value → H) (W : World) (base : Nat) (args : Array Value) (ds gs : List (DataW H)) (before : List MemPlace)
    (hval : ∀ (j : Nat) t v, Try.f5.params[j]? = some t → args[j]? = some v → Value.okWide Try.prog W .any base t v)
    (hW : DataW.Whole enc Try.prog Try.f5.params.toList Rows.diskRenamesSpec.vars false W args.toList ds gs before)
    (hz : (DataW.weightsEach Try.prog Try.f5.params.toList (ds ++ gs)).all (· ≤ reachBytes) = true) :
    Calls Try.prog 5 args W fun e W' => ∃ v, e = .returned v ∧ Rows.diskRenamesSpec.post enc Try.prog Try.f5 false true false false W args v W' := by
  have hW' := hW
  obtain ⟨p, q, hA0, hV, rfl, hfz, hnd⟩ := hW
  have hA : DataW.TrodAll enc Try.prog W 0 (fun _ => true) true Try.f5.params.toList args.toList ds p := hA0
  rw [Try.params5] at hA hval hz
  obtain ⟨v0, vs0, d0, ds0, p0, q0, hargs, rfl, rfl, h0, r0⟩ := trodAll_cons hA
  obtain ⟨v1, vs1, d1, ds1, p1, q1, rfl, rfl, rfl, h1, r1⟩ := trodAll_cons r0
  obtain ⟨v2, vs2, d2, ds2, p2, q2, rfl, rfl, rfl, h2, r2⟩ := trodAll_cons r1
  obtain ⟨v3, vs3, d3, ds3, p3, q3, rfl, rfl, rfl, h3, r3⟩ := trodAll_cons r2
  obtain ⟨rfl, rfl, rfl⟩ := trodAll_nil r3
  obtain rfl : args = #[v0, v1, v2, v3] := by cases args; simp_all
  obtain ⟨rfl, rfl⟩ := trodVars_none hV
  obtain ⟨elder, rfl, rfl, rfl, hmax0⟩ := Go.ChangeMaps.open_string Try.underlying9 (hval 0 9 v0 rfl rfl) h0
  have helder : elder.size ≤ 140737488351232 := by
    have h := sized_string hz (j := 0) rfl rfl
    have hl : elder.data.toList.length = elder.size := by simp
    unfold reachBytes at h
    omega
  obtain ⟨newer, rfl, rfl, rfl, hmax1⟩ := Go.ChangeMaps.open_string Try.underlying9 (hval 1 9 v1 rfl rfl) h1
  have hnewer : newer.size ≤ 140737488351232 := by
    have h := sized_string hz (j := 1) rfl rfl
    have hl : newer.data.toList.length = newer.size := by simp
    unfold reachBytes at h
    omega
  obtain ⟨cut0, cut1, rfl, rfl, hfcut0, hfcut1⟩ := open_ints2 Try.underlying44 Try.underlying3 (by kernel_rfl) (by kernel_rfl) (hval 2 44 v2 rfl rfl) h2
  obtain ⟨bytesA, bytesN, bytesC, bytes, rfl, hlenbytes, hinbytes, hfitbytes, hbbytes⟩ := open_nums Try.underlying29 Try.underlying3 (by kernel_rfl) (by kernel_rfl) (hval 3 29 v3 rfl rfl) h3 (nums_sized hz (j := 3) rfl rfl)
  refine (walk elder newer cut0 cut1 bytesA bytesN bytesC bytes W hlenbytes hinbytes hfitbytes hbbytes helder hnewer hfcut1).mono fun e W' ⟨he, hB⟩ => ?_
  subst he
  exact ⟨_, rfl, law_post Try.laidOut (by kernel_rfl) rfl rfl Try.underlying4 hW' rfl hB⟩

set_option maxRecDepth 100000 in
theorem lifted (os : Os) (started : os.Started) (H : Type) (enc : TypeId × Value → H) :
    ReturnsInHanded {} Try.checked os 5 .any (Rows.diskRenamesSpec.pre6 enc Try.prog Try.f5 Rows.diskRenamesRow.domain false) (Rows.diskRenamesSpec.post enc Try.prog Try.f5 false true false false) := by
  refine returnsInHanded_of_change_sized (C := Try.checked) Try.own started (by kernel_rfl) Try.func5
    (ChangeSpec.witness6 (enc := enc) (C := Try.checked) false ⟨#[], #[.string ⟨#[]⟩, .string ⟨#[]⟩, .agg #[.int .i64 0, .int .i64 0], .slice none 0 0], []⟩ 8 (by kernel_rfl) (by kernel_rfl) (by kernel_rfl) (by kernel_rfl)) ?_
  intro W base args ds gs before hval hW _ hz _
  exact contract H enc W base args ds gs before hval hW hz

theorem proved : Rows.DiskRenamesSaid :=
  OpenClaim.holds_of_wide 5 Try.f5 rfl rfl rfl rfl rfl rfl rfl ⟨rfl, rfl, rfl, rfl, rfl⟩ rfl rfl rfl rfl rfl (by kernel_rfl) Try.func5 (by kernel_rfl)
    (of_decide_eq_true (by kernel_rfl)) (by unfold Func.isWrapper; first | (rw [if_pos (by decide +kernel)]; kernel_rfl) | (rw [if_neg (by decide +kernel)]; exact ⟨rfl, rfl⟩))
    (fun os started H enc _ => lifted os started H enc)
end lawRen
end Go.Proofs.Ytmfcchabpmjnmaa
