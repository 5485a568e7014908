/- DiskLasts: what is synced, bytes and names, is there behind a loss of power; of the rest a beginning. For every two texts, every number, every list of numbers. -/
import Derived.Test.YtmfcchabpmjnmaaDkU
import Derived.Test.YtmfcchabpmjnmaaDmF
import Derived.Outline
namespace Go.Proofs.Ytmfcchabpmjnmaa
open Go.ChangeShapes Go.WideShapes Go.ChangeAt Go.RowKit Go.Maps
namespace lawLas
open DM

theorem Live_list {B : Nat} {w0 w : World} {d : Nat} {s : St} {N M : Nat} (h : Live B w0 w d s N M) :
    Calls Try.prog 19 #[.pointer (some ⟨d, 0, none⟩)] w (fun e w' => ListOut w (s.names.map (·.1)) e w' ∧ Live B w0 w' d s N M) := by
  obtain ⟨g, hg⟩ := h.rep
  refine (list_any hg h.ok).mono fun e w' ho => ⟨ho, ?_⟩
  obtain ⟨v, _, _, hb⟩ := ho
  exact h.still hb

theorem extract_some (j : ByteArray) : ∃ x, j.extract 0 (min (j.size : Int) 1000).toNat = x ∧ x.data.toList.length ≤ 1000 ∧ x.size ≤ 1000 := by
  refine ⟨_, rfl, ?_, ?_⟩
  · rw [size_list, ByteArray.size_extract]; omega
  · rw [ByteArray.size_extract]; omega

set_option maxRecDepth 100000 in
set_option maxHeartbeats 1000000 in
theorem walk (j k : ByteArray) (n : Int) (A : Option Addr) (m cap : Nat) (l : List Int) (w : World) (hm : l.length = m) (hl : NumsAt w A l) (hlf : ∀ z ∈ l, fits z) (hl8 : m * 8 ≤ reachBytes) (hj : j.size ≤ 140737488351232) (hk : k.size ≤ 140737488351232) (hn : fits n) :
    Calls Try.prog 4 #[.string j, .string k, .int .i64 n, .slice A m cap] w fun e w' => e = .returned (.bool true) ∧ Below w.heap.size w w' := by
  subst hm
  have HST := Lib.hid hl.stays
  go_enter Try.func4, Try.ntmps4
  go_wp2_with fail
  refine (live_new 1099511627776 w w w.heap.size (Moves.refl _ _) (Nat.le_refl _) (by unfold fits; omega) 0 l.length (by unfold reachBytes at hl8; omega)).mono ?_
  rintro e w1 ⟨rfl, hl⟩
  have HL := Lib.hid hl
  clear hl
  go_wp2_with fail
  go_region
  have HL0 := Lib.hid (Live.still HL.out (Below.refl _ _).drew)
  obtain ⟨x, hx, hx1, hx2⟩ := extract_some j
  obtain ⟨y, hy, hy1, hy2⟩ := extract_some k
  simp only [hx, hy]
  clear HL hx hy
  go_wp2_with fail
  refine (wakes_any _).mono ?_
  rintro e w2 ⟨rfl, hB⟩
  have HL2 := Lib.hid (HL0.out.still hB)
  clear hB HL0
  go_wp2_with fail
  refine (HL2.out.create (by omega) ⟨#[97]⟩ (by decide) rn_start1).mono ?_
  rintro e w3 ⟨rfl, hl⟩
  have HL3 := Lib.hid hl
  clear hl HL2
  go_wp2_with fail
  refine (HL3.out.append (by omega) ⟨#[97]⟩ x (by decide) (rn_start2 _ hx1)).mono ?_
  rintro e w4 ⟨rfl, hl⟩
  have HL4 := Lib.hid hl
  clear hl HL3
  go_wp2_with fail
  refine (HL4.out.sync (by omega) ⟨#[97]⟩ (by decide) (rn_start3 _)).mono ?_
  rintro e w5 ⟨rfl, hl⟩
  have HL5 := Lib.hid hl
  clear hl HL4
  go_wp2_with fail
  refine (HL5.out.syncDir (by omega) (rn_start4 _)).mono ?_
  rintro e w6 ⟨rfl, hl⟩
  have HL6 := Lib.hid hl
  clear hl HL5
  go_wp2_with fail
  refine (HL6.out.append (by omega) ⟨#[97]⟩ y (by decide) (la_append _ _ hx1 hy1)).mono ?_
  rintro e w7 ⟨rfl, hl⟩
  have HL7 := Lib.hid hl
  clear hl HL6
  go_wp2_with fail
  refine (HL7.out.create (by omega) ⟨#[98]⟩ (by decide) (la_create _ _)).mono ?_
  rintro e w8 ⟨rfl, hl⟩
  have HL8 := Lib.hid hl
  clear hl HL7
  go_wp2_with fail
  refine (HL8.out.crash n hn A cap l (Nat.le_refl _) (HST.out.moved HL8.out.moves) hlf).mono ?_
  rintro e w9 ⟨rfl, hl⟩
  have HL9 := Lib.hid hl
  clear hl HL8
  go_wp2_with fail
  obtain ⟨q, hq1, hq2, hrd⟩ := la_read x.data.toList y.data.toList n l
  refine (HL9.out.read ⟨#[97]⟩ (by decide) hrd).mono ?_
  rintro e w10 ⟨he, hl⟩
  have HL10 := Lib.hid hl
  obtain ⟨z, hz, hzs⟩ : ∃ z : ByteArray, encS ((x.data.toList ++ y.data.toList).take q) = .string z ∧ z.data.toList = (x.data.toList ++ y.data.toList).take q := ⟨⟨((x.data.toList ++ y.data.toList).take q).toArray⟩, rfl, by simp⟩
  have hzl : z.size = q := by
    rw [← size_list, hzs, List.length_take, List.length_append]
    omega
  have hxl : x.data.toList.length = x.size := size_list x
  have hyl : y.data.toList.length = y.size := size_list y
  have s1 : x.size ≤ z.size := by omega
  have s2 : ¬ ((x.size : Int) + (y.size : Int) < (z.size : Int)) := by omega
  have hex : (x ++ y).extract 0 z.size = z := by
    apply str_ext
    rw [Lib.extract_data, List.drop_zero, Nat.sub_zero, hzl, hzs]
    simp
  have s4 : (z.size : Int) ≤ (x.size : Int) + (y.size : Int) := by omega
  have s3 : (z.toList == ((x ++ y).extract 0 z.size).toList) = true := by rw [hex]; simp
  have s5 : (x.size : Int) ≤ (z.size : Int) := by omega
  clear hex hzl hzs hxl hyl hq1 hq2
  have he' : e = .returned (.tuple #[.string z, .int .i64 0]) := by rw [he]; simp only [hz]
  clear hl HL9 he hrd hz
  subst he'
  go_wp2_with fail
  refine (Live_list HL10.out).mono ?_
  rintro e w11 ⟨⟨v, rfl, hown, -⟩, hl⟩
  have HB : Hid (Below w.heap.size w w11) := Lib.hid hl.moves.below
  rcases la_names x.data.toList y.data.toList n l with hnm | hnm
  · rw [hnm] at hown
    rcases hown.2 with ⟨h0, h1⟩ | ⟨g, c, cur, rfl, _⟩
    · cases h1
    have c0 : w11.cell? ⟨g, 0, none⟩ = some (.string ⟨#[97]⟩) := hown.cellAt 0 (by decide)
    clear hl hnm hown HL10
    go_wp2_with fail
    go_ret
    exact ⟨rfl, HB.out⟩
  · rw [hnm] at hown
    rcases hown.2 with ⟨h0, h1⟩ | ⟨g, c, cur, rfl, _⟩
    · cases h1
    have c0 : w11.cell? ⟨g, 0, none⟩ = some (.string ⟨#[97]⟩) := hown.cellAt 0 (by decide)
    have c1 : w11.cell? ⟨g, 1, none⟩ = some (.string ⟨#[98]⟩) := hown.cellAt 1 (by decide)
    clear hl hnm hown HL10
    go_wp2_with fail
    go_ret
    exact ⟨rfl, HB.out⟩

set_option maxRecDepth 100000 in
set_option maxHeartbeats 1000000 in
theorem contract (H : Type) (enc : TypeId × Value → H) (W : World) (base : Nat) (args : Array Value) (ds gs : List (DataW H)) (before : List MemPlace)
    (hval : ∀ (j : Nat) t v, Try.f4.params[j]? = some t → args[j]? = some v → Value.okWide Try.prog W .any base t v)
    (hW : DataW.Whole enc Try.prog Try.f4.params.toList Rows.diskLastsSpec.vars false W args.toList ds gs before)
    (hz : (DataW.weightsEach Try.prog Try.f4.params.toList (ds ++ gs)).all (· ≤ reachBytes) = true) :
    Calls Try.prog 4 args W fun e W' => ∃ v, e = .returned v ∧ Rows.diskLastsSpec.post enc Try.prog Try.f4 false true false false W args v W' := by
  have hW' := hW
  obtain ⟨p, q, hA0, hV, rfl, hfz, hnd⟩ := hW
  have hA : DataW.TrodAll enc Try.prog W 0 (fun _ => true) true Try.f4.params.toList args.toList ds p := hA0
  rw [Try.params4] at hA hval hz
  obtain ⟨v0, vs0, d0, ds0, p0, q0, hargs, rfl, rfl, h0, r0⟩ := trodAll_cons hA
  obtain ⟨v1, vs1, d1, ds1, p1, q1, rfl, rfl, rfl, h1, r1⟩ := trodAll_cons r0
  obtain ⟨v2, vs2, d2, ds2, p2, q2, rfl, rfl, rfl, h2, r2⟩ := trodAll_cons r1
  obtain ⟨v3, vs3, d3, ds3, p3, q3, rfl, rfl, rfl, h3, r3⟩ := trodAll_cons r2
  obtain ⟨rfl, rfl, rfl⟩ := trodAll_nil r3
  obtain rfl : args = #[v0, v1, v2, v3] := by cases args; simp_all
  obtain ⟨rfl, rfl⟩ := trodVars_none hV
  obtain ⟨first, rfl, rfl, rfl, hmax0⟩ := Go.ChangeMaps.open_string Try.underlying9 (hval 0 9 v0 rfl rfl) h0
  have hfirst : first.size ≤ 140737488351232 := by
    have h := sized_string hz (j := 0) rfl rfl
    have hl : first.data.toList.length = first.size := by simp
    unfold reachBytes at h
    omega
  obtain ⟨more, rfl, rfl, rfl, hmax1⟩ := Go.ChangeMaps.open_string Try.underlying9 (hval 1 9 v1 rfl rfl) h1
  have hmore : more.size ≤ 140737488351232 := by
    have h := sized_string hz (j := 1) rfl rfl
    have hl : more.data.toList.length = more.size := by simp
    unfold reachBytes at h
    omega
  obtain ⟨names, rfl, rfl, rfl, wnames⟩ := open_int Try.underlying3 (hval 2 3 v2 rfl rfl) h2
  have hnames : -9223372036854775808 ≤ names ∧ names ≤ 9223372036854775807 := by simpa [Lit.wf, IntKind.min, IntKind.max, IntKind.signed, IntKind.bits] using wnames
  obtain ⟨bytesA, bytesN, bytesC, bytes, rfl, hlenbytes, hinbytes, hfitbytes, hbbytes⟩ := open_nums Try.underlying29 Try.underlying3 (by kernel_rfl) (by kernel_rfl) (hval 3 29 v3 rfl rfl) h3 (nums_sized hz (j := 3) rfl rfl)
  refine (walk first more names bytesA bytesN bytesC bytes W hlenbytes hinbytes hfitbytes hbbytes hfirst hmore hnames).mono fun e W' ⟨he, hB⟩ => ?_
  subst he
  exact ⟨_, rfl, law_post Try.laidOut (by kernel_rfl) rfl rfl Try.underlying4 hW' rfl hB⟩

set_option maxRecDepth 100000 in
theorem lifted (os : Os) (started : os.Started) (H : Type) (enc : TypeId × Value → H) :
    ReturnsInHanded {} Try.checked os 4 .any (Rows.diskLastsSpec.pre6 enc Try.prog Try.f4 Rows.diskLastsRow.domain false) (Rows.diskLastsSpec.post enc Try.prog Try.f4 false true false false) := by
  refine returnsInHanded_of_change_sized (C := Try.checked) Try.own started (by kernel_rfl) Try.func4
    (ChangeSpec.witness6 (enc := enc) (C := Try.checked) false ⟨#[], #[.string ⟨#[]⟩, .string ⟨#[]⟩, .int .i64 0, .slice none 0 0], []⟩ 8 (by kernel_rfl) (by kernel_rfl) (by kernel_rfl) (by kernel_rfl)) ?_
  intro W base args ds gs before hval hW _ hz _
  exact contract H enc W base args ds gs before hval hW hz

theorem proved : Rows.DiskLastsSaid :=
  OpenClaim.holds_of_wide 4 Try.f4 rfl rfl rfl rfl rfl rfl rfl ⟨rfl, rfl, rfl, rfl, rfl⟩ rfl rfl rfl rfl rfl (by kernel_rfl) Try.func4 (by kernel_rfl)
    (of_decide_eq_true (by kernel_rfl)) (by unfold Func.isWrapper; first | (rw [if_pos (by decide +kernel)]; kernel_rfl) | (rw [if_neg (by decide +kernel)]; exact ⟨rfl, rfl⟩))
    (fun os started H enc _ => lifted os started H enc)
end lawLas
end Go.Proofs.Ytmfcchabpmjnmaa
