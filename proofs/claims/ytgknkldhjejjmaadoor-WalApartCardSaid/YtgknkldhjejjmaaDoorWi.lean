/- WalApart: what is done to one log makes no difference to another one. For every two lists of texts. Made by gen_wi.py. -/
import Derived.Test.YtgknkldhjejjmaaDoorWf
import Derived.Test.YtgknkldhjejjmaaDoorLd
import Derived.Test.YtgknkldhjejjmaaDoorLaw
import Derived.Deep.Onto
import Derived.Deep.RegionHeld3
import Derived.BigQuiet
namespace Go.Proofs.YtgknkldhjejjmaaDoor
open Go.ChangeShapes Go.WideShapes Go.ChangeAt Go.RowKit Go.Maps
open DM

namespace WL
/-- two logs on a disk -/
def two (F G : Bs) : St := ⟨1099511627776, [⟨F, F.length⟩, ⟨G, G.length⟩], [(K 1, 0), (K 2, 1)], [(K 1, 0), (K 2, 1)], [], false, 0, 0, [], 0⟩
def twoG (F G : Bs) : St := ⟨1099511627776, [⟨F, F.length⟩, ⟨G, G.length⟩], [(K 2, 1)], [(K 2, 1)], [], false, 0, 0, [], 0⟩
theorem two_create : create 2 (lg [] 0 0 0 []) = (0, two [] []) := by
  unfold create lg one two
  rw [k1, k2]
  rfl
theorem k12 : ¬ K 1 = K 2 := by rw [k1, k2]; decide
theorem find1 : find [(K 1, 0), (K 2, 1)] (K 1) = some 0 := by rw [k1, k2]; rfl
theorem find2 : find [(K 1, 0), (K 2, 1)] (K 2) = some 1 := by rw [k1, k2]; rfl
theorem used2 (F G : Bs) (x y : Nat) : used [⟨F, x⟩, ⟨G, y⟩] [(K 1, 0), (K 2, 1)] = F.length + G.length := by simp [used, lens]
theorem two_append1 (F G b : Bs) (h : F.length + G.length + b.length ≤ 1000000) (hb : b.length ≤ 65535) : append 1 b (two F G) = (0, two (F ++ FM.frame b) G) := by
  have hfl := FM.frame_len b
  have hl : lens [⟨F, F.length⟩, ⟨G, G.length⟩] 0 = F.length := rfl
  have h1 : DM.append (K 1) (FM.frame b) (two F G) = (0, ⟨1099511627776, [⟨F ++ FM.frame b, F.length⟩, ⟨G, G.length⟩], [(K 1, 0), (K 2, 1)], [(K 1, 0), (K 2, 1)], [], false, 0, 0, [], 0⟩) := by
    unfold DM.append two
    simp only [find1, Bool.false_eq_true, if_false]
    rw [if_neg (by rw [hl, used2]; omega)]
    rfl
  unfold append
  rw [if_neg n1, if_neg (by omega), h1, both_go rfl]
  unfold DM.sync
  simp only [find1, Bool.false_eq_true, if_false]
  rfl
theorem two_append2 (F G b : Bs) (h : F.length + G.length + b.length ≤ 1000000) (hb : b.length ≤ 65535) : append 2 b (two F G) = (0, two F (G ++ FM.frame b)) := by
  have hfl := FM.frame_len b
  have hl : lens [⟨F, F.length⟩, ⟨G, G.length⟩] 1 = G.length := rfl
  have h1 : DM.append (K 2) (FM.frame b) (two F G) = (0, ⟨1099511627776, [⟨F, F.length⟩, ⟨G ++ FM.frame b, G.length⟩], [(K 1, 0), (K 2, 1)], [(K 1, 0), (K 2, 1)], [], false, 0, 0, [], 0⟩) := by
    unfold DM.append two
    simp only [find2, Bool.false_eq_true, if_false]
    rw [if_neg (by rw [hl, used2]; omega)]
    rfl
  unfold append
  rw [if_neg n2, if_neg (by omega), h1, both_go rfl]
  unfold DM.sync
  simp only [find2, Bool.false_eq_true, if_false]
  rfl
theorem two_read1 (F G : Bs) : DM.read (K 1) (two F G) = (F, 0) := by
  unfold DM.read two
  simp only [find1, Bool.false_eq_true, if_false]
  rfl
theorem two_remove (F G : Bs) : remove 1 (two F G) = (0, twoG F G) := by
  unfold remove two twoG
  rw [if_neg n1, k1, k2]
  rfl
theorem two_read2 (F G : Bs) : DM.read (K 2) (twoG F G) = (G, 0) := by
  unfold DM.read twoG
  simp only [find, Bool.false_eq_true, if_false]
  simp
  rfl
theorem two_gone (F G : Bs) : read 1 (twoG F G) = ([], false, 10) := by
  have h : DM.read (K 1) (twoG F G) = ([], 10) := by
    unfold DM.read twoG
    rw [k1, k2]
    rfl
  rw [read_go n1 h]
  unfold readOf
  rw [if_pos (by decide)]
/-- two logs with bodies in them -/
def pair (a b : List Bs) : St := two (FM.frames a) (FM.frames b)
theorem pair_nil : two [] [] = pair [] [] := rfl
theorem frames_small (bs : List Bs) (k : Nat) (hs : ∀ b ∈ bs, b.length ≤ 500) (hn : bs.length ≤ 10) : (FM.frames (bs.take k)).length ≤ 5080 := by
  have h2 := frames_len_le (bs.take k) 500 fun b hb => hs b (List.mem_of_mem_take hb)
  have h3 : (bs.take k).length ≤ 10 := by rw [List.length_take]; omega
  have h4 : (bs.take k).length * (8 + 500) ≤ 10 * (8 + 500) := Nat.mul_le_mul_right _ h3
  omega
theorem pair_append1 (a b : List Bs) (k j : Nat) (h : k < a.length) (ha : ∀ x ∈ a, x.length ≤ 500) (hb : ∀ x ∈ b, x.length ≤ 500) (hn : a.length ≤ 10) (hm : b.length ≤ 10) : append 1 a[k] (pair (a.take k) (b.take j)) = (0, pair (a.take (k + 1)) (b.take j)) := by
  have h1 := ha a[k] (List.getElem_mem h)
  have h2 := frames_small a k ha hn
  have h3 := frames_small b j hb hm
  unfold pair
  rw [two_append1 _ _ _ (by omega) (by omega), take_succ a k h]
theorem pair_append2 (a b : List Bs) (k j : Nat) (h : k < b.length) (ha : ∀ x ∈ a, x.length ≤ 500) (hb : ∀ x ∈ b, x.length ≤ 500) (hn : a.length ≤ 10) (hm : b.length ≤ 10) : append 2 b[k] (pair (a.take j) (b.take k)) = (0, pair (a.take j) (b.take (k + 1))) := by
  have h1 := hb b[k] (List.getElem_mem h)
  have h2 := frames_small a j ha hn
  have h3 := frames_small b k hb hm
  unfold pair
  rw [two_append2 _ _ _ (by omega) (by omega), take_succ b k h]
end WL

namespace lawApart
set_option maxRecDepth 100000 in
set_option maxHeartbeats 8000000 in
theorem walk (A : Option Addr) (n cap : Nat) (la : List ByteArray) (A2 : Option Addr) (n2 cap2 : Nat) (lb : List ByteArray) (w : World) (hn : la.length = n) (hz : StrsIn w w.heap.size A la) (hcap : n ≤ cap) (hb : n * 16 ≤ reachBytes) (hs : ∀ q ∈ la, q.size ≤ reachBytes)
    (hn2 : lb.length = n2) (hy : StrsIn w w.heap.size A2 lb) (hcap2 : n2 ≤ cap2) (hb2 : n2 * 16 ≤ reachBytes) (hs2 : ∀ q ∈ lb, q.size ≤ reachBytes) (ht : Tab w) :
    Calls Tryd.prog 6 #[.slice A n cap, .slice A2 n2 cap2] w fun e w' => e = .returned (.bool true) ∧ Below w.heap.size w w' := by
  unfold reachBytes at hb hs hb2 hs2
  obtain ⟨B, hB⟩ : ∃ B, w.heap.size = B := ⟨_, rfl⟩
  obtain ⟨a, hae⟩ : ∃ a, cutB 10 500 la = a := ⟨_, rfl⟩
  obtain ⟨b, hbe⟩ : ∃ b, cutB 10 500 lb = b := ⟨_, rfl⟩
  have hal := cutB_length 10 500 la
  have hbl := cutB_length 10 500 lb
  have has := cutB_small 10 500 la
  have hbs := cutB_small 10 500 lb
  have haa := cutB_at 10 500 la
  have hba := cutB_at 10 500 lb
  rw [hae] at hal has
  rw [hbe] at hbl hbs
  rw [hn] at hal
  rw [hn2] at hbl
  obtain ⟨N, hN⟩ : ∃ N, a.length = N := ⟨_, rfl⟩
  obtain ⟨P, hP⟩ : ∃ P, b.length = P := ⟨_, rfl⟩
  rw [hN] at hal
  rw [hP] at hbl
  have HNA := Lib.hid hN
  have HPB := Lib.hid hP
  have HAA : Hid (∀ k, (h : k < a.length) → (hl : k < la.length) → a[k] = la[k].data.toList.take 500) := by subst hae; exact Lib.hid haa
  have HBA : Hid (∀ k, (h : k < b.length) → (hl : k < lb.length) → b[k] = lb[k].data.toList.take 500) := by subst hbe; exact Lib.hid hba
  have HS := Lib.hid hs
  have HS2 := Lib.hid hs2
  have HN := Lib.hid hn
  have HN2 := Lib.hid hn2
  have hmin : min (n : Int) 10 = (N : Int) := by omega
  have hminb : min (n2 : Int) 10 = (P : Int) := by omega
  have hNn : N ≤ n := by omega
  have hN10 : N ≤ 10 := by omega
  have hPn : P ≤ n2 := by omega
  have hP10 : P ≤ 10 := by omega
  have hsl := fun W => texts_head W A n cap N (by omega)
  have hslb := fun W => texts_head W A2 n2 cap2 P (by omega)
  have HAS : Hid (∀ x ∈ a, x.length ≤ 500) := Lib.hid has
  have HBS : Hid (∀ x ∈ b, x.length ≤ 500) := Lib.hid hbs
  have HZ : Hid (∀ W, Below B w W → StrsIn W B A la) := Lib.hid fun W h => by subst hB; exact hz.below h
  have HY : Hid (∀ W, Below B w W → StrsIn W B A2 lb) := Lib.hid fun W h => by subst hB; exact hy.below h
  have HTL : Hid (∀ W d s N M, Live B w W d s N M → Tab W) := Lib.hid fun W d s N M h => tab_live ht h hB.symm
  have HNEW : Hid (Calls Tryd.prog 13 #[.int .i64 1099511627776] w fun e w' => ∃ d, e = .returned (.pointer (some ⟨d, 0, none⟩)) ∧ Live B w w' d (DM.new 1099511627776) 0 0) := Lib.hid (by
    subst hB
    exact (live_new 1099511627776 w w w.heap.size (Moves.refl _ _) (Nat.le_refl _) (by unfold fits; omega) 0 0 (by omega)).mono fun _ _ ⟨he, hl⟩ => ⟨_, he, hl⟩)
  have HCR := Lib.hid (fun W d (h : Live B w W d (DM.new 1099511627776) 0 0) => h.wcreate (by omega) 1 (by omega) (HTL.out _ _ _ _ _ h) WL.lg_create)
  have HCR2 := Lib.hid (fun W d (h : Live B w W d (WL.lg [] 0 0 0 []) 2 0) => h.wcreate (by omega) 2 (by omega) (HTL.out _ _ _ _ _ h) (WL.two_create.trans (by rw [WL.pair_nil])))
  have HAP : Hid (∀ k j (h : k < a.length) (t : ByteArray) (Nn : Nat), Nn + 2 < 1000000000 → t.data.toList = a[k] → ∀ W d, Live B w W d (WL.pair (a.take k) (b.take j)) Nn 0 → Calls Tryd.prog 16 #[.pointer (some ⟨d, 0, none⟩), .int .i64 1, .string t] W (ErrOut B w d (0, WL.pair (a.take (k + 1)) (b.take j)) (Nn + 2) 0)) :=
    Lib.hid fun k j h t Nn hNn hd W d hl => hl.wappend hNn 1 (by omega) (HTL.out _ _ _ _ _ hl) t (by rw [← size_list, hd]; exact Nat.le_trans (has _ (List.getElem_mem h)) (by decide)) (by rw [hd]; exact WL.pair_append1 a b k j h has hbs (by omega) (by omega))
  have HAP2 : Hid (∀ k j (h : k < b.length) (t : ByteArray) (Nn : Nat), Nn + 2 < 1000000000 → t.data.toList = b[k] → ∀ W d, Live B w W d (WL.pair (a.take j) (b.take k)) Nn 0 → Calls Tryd.prog 16 #[.pointer (some ⟨d, 0, none⟩), .int .i64 2, .string t] W (ErrOut B w d (0, WL.pair (a.take j) (b.take (k + 1))) (Nn + 2) 0)) :=
    Lib.hid fun k j h t Nn hNn hd W d hl => hl.wappend hNn 2 (by omega) (HTL.out _ _ _ _ _ hl) t (by rw [← size_list, hd]; exact Nat.le_trans (hbs _ (List.getElem_mem h)) (by decide)) (by rw [hd]; exact WL.pair_append2 a b k j h has hbs (by omega) (by omega))
  have HRD1 := Lib.hid (fun W d Nn (h : Live B w W d (WL.pair a b) Nn 0) => h.wread 1 (by omega) (HTL.out _ _ _ _ _ h) (WL.read_whole WL.n1 a (fun x hx => Nat.le_trans (has x hx) (by decide)) (WL.two_read1 _ _)))
  have HRM := Lib.hid (fun W d Nn (hNn : Nn + 2 < 1000000000) (h : Live B w W d (WL.pair a b) Nn 0) => h.wremove hNn 1 (by omega) (HTL.out _ _ _ _ _ h) (WL.two_remove _ _))
  have HRD2 := Lib.hid (fun W d Nn (h : Live B w W d (WL.twoG (FM.frames a) (FM.frames b)) Nn 0) => h.wread 2 (by omega) (HTL.out _ _ _ _ _ h) (WL.read_whole WL.n2 b (fun x hx => Nat.le_trans (hbs x hx) (by decide)) (WL.two_read2 _ _)))
  have HRD3 := Lib.hid (fun W d Nn (h : Live B w W d (WL.twoG (FM.frames a) (FM.frames b)) Nn 0) => h.wread 1 (by omega) (HTL.out _ _ _ _ _ h) (WL.two_gone _ _))
  rw [hB]
  clear hn hz hs hn2 hy hs2 hae hbe hal hbl has hbs haa hba hN hP hcap hcap2 ht hB
  go_enter Tryd.func6, Tryd.ntmps6
  go_wp2_with fail
  refine HNEW.out.mono ?_
  rintro e w1 ⟨d, rfl, hl⟩
  have HL := Lib.hid hl
  clear hl HNEW
  go_wp2_with fail
  refine (wakes_any _ (HTL.out _ _ _ _ _ HL.out)).mono ?_
  rintro e w2 ⟨rfl, hB⟩
  have HL2 := Lib.hid (HL.out.still hB)
  clear hB HL
  go_wp2_with fail
  refine (HCR.out _ _ HL2.out).mono ?_
  rintro e w3 ⟨rfl, hl⟩
  have HL3 := Lib.hid hl
  clear hl HL2 HCR
  go_wp2_with fail
  refine (HCR2.out _ _ HL3.out).mono ?_
  rintro e w4 ⟨rfl, hl⟩
  have HL4 := Lib.hid hl
  clear hl HL3 HCR2
  go_wp2_with fail
  go_quiet (fail)
  go_wp2_with fail
  have HL5 := Lib.hid (HL4.out.still (below_drewN (Below.refl _ _) nq))
  clear HL4
  obtain ⟨Q, hQ⟩ : ∃ Q, max N P = Q := ⟨_, rfl⟩
  go_wp2_with fail
  go_loopw [6] (fun iv wr => ∃ k : Nat, k ≤ Q ∧ iv = .int .i64 k ∧ Live B w wr d (WL.pair (a.take k) (b.take k)) (4 + 4 * k) 0) (fun i _ => Q - (intOf i).toNat)
  case atStart => exact ⟨0, by omega, rfl, HL5.out⟩
  case round =>
    obtain ⟨k, hk, rfl, hl⟩ := hrel
    have HK := Lib.hid hl
    have HBK := Lib.hid hl.moves.below
    clear hl
    have hk10 : k ≤ 10 := by omega
    rcases Nat.lt_or_ge k N with hkN | hkN <;> rcases Nat.lt_or_ge k P with hkP | hkP
    · have hla : k < la.length := by rw [HN.out]; omega
      have hba : k < a.length := by rw [HNA.out]; assumption
      obtain ⟨ga, oa, hAa, hga, hca⟩ := HZ.out _ HBK.out (by omega)
      have hka := hca k hla
      have hta := HAA.out k hba hla
      obtain ⟨ta, hqa⟩ : ∃ t, la[k] = t := ⟨_, rfl⟩
      have hsa := HS.out ta (by rw [← hqa]; exact List.getElem_mem hla)
      rw [hqa] at hka hta
      obtain ⟨Ma, ba, hMa, hxa, hda, hza⟩ := text_cut ta 500
      have hma : min (ta.size : Int) 500 = (Ma : Int) := by omega
      have hsla := fun W => text_head W ta Ma (by omega)
      rw [hxa] at hsla
      have HCa : Hid (∀ W', Below B w W' → W'.cell? ⟨ga, oa + k, none⟩ = some (.string ta)) := Lib.hid fun W' h => (h.cell (p := ⟨ga, oa + k, none⟩) hga).trans (((HBK.out.cell (p := ⟨ga, oa + k, none⟩) hga).symm).trans hka)
      have HDa : Hid (ba.data.toList = a[k]) := Lib.hid (by rw [hda, hta])
      have ja0 : (0 : Int) ≤ (k : Int) := by omega
      have ja1 : (k : Int) < (N : Int) := by omega
      clear hca hka hta hqa hMa hxa hda
      subst hAa
      have hlb : k < lb.length := by rw [HN2.out]; omega
      have hbb : k < b.length := by rw [HPB.out]; assumption
      obtain ⟨gb, ob, hAb, hgb, hcb⟩ := HY.out _ HBK.out (by omega)
      have hkb := hcb k hlb
      have htb := HBA.out k hbb hlb
      obtain ⟨tb, hqb⟩ : ∃ t, lb[k] = t := ⟨_, rfl⟩
      have hsb := HS2.out tb (by rw [← hqb]; exact List.getElem_mem hlb)
      rw [hqb] at hkb htb
      obtain ⟨Mb, bb, hMb, hxb, hdb, hzb⟩ := text_cut tb 500
      have hmb : min (tb.size : Int) 500 = (Mb : Int) := by omega
      have hslb := fun W => text_head W tb Mb (by omega)
      rw [hxb] at hslb
      have HCb : Hid (∀ W', Below B w W' → W'.cell? ⟨gb, ob + k, none⟩ = some (.string tb)) := Lib.hid fun W' h => (h.cell (p := ⟨gb, ob + k, none⟩) hgb).trans (((HBK.out.cell (p := ⟨gb, ob + k, none⟩) hgb).symm).trans hkb)
      have HDb : Hid (bb.data.toList = b[k]) := Lib.hid (by rw [hdb, htb])
      have jb0 : (0 : Int) ≤ (k : Int) := by omega
      have jb1 : (k : Int) < (P : Int) := by omega
      clear hcb hkb htb hqb hMb hxb hdb
      subst hAb
      have HAa := Lib.hid (HAP.out k k hba ba (4 + 4 * k) (by omega) HDa.out)
      have HIa := HK
      have HIDa := Lib.hid (HK.out.still (Below.refl _ _).drew)
      have ca1 := HCa.out _ HIa.out.moves.below
      have da1 := HCa.out _ HIDa.out.moves.below
      have za1 : True := trivial
      go_wp2_with fail
      go_region_held3 (fun w' => w'.cell? ⟨ga, oa + k, none⟩ = some (.string ta))
        (first | exact da1 | exact za1 | go_keep | fail)
        (first
          | (go_at_call 16
             refine (HAa.out _ _ HIDa.out).mono ?_
             rintro e va ⟨rfl, hl⟩
             have HV := Lib.hid hl
             have za1 := HCa.out _ hl.moves.below
             clear hl)
          | fail)
      have HAb := Lib.hid (HAP2.out k (k + 1) hbb bb (4 + 4 * k + 2) (by omega) HDb.out)
      have HIb := HV
      have HIDb := Lib.hid (HV.out.still (Below.refl _ _).drew)
      have cb1 := HCb.out _ HIb.out.moves.below
      have db1 := HCb.out _ HIDb.out.moves.below
      have zb1 : True := trivial
      go_wp2_with fail
      go_region_held3 (fun w' => w'.cell? ⟨gb, ob + k, none⟩ = some (.string tb))
        (first | exact db1 | exact zb1 | go_keep | fail)
        (first
          | (go_at_call 16
             refine (HAb.out _ _ HIDb.out).mono ?_
             rintro e vb ⟨rfl, hl⟩
             have HW := Lib.hid hl
             have zb1 := HCb.out _ hl.moves.below
             clear hl)
          | fail)
      clear HV HK
      go_wp2
      go_roundw
      case rel => exact ⟨k + 1, by omega, by go_num, by exact HW.out.more (by omega) (by omega)⟩
      case measure => simp [intOf]; omega
    · have hla : k < la.length := by rw [HN.out]; omega
      have hba : k < a.length := by rw [HNA.out]; assumption
      obtain ⟨ga, oa, hAa, hga, hca⟩ := HZ.out _ HBK.out (by omega)
      have hka := hca k hla
      have hta := HAA.out k hba hla
      obtain ⟨ta, hqa⟩ : ∃ t, la[k] = t := ⟨_, rfl⟩
      have hsa := HS.out ta (by rw [← hqa]; exact List.getElem_mem hla)
      rw [hqa] at hka hta
      obtain ⟨Ma, ba, hMa, hxa, hda, hza⟩ := text_cut ta 500
      have hma : min (ta.size : Int) 500 = (Ma : Int) := by omega
      have hsla := fun W => text_head W ta Ma (by omega)
      rw [hxa] at hsla
      have HCa : Hid (∀ W', Below B w W' → W'.cell? ⟨ga, oa + k, none⟩ = some (.string ta)) := Lib.hid fun W' h => (h.cell (p := ⟨ga, oa + k, none⟩) hga).trans (((HBK.out.cell (p := ⟨ga, oa + k, none⟩) hga).symm).trans hka)
      have HDa : Hid (ba.data.toList = a[k]) := Lib.hid (by rw [hda, hta])
      have ja0 : (0 : Int) ≤ (k : Int) := by omega
      have ja1 : (k : Int) < (N : Int) := by omega
      clear hca hka hta hqa hMa hxa hda
      subst hAa
      have fP : decide ((k : Int) < (P : Int)) = false := decide_eq_false (by omega)
      have tb : b.take (k + 1) = b.take k := by rw [List.take_of_length_le (by rw [HPB.out]; omega), List.take_of_length_le (by rw [HPB.out]; omega)]
      have HAa := Lib.hid (HAP.out k k hba ba (4 + 4 * k) (by omega) HDa.out)
      have HIa := HK
      have HIDa := Lib.hid (HK.out.still (Below.refl _ _).drew)
      have ca1 := HCa.out _ HIa.out.moves.below
      have da1 := HCa.out _ HIDa.out.moves.below
      have za1 : True := trivial
      go_wp2_with fail
      go_region_held3 (fun w' => w'.cell? ⟨ga, oa + k, none⟩ = some (.string ta))
        (first | exact da1 | exact za1 | go_keep | fail)
        (first
          | (go_at_call 16
             refine (HAa.out _ _ HIDa.out).mono ?_
             rintro e va ⟨rfl, hl⟩
             have HV := Lib.hid hl
             have za1 := HCa.out _ hl.moves.below
             clear hl)
          | fail)
      have fP2 : decide ((k : Int) < (P : Int)) = false := fP
      have fP3 : decide (k < P) = false := decide_eq_false (by omega)
      have fP4 : ¬ k < P := by omega
      clear da1 ca1 HAa HIa HIDa
      go_wp2_with fail
      go_quiet (fail)
      have HW := Lib.hid (HV.out.still (below_drewN (Below.refl _ _) nq))
      clear HV HK
      go_wp2
      go_roundw
      case rel => exact ⟨k + 1, by omega, by go_num, by rw [tb]; exact HW.out.more (by omega) (by omega)⟩
      case measure => simp [intOf]; omega
    · have fN : decide ((k : Int) < (N : Int)) = false := decide_eq_false (by omega)
      have ta : a.take (k + 1) = a.take k := by rw [List.take_of_length_le (by rw [HNA.out]; omega), List.take_of_length_le (by rw [HNA.out]; omega)]
      have hlb : k < lb.length := by rw [HN2.out]; omega
      have hbb : k < b.length := by rw [HPB.out]; assumption
      obtain ⟨gb, ob, hAb, hgb, hcb⟩ := HY.out _ HBK.out (by omega)
      have hkb := hcb k hlb
      have htb := HBA.out k hbb hlb
      obtain ⟨tb, hqb⟩ : ∃ t, lb[k] = t := ⟨_, rfl⟩
      have hsb := HS2.out tb (by rw [← hqb]; exact List.getElem_mem hlb)
      rw [hqb] at hkb htb
      obtain ⟨Mb, bb, hMb, hxb, hdb, hzb⟩ := text_cut tb 500
      have hmb : min (tb.size : Int) 500 = (Mb : Int) := by omega
      have hslb := fun W => text_head W tb Mb (by omega)
      rw [hxb] at hslb
      have HCb : Hid (∀ W', Below B w W' → W'.cell? ⟨gb, ob + k, none⟩ = some (.string tb)) := Lib.hid fun W' h => (h.cell (p := ⟨gb, ob + k, none⟩) hgb).trans (((HBK.out.cell (p := ⟨gb, ob + k, none⟩) hgb).symm).trans hkb)
      have HDb : Hid (bb.data.toList = b[k]) := Lib.hid (by rw [hdb, htb])
      have jb0 : (0 : Int) ≤ (k : Int) := by omega
      have jb1 : (k : Int) < (P : Int) := by omega
      clear hcb hkb htb hqb hMb hxb hdb
      subst hAb
      go_wp2_with fail
      go_quiet (fail)
      have HV := Lib.hid (HK.out.still (below_drewN (Below.refl _ _) nq))
      have HAb := Lib.hid (HAP2.out k k hbb bb (4 + 4 * k) (by omega) HDb.out)
      have HIb := HV
      have HIDb := Lib.hid (HV.out.still (Below.refl _ _).drew)
      have cb1 := HCb.out _ HIb.out.moves.below
      have db1 := HCb.out _ HIDb.out.moves.below
      have zb1 : True := trivial
      go_wp2_with fail
      go_region_held3 (fun w' => w'.cell? ⟨gb, ob + k, none⟩ = some (.string tb))
        (first | exact db1 | exact zb1 | go_keep | fail)
        (first
          | (go_at_call 16
             refine (HAb.out _ _ HIDb.out).mono ?_
             rintro e vb ⟨rfl, hl⟩
             have HW := Lib.hid hl
             have zb1 := HCb.out _ hl.moves.below
             clear hl)
          | fail)
      clear HV HK
      go_wp2
      go_roundw
      case rel => exact ⟨k + 1, by omega, by go_num, by rw [ta]; exact HW.out.more (by omega) (by omega)⟩
      case measure => simp [intOf]; omega
    · have fN : decide ((k : Int) < (N : Int)) = false := decide_eq_false (by omega)
      have fP : decide ((k : Int) < (P : Int)) = false := decide_eq_false (by omega)
      have ta : a.take k = a := List.take_of_length_le (by rw [HNA.out]; omega)
      have tb : b.take k = b := List.take_of_length_le (by rw [HPB.out]; omega)
      rw [ta, tb] at HK
      clear ta tb
      go_wp2_with fail
      refine (HRD1.out _ _ _ HK.out).mono ?_
      rintro e w6 ⟨v, rfl, hown, hl⟩
      have hown2 : w6.ownsRow wr.heap.size 9 1 v a.length (strs a) := hown
      rw [HNA.out] at hown2
      obtain ⟨AJ, CJ, rfl, hzj⟩ := strs_of_own HNA.out hown2
      have HL6 := Lib.hid hl
      have HZJ := Lib.hid hzj
      clear hown hown2 hl hzj HRD1 HK
      go_wp2_with fail
      go_loopw [110] (fun i wq => ∃ q : Nat, q ≤ N ∧ i = .int .i64 q ∧ Below w6.heap.size w6 wq) (fun i _ => N - (intOf i).toNat)
      case atStart => exact ⟨0, by omega, rfl, Below.refl _ _⟩
      case round =>
        obtain ⟨q, hq, rfl, hbq⟩ := hrel
        have HBQ := Lib.hid hbq
        have HBW := Lib.hid (HL6.out.moves.below.trans (hbq.mono HL6.out.le'))
        clear hbq
        by_cases hqN : q < N
        · have hla : q < la.length := by rw [HN.out]; omega
          have hba : q < a.length := by rw [HNA.out]; exact hqN
          obtain ⟨ga, oa, hAa, -, hca⟩ := HZ.out _ HBW.out (by omega)
          have hka := hca q hla
          have hta := HAA.out q hba hla
          obtain ⟨t, hqt⟩ : ∃ t, la[q] = t := ⟨_, rfl⟩
          have hsz := HS.out t (by rw [← hqt]; exact List.getElem_mem hla)
          rw [hqt] at hka hta
          obtain ⟨M, bq, hM, hx, hd, hzz⟩ := text_cut t 500
          have hm : min (t.size : Int) 500 = (M : Int) := by omega
          have hslq := fun W => text_head W t M (by omega)
          rw [hx] at hslq
          have htl : q < (texts a).length := by rw [texts_length, HNA.out]; exact hqN
          obtain ⟨g1, o1, hA1, -, hx1⟩ := HZJ.out.below HBQ.out (by omega)
          have e1 := hx1 q htl
          have htq : (texts a)[q] = bq := by
            rw [← str_mk bq, hd, ← hta]
            simp [texts]
          rw [htq] at e1
          have i0 : (0 : Int) ≤ (q : Int) := by omega
          have i1 : (q : Int) < (N : Int) := by omega
          have he : (bq.toList == bq.toList) = true := by simp
          subst hAa
          subst hA1
          clear hca hx1 hqt hM hx hd hta htq
          go_wp2_with fail
          go_quiet (fail)
          go_wp2
          go_roundw
          case rel => exact ⟨q + 1, by omega, by go_num, (by first | exact HBQ.out | exact below_drewN HBQ.out _ | exact below_drewN (below_drewN HBQ.out _) _)⟩
          case measure => simp [intOf]; omega
        · have HL7 := Lib.hid (HL6.out.still HBQ.out)
          clear HL6 HZJ
          go_wp2_with fail
          refine (HRM.out _ _ _ (by omega) HL7.out).mono ?_
          rintro e w8 ⟨rfl, hl⟩
          have HL8 := Lib.hid hl
          clear hl HL7 HRM
          go_wp2_with fail
          refine (HRD2.out _ _ _ HL8.out).mono ?_
          rintro e w9 ⟨v, rfl, hown, hl⟩
          have HL9 := Lib.hid hl
          have hown2 : w9.ownsRow w8.heap.size 9 1 v b.length (strs b) := hown
          rw [HPB.out] at hown2
          obtain ⟨AK, CK, rfl⟩ := own_slice hown2
          clear hl hown hown2 HL8 HRD2
          go_wp2_with fail
          refine (HRD3.out _ _ _ HL9.out).mono ?_
          rintro e w10 ⟨v, rfl, hown, hl⟩
          have HL10 := Lib.hid hl.moves.below
          obtain ⟨AL, CL, rfl⟩ := own_slice hown
          clear hl hown HL9 HRD3
          go_wp2
          go_ret
          exact ⟨rfl, HL10.out⟩

theorem facts {W : World} (h : laidMetH Tryd.prog Rows.walApartRow.laid W) : Tab W := by
  rw [MakeChecks.laidMetH_plain _ _ _ (by kernel_rfl)] at h
  exact tab_of_laid h
set_option maxRecDepth 100000 in
set_option maxHeartbeats 1000000 in
theorem contract (H : Type) (enc : TypeId × Value → H) (W : World) (base : Nat) (args : Array Value) (ds gs : List (DataW H)) (before : List MemPlace)
    (hval : ∀ (j : Nat) t v, Tryd.f6.params[j]? = some t → args[j]? = some v → Value.okWide Tryd.prog W .any base t v)
    (hW : DataW.Whole enc Tryd.prog Tryd.f6.params.toList Rows.walApartSpec.vars false W args.toList ds gs before)
    (hz : (DataW.weightsEach Tryd.prog Tryd.f6.params.toList (ds ++ gs)).all (· ≤ reachBytes) = true)
    (hL : laidMetH Tryd.prog Rows.walApartRow.laid W) :
    Calls Tryd.prog 6 args W fun e W' => ∃ v, e = .returned v ∧ Rows.walApartSpec.post enc Tryd.prog Tryd.f6 false true false false W args v W' := by
  have hW' := hW
  obtain ⟨p, q, hA0, hV, rfl, hfz, hnd⟩ := hW
  have hA : DataW.TrodAll enc Tryd.prog W 0 (fun _ => true) true Tryd.f6.params.toList args.toList ds p := hA0
  rw [Tryd.params6] at hA hval hz
  obtain ⟨v0, vs0, d0, ds0, p0, q0, hargs, rfl, rfl, h0, r0⟩ := trodAll_cons hA
  obtain ⟨v1, vs1, d1, ds1, p1, q1, rfl, rfl, rfl, h1, r1⟩ := trodAll_cons r0
  obtain ⟨rfl, rfl, rfl⟩ := trodAll_nil r1
  obtain rfl : args = #[v0, v1] := by cases args; simp_all
  obtain ⟨rfl, rfl⟩ := trodVars_none hV
  obtain ⟨oneA, oneN, oneC, one, rfl, hlenone, hinone, hcapone, hbone, hsone⟩ := open_texts (hval 0 28 v0 rfl rfl) h0 (texts_sized hz (j := 0) rfl rfl)
  obtain ⟨twoA, twoN, twoC, two, rfl, hlentwo, hintwo, hcaptwo, hbtwo, hstwo⟩ := open_texts (hval 1 28 v1 rfl rfl) h1 (texts_sized hz (j := 1) rfl rfl)
  have hf := facts hL
  refine (walk oneA oneN oneC one twoA twoN twoC two W hlenone hinone hcapone hbone hsone hlentwo hintwo hcaptwo hbtwo hstwo hf).mono fun e W' ⟨he, hB⟩ => ?_
  subst he
  exact ⟨_, rfl, law_post Tryd.laidOut (by kernel_rfl) rfl rfl Tryd.underlying4 hW' rfl hB⟩

set_option maxRecDepth 100000 in
theorem lifted (os : Os) (started : os.Started) (H : Type) (enc : TypeId × Value → H) :
    ReturnsInHanded {} Tryd.checked os 6 .any (fun w args => (Rows.walApartSpec.pre enc Tryd.prog Tryd.f6 [] false w args ∧ laidMetH Tryd.prog Rows.walApartRow.laid w) ∧ sizedMet enc Tryd.prog Tryd.f6 (OpenSpec.ofChange Rows.walApartSpec) false w args) (Rows.walApartSpec.post enc Tryd.prog Tryd.f6 false true false false) := by
  refine returnsInHanded_of_change_and (C := Tryd.checked) (X := fun w _ => laidMetH Tryd.prog Rows.walApartRow.laid w) (fun _ _ _ hh h => h.of_heap hh) Tryd.own started (by kernel_rfl) Tryd.func6
    (ChangeSpec.witness_shaped (enc := enc) (C := Tryd.checked) (os := os) (X := fun w _ => laidMetH Tryd.prog Rows.walApartRow.laid w) false (World.laidAll Tryd.prog os Rows.walApartRow.laid) #[.slice none 0 0, .slice none 0 0] 8 (World.laidAll_os _ _ _) (World.shaped_of_ZipB (by kernel_rfl) (by kernel_rfl)) (by kernel_rfl) (by kernel_rfl) (by kernel_rfl)
      (by rw [MakeChecks.laidMetH_plain _ _ _ (by kernel_rfl)]; exact laidMet_laidAll _ (by kernel_rfl) (by kernel_rfl))) ?_
  intro W base args ds gs before hval hW _ hz hL _
  exact contract H enc W base args ds gs before hval hW hz hL

theorem proved : Rows.WalApartSaid :=
  OpenClaim.holds_of_wide 6 Tryd.f6 rfl rfl rfl rfl rfl rfl rfl ⟨rfl, rfl, rfl, rfl, rfl⟩ rfl rfl rfl rfl rfl (by kernel_rfl) Tryd.func6 (by kernel_rfl)
    (of_decide_eq_true (by kernel_rfl)) (by unfold Func.isWrapper; first | (rw [if_pos (by decide +kernel)]; kernel_rfl) | (rw [if_neg (by decide +kernel)]; exact ⟨rfl, rfl⟩))
    (fun os started H enc _ => lifted os started H enc)

set_option maxRecDepth 100000 in
theorem card : Rows.WalApartCardSaid :=
  Claim7.holds_tied_plain_at .later [] _ true _ true
    proved (fun _ h => by cases h) (by kernel_rfl) (fun _ h => by cases h) walApart_row_tie rfl ⟨rfl, rfl⟩ (by kernel_rfl) rfl
    (fun f fn hf hfn => by
      obtain rfl : f = 6 := Option.some.inj ((show Tryd.prog.funcNamed "oxbow/oxbowlaw08.WalApart" = some 6 by kernel_rfl).symm.trans hf) |>.symm
      obtain rfl : fn = Tryd.f6 := (Option.some.inj (Tryd.func6.symm.trans hfn)).symm
      exact ⟨by kernel_rfl, fun j t ht => by
        rw [Tryd.params6] at ht
        have hm : t ∈ [28, 28] := by simpa using Array.mem_of_getElem? ht
        have hall : ([28, 28].all fun u => !Tryd.prog.wantsStandIn u) = true := by kernel_rfl
        exact (show Tryd.prog.wantsStandIn t = false by simpa using List.all_eq_true.1 hall t hm)⟩)
    (by kernel_rfl)
end lawApart
end Go.Proofs.YtgknkldhjejjmaaDoor
