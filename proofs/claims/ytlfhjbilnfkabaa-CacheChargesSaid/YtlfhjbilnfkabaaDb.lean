/- An act of both caches. -/
import Derived.Test.YtlfhjbilnfkabaaDa
namespace Go.Proofs.Ytlfhjbilnfkabaa
open Go.RowKit Go.Maps
open BM CM

def own2 (c z b : Nat) (Z : Zs) (r rb : Nat) (LA : Option Addr) (g : Nat) : Prop := own c z b Z g ∨ rown r rb LA g
/-- what an act of both leaves -/
structure Acted (W w w' : World) (c z b N : Nat) (Z : Zs) (r rb : Nat) (LA : Option Addr) (N' : Nat) (Z' : Zs) (LA' : Option Addr) (lc' : Nat) (R : Ls × S) : Prop where
  duo : Duo W w' c z b N' Z' R.2 r rb LA' lc' R.1 R.2
  list : bl Z' = R.1
  bound : N' ≤ N + 1
  len : Z'.length ≤ Z.length + 1
  only : Only (own2 c z b Z r rb LA) w w'
  own_ : ∀ g, own2 c z b Z' r rb LA' g → own2 c z b Z r rb LA g ∨ w.heap.size ≤ g
def ActOut (W w : World) (c z b N : Nat) (Z : Zs) (r rb : Nat) (LA : Option Addr) (R : Ls × S) (e : Ending) (w' : World) : Prop :=
  e = .returned (.bool true) ∧ ∃ N' Z' LA' lc', Acted W w w' c z b N Z r rb LA N' Z' LA' lc' R
section
variable {W w w0 w1 w2 : World} {c z b N N' : Nat} {Z Z' : Zs} {s s' : S} {r rb : Nat} {LA LA' : Option Addr} {lc lc' : Nat} {L' : Ls}
theorem acted (h : Duo W w c z b N Z s r rb LA lc (bl Z) s) (hb : Below w.heap.size w w0) (k1 : Turn W w0 w1 c z b N Z N' Z' s') (k2 : RTurn w1 w2 W.heap.size r rb LA LA' lc' L' s') (g : Good L' s') (hl : bl Z' = L') : Acted W w w2 c z b N Z r rb LA N' Z' LA' lc' (L', s') := by
  have hd1 := (h.still hb).prog k1
  have hd2 := hd1.docs k2 g
  have o1 : Only (own2 c z b Z r rb LA) w w1 := (Only.of_below hb : Only (own2 c z b Z r rb LA) w w0).trans (T := own c z b Z) k1.only (fun _ _ h => .inl h)
  have s1 : w.heap.size ≤ w1.heap.size := o1.size
  refine ⟨hd2, hl, k1.bound, k1.len, o1.trans (T := rown r rb LA) k2.only (fun _ _ h => .inr h), fun q hq => ?_⟩
  rcases hq with hq | hq
  · exact (k1.own_ q hq).imp .inl (fun hh => Nat.le_trans hb.size hh)
  · exact (k2.own_ q hq).imp .inr (fun hh => Nat.le_trans s1 hh)
theorem below_2 (w : World) (o p : Obj) : Below w.heap.size w ((w.alloc o).alloc p) := by
  have h := (Below.refl w.heap.size w).alloc (Nat.le_refl _) o
  exact h.alloc h.size p
theorem box2_new {ad f k : Int} {d : ByteArray} {an : Int} {P Q : Nat → Prop} (w : World) (hP : ∀ g, P g → g < w.heap.size) (hQ : ∀ g, Q g → g < w.heap.size) :
    Box2 ((w.alloc (.cells #[.int .i64 ad, .int .i64 f, .int .i64 k, .string d, .int .i64 an] 36)).alloc (.cells #[.int .i64 f, .int .i64 k] 42)) w.heap.size #[.int .i64 ad, .int .i64 f, .int .i64 k, .string d, .int .i64 an] 36 P Q ∧ Box2 ((w.alloc (.cells #[.int .i64 ad, .int .i64 f, .int .i64 k, .string d, .int .i64 an] 36)).alloc (.cells #[.int .i64 f, .int .i64 k] 42)) (w.heap.size + 1) #[.int .i64 f, .int .i64 k] 42 P Q := by
  have hs1 : (w.alloc (.cells #[.int .i64 ad, .int .i64 f, .int .i64 k, .string d, .int .i64 an] 36)).heap.size = w.heap.size + 1 := by simp
  have hrowa := heap_alloc_new w (.cells #[.int .i64 ad, .int .i64 f, .int .i64 k, .string d, .int .i64 an] 36)
  have hrowk := heap_alloc_new (w.alloc (.cells #[.int .i64 ad, .int .i64 f, .int .i64 k, .string d, .int .i64 an] 36)) (.cells #[.int .i64 f, .int .i64 k] 42)
  rw [hs1] at hrowk
  have hal := (Below.refl (w.alloc (.cells #[.int .i64 ad, .int .i64 f, .int .i64 k, .string d, .int .i64 an] 36)).heap.size (w.alloc (.cells #[.int .i64 ad, .int .i64 f, .int .i64 k, .string d, .int .i64 an] 36))).alloc (Nat.le_refl _) (.cells #[.int .i64 f, .int .i64 k] 42)
  exact ⟨⟨(hal.block _ (by omega)).trans hrowa, fun ho => by have := hP _ ho; omega, fun ho => by have := hQ _ ho; omega⟩, ⟨hrowk, fun ho => by have := hP _ ho; omega, fun ho => by have := hQ _ ho; omega⟩⟩
end

section
variable {W w : World} {c z b N : Nat} {Z : Zs} {s : S} {r rb : Nat} {LA : Option Addr} {lc : Nat}
set_option maxRecDepth 100000 in
set_option maxHeartbeats 4000000 in
theorem act_p1 (h : Duo W w c z b N Z s r rb LA lc (bl Z) s) (ad f k : Int) (d : ByteArray) (an : Int) (hf : i64 f) (hk : i64 k) (hd : d.size ≤ 140737488351232) (hn : i64 an) (hm : ad.tmod 7 = 1) (_hN : N ≤ 100000) (_hlen : Z.length ≤ 100000) (hp : ∀ x ∈ bl Z, x.pins < 1000000) :
    Calls Try.prog 13 #[.pointer (some ⟨c, 0, none⟩), .pointer (some ⟨b, 0, none⟩), .pointer (some ⟨r, 0, none⟩), .agg #[.int .i64 ad, .int .i64 f, .int .i64 k, .string d, .int .i64 an]] w (ActOut W w c z b N Z r rb LA ((getB f k (bl Z)).2.2, s)) := by
  have HD := Lib.hid h
  have hB2 := below_2 w (.cells #[.int .i64 ad, .int .i64 f, .int .i64 k, .string d, .int .i64 an] 36) (.cells #[.int .i64 f, .int .i64 k] 42)
  have HB2 := Lib.hid hB2
  obtain ⟨hbx, hbk⟩ := box2_new (ad := ad) (f := f) (k := k) (d := d) (an := an) w h.live.rep.own_lt h.rep.own_lt
  obtain ⟨v, hv⟩ : ∃ v, w.heap.size = v := ⟨_, rfl⟩
  rw [hv] at hbx hbk
  have HV := Lib.hid hv
  have HBX := Lib.hid hbx
  have HBK := Lib.hid hbk
  have a0 := hbx.cell (j := 0) rfl
  have a1 := hbx.cell (j := 1) rfl
  have a2 := hbx.cell (j := 2) rfl
  have a3 := hbx.cell (j := 3) rfl
  have a4 := hbx.cell (j := 4) rfl
  have k0 := hbk.cell (j := 0) rfl
  have k1 := hbk.cell (j := 1) rfl
  have hdk := h.still hB2
  have HDK := Lib.hid hdk
  have HPB := Lib.hid hp
  have HARG : Hid (i64 f ∧ i64 k ∧ d.size ≤ 140737488351232 ∧ i64 an) := Lib.hid ⟨hf, hk, hd, hn⟩
  have hpr := hdk.live.get hf hk (r := getB f k (bl Z)) rfl
  unfold keyV at hpr
  have HP := Lib.hid hpr
  clear hpr
  clear h hB2 hbx hbk hv hdk hf hk hd hn hp
  go_enter Try.func13, Try.ntmps13
  go_wp2_with fail
  rw [HV.out]
  generalize (w.alloc (.cells #[.int .i64 ad, .int .i64 f, .int .i64 k, .string d, .int .i64 an] 36)).alloc (.cells #[.int .i64 f, .int .i64 k] 42) = wk at HB2 HBX HBK HDK HP a0 a1 a2 a3 a4 k0 k1 ⊢
  obtain ⟨R, hR⟩ : ∃ R, getB f k (bl Z) = R := ⟨_, rfl⟩
  rw [hR] at HP ⊢
  have HR := Lib.hid hR
  clear hR
  refine HP.out.mono ?_
  rintro e w1 ⟨rfl, Z1, ht1, hz1⟩
  have HT1 := Lib.hid ht1
  have hd1 := HDK.out.prog ht1
  have HD1 := Lib.hid hd1
  have HZ1 := Lib.hid hz1
  have HBX1 := Lib.hid (HBX.out.turn ht1)
  have hrg := rget_any hd1.rep hd1.good hd1.size f k
  rw [HR.out] at hrg
  have HRG := Lib.hid hrg
  clear ht1 hd1 hz1 hrg a0 a1 a2 a3 a4 k0 k1 HP
  have a1 := HBX1.out.cell (j := 1) rfl
  have a2 := HBX1.out.cell (j := 2) rfl
  obtain ⟨gs, gb, gl⟩ := R
  simp only at HZ1 HRG HT1 ⊢
  go_wp2_with fail
  refine HRG.out.mono ?_
  rintro e w2 ⟨rfl, LA2, lc2, ht2, hg2⟩
  have HA := Lib.hid (acted HD.out HB2.out HT1.out ht2 hg2 HZ1.out)
  clear ht2 hg2 a1 a2
  cases gb <;>
  · go_wp2
    go_ret
    exact ⟨rfl, _, Z1, LA2, lc2, by rw [HR.out]; exact HA.out⟩

set_option maxRecDepth 100000 in
set_option maxHeartbeats 4000000 in
theorem act_n1 (h : Duo W w c z b N Z s r rb LA lc (bl Z) s) (ad f k : Int) (d : ByteArray) (an : Int) (hf : i64 f) (hk : i64 k) (hd : d.size ≤ 140737488351232) (hn : i64 an) (hm : ad.tmod 7 = -1) (_hN : N ≤ 100000) (_hlen : Z.length ≤ 100000) (hp : ∀ x ∈ bl Z, x.pins < 1000000) :
    Calls Try.prog 13 #[.pointer (some ⟨c, 0, none⟩), .pointer (some ⟨b, 0, none⟩), .pointer (some ⟨r, 0, none⟩), .agg #[.int .i64 ad, .int .i64 f, .int .i64 k, .string d, .int .i64 an]] w (ActOut W w c z b N Z r rb LA ((getB f k (bl Z)).2.2, s)) := by
  have HD := Lib.hid h
  have hB2 := below_2 w (.cells #[.int .i64 ad, .int .i64 f, .int .i64 k, .string d, .int .i64 an] 36) (.cells #[.int .i64 f, .int .i64 k] 42)
  have HB2 := Lib.hid hB2
  obtain ⟨hbx, hbk⟩ := box2_new (ad := ad) (f := f) (k := k) (d := d) (an := an) w h.live.rep.own_lt h.rep.own_lt
  obtain ⟨v, hv⟩ : ∃ v, w.heap.size = v := ⟨_, rfl⟩
  rw [hv] at hbx hbk
  have HV := Lib.hid hv
  have HBX := Lib.hid hbx
  have HBK := Lib.hid hbk
  have a0 := hbx.cell (j := 0) rfl
  have a1 := hbx.cell (j := 1) rfl
  have a2 := hbx.cell (j := 2) rfl
  have a3 := hbx.cell (j := 3) rfl
  have a4 := hbx.cell (j := 4) rfl
  have k0 := hbk.cell (j := 0) rfl
  have k1 := hbk.cell (j := 1) rfl
  have hdk := h.still hB2
  have HDK := Lib.hid hdk
  have HPB := Lib.hid hp
  have HARG : Hid (i64 f ∧ i64 k ∧ d.size ≤ 140737488351232 ∧ i64 an) := Lib.hid ⟨hf, hk, hd, hn⟩
  have hpr := hdk.live.get hf hk (r := getB f k (bl Z)) rfl
  unfold keyV at hpr
  have HP := Lib.hid hpr
  clear hpr
  clear h hB2 hbx hbk hv hdk hf hk hd hn hp
  go_enter Try.func13, Try.ntmps13
  go_wp2_with fail
  rw [HV.out]
  generalize (w.alloc (.cells #[.int .i64 ad, .int .i64 f, .int .i64 k, .string d, .int .i64 an] 36)).alloc (.cells #[.int .i64 f, .int .i64 k] 42) = wk at HB2 HBX HBK HDK HP a0 a1 a2 a3 a4 k0 k1 ⊢
  obtain ⟨R, hR⟩ : ∃ R, getB f k (bl Z) = R := ⟨_, rfl⟩
  rw [hR] at HP ⊢
  have HR := Lib.hid hR
  clear hR
  refine HP.out.mono ?_
  rintro e w1 ⟨rfl, Z1, ht1, hz1⟩
  have HT1 := Lib.hid ht1
  have hd1 := HDK.out.prog ht1
  have HD1 := Lib.hid hd1
  have HZ1 := Lib.hid hz1
  have HBX1 := Lib.hid (HBX.out.turn ht1)
  have hrg := rget_any hd1.rep hd1.good hd1.size f k
  rw [HR.out] at hrg
  have HRG := Lib.hid hrg
  clear ht1 hd1 hz1 hrg a0 a1 a2 a3 a4 k0 k1 HP
  have a1 := HBX1.out.cell (j := 1) rfl
  have a2 := HBX1.out.cell (j := 2) rfl
  obtain ⟨gs, gb, gl⟩ := R
  simp only at HZ1 HRG HT1 ⊢
  go_wp2_with fail
  refine HRG.out.mono ?_
  rintro e w2 ⟨rfl, LA2, lc2, ht2, hg2⟩
  have HA := Lib.hid (acted HD.out HB2.out HT1.out ht2 hg2 HZ1.out)
  clear ht2 hg2 a1 a2
  cases gb <;>
  · go_wp2
    go_ret
    exact ⟨rfl, _, Z1, LA2, lc2, by rw [HR.out]; exact HA.out⟩

set_option maxRecDepth 100000 in
set_option maxHeartbeats 4000000 in
theorem act_p4 (h : Duo W w c z b N Z s r rb LA lc (bl Z) s) (ad f k : Int) (d : ByteArray) (an : Int) (hf : i64 f) (hk : i64 k) (hd : d.size ≤ 140737488351232) (hn : i64 an) (hm : ad.tmod 7 = 4) (_hN : N ≤ 100000) (_hlen : Z.length ≤ 100000) (hp : ∀ x ∈ bl Z, x.pins < 1000000) :
    Calls Try.prog 13 #[.pointer (some ⟨c, 0, none⟩), .pointer (some ⟨b, 0, none⟩), .pointer (some ⟨r, 0, none⟩), .agg #[.int .i64 ad, .int .i64 f, .int .i64 k, .string d, .int .i64 an]] w (ActOut W w c z b N Z r rb LA (dropB f (bl Z) s)) := by
  have HD := Lib.hid h
  have hB2 := below_2 w (.cells #[.int .i64 ad, .int .i64 f, .int .i64 k, .string d, .int .i64 an] 36) (.cells #[.int .i64 f, .int .i64 k] 42)
  have HB2 := Lib.hid hB2
  obtain ⟨hbx, hbk⟩ := box2_new (ad := ad) (f := f) (k := k) (d := d) (an := an) w h.live.rep.own_lt h.rep.own_lt
  obtain ⟨v, hv⟩ : ∃ v, w.heap.size = v := ⟨_, rfl⟩
  rw [hv] at hbx hbk
  have HV := Lib.hid hv
  have HBX := Lib.hid hbx
  have HBK := Lib.hid hbk
  have a0 := hbx.cell (j := 0) rfl
  have a1 := hbx.cell (j := 1) rfl
  have a2 := hbx.cell (j := 2) rfl
  have a3 := hbx.cell (j := 3) rfl
  have a4 := hbx.cell (j := 4) rfl
  have k0 := hbk.cell (j := 0) rfl
  have k1 := hbk.cell (j := 1) rfl
  have hdk := h.still hB2
  have HDK := Lib.hid hdk
  have HPB := Lib.hid hp
  have HARG : Hid (i64 f ∧ i64 k ∧ d.size ≤ 140737488351232 ∧ i64 an) := Lib.hid ⟨hf, hk, hd, hn⟩
  have hpr := hdk.live.drop (by omega) f (r := dropB f (bl Z) s) rfl
  have HP := Lib.hid hpr
  clear hpr
  clear h hB2 hbx hbk hv hdk hf hk hd hn hp
  go_enter Try.func13, Try.ntmps13
  go_wp2_with fail
  rw [HV.out]
  generalize (w.alloc (.cells #[.int .i64 ad, .int .i64 f, .int .i64 k, .string d, .int .i64 an] 36)).alloc (.cells #[.int .i64 f, .int .i64 k] 42) = wk at HB2 HBX HBK HDK HP a0 a1 a2 a3 a4 k0 k1 ⊢
  obtain ⟨R, hR⟩ : ∃ R, dropB f (bl Z) s = R := ⟨_, rfl⟩
  rw [hR] at HP ⊢
  have HR := Lib.hid hR
  clear hR
  refine HP.out.mono ?_
  rintro e w1 ⟨rfl, Z1, ht1, hz1⟩
  have HT1 := Lib.hid ht1
  have hd1 := HDK.out.prog ht1
  have HD1 := Lib.hid hd1
  have HZ1 := Lib.hid hz1
  have HBX1 := Lib.hid (HBX.out.turn ht1)
  have hrg := rdropf_any hd1.rep hd1.good hd1.size f
  rw [HR.out] at hrg
  have HRG := Lib.hid hrg
  clear ht1 hd1 hz1 hrg a0 a1 a2 a3 a4 k0 k1 HP
  have a1 := HBX1.out.cell (j := 1) rfl
  go_wp2_with fail
  refine HRG.out.mono ?_
  rintro e w2 ⟨rfl, LA2, lc2, ht2, hg2⟩
  have HA := Lib.hid (acted HD.out HB2.out HT1.out ht2 hg2 HZ1.out)
  clear ht2 hg2 a1
  go_wp2
  go_ret
  exact ⟨rfl, _, Z1, LA2, lc2, by rw [HR.out]; exact HA.out⟩

set_option maxRecDepth 100000 in
set_option maxHeartbeats 4000000 in
theorem act_n4 (h : Duo W w c z b N Z s r rb LA lc (bl Z) s) (ad f k : Int) (d : ByteArray) (an : Int) (hf : i64 f) (hk : i64 k) (hd : d.size ≤ 140737488351232) (hn : i64 an) (hm : ad.tmod 7 = -4) (_hN : N ≤ 100000) (_hlen : Z.length ≤ 100000) (hp : ∀ x ∈ bl Z, x.pins < 1000000) :
    Calls Try.prog 13 #[.pointer (some ⟨c, 0, none⟩), .pointer (some ⟨b, 0, none⟩), .pointer (some ⟨r, 0, none⟩), .agg #[.int .i64 ad, .int .i64 f, .int .i64 k, .string d, .int .i64 an]] w (ActOut W w c z b N Z r rb LA (dropB f (bl Z) s)) := by
  have HD := Lib.hid h
  have hB2 := below_2 w (.cells #[.int .i64 ad, .int .i64 f, .int .i64 k, .string d, .int .i64 an] 36) (.cells #[.int .i64 f, .int .i64 k] 42)
  have HB2 := Lib.hid hB2
  obtain ⟨hbx, hbk⟩ := box2_new (ad := ad) (f := f) (k := k) (d := d) (an := an) w h.live.rep.own_lt h.rep.own_lt
  obtain ⟨v, hv⟩ : ∃ v, w.heap.size = v := ⟨_, rfl⟩
  rw [hv] at hbx hbk
  have HV := Lib.hid hv
  have HBX := Lib.hid hbx
  have HBK := Lib.hid hbk
  have a0 := hbx.cell (j := 0) rfl
  have a1 := hbx.cell (j := 1) rfl
  have a2 := hbx.cell (j := 2) rfl
  have a3 := hbx.cell (j := 3) rfl
  have a4 := hbx.cell (j := 4) rfl
  have k0 := hbk.cell (j := 0) rfl
  have k1 := hbk.cell (j := 1) rfl
  have hdk := h.still hB2
  have HDK := Lib.hid hdk
  have HPB := Lib.hid hp
  have HARG : Hid (i64 f ∧ i64 k ∧ d.size ≤ 140737488351232 ∧ i64 an) := Lib.hid ⟨hf, hk, hd, hn⟩
  have hpr := hdk.live.drop (by omega) f (r := dropB f (bl Z) s) rfl
  have HP := Lib.hid hpr
  clear hpr
  clear h hB2 hbx hbk hv hdk hf hk hd hn hp
  go_enter Try.func13, Try.ntmps13
  go_wp2_with fail
  rw [HV.out]
  generalize (w.alloc (.cells #[.int .i64 ad, .int .i64 f, .int .i64 k, .string d, .int .i64 an] 36)).alloc (.cells #[.int .i64 f, .int .i64 k] 42) = wk at HB2 HBX HBK HDK HP a0 a1 a2 a3 a4 k0 k1 ⊢
  obtain ⟨R, hR⟩ : ∃ R, dropB f (bl Z) s = R := ⟨_, rfl⟩
  rw [hR] at HP ⊢
  have HR := Lib.hid hR
  clear hR
  refine HP.out.mono ?_
  rintro e w1 ⟨rfl, Z1, ht1, hz1⟩
  have HT1 := Lib.hid ht1
  have hd1 := HDK.out.prog ht1
  have HD1 := Lib.hid hd1
  have HZ1 := Lib.hid hz1
  have HBX1 := Lib.hid (HBX.out.turn ht1)
  have hrg := rdropf_any hd1.rep hd1.good hd1.size f
  rw [HR.out] at hrg
  have HRG := Lib.hid hrg
  clear ht1 hd1 hz1 hrg a0 a1 a2 a3 a4 k0 k1 HP
  have a1 := HBX1.out.cell (j := 1) rfl
  go_wp2_with fail
  refine HRG.out.mono ?_
  rintro e w2 ⟨rfl, LA2, lc2, ht2, hg2⟩
  have HA := Lib.hid (acted HD.out HB2.out HT1.out ht2 hg2 HZ1.out)
  clear ht2 hg2 a1
  go_wp2
  go_ret
  exact ⟨rfl, _, Z1, LA2, lc2, by rw [HR.out]; exact HA.out⟩

set_option maxRecDepth 100000 in
set_option maxHeartbeats 4000000 in
theorem act_p2 (h : Duo W w c z b N Z s r rb LA lc (bl Z) s) (ad f k : Int) (d : ByteArray) (an : Int) (hf : i64 f) (hk : i64 k) (hd : d.size ≤ 140737488351232) (hn : i64 an) (hm : ad.tmod 7 = 2) (_hN : N ≤ 100000) (_hlen : Z.length ≤ 100000) (hp : ∀ x ∈ bl Z, x.pins < 1000000) :
    Calls Try.prog 13 #[.pointer (some ⟨c, 0, none⟩), .pointer (some ⟨b, 0, none⟩), .pointer (some ⟨r, 0, none⟩), .agg #[.int .i64 ad, .int .i64 f, .int .i64 k, .string d, .int .i64 an]] w (ActOut W w c z b N Z r rb LA ((pinB f k 1 (bl Z)).2, s)) := by
  have HD := Lib.hid h
  have hB2 := below_2 w (.cells #[.int .i64 ad, .int .i64 f, .int .i64 k, .string d, .int .i64 an] 36) (.cells #[.int .i64 f, .int .i64 k] 42)
  have HB2 := Lib.hid hB2
  obtain ⟨hbx, hbk⟩ := box2_new (ad := ad) (f := f) (k := k) (d := d) (an := an) w h.live.rep.own_lt h.rep.own_lt
  obtain ⟨v, hv⟩ : ∃ v, w.heap.size = v := ⟨_, rfl⟩
  rw [hv] at hbx hbk
  have HV := Lib.hid hv
  have HBX := Lib.hid hbx
  have HBK := Lib.hid hbk
  have a0 := hbx.cell (j := 0) rfl
  have a1 := hbx.cell (j := 1) rfl
  have a2 := hbx.cell (j := 2) rfl
  have a3 := hbx.cell (j := 3) rfl
  have a4 := hbx.cell (j := 4) rfl
  have k0 := hbk.cell (j := 0) rfl
  have k1 := hbk.cell (j := 1) rfl
  have hdk := h.still hB2
  have HDK := Lib.hid hdk
  have HPB := Lib.hid hp
  have HARG : Hid (i64 f ∧ i64 k ∧ d.size ≤ 140737488351232 ∧ i64 an) := Lib.hid ⟨hf, hk, hd, hn⟩
  have HP : Hid True := Lib.hid trivial
  clear h hB2 hbx hbk hv hdk hf hk hd hn hp
  go_enter Try.func13, Try.ntmps13
  go_wp2_with fail
  rw [HV.out]
  generalize (w.alloc (.cells #[.int .i64 ad, .int .i64 f, .int .i64 k, .string d, .int .i64 an] 36)).alloc (.cells #[.int .i64 f, .int .i64 k] 42) = wk at HB2 HBX HBK HDK HP a0 a1 a2 a3 a4 k0 k1 ⊢
  have HDD := Lib.hid (HDK.out.still ((Below.refl _ _).drew))
  have HBD := Lib.hid (HBX.out.still ((Below.refl _ _).drew))
  have HBKD := Lib.hid (HBK.out.still ((Below.refl _ _).drew))
  have HB2D := Lib.hid (HB2.out.drew)
  have ek0 : wk.drew.cell? ⟨v + 1, 0, none⟩ = some (.int .i64 f) := HBKD.out.cell (j := 0) rfl
  have ek1 : wk.drew.cell? ⟨v + 1, 1, none⟩ = some (.int .i64 k) := HBKD.out.cell (j := 1) rfl
  have ea1 : wk.drew.cell? ⟨v, 1, none⟩ = some (.int .i64 f) := HBD.out.cell (j := 1) rfl
  have ea2 : wk.drew.cell? ⟨v, 2, none⟩ = some (.int .i64 k) := HBD.out.cell (j := 2) rfl
  obtain ⟨R, hR⟩ : ∃ R, pinB f k 1 (bl Z) = R := ⟨_, rfl⟩
  have hpr := HDD.out.live.pin HARG.out.1 HARG.out.2.1 (fun x hx => Nat.lt_of_lt_of_le (HPB.out x hx) (by omega)) (r := pinB f k 1 (bl Z)) rfl
  rw [hR] at hpr
  unfold keyV at hpr
  have HPR := Lib.hid hpr
  have HR := Lib.hid hR
  rw [hR]
  clear hpr hR HP
  go_wp2_with fail
  go_region_held3 (fun w' => w'.cell? ⟨v + 1, 0, none⟩ = some (.int .i64 f) ∧ w'.cell? ⟨v + 1, 1, none⟩ = some (.int .i64 k) ∧ w'.cell? ⟨v, 1, none⟩ = some (.int .i64 f) ∧ w'.cell? ⟨v, 2, none⟩ = some (.int .i64 k))
    (first | exact ⟨ek0, ek1, ea1, ea2⟩ | exact ⟨k0, k1, a1, a2⟩ | exact ⟨zk0, zk1, za1, za2⟩ | exact ⟨yk0, yk1, ya1, ya2⟩ | fail)
    (first
      | (go_at_call 20
         refine HPR.out.mono ?_
         rintro e w1 ⟨rfl, Z1, ht1, hz1⟩
         have HT1 := Lib.hid ht1
         have HZ1 := Lib.hid hz1
         clear hz1
         have hd1 := HDD.out.prog ht1
         have HDX := Lib.hid hd1
         have HBXX := Lib.hid (HBD.out.turn ht1)
         have HBKX := Lib.hid (HBKD.out.turn ht1)
         have zk0 : w1.cell? ⟨v + 1, 0, none⟩ = some (.int .i64 f) := HBKX.out.cell (j := 0) rfl
         have zk1 : w1.cell? ⟨v + 1, 1, none⟩ = some (.int .i64 k) := HBKX.out.cell (j := 1) rfl
         have za1 : w1.cell? ⟨v, 1, none⟩ = some (.int .i64 f) := HBXX.out.cell (j := 1) rfl
         have za2 : w1.cell? ⟨v, 2, none⟩ = some (.int .i64 k) := HBXX.out.cell (j := 2) rfl
         have hrg := rpin_any hd1.rep hd1.good f k 1 (.inl rfl) (fun x hx => Nat.lt_of_lt_of_le (HPB.out x hx) (by omega))
         rw [HR.out] at hrg
         have HRG := Lib.hid hrg
         clear ht1 hd1 hrg)
      | (go_at_call 29
         refine HRG.out.mono ?_
         rintro e w2 ⟨rfl, ht2, hg2⟩
         have HA := Lib.hid (acted HD.out HB2D.out HT1.out ht2 hg2 HZ1.out)
         have HDY := Lib.hid (HDX.out.docs ht2 hg2)
         have HBXY := Lib.hid (HBXX.out.rturn ht2)
         have HBKY := Lib.hid (HBKX.out.rturn ht2)
         have yk0 : w2.cell? ⟨v + 1, 0, none⟩ = some (.int .i64 f) := HBKY.out.cell (j := 0) rfl
         have yk1 : w2.cell? ⟨v + 1, 1, none⟩ = some (.int .i64 k) := HBKY.out.cell (j := 1) rfl
         have ya1 : w2.cell? ⟨v, 1, none⟩ = some (.int .i64 f) := HBXY.out.cell (j := 1) rfl
         have ya2 : w2.cell? ⟨v, 2, none⟩ = some (.int .i64 k) := HBXY.out.cell (j := 2) rfl
         clear ht2 hg2)
      | fail)
  all_goals
    clear ek0 ek1 ea1 ea2 zk0 zk1 za1 za2 yk0 yk1 ya1 ya2
    go_wp2
    go_ret
    exact ⟨rfl, _, Z1, _, _, by rw [HR.out]; exact HA.out⟩

set_option maxRecDepth 100000 in
set_option maxHeartbeats 4000000 in
theorem act_n2 (h : Duo W w c z b N Z s r rb LA lc (bl Z) s) (ad f k : Int) (d : ByteArray) (an : Int) (hf : i64 f) (hk : i64 k) (hd : d.size ≤ 140737488351232) (hn : i64 an) (hm : ad.tmod 7 = -2) (_hN : N ≤ 100000) (_hlen : Z.length ≤ 100000) (hp : ∀ x ∈ bl Z, x.pins < 1000000) :
    Calls Try.prog 13 #[.pointer (some ⟨c, 0, none⟩), .pointer (some ⟨b, 0, none⟩), .pointer (some ⟨r, 0, none⟩), .agg #[.int .i64 ad, .int .i64 f, .int .i64 k, .string d, .int .i64 an]] w (ActOut W w c z b N Z r rb LA ((pinB f k 1 (bl Z)).2, s)) := by
  have HD := Lib.hid h
  have hB2 := below_2 w (.cells #[.int .i64 ad, .int .i64 f, .int .i64 k, .string d, .int .i64 an] 36) (.cells #[.int .i64 f, .int .i64 k] 42)
  have HB2 := Lib.hid hB2
  obtain ⟨hbx, hbk⟩ := box2_new (ad := ad) (f := f) (k := k) (d := d) (an := an) w h.live.rep.own_lt h.rep.own_lt
  obtain ⟨v, hv⟩ : ∃ v, w.heap.size = v := ⟨_, rfl⟩
  rw [hv] at hbx hbk
  have HV := Lib.hid hv
  have HBX := Lib.hid hbx
  have HBK := Lib.hid hbk
  have a0 := hbx.cell (j := 0) rfl
  have a1 := hbx.cell (j := 1) rfl
  have a2 := hbx.cell (j := 2) rfl
  have a3 := hbx.cell (j := 3) rfl
  have a4 := hbx.cell (j := 4) rfl
  have k0 := hbk.cell (j := 0) rfl
  have k1 := hbk.cell (j := 1) rfl
  have hdk := h.still hB2
  have HDK := Lib.hid hdk
  have HPB := Lib.hid hp
  have HARG : Hid (i64 f ∧ i64 k ∧ d.size ≤ 140737488351232 ∧ i64 an) := Lib.hid ⟨hf, hk, hd, hn⟩
  have HP : Hid True := Lib.hid trivial
  clear h hB2 hbx hbk hv hdk hf hk hd hn hp
  go_enter Try.func13, Try.ntmps13
  go_wp2_with fail
  rw [HV.out]
  generalize (w.alloc (.cells #[.int .i64 ad, .int .i64 f, .int .i64 k, .string d, .int .i64 an] 36)).alloc (.cells #[.int .i64 f, .int .i64 k] 42) = wk at HB2 HBX HBK HDK HP a0 a1 a2 a3 a4 k0 k1 ⊢
  have HDD := Lib.hid (HDK.out.still ((Below.refl _ _).drew))
  have HBD := Lib.hid (HBX.out.still ((Below.refl _ _).drew))
  have HBKD := Lib.hid (HBK.out.still ((Below.refl _ _).drew))
  have HB2D := Lib.hid (HB2.out.drew)
  have ek0 : wk.drew.cell? ⟨v + 1, 0, none⟩ = some (.int .i64 f) := HBKD.out.cell (j := 0) rfl
  have ek1 : wk.drew.cell? ⟨v + 1, 1, none⟩ = some (.int .i64 k) := HBKD.out.cell (j := 1) rfl
  have ea1 : wk.drew.cell? ⟨v, 1, none⟩ = some (.int .i64 f) := HBD.out.cell (j := 1) rfl
  have ea2 : wk.drew.cell? ⟨v, 2, none⟩ = some (.int .i64 k) := HBD.out.cell (j := 2) rfl
  obtain ⟨R, hR⟩ : ∃ R, pinB f k 1 (bl Z) = R := ⟨_, rfl⟩
  have hpr := HDD.out.live.pin HARG.out.1 HARG.out.2.1 (fun x hx => Nat.lt_of_lt_of_le (HPB.out x hx) (by omega)) (r := pinB f k 1 (bl Z)) rfl
  rw [hR] at hpr
  unfold keyV at hpr
  have HPR := Lib.hid hpr
  have HR := Lib.hid hR
  rw [hR]
  clear hpr hR HP
  go_wp2_with fail
  go_region_held3 (fun w' => w'.cell? ⟨v + 1, 0, none⟩ = some (.int .i64 f) ∧ w'.cell? ⟨v + 1, 1, none⟩ = some (.int .i64 k) ∧ w'.cell? ⟨v, 1, none⟩ = some (.int .i64 f) ∧ w'.cell? ⟨v, 2, none⟩ = some (.int .i64 k))
    (first | exact ⟨ek0, ek1, ea1, ea2⟩ | exact ⟨k0, k1, a1, a2⟩ | exact ⟨zk0, zk1, za1, za2⟩ | exact ⟨yk0, yk1, ya1, ya2⟩ | fail)
    (first
      | (go_at_call 20
         refine HPR.out.mono ?_
         rintro e w1 ⟨rfl, Z1, ht1, hz1⟩
         have HT1 := Lib.hid ht1
         have HZ1 := Lib.hid hz1
         clear hz1
         have hd1 := HDD.out.prog ht1
         have HDX := Lib.hid hd1
         have HBXX := Lib.hid (HBD.out.turn ht1)
         have HBKX := Lib.hid (HBKD.out.turn ht1)
         have zk0 : w1.cell? ⟨v + 1, 0, none⟩ = some (.int .i64 f) := HBKX.out.cell (j := 0) rfl
         have zk1 : w1.cell? ⟨v + 1, 1, none⟩ = some (.int .i64 k) := HBKX.out.cell (j := 1) rfl
         have za1 : w1.cell? ⟨v, 1, none⟩ = some (.int .i64 f) := HBXX.out.cell (j := 1) rfl
         have za2 : w1.cell? ⟨v, 2, none⟩ = some (.int .i64 k) := HBXX.out.cell (j := 2) rfl
         have hrg := rpin_any hd1.rep hd1.good f k 1 (.inl rfl) (fun x hx => Nat.lt_of_lt_of_le (HPB.out x hx) (by omega))
         rw [HR.out] at hrg
         have HRG := Lib.hid hrg
         clear ht1 hd1 hrg)
      | (go_at_call 29
         refine HRG.out.mono ?_
         rintro e w2 ⟨rfl, ht2, hg2⟩
         have HA := Lib.hid (acted HD.out HB2D.out HT1.out ht2 hg2 HZ1.out)
         have HDY := Lib.hid (HDX.out.docs ht2 hg2)
         have HBXY := Lib.hid (HBXX.out.rturn ht2)
         have HBKY := Lib.hid (HBKX.out.rturn ht2)
         have yk0 : w2.cell? ⟨v + 1, 0, none⟩ = some (.int .i64 f) := HBKY.out.cell (j := 0) rfl
         have yk1 : w2.cell? ⟨v + 1, 1, none⟩ = some (.int .i64 k) := HBKY.out.cell (j := 1) rfl
         have ya1 : w2.cell? ⟨v, 1, none⟩ = some (.int .i64 f) := HBXY.out.cell (j := 1) rfl
         have ya2 : w2.cell? ⟨v, 2, none⟩ = some (.int .i64 k) := HBXY.out.cell (j := 2) rfl
         clear ht2 hg2)
      | fail)
  all_goals
    clear ek0 ek1 ea1 ea2 zk0 zk1 za1 za2 yk0 yk1 ya1 ya2
    go_wp2
    go_ret
    exact ⟨rfl, _, Z1, _, _, by rw [HR.out]; exact HA.out⟩

set_option maxRecDepth 100000 in
set_option maxHeartbeats 4000000 in
theorem act_p3 (h : Duo W w c z b N Z s r rb LA lc (bl Z) s) (ad f k : Int) (d : ByteArray) (an : Int) (hf : i64 f) (hk : i64 k) (hd : d.size ≤ 140737488351232) (hn : i64 an) (hm : ad.tmod 7 = 3) (_hN : N ≤ 100000) (_hlen : Z.length ≤ 100000) (hp : ∀ x ∈ bl Z, x.pins < 1000000) :
    Calls Try.prog 13 #[.pointer (some ⟨c, 0, none⟩), .pointer (some ⟨b, 0, none⟩), .pointer (some ⟨r, 0, none⟩), .agg #[.int .i64 ad, .int .i64 f, .int .i64 k, .string d, .int .i64 an]] w (ActOut W w c z b N Z r rb LA ((pinB f k (-1) (bl Z)).2, s)) := by
  have HD := Lib.hid h
  have hB2 := below_2 w (.cells #[.int .i64 ad, .int .i64 f, .int .i64 k, .string d, .int .i64 an] 36) (.cells #[.int .i64 f, .int .i64 k] 42)
  have HB2 := Lib.hid hB2
  obtain ⟨hbx, hbk⟩ := box2_new (ad := ad) (f := f) (k := k) (d := d) (an := an) w h.live.rep.own_lt h.rep.own_lt
  obtain ⟨v, hv⟩ : ∃ v, w.heap.size = v := ⟨_, rfl⟩
  rw [hv] at hbx hbk
  have HV := Lib.hid hv
  have HBX := Lib.hid hbx
  have HBK := Lib.hid hbk
  have a0 := hbx.cell (j := 0) rfl
  have a1 := hbx.cell (j := 1) rfl
  have a2 := hbx.cell (j := 2) rfl
  have a3 := hbx.cell (j := 3) rfl
  have a4 := hbx.cell (j := 4) rfl
  have k0 := hbk.cell (j := 0) rfl
  have k1 := hbk.cell (j := 1) rfl
  have hdk := h.still hB2
  have HDK := Lib.hid hdk
  have HPB := Lib.hid hp
  have HARG : Hid (i64 f ∧ i64 k ∧ d.size ≤ 140737488351232 ∧ i64 an) := Lib.hid ⟨hf, hk, hd, hn⟩
  have HP : Hid True := Lib.hid trivial
  clear h hB2 hbx hbk hv hdk hf hk hd hn hp
  go_enter Try.func13, Try.ntmps13
  go_wp2_with fail
  rw [HV.out]
  generalize (w.alloc (.cells #[.int .i64 ad, .int .i64 f, .int .i64 k, .string d, .int .i64 an] 36)).alloc (.cells #[.int .i64 f, .int .i64 k] 42) = wk at HB2 HBX HBK HDK HP a0 a1 a2 a3 a4 k0 k1 ⊢
  have HDD := Lib.hid (HDK.out.still ((Below.refl _ _).drew))
  have HBD := Lib.hid (HBX.out.still ((Below.refl _ _).drew))
  have HBKD := Lib.hid (HBK.out.still ((Below.refl _ _).drew))
  have HB2D := Lib.hid (HB2.out.drew)
  have ek0 : wk.drew.cell? ⟨v + 1, 0, none⟩ = some (.int .i64 f) := HBKD.out.cell (j := 0) rfl
  have ek1 : wk.drew.cell? ⟨v + 1, 1, none⟩ = some (.int .i64 k) := HBKD.out.cell (j := 1) rfl
  have ea1 : wk.drew.cell? ⟨v, 1, none⟩ = some (.int .i64 f) := HBD.out.cell (j := 1) rfl
  have ea2 : wk.drew.cell? ⟨v, 2, none⟩ = some (.int .i64 k) := HBD.out.cell (j := 2) rfl
  obtain ⟨R, hR⟩ : ∃ R, pinB f k (-1) (bl Z) = R := ⟨_, rfl⟩
  have hpr := HDD.out.live.unpin HARG.out.1 HARG.out.2.1 (r := pinB f k (-1) (bl Z)) rfl
  rw [hR] at hpr
  unfold keyV at hpr
  have HPR := Lib.hid hpr
  have HR := Lib.hid hR
  rw [hR]
  clear hpr hR HP
  go_wp2_with fail
  go_region_held3 (fun w' => w'.cell? ⟨v + 1, 0, none⟩ = some (.int .i64 f) ∧ w'.cell? ⟨v + 1, 1, none⟩ = some (.int .i64 k) ∧ w'.cell? ⟨v, 1, none⟩ = some (.int .i64 f) ∧ w'.cell? ⟨v, 2, none⟩ = some (.int .i64 k))
    (first | exact ⟨ek0, ek1, ea1, ea2⟩ | exact ⟨k0, k1, a1, a2⟩ | exact ⟨zk0, zk1, za1, za2⟩ | exact ⟨yk0, yk1, ya1, ya2⟩ | fail)
    (first
      | (go_at_call 25
         refine HPR.out.mono ?_
         rintro e w1 ⟨rfl, Z1, ht1, hz1⟩
         have HT1 := Lib.hid ht1
         have HZ1 := Lib.hid hz1
         clear hz1
         have hd1 := HDD.out.prog ht1
         have HDX := Lib.hid hd1
         have HBXX := Lib.hid (HBD.out.turn ht1)
         have HBKX := Lib.hid (HBKD.out.turn ht1)
         have zk0 : w1.cell? ⟨v + 1, 0, none⟩ = some (.int .i64 f) := HBKX.out.cell (j := 0) rfl
         have zk1 : w1.cell? ⟨v + 1, 1, none⟩ = some (.int .i64 k) := HBKX.out.cell (j := 1) rfl
         have za1 : w1.cell? ⟨v, 1, none⟩ = some (.int .i64 f) := HBXX.out.cell (j := 1) rfl
         have za2 : w1.cell? ⟨v, 2, none⟩ = some (.int .i64 k) := HBXX.out.cell (j := 2) rfl
         have hrg := rpin_any hd1.rep hd1.good f k (-1) (.inr rfl) (fun x hx => Nat.lt_of_lt_of_le (HPB.out x hx) (by omega))
         rw [HR.out] at hrg
         have HRG := Lib.hid hrg
         clear ht1 hd1 hrg)
      | (go_at_call 29
         refine HRG.out.mono ?_
         rintro e w2 ⟨rfl, ht2, hg2⟩
         have HA := Lib.hid (acted HD.out HB2D.out HT1.out ht2 hg2 HZ1.out)
         have HDY := Lib.hid (HDX.out.docs ht2 hg2)
         have HBXY := Lib.hid (HBXX.out.rturn ht2)
         have HBKY := Lib.hid (HBKX.out.rturn ht2)
         have yk0 : w2.cell? ⟨v + 1, 0, none⟩ = some (.int .i64 f) := HBKY.out.cell (j := 0) rfl
         have yk1 : w2.cell? ⟨v + 1, 1, none⟩ = some (.int .i64 k) := HBKY.out.cell (j := 1) rfl
         have ya1 : w2.cell? ⟨v, 1, none⟩ = some (.int .i64 f) := HBXY.out.cell (j := 1) rfl
         have ya2 : w2.cell? ⟨v, 2, none⟩ = some (.int .i64 k) := HBXY.out.cell (j := 2) rfl
         clear ht2 hg2)
      | fail)
  all_goals
    clear ek0 ek1 ea1 ea2 zk0 zk1 za1 za2 yk0 yk1 ya1 ya2
    go_wp2
    go_ret
    exact ⟨rfl, _, Z1, _, _, by rw [HR.out]; exact HA.out⟩

set_option maxRecDepth 100000 in
set_option maxHeartbeats 4000000 in
theorem act_n3 (h : Duo W w c z b N Z s r rb LA lc (bl Z) s) (ad f k : Int) (d : ByteArray) (an : Int) (hf : i64 f) (hk : i64 k) (hd : d.size ≤ 140737488351232) (hn : i64 an) (hm : ad.tmod 7 = -3) (_hN : N ≤ 100000) (_hlen : Z.length ≤ 100000) (hp : ∀ x ∈ bl Z, x.pins < 1000000) :
    Calls Try.prog 13 #[.pointer (some ⟨c, 0, none⟩), .pointer (some ⟨b, 0, none⟩), .pointer (some ⟨r, 0, none⟩), .agg #[.int .i64 ad, .int .i64 f, .int .i64 k, .string d, .int .i64 an]] w (ActOut W w c z b N Z r rb LA ((pinB f k (-1) (bl Z)).2, s)) := by
  have HD := Lib.hid h
  have hB2 := below_2 w (.cells #[.int .i64 ad, .int .i64 f, .int .i64 k, .string d, .int .i64 an] 36) (.cells #[.int .i64 f, .int .i64 k] 42)
  have HB2 := Lib.hid hB2
  obtain ⟨hbx, hbk⟩ := box2_new (ad := ad) (f := f) (k := k) (d := d) (an := an) w h.live.rep.own_lt h.rep.own_lt
  obtain ⟨v, hv⟩ : ∃ v, w.heap.size = v := ⟨_, rfl⟩
  rw [hv] at hbx hbk
  have HV := Lib.hid hv
  have HBX := Lib.hid hbx
  have HBK := Lib.hid hbk
  have a0 := hbx.cell (j := 0) rfl
  have a1 := hbx.cell (j := 1) rfl
  have a2 := hbx.cell (j := 2) rfl
  have a3 := hbx.cell (j := 3) rfl
  have a4 := hbx.cell (j := 4) rfl
  have k0 := hbk.cell (j := 0) rfl
  have k1 := hbk.cell (j := 1) rfl
  have hdk := h.still hB2
  have HDK := Lib.hid hdk
  have HPB := Lib.hid hp
  have HARG : Hid (i64 f ∧ i64 k ∧ d.size ≤ 140737488351232 ∧ i64 an) := Lib.hid ⟨hf, hk, hd, hn⟩
  have HP : Hid True := Lib.hid trivial
  clear h hB2 hbx hbk hv hdk hf hk hd hn hp
  go_enter Try.func13, Try.ntmps13
  go_wp2_with fail
  rw [HV.out]
  generalize (w.alloc (.cells #[.int .i64 ad, .int .i64 f, .int .i64 k, .string d, .int .i64 an] 36)).alloc (.cells #[.int .i64 f, .int .i64 k] 42) = wk at HB2 HBX HBK HDK HP a0 a1 a2 a3 a4 k0 k1 ⊢
  have HDD := Lib.hid (HDK.out.still ((Below.refl _ _).drew))
  have HBD := Lib.hid (HBX.out.still ((Below.refl _ _).drew))
  have HBKD := Lib.hid (HBK.out.still ((Below.refl _ _).drew))
  have HB2D := Lib.hid (HB2.out.drew)
  have ek0 : wk.drew.cell? ⟨v + 1, 0, none⟩ = some (.int .i64 f) := HBKD.out.cell (j := 0) rfl
  have ek1 : wk.drew.cell? ⟨v + 1, 1, none⟩ = some (.int .i64 k) := HBKD.out.cell (j := 1) rfl
  have ea1 : wk.drew.cell? ⟨v, 1, none⟩ = some (.int .i64 f) := HBD.out.cell (j := 1) rfl
  have ea2 : wk.drew.cell? ⟨v, 2, none⟩ = some (.int .i64 k) := HBD.out.cell (j := 2) rfl
  obtain ⟨R, hR⟩ : ∃ R, pinB f k (-1) (bl Z) = R := ⟨_, rfl⟩
  have hpr := HDD.out.live.unpin HARG.out.1 HARG.out.2.1 (r := pinB f k (-1) (bl Z)) rfl
  rw [hR] at hpr
  unfold keyV at hpr
  have HPR := Lib.hid hpr
  have HR := Lib.hid hR
  rw [hR]
  clear hpr hR HP
  go_wp2_with fail
  go_region_held3 (fun w' => w'.cell? ⟨v + 1, 0, none⟩ = some (.int .i64 f) ∧ w'.cell? ⟨v + 1, 1, none⟩ = some (.int .i64 k) ∧ w'.cell? ⟨v, 1, none⟩ = some (.int .i64 f) ∧ w'.cell? ⟨v, 2, none⟩ = some (.int .i64 k))
    (first | exact ⟨ek0, ek1, ea1, ea2⟩ | exact ⟨k0, k1, a1, a2⟩ | exact ⟨zk0, zk1, za1, za2⟩ | exact ⟨yk0, yk1, ya1, ya2⟩ | fail)
    (first
      | (go_at_call 25
         refine HPR.out.mono ?_
         rintro e w1 ⟨rfl, Z1, ht1, hz1⟩
         have HT1 := Lib.hid ht1
         have HZ1 := Lib.hid hz1
         clear hz1
         have hd1 := HDD.out.prog ht1
         have HDX := Lib.hid hd1
         have HBXX := Lib.hid (HBD.out.turn ht1)
         have HBKX := Lib.hid (HBKD.out.turn ht1)
         have zk0 : w1.cell? ⟨v + 1, 0, none⟩ = some (.int .i64 f) := HBKX.out.cell (j := 0) rfl
         have zk1 : w1.cell? ⟨v + 1, 1, none⟩ = some (.int .i64 k) := HBKX.out.cell (j := 1) rfl
         have za1 : w1.cell? ⟨v, 1, none⟩ = some (.int .i64 f) := HBXX.out.cell (j := 1) rfl
         have za2 : w1.cell? ⟨v, 2, none⟩ = some (.int .i64 k) := HBXX.out.cell (j := 2) rfl
         have hrg := rpin_any hd1.rep hd1.good f k (-1) (.inr rfl) (fun x hx => Nat.lt_of_lt_of_le (HPB.out x hx) (by omega))
         rw [HR.out] at hrg
         have HRG := Lib.hid hrg
         clear ht1 hd1 hrg)
      | (go_at_call 29
         refine HRG.out.mono ?_
         rintro e w2 ⟨rfl, ht2, hg2⟩
         have HA := Lib.hid (acted HD.out HB2D.out HT1.out ht2 hg2 HZ1.out)
         have HDY := Lib.hid (HDX.out.docs ht2 hg2)
         have HBXY := Lib.hid (HBXX.out.rturn ht2)
         have HBKY := Lib.hid (HBKX.out.rturn ht2)
         have yk0 : w2.cell? ⟨v + 1, 0, none⟩ = some (.int .i64 f) := HBKY.out.cell (j := 0) rfl
         have yk1 : w2.cell? ⟨v + 1, 1, none⟩ = some (.int .i64 k) := HBKY.out.cell (j := 1) rfl
         have ya1 : w2.cell? ⟨v, 1, none⟩ = some (.int .i64 f) := HBXY.out.cell (j := 1) rfl
         have ya2 : w2.cell? ⟨v, 2, none⟩ = some (.int .i64 k) := HBXY.out.cell (j := 2) rfl
         clear ht2 hg2)
      | fail)
  all_goals
    clear ek0 ek1 ea1 ea2 zk0 zk1 za1 za2 yk0 yk1 ya1 ya2
    go_wp2
    go_ret
    exact ⟨rfl, _, Z1, _, _, by rw [HR.out]; exact HA.out⟩

set_option maxRecDepth 100000 in
set_option maxHeartbeats 4000000 in
theorem act_p5 (h : Duo W w c z b N Z s r rb LA lc (bl Z) s) (ad f k : Int) (d : ByteArray) (an : Int) (hf : i64 f) (hk : i64 k) (hd : d.size ≤ 140737488351232) (hn : i64 an) (hm : ad.tmod 7 = 5) (_hN : N ≤ 100000) (_hlen : Z.length ≤ 100000) (hp : ∀ x ∈ bl Z, x.pins < 1000000) :
    Calls Try.prog 13 #[.pointer (some ⟨c, 0, none⟩), .pointer (some ⟨b, 0, none⟩), .pointer (some ⟨r, 0, none⟩), .agg #[.int .i64 ad, .int .i64 f, .int .i64 k, .string d, .int .i64 an]] w (ActOut W w c z b N Z r rb LA ((shrB an (bl Z) s).2)) := by
  have HD := Lib.hid h
  have hB2 := below_2 w (.cells #[.int .i64 ad, .int .i64 f, .int .i64 k, .string d, .int .i64 an] 36) (.cells #[.int .i64 f, .int .i64 k] 42)
  have HB2 := Lib.hid hB2
  obtain ⟨hbx, hbk⟩ := box2_new (ad := ad) (f := f) (k := k) (d := d) (an := an) w h.live.rep.own_lt h.rep.own_lt
  obtain ⟨v, hv⟩ : ∃ v, w.heap.size = v := ⟨_, rfl⟩
  rw [hv] at hbx hbk
  have HV := Lib.hid hv
  have HBX := Lib.hid hbx
  have HBK := Lib.hid hbk
  have a0 := hbx.cell (j := 0) rfl
  have a1 := hbx.cell (j := 1) rfl
  have a2 := hbx.cell (j := 2) rfl
  have a3 := hbx.cell (j := 3) rfl
  have a4 := hbx.cell (j := 4) rfl
  have k0 := hbk.cell (j := 0) rfl
  have k1 := hbk.cell (j := 1) rfl
  have hdk := h.still hB2
  have HDK := Lib.hid hdk
  have HPB := Lib.hid hp
  have HARG : Hid (i64 f ∧ i64 k ∧ d.size ≤ 140737488351232 ∧ i64 an) := Lib.hid ⟨hf, hk, hd, hn⟩
  have HP : Hid True := Lib.hid trivial
  clear h hB2 hbx hbk hv hdk hf hk hd hn hp
  go_enter Try.func13, Try.ntmps13
  go_wp2_with fail
  rw [HV.out]
  generalize (w.alloc (.cells #[.int .i64 ad, .int .i64 f, .int .i64 k, .string d, .int .i64 an] 36)).alloc (.cells #[.int .i64 f, .int .i64 k] 42) = wk at HB2 HBX HBK HDK HP a0 a1 a2 a3 a4 k0 k1 ⊢
  have HDD := Lib.hid (HDK.out.still ((Below.refl _ _).drew))
  have HBD := Lib.hid (HBX.out.still ((Below.refl _ _).drew))
  have HBKD := Lib.hid (HBK.out.still ((Below.refl _ _).drew))
  have HB2D := Lib.hid (HB2.out.drew)
  have c1 := HDK.out.rep.c1
  have ea4 : wk.drew.cell? ⟨v, 4, none⟩ = some (.int .i64 an) := HBD.out.cell (j := 4) rfl
  have ec1 : wk.drew.cell? ⟨r, 1, none⟩ = some (.pointer (some ⟨rb, 0, none⟩)) := HDD.out.rep.c1
  obtain ⟨R, hR⟩ : ∃ R, shrB an (bl Z) s = R := ⟨_, rfl⟩
  have hpr := HDD.out.live.shrink (by omega) HARG.out.2.2.2 (r := shrB an (bl Z) s) rfl
  rw [hR] at hpr
  have HPR := Lib.hid hpr
  have HR := Lib.hid hR
  rw [hR]
  clear hpr hR HP
  go_wp2_with fail
  go_region_held3 (fun w' => w'.cell? ⟨v, 4, none⟩ = some (.int .i64 an) ∧ w'.cell? ⟨r, 1, none⟩ = some (.pointer (some ⟨rb, 0, none⟩)))
    (first | exact ⟨ea4, ec1⟩ | exact ⟨a4, c1⟩ | exact ⟨za4, zc1⟩ | exact ⟨ya4, yc1⟩ | fail)
    (first
      | (go_at_call 22
         refine HPR.out.mono ?_
         rintro e w1 ⟨rfl, Z1, ht1, hz1⟩
         have HT1 := Lib.hid ht1
         have HZ1 := Lib.hid hz1
         clear hz1
         have hd1 := HDD.out.prog ht1
         have HDX := Lib.hid hd1
         have HBXX := Lib.hid (HBD.out.turn ht1)
         have HBKX := Lib.hid (HBKD.out.turn ht1)
         have za4 : w1.cell? ⟨v, 4, none⟩ = some (.int .i64 an) := HBXX.out.cell (j := 4) rfl
         have zc1 : w1.cell? ⟨r, 1, none⟩ = some (.pointer (some ⟨rb, 0, none⟩)) := HDX.out.rep.c1
         have hrg := rshrink_any hd1.rep hd1.good hd1.size an
         rw [HR.out] at hrg
         have HRG := Lib.hid hrg
         clear ht1 hd1 hrg)
      | (go_at_call 31
         refine HRG.out.mono ?_
         rintro e w2 ⟨rfl, LA2, lc2, ht2, hg2⟩
         have HA := Lib.hid (acted HD.out HB2D.out HT1.out ht2 hg2 HZ1.out)
         have HDY := Lib.hid (HDX.out.docs ht2 hg2)
         have HBXY := Lib.hid (HBXX.out.rturn ht2)
         have HBKY := Lib.hid (HBKX.out.rturn ht2)
         have ya4 : w2.cell? ⟨v, 4, none⟩ = some (.int .i64 an) := HBXY.out.cell (j := 4) rfl
         have yc1 : w2.cell? ⟨r, 1, none⟩ = some (.pointer (some ⟨rb, 0, none⟩)) := HDY.out.rep.c1
         clear ht2 hg2)
      | fail)
  all_goals
    clear ea4 ec1 za4 zc1 ya4 yc1
    go_wp2
    go_ret
    exact ⟨rfl, _, Z1, _, _, by rw [HR.out]; exact HA.out⟩

set_option maxRecDepth 100000 in
set_option maxHeartbeats 4000000 in
theorem act_n5 (h : Duo W w c z b N Z s r rb LA lc (bl Z) s) (ad f k : Int) (d : ByteArray) (an : Int) (hf : i64 f) (hk : i64 k) (hd : d.size ≤ 140737488351232) (hn : i64 an) (hm : ad.tmod 7 = -5) (_hN : N ≤ 100000) (_hlen : Z.length ≤ 100000) (hp : ∀ x ∈ bl Z, x.pins < 1000000) :
    Calls Try.prog 13 #[.pointer (some ⟨c, 0, none⟩), .pointer (some ⟨b, 0, none⟩), .pointer (some ⟨r, 0, none⟩), .agg #[.int .i64 ad, .int .i64 f, .int .i64 k, .string d, .int .i64 an]] w (ActOut W w c z b N Z r rb LA ((shrB an (bl Z) s).2)) := by
  have HD := Lib.hid h
  have hB2 := below_2 w (.cells #[.int .i64 ad, .int .i64 f, .int .i64 k, .string d, .int .i64 an] 36) (.cells #[.int .i64 f, .int .i64 k] 42)
  have HB2 := Lib.hid hB2
  obtain ⟨hbx, hbk⟩ := box2_new (ad := ad) (f := f) (k := k) (d := d) (an := an) w h.live.rep.own_lt h.rep.own_lt
  obtain ⟨v, hv⟩ : ∃ v, w.heap.size = v := ⟨_, rfl⟩
  rw [hv] at hbx hbk
  have HV := Lib.hid hv
  have HBX := Lib.hid hbx
  have HBK := Lib.hid hbk
  have a0 := hbx.cell (j := 0) rfl
  have a1 := hbx.cell (j := 1) rfl
  have a2 := hbx.cell (j := 2) rfl
  have a3 := hbx.cell (j := 3) rfl
  have a4 := hbx.cell (j := 4) rfl
  have k0 := hbk.cell (j := 0) rfl
  have k1 := hbk.cell (j := 1) rfl
  have hdk := h.still hB2
  have HDK := Lib.hid hdk
  have HPB := Lib.hid hp
  have HARG : Hid (i64 f ∧ i64 k ∧ d.size ≤ 140737488351232 ∧ i64 an) := Lib.hid ⟨hf, hk, hd, hn⟩
  have HP : Hid True := Lib.hid trivial
  clear h hB2 hbx hbk hv hdk hf hk hd hn hp
  go_enter Try.func13, Try.ntmps13
  go_wp2_with fail
  rw [HV.out]
  generalize (w.alloc (.cells #[.int .i64 ad, .int .i64 f, .int .i64 k, .string d, .int .i64 an] 36)).alloc (.cells #[.int .i64 f, .int .i64 k] 42) = wk at HB2 HBX HBK HDK HP a0 a1 a2 a3 a4 k0 k1 ⊢
  have HDD := Lib.hid (HDK.out.still ((Below.refl _ _).drew))
  have HBD := Lib.hid (HBX.out.still ((Below.refl _ _).drew))
  have HBKD := Lib.hid (HBK.out.still ((Below.refl _ _).drew))
  have HB2D := Lib.hid (HB2.out.drew)
  have c1 := HDK.out.rep.c1
  have ea4 : wk.drew.cell? ⟨v, 4, none⟩ = some (.int .i64 an) := HBD.out.cell (j := 4) rfl
  have ec1 : wk.drew.cell? ⟨r, 1, none⟩ = some (.pointer (some ⟨rb, 0, none⟩)) := HDD.out.rep.c1
  obtain ⟨R, hR⟩ : ∃ R, shrB an (bl Z) s = R := ⟨_, rfl⟩
  have hpr := HDD.out.live.shrink (by omega) HARG.out.2.2.2 (r := shrB an (bl Z) s) rfl
  rw [hR] at hpr
  have HPR := Lib.hid hpr
  have HR := Lib.hid hR
  rw [hR]
  clear hpr hR HP
  go_wp2_with fail
  go_region_held3 (fun w' => w'.cell? ⟨v, 4, none⟩ = some (.int .i64 an) ∧ w'.cell? ⟨r, 1, none⟩ = some (.pointer (some ⟨rb, 0, none⟩)))
    (first | exact ⟨ea4, ec1⟩ | exact ⟨a4, c1⟩ | exact ⟨za4, zc1⟩ | exact ⟨ya4, yc1⟩ | fail)
    (first
      | (go_at_call 22
         refine HPR.out.mono ?_
         rintro e w1 ⟨rfl, Z1, ht1, hz1⟩
         have HT1 := Lib.hid ht1
         have HZ1 := Lib.hid hz1
         clear hz1
         have hd1 := HDD.out.prog ht1
         have HDX := Lib.hid hd1
         have HBXX := Lib.hid (HBD.out.turn ht1)
         have HBKX := Lib.hid (HBKD.out.turn ht1)
         have za4 : w1.cell? ⟨v, 4, none⟩ = some (.int .i64 an) := HBXX.out.cell (j := 4) rfl
         have zc1 : w1.cell? ⟨r, 1, none⟩ = some (.pointer (some ⟨rb, 0, none⟩)) := HDX.out.rep.c1
         have hrg := rshrink_any hd1.rep hd1.good hd1.size an
         rw [HR.out] at hrg
         have HRG := Lib.hid hrg
         clear ht1 hd1 hrg)
      | (go_at_call 31
         refine HRG.out.mono ?_
         rintro e w2 ⟨rfl, LA2, lc2, ht2, hg2⟩
         have HA := Lib.hid (acted HD.out HB2D.out HT1.out ht2 hg2 HZ1.out)
         have HDY := Lib.hid (HDX.out.docs ht2 hg2)
         have HBXY := Lib.hid (HBXX.out.rturn ht2)
         have HBKY := Lib.hid (HBKX.out.rturn ht2)
         have ya4 : w2.cell? ⟨v, 4, none⟩ = some (.int .i64 an) := HBXY.out.cell (j := 4) rfl
         have yc1 : w2.cell? ⟨r, 1, none⟩ = some (.pointer (some ⟨rb, 0, none⟩)) := HDY.out.rep.c1
         clear ht2 hg2)
      | fail)
  all_goals
    clear ea4 ec1 za4 zc1 ya4 yc1
    go_wp2
    go_ret
    exact ⟨rfl, _, Z1, _, _, by rw [HR.out]; exact HA.out⟩

set_option maxRecDepth 100000 in
set_option maxHeartbeats 4000000 in
theorem act_p6 (h : Duo W w c z b N Z s r rb LA lc (bl Z) s) (ad f k : Int) (d : ByteArray) (an : Int) (hf : i64 f) (hk : i64 k) (hd : d.size ≤ 140737488351232) (hn : i64 an) (hm : ad.tmod 7 = 6) (_hN : N ≤ 100000) (_hlen : Z.length ≤ 100000) (hp : ∀ x ∈ bl Z, x.pins < 1000000) :
    Calls Try.prog 13 #[.pointer (some ⟨c, 0, none⟩), .pointer (some ⟨b, 0, none⟩), .pointer (some ⟨r, 0, none⟩), .agg #[.int .i64 ad, .int .i64 f, .int .i64 k, .string d, .int .i64 an]] w (ActOut W w c z b N Z r rb LA (bl Z, (BM.change 0 an s).2)) := by
  have HD := Lib.hid h
  have hB2 := below_2 w (.cells #[.int .i64 ad, .int .i64 f, .int .i64 k, .string d, .int .i64 an] 36) (.cells #[.int .i64 f, .int .i64 k] 42)
  have HB2 := Lib.hid hB2
  obtain ⟨hbx, hbk⟩ := box2_new (ad := ad) (f := f) (k := k) (d := d) (an := an) w h.live.rep.own_lt h.rep.own_lt
  obtain ⟨v, hv⟩ : ∃ v, w.heap.size = v := ⟨_, rfl⟩
  rw [hv] at hbx hbk
  have HV := Lib.hid hv
  have HBX := Lib.hid hbx
  have HBK := Lib.hid hbk
  have a0 := hbx.cell (j := 0) rfl
  have a1 := hbx.cell (j := 1) rfl
  have a2 := hbx.cell (j := 2) rfl
  have a3 := hbx.cell (j := 3) rfl
  have a4 := hbx.cell (j := 4) rfl
  have k0 := hbk.cell (j := 0) rfl
  have k1 := hbk.cell (j := 1) rfl
  have hdk := h.still hB2
  have HDK := Lib.hid hdk
  have HPB := Lib.hid hp
  have HARG : Hid (i64 f ∧ i64 k ∧ d.size ≤ 140737488351232 ∧ i64 an) := Lib.hid ⟨hf, hk, hd, hn⟩
  have HP : Hid True := Lib.hid trivial
  clear h hB2 hbx hbk hv hdk hf hk hd hn hp
  go_enter Try.func13, Try.ntmps13
  go_wp2_with fail
  rw [HV.out]
  generalize (w.alloc (.cells #[.int .i64 ad, .int .i64 f, .int .i64 k, .string d, .int .i64 an] 36)).alloc (.cells #[.int .i64 f, .int .i64 k] 42) = wk at HB2 HBX HBK HDK HP a0 a1 a2 a3 a4 k0 k1 ⊢
  have HDD := Lib.hid (HDK.out.still ((Below.refl _ _).drew))
  have HBD := Lib.hid (HBX.out.still ((Below.refl _ _).drew))
  have HBKD := Lib.hid (HBK.out.still ((Below.refl _ _).drew))
  have HB2D := Lib.hid (HB2.out.drew)
  have c1 := HDK.out.rep.c1
  have ea4 : wk.drew.cell? ⟨v, 4, none⟩ = some (.int .i64 an) := HBD.out.cell (j := 4) rfl
  have ec1 : wk.drew.cell? ⟨r, 1, none⟩ = some (.pointer (some ⟨rb, 0, none⟩)) := HDD.out.rep.c1
  obtain ⟨R, hR⟩ : ∃ R, BM.change 0 an s = R := ⟨_, rfl⟩
  have hpr := HDD.out.live.change an HARG.out.2.2.2.2
  rw [hR] at hpr
  have HPR := Lib.hid hpr
  have HR := Lib.hid hR
  rw [hR]
  clear hpr hR HP
  go_wp2_with fail
  go_region_held3 (fun w' => w'.cell? ⟨v, 4, none⟩ = some (.int .i64 an) ∧ w'.cell? ⟨r, 1, none⟩ = some (.pointer (some ⟨rb, 0, none⟩)))
    (first | exact ⟨ea4, ec1⟩ | exact ⟨a4, c1⟩ | exact ⟨za4, zc1⟩ | exact ⟨ya4, yc1⟩ | fail)
    (first
      | (go_at_call 32
         refine HPR.out.mono ?_
         rintro e w1 ⟨rfl, ht1⟩
         have HT1 := Lib.hid ht1
         have hd1 := HDD.out.prog ht1
         have HDX := Lib.hid hd1
         have HBXX := Lib.hid (HBD.out.turn ht1)
         have HBKX := Lib.hid (HBKD.out.turn ht1)
         have za4 : w1.cell? ⟨v, 4, none⟩ = some (.int .i64 an) := HBXX.out.cell (j := 4) rfl
         have zc1 : w1.cell? ⟨r, 1, none⟩ = some (.pointer (some ⟨rb, 0, none⟩)) := HDX.out.rep.c1
         have hrg := rchange_turn hd1.rep hd1.good an HARG.out.2.2.2.2
         rw [HR.out] at hrg
         have HRG := Lib.hid hrg
         clear ht1 hd1 hrg)
      | (go_at_call 33
         refine HRG.out.mono ?_
         rintro e w2 ⟨rfl, ht2, hg2⟩
         have HA := Lib.hid (acted HD.out HB2D.out HT1.out ht2 hg2 rfl)
         have HDY := Lib.hid (HDX.out.docs ht2 hg2)
         have HBXY := Lib.hid (HBXX.out.rturn ht2)
         have HBKY := Lib.hid (HBKX.out.rturn ht2)
         have ya4 : w2.cell? ⟨v, 4, none⟩ = some (.int .i64 an) := HBXY.out.cell (j := 4) rfl
         have yc1 : w2.cell? ⟨r, 1, none⟩ = some (.pointer (some ⟨rb, 0, none⟩)) := HDY.out.rep.c1
         clear ht2 hg2)
      | fail)
  all_goals
    clear ea4 ec1 za4 zc1 ya4 yc1
    go_wp2
    go_ret
    exact ⟨rfl, _, Z, _, _, by rw [HR.out]; exact HA.out⟩

set_option maxRecDepth 100000 in
set_option maxHeartbeats 4000000 in
theorem act_n6 (h : Duo W w c z b N Z s r rb LA lc (bl Z) s) (ad f k : Int) (d : ByteArray) (an : Int) (hf : i64 f) (hk : i64 k) (hd : d.size ≤ 140737488351232) (hn : i64 an) (hm : ad.tmod 7 = -6) (_hN : N ≤ 100000) (_hlen : Z.length ≤ 100000) (hp : ∀ x ∈ bl Z, x.pins < 1000000) :
    Calls Try.prog 13 #[.pointer (some ⟨c, 0, none⟩), .pointer (some ⟨b, 0, none⟩), .pointer (some ⟨r, 0, none⟩), .agg #[.int .i64 ad, .int .i64 f, .int .i64 k, .string d, .int .i64 an]] w (ActOut W w c z b N Z r rb LA (bl Z, (BM.change 0 an s).2)) := by
  have HD := Lib.hid h
  have hB2 := below_2 w (.cells #[.int .i64 ad, .int .i64 f, .int .i64 k, .string d, .int .i64 an] 36) (.cells #[.int .i64 f, .int .i64 k] 42)
  have HB2 := Lib.hid hB2
  obtain ⟨hbx, hbk⟩ := box2_new (ad := ad) (f := f) (k := k) (d := d) (an := an) w h.live.rep.own_lt h.rep.own_lt
  obtain ⟨v, hv⟩ : ∃ v, w.heap.size = v := ⟨_, rfl⟩
  rw [hv] at hbx hbk
  have HV := Lib.hid hv
  have HBX := Lib.hid hbx
  have HBK := Lib.hid hbk
  have a0 := hbx.cell (j := 0) rfl
  have a1 := hbx.cell (j := 1) rfl
  have a2 := hbx.cell (j := 2) rfl
  have a3 := hbx.cell (j := 3) rfl
  have a4 := hbx.cell (j := 4) rfl
  have k0 := hbk.cell (j := 0) rfl
  have k1 := hbk.cell (j := 1) rfl
  have hdk := h.still hB2
  have HDK := Lib.hid hdk
  have HPB := Lib.hid hp
  have HARG : Hid (i64 f ∧ i64 k ∧ d.size ≤ 140737488351232 ∧ i64 an) := Lib.hid ⟨hf, hk, hd, hn⟩
  have HP : Hid True := Lib.hid trivial
  clear h hB2 hbx hbk hv hdk hf hk hd hn hp
  go_enter Try.func13, Try.ntmps13
  go_wp2_with fail
  rw [HV.out]
  generalize (w.alloc (.cells #[.int .i64 ad, .int .i64 f, .int .i64 k, .string d, .int .i64 an] 36)).alloc (.cells #[.int .i64 f, .int .i64 k] 42) = wk at HB2 HBX HBK HDK HP a0 a1 a2 a3 a4 k0 k1 ⊢
  have HDD := Lib.hid (HDK.out.still ((Below.refl _ _).drew))
  have HBD := Lib.hid (HBX.out.still ((Below.refl _ _).drew))
  have HBKD := Lib.hid (HBK.out.still ((Below.refl _ _).drew))
  have HB2D := Lib.hid (HB2.out.drew)
  have c1 := HDK.out.rep.c1
  have ea4 : wk.drew.cell? ⟨v, 4, none⟩ = some (.int .i64 an) := HBD.out.cell (j := 4) rfl
  have ec1 : wk.drew.cell? ⟨r, 1, none⟩ = some (.pointer (some ⟨rb, 0, none⟩)) := HDD.out.rep.c1
  obtain ⟨R, hR⟩ : ∃ R, BM.change 0 an s = R := ⟨_, rfl⟩
  have hpr := HDD.out.live.change an HARG.out.2.2.2.2
  rw [hR] at hpr
  have HPR := Lib.hid hpr
  have HR := Lib.hid hR
  rw [hR]
  clear hpr hR HP
  go_wp2_with fail
  go_region_held3 (fun w' => w'.cell? ⟨v, 4, none⟩ = some (.int .i64 an) ∧ w'.cell? ⟨r, 1, none⟩ = some (.pointer (some ⟨rb, 0, none⟩)))
    (first | exact ⟨ea4, ec1⟩ | exact ⟨a4, c1⟩ | exact ⟨za4, zc1⟩ | exact ⟨ya4, yc1⟩ | fail)
    (first
      | (go_at_call 32
         refine HPR.out.mono ?_
         rintro e w1 ⟨rfl, ht1⟩
         have HT1 := Lib.hid ht1
         have hd1 := HDD.out.prog ht1
         have HDX := Lib.hid hd1
         have HBXX := Lib.hid (HBD.out.turn ht1)
         have HBKX := Lib.hid (HBKD.out.turn ht1)
         have za4 : w1.cell? ⟨v, 4, none⟩ = some (.int .i64 an) := HBXX.out.cell (j := 4) rfl
         have zc1 : w1.cell? ⟨r, 1, none⟩ = some (.pointer (some ⟨rb, 0, none⟩)) := HDX.out.rep.c1
         have hrg := rchange_turn hd1.rep hd1.good an HARG.out.2.2.2.2
         rw [HR.out] at hrg
         have HRG := Lib.hid hrg
         clear ht1 hd1 hrg)
      | (go_at_call 33
         refine HRG.out.mono ?_
         rintro e w2 ⟨rfl, ht2, hg2⟩
         have HA := Lib.hid (acted HD.out HB2D.out HT1.out ht2 hg2 rfl)
         have HDY := Lib.hid (HDX.out.docs ht2 hg2)
         have HBXY := Lib.hid (HBXX.out.rturn ht2)
         have HBKY := Lib.hid (HBKX.out.rturn ht2)
         have ya4 : w2.cell? ⟨v, 4, none⟩ = some (.int .i64 an) := HBXY.out.cell (j := 4) rfl
         have yc1 : w2.cell? ⟨r, 1, none⟩ = some (.pointer (some ⟨rb, 0, none⟩)) := HDY.out.rep.c1
         clear ht2 hg2)
      | fail)
  all_goals
    clear ea4 ec1 za4 zc1 ya4 yc1
    go_wp2
    go_ret
    exact ⟨rfl, _, Z, _, _, by rw [HR.out]; exact HA.out⟩

set_option maxRecDepth 100000 in
set_option maxHeartbeats 4000000 in
theorem act_p0 (h : Duo W w c z b N Z s r rb LA lc (bl Z) s) (ad f k : Int) (d : ByteArray) (an : Int) (hf : i64 f) (hk : i64 k) (hd : d.size ≤ 140737488351232) (hn : i64 an) (hm : ad.tmod 7 = 0) (_hN : N ≤ 100000) (_hlen : Z.length ≤ 100000) (hp : ∀ x ∈ bl Z, x.pins < 1000000) :
    Calls Try.prog 13 #[.pointer (some ⟨c, 0, none⟩), .pointer (some ⟨b, 0, none⟩), .pointer (some ⟨r, 0, none⟩), .agg #[.int .i64 ad, .int .i64 f, .int .i64 k, .string d, .int .i64 an]] w (ActOut W w c z b N Z r rb LA ((putB f k d (bl Z) s).2)) := by
  have HD := Lib.hid h
  have hB2 := below_2 w (.cells #[.int .i64 ad, .int .i64 f, .int .i64 k, .string d, .int .i64 an] 36) (.cells #[.int .i64 f, .int .i64 k] 42)
  have HB2 := Lib.hid hB2
  obtain ⟨hbx, hbk⟩ := box2_new (ad := ad) (f := f) (k := k) (d := d) (an := an) w h.live.rep.own_lt h.rep.own_lt
  obtain ⟨v, hv⟩ : ∃ v, w.heap.size = v := ⟨_, rfl⟩
  rw [hv] at hbx hbk
  have HV := Lib.hid hv
  have HBX := Lib.hid hbx
  have HBK := Lib.hid hbk
  have a0 := hbx.cell (j := 0) rfl
  have a1 := hbx.cell (j := 1) rfl
  have a2 := hbx.cell (j := 2) rfl
  have a3 := hbx.cell (j := 3) rfl
  have a4 := hbx.cell (j := 4) rfl
  have k0 := hbk.cell (j := 0) rfl
  have k1 := hbk.cell (j := 1) rfl
  have hdk := h.still hB2
  have HDK := Lib.hid hdk
  have HPB := Lib.hid hp
  have HARG : Hid (i64 f ∧ i64 k ∧ d.size ≤ 140737488351232 ∧ i64 an) := Lib.hid ⟨hf, hk, hd, hn⟩
  have HP : Hid True := Lib.hid trivial
  clear h hB2 hbx hbk hv hdk hf hk hd hn hp
  go_enter Try.func13, Try.ntmps13
  go_wp2_with fail
  rw [HV.out]
  generalize (w.alloc (.cells #[.int .i64 ad, .int .i64 f, .int .i64 k, .string d, .int .i64 an] 36)).alloc (.cells #[.int .i64 f, .int .i64 k] 42) = wk at HB2 HBX HBK HDK HP a0 a1 a2 a3 a4 k0 k1 ⊢
  have HDD := Lib.hid (HDK.out.still ((Below.refl _ _).drew))
  have HBD := Lib.hid (HBX.out.still ((Below.refl _ _).drew))
  have HBKD := Lib.hid (HBK.out.still ((Below.refl _ _).drew))
  have HB2D := Lib.hid (HB2.out.drew)
  have ek0 : wk.drew.cell? ⟨v + 1, 0, none⟩ = some (.int .i64 f) := HBKD.out.cell (j := 0) rfl
  have ek1 : wk.drew.cell? ⟨v + 1, 1, none⟩ = some (.int .i64 k) := HBKD.out.cell (j := 1) rfl
  have ea1 : wk.drew.cell? ⟨v, 1, none⟩ = some (.int .i64 f) := HBD.out.cell (j := 1) rfl
  have ea2 : wk.drew.cell? ⟨v, 2, none⟩ = some (.int .i64 k) := HBD.out.cell (j := 2) rfl
  have ea3 : wk.drew.cell? ⟨v, 3, none⟩ = some (.string d) := HBD.out.cell (j := 3) rfl
  obtain ⟨R, hR⟩ : ∃ R, putB f k d (bl Z) s = R := ⟨_, rfl⟩
  have hpr := HDD.out.live.put (by omega) (by omega) HARG.out.1 HARG.out.2.1 d HARG.out.2.2.1 (r := putB f k d (bl Z) s) rfl
  rw [hR] at hpr
  unfold keyV at hpr
  have HPR := Lib.hid hpr
  have HR := Lib.hid hR
  rw [hR]
  clear hpr hR HP
  go_wp2_with fail
  go_region_held3 (fun w' => w'.cell? ⟨v + 1, 0, none⟩ = some (.int .i64 f) ∧ w'.cell? ⟨v + 1, 1, none⟩ = some (.int .i64 k) ∧ w'.cell? ⟨v, 1, none⟩ = some (.int .i64 f) ∧ w'.cell? ⟨v, 2, none⟩ = some (.int .i64 k) ∧ w'.cell? ⟨v, 3, none⟩ = some (.string d))
    (first | exact ⟨ek0, ek1, ea1, ea2, ea3⟩ | exact ⟨k0, k1, a1, a2, a3⟩ | exact ⟨zk0, zk1, za1, za2, za3⟩ | exact ⟨yk0, yk1, ya1, ya2, ya3⟩ | fail)
    (first
      | (go_at_call 19
         refine HPR.out.mono ?_
         rintro e w1 ⟨rfl, N1, Z1, ht1, hz1⟩
         have HT1 := Lib.hid ht1
         have HZ1 := Lib.hid hz1
         clear hz1
         have hd1 := HDD.out.prog ht1
         have HDX := Lib.hid hd1
         have HBXX := Lib.hid (HBD.out.turn ht1)
         have HBKX := Lib.hid (HBKD.out.turn ht1)
         have zk0 : w1.cell? ⟨v + 1, 0, none⟩ = some (.int .i64 f) := HBKX.out.cell (j := 0) rfl
         have zk1 : w1.cell? ⟨v + 1, 1, none⟩ = some (.int .i64 k) := HBKX.out.cell (j := 1) rfl
         have za1 : w1.cell? ⟨v, 1, none⟩ = some (.int .i64 f) := HBXX.out.cell (j := 1) rfl
         have za2 : w1.cell? ⟨v, 2, none⟩ = some (.int .i64 k) := HBXX.out.cell (j := 2) rfl
         have za3 : w1.cell? ⟨v, 3, none⟩ = some (.string d) := HBXX.out.cell (j := 3) rfl
         have hrg := rput_any hd1.rep hd1.good hd1.size (by rw [bl_len]; omega) (f := f) (k := k) (d := d) ⟨HARG.out.1, HARG.out.2.1, HARG.out.2.2.1, by simp⟩
         rw [HR.out] at hrg
         have HRG := Lib.hid hrg
         clear ht1 hd1 hrg)
      | (go_at_call 34
         refine HRG.out.mono ?_
         rintro e w2 ⟨rfl, LA2, lc2, ht2, hg2⟩
         have HA := Lib.hid (acted HD.out HB2D.out HT1.out ht2 hg2 HZ1.out)
         have HDY := Lib.hid (HDX.out.docs ht2 hg2)
         have HBXY := Lib.hid (HBXX.out.rturn ht2)
         have HBKY := Lib.hid (HBKX.out.rturn ht2)
         have yk0 : w2.cell? ⟨v + 1, 0, none⟩ = some (.int .i64 f) := HBKY.out.cell (j := 0) rfl
         have yk1 : w2.cell? ⟨v + 1, 1, none⟩ = some (.int .i64 k) := HBKY.out.cell (j := 1) rfl
         have ya1 : w2.cell? ⟨v, 1, none⟩ = some (.int .i64 f) := HBXY.out.cell (j := 1) rfl
         have ya2 : w2.cell? ⟨v, 2, none⟩ = some (.int .i64 k) := HBXY.out.cell (j := 2) rfl
         have ya3 : w2.cell? ⟨v, 3, none⟩ = some (.string d) := HBXY.out.cell (j := 3) rfl
         clear ht2 hg2)
      | fail)
  all_goals
    clear ek0 ek1 ea1 ea2 ea3 zk0 zk1 za1 za2 za3 yk0 yk1 ya1 ya2 ya3
    go_wp2
    go_ret
    exact ⟨rfl, _, Z1, _, _, by rw [HR.out]; exact HA.out⟩

theorem act_any (h : Duo W w c z b N Z s r rb LA lc (bl Z) s) (a : AC) (hw : a.wf) (hN : N ≤ 100000) (hlen : Z.length ≤ 100000) (hp : ∀ x ∈ bl Z, x.pins < 1000000) :
    Calls Try.prog 13 #[.pointer (some ⟨c, 0, none⟩), .pointer (some ⟨b, 0, none⟩), .pointer (some ⟨r, 0, none⟩), a.val] w (ActOut W w c z b N Z r rb LA (actB a (bl Z) s)) := by
  obtain ⟨d, f, k, dat, n⟩ := a
  have h1 := hw.f
  have h2 := hw.k
  have h3 := hw.dat
  have h4 := hw.n
  simp only at h1 h2 h3 h4
  show Calls Try.prog 13 #[.pointer (some ⟨c, 0, none⟩), .pointer (some ⟨b, 0, none⟩), .pointer (some ⟨r, 0, none⟩), .agg #[.int .i64 d, .int .i64 f, .int .i64 k, .string dat, .int .i64 n]] w _
  unfold actB
  simp only
  rcases mod7 d with hm | hm | hm | hm | hm | hm | hm | hm | hm | hm | hm | hm | hm
  · have := act_p0 h d f k dat n h1 h2 h3 h4 hm hN hlen hp
    simp only [hm]
    simpa using this
  · have := act_p1 h d f k dat n h1 h2 h3 h4 hm hN hlen hp
    simp only [hm]
    simpa using this
  · have := act_n1 h d f k dat n h1 h2 h3 h4 hm hN hlen hp
    simp only [hm]
    simpa using this
  · have := act_p2 h d f k dat n h1 h2 h3 h4 hm hN hlen hp
    simp only [hm]
    simpa using this
  · have := act_n2 h d f k dat n h1 h2 h3 h4 hm hN hlen hp
    simp only [hm]
    simpa using this
  · have := act_p3 h d f k dat n h1 h2 h3 h4 hm hN hlen hp
    simp only [hm]
    simpa using this
  · have := act_n3 h d f k dat n h1 h2 h3 h4 hm hN hlen hp
    simp only [hm]
    simpa using this
  · have := act_p4 h d f k dat n h1 h2 h3 h4 hm hN hlen hp
    simp only [hm]
    simpa using this
  · have := act_n4 h d f k dat n h1 h2 h3 h4 hm hN hlen hp
    simp only [hm]
    simpa using this
  · have := act_p5 h d f k dat n h1 h2 h3 h4 hm hN hlen hp
    simp only [hm]
    simpa using this
  · have := act_n5 h d f k dat n h1 h2 h3 h4 hm hN hlen hp
    simp only [hm]
    simpa using this
  · have := act_p6 h d f k dat n h1 h2 h3 h4 hm hN hlen hp
    simp only [hm]
    simpa using this
  · have := act_n6 h d f k dat n h1 h2 h3 h4 hm hN hlen hp
    simp only [hm]
    simpa using this
end
end Go.Proofs.Ytlfhjbilnfkabaa
