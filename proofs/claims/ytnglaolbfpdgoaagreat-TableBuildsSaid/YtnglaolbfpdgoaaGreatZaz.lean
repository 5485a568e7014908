/- Texts joined by bundle.py: Pb. -/
import Derived.Test.YtnglaolbfpdgoaaGreatZax
import Derived.Test.YtnglaolbfpdgoaaGreatZay

/- The walk of block.Build. Made by gen_pb.py. -/
namespace Go.Proofs.YtnglaolbfpdgoaaGreat
open Go.RowKit
open SK

theorem Bld.kept {B b : Nat} {l : List UInt8} {w w' : World} (h : Bld B b l w) (hb : Below w.heap.size w w') : Bld B b l w' := by
  have hat : ∀ p, Lib.BuilderAt 100 5 B b p (Lib.byteCells l) w → Lib.BuilderAt 100 5 B b p (Lib.byteCells l) w' := fun p ⟨h1, v, h2, h3, h4⟩ =>
    ⟨h1, v, (hb.block b (Array.getElem?_eq_some_iff.1 h2).1).trans h2, own_below h3 hb, h4⟩
  rcases h with h | h
  · exact Or.inl (hat _ h)
  · exact Or.inr (hat _ h)

namespace BK
theorem lastKey_snoc (a : List E) (p : E) : lastKey (a ++ [p]) = p.key := by simp [lastKey]
theorem lastKey_take {l : List E} {j m : Nat} (hj : j < l.length) (hm : j = m + 1) : lastKey (l.take j) = l[m].key := by
  subst hm
  rw [List.take_succ_eq_append_getElem (show m < l.length by omega), lastKey_snoc]
theorem sh_zero {l : List E} {j v : Nat} (hj : j < l.length) (h : j % v = 0) (e : E) : sh v (l.take j) e = 0 := by
  unfold sh; rw [List.length_take, Nat.min_eq_left (by omega), if_pos h]
theorem sh_some {l : List E} {j m v : Nat} (hj : j < l.length) (h : j % v ≠ 0) (hm : j = m + 1) (e : E) : sh v (l.take j) e = alike l[m].key.data.toList e.key.data.toList := by
  unfold sh; rw [List.length_take, Nat.min_eq_left (by omega), if_neg h, lastKey_take hj hm]
theorem body_len {l : List E} (h : OkF [] l) (hw : ∀ e ∈ l, e.wf) (v j : Nat) : (bodyF v [] (l.take j)).length ≤ l.length * 700 := by
  have h1 := bodyF_len v [] (l.take j) fun e he => ⟨(okF_all _ _ h e (List.mem_of_mem_take he)).1, hw e (List.mem_of_mem_take he), (okF_all _ _ h e (List.mem_of_mem_take he)).2⟩
  have h2 : (l.take j).length ≤ l.length := by rw [List.length_take]; omega
  exact Nat.le_trans h1 (Nat.mul_le_mul_right 700 h2)
end BK

set_option maxRecDepth 100000 in
set_option maxHeartbeats 4000000 in
theorem build_any (A : Option Addr) (n cap : Nat) (l : List E) (v : Int) (w : World) (hn : l.length = n) (hcap : n ≤ cap) (hin : EntsIn w A l) (hb : n ≤ 140737488351232) :
    Calls Tryz.prog 54 #[.slice A n cap, .int .i64 v] w fun e w' => e = .returned (.tuple #[.string ⟨(BK.buildOut l v).1.toArray⟩, .int .i64 (BK.buildOut l v).2]) ∧ Below w.heap.size w w' := by
  have HP : Hid (BK.buildOut l v = if v < 1 ∨ 64 < v then ([], 2) else if 4096 < l.length then ([], 5) else if (BK.ord l).2 ≠ 0 then ([], (BK.ord l).2) else (BK.buildB l v.toNat, 0)) := Lib.hid rfl
  obtain ⟨R, hR⟩ : ∃ R, BK.buildOut l v = R := ⟨_, rfl⟩
  rw [hR] at HP ⊢
  clear hR
  by_cases hv0 : v < 1
  · have HR : Hid (R = ([], 2)) := Lib.hid (by rw [HP.out, if_pos (Or.inl hv0)])
    rw [HR.out]
    clear hin hn hcap hb HP
    go_enter Tryz.func54, Tryz.ntmps54
    go_wp2
    go_ret2
    exact ⟨rfl, Below.refl _ _⟩
  by_cases hv1 : 64 < v
  · have HR : Hid (R = ([], 2)) := Lib.hid (by rw [HP.out, if_pos (Or.inr hv1)])
    rw [HR.out]
    clear hin hn hcap hb HP
    go_enter Tryz.func54, Tryz.ntmps54
    go_wp2
    go_ret2
    exact ⟨rfl, Below.refl _ _⟩
  obtain ⟨V, rfl⟩ := Int.eq_ofNat_of_zero_le (show 0 ≤ v by omega)
  by_cases hlong : 4096 < n
  · have HR : Hid (R = ([], 5)) := Lib.hid (by rw [HP.out, if_neg (by omega), if_pos (by omega)])
    have hi : (4096 : Int) < (n : Int) := by omega
    rw [HR.out]
    clear hin hn hcap hb HP
    go_enter Tryz.func54, Tryz.ntmps54
    go_wp2
    go_ret2
    exact ⟨rfl, Below.refl _ _⟩
  have hi : ¬ (4096 : Int) < (n : Int) := by omega
  have HO : Hid (Calls Tryz.prog 20 #[.slice A n cap] w fun r w' => r = .returned (.tuple #[.int .i64 (BK.ord l).1, .int .i64 (BK.ord l).2]) ∧ Below w.heap.size w w') := Lib.hid (bord_any A n cap l w hn hcap hin hb)
  have HP2 : Hid (R = if (BK.ord l).2 ≠ 0 then ([], (BK.ord l).2) else (BK.buildB l V, 0)) := Lib.hid (by rw [HP.out, if_neg (by omega), if_neg (by omega), Int.toNat_natCast])
  have HOK : Hid ((BK.ord l).2 = 0 → BK.OkF [] l) := Lib.hid (fun h => BK.okF_ord [] l h)
  obtain ⟨o1, ho1⟩ : ∃ o1, (BK.ord l).1 = o1 := ⟨_, rfl⟩
  obtain ⟨o2, ho2⟩ : ∃ o2, (BK.ord l).2 = o2 := ⟨_, rfl⟩
  rw [ho1, ho2] at HO
  rw [ho2] at HP2 HOK
  clear ho1 ho2 HP
  by_cases ho : o2 ≠ 0
  · have HR : Hid (R = ([], o2)) := Lib.hid (by rw [HP2.out, if_pos ho])
    have hbe : (o2 == 0) = false := by simpa using ho
    have hbn : (o2 != 0) = true := by simpa using ho
    rw [HR.out]
    clear hin hn hcap hb HP2 HOK
    go_enter Tryz.func54, Tryz.ntmps54
    go_wp2_with fail
    refine HO.out.mono ?_
    rintro e w1 ⟨rfl, hb1⟩
    go_wp2
    go_ret2
    exact ⟨rfl, hb1⟩
  have ho0 : o2 = 0 := by simpa using ho
  subst ho0
  have HR : Hid (R = (BK.buildB l V, 0)) := Lib.hid (by rw [HP2.out, if_neg ho])
  have hok := HOK.out rfl
  have HGOOD : Hid (∀ j (h : j < l.length), good l[j] = 0 ∧ (l[j]).til ≠ 9223372036854775807) := Lib.hid (fun j h => BK.okF_all _ _ hok _ (List.getElem_mem h))
  have hen := (VM.enc_len (n := (n : Int)) (by omega) (by omega)).2
  have HN := Lib.hid (fun W => put_any (n : Int) W (by omega) (by omega))
  have HPB : Hid (BK.buildB l V = VM.enc (n : Int) ++ BK.bodyF V [] l) := Lib.hid (by unfold BK.buildB; rw [hn])
  have HPOS : Hid (BK.buildB l V ≠ []) := Lib.hid (by have := BK.buildB_pos l V (by omega); intro h; rw [h] at this; simp at this)
  have HBL : Hid (∀ j, (BK.bodyF V [] (l.take j)).length ≤ 2867200) := Lib.hid (fun j => by have := BK.body_len hok hin.wf V j; omega)
  obtain ⟨N, hN⟩ : ∃ N, VM.enc (n : Int) = N := ⟨_, rfl⟩
  rw [hN] at hen HN HPB
  have HIN := Lib.hid hin
  have HLN := Lib.hid hn
  have HEN := Lib.hid hen
  have HLG : Hid (n ≤ 4096) := Lib.hid (by omega)
  have HVV : Hid (1 ≤ V ∧ V ≤ 64) := Lib.hid (by omega)
  clear hN hin hn hen hlong HP2 HOK hok ho hcap hb
  go_enter Tryz.func54, Tryz.ntmps54
  go_wp2_with fail
  refine HO.out.mono ?_
  rintro e w00 ⟨rfl, hb00⟩
  have hb0 := bld_new w00
  have hbel0 := hb00.trans (((Below.refl w00.heap.size w00).alloc (Nat.le_refl _) (.cells #[.pointer none, .slice none 0 0] 100)).mono hb00.size)
  have hsz0 : (w00.alloc (.cells #[.pointer none, .slice none 0 0] 100)).heap.size = w00.heap.size + 1 := by simp
  have HW0 : Hid (w.heap.size ≤ w00.heap.size) := Lib.hid hb00.size
  clear hb00 HO
  go_wp2_with fail
  generalize w00.alloc (.cells #[.pointer none, .slice none 0 0] 100) = w0 at hb0 hbel0 hsz0 ⊢
  obtain ⟨B, hB⟩ : ∃ B, w00.heap.size = B := ⟨_, rfl⟩
  rw [hB] at hb0 hsz0 HW0 ⊢
  clear hB
  refine (HN.out _).mono ?_
  rintro e w1 ⟨rfl, hb1⟩
  have hB1 := hb0.kept hb1
  have hbel1 := hbel0.trans (hb1.mono (by have := HW0.out; omega))
  have hs1 := hb1.size
  clear hb0 hbel0 hb1
  go_wp2_with fail
  refine (write_any _ _ [] N _ hB1 (by have := HEN.out; simp; omega) (by omega)).mono ?_
  rintro e w2 ⟨rfl, hB2, hb2⟩
  have hbel2 := hbel1.trans (hb2.mono HW0.out)
  have hs2 := hb2.size
  have hs2' : B < w2.heap.size := by omega
  rw [List.nil_append] at hB2
  clear hbel1 hb2 hB1 hs1 hs2 hsz0
  go_wp2_with fail
  go_loopw [37] (fun i wr => ∃ j : Nat, j ≤ n ∧ i = .int .i64 j ∧ Bld B B (N ++ BK.bodyF V [] (l.take j)) wr ∧ Below w.heap.size w wr ∧ B < wr.heap.size) (fun i _ => n - (intOf i).toNat)
  case atStart => exact ⟨0, by omega, rfl, by simpa [BK.bodyF] using hB2, hbel2, hs2'⟩
  case round =>
    obtain ⟨j, hj, rfl, hbld, hbel, hsz⟩ := hrel
    by_cases hlt : j < n
    · have hjl : j < l.length := by rw [HLN.out]; omega
      obtain ⟨b, off, hA, hbl, hc⟩ := (HIN.out.below hbel).at_ (by omega)
      obtain ⟨z0, z1, z2, z3, z4⟩ := hc j hjl
      have hwf := HIN.out.wf _ (List.getElem_mem hjl)
      have hgd := HGOOD.out j hjl
      have hALL := Lib.hid (BK.body_take (l := l) (j := j) V hjl)
      have hLEN : Hid ((N ++ BK.bodyF V [] (l.take j)).length ≤ 2867210) := Lib.hid (by
        have h1 := HBL.out j
        have h3 := HEN.out
        rw [List.length_append]; omega)
      have hshl := BK.sh_le V (l.take j) l[j]
      have HBO := Lib.hid (fun W => bytesOf_any l[j] (BK.sh V (l.take j) l[j]) W hwf hgd.1 hgd.2 hshl.2.1)
      have hIL := Lib.hid (BK.entB_len (e := l[j]) hgd.1 hshl.2.1 hwf hgd.2)
      have hS0 : j % V = 0 → BK.sh V (l.take j) l[j] = 0 := fun h => BK.sh_zero hjl h _
      have hS1 : ∀ m (h : j = m + 1), j % V ≠ 0 → BK.sh V (l.take j) l[j] = BK.alike l[m].key.data.toList l[j].key.data.toList := fun m h h0 => BK.sh_some hjl h0 h _
      have hks := hwf.key
      have hks2 : ∀ m (h : j = m + 1), l[m].key.size ≤ 140737488355328 := fun m h => by have := (HIN.out.wf _ (List.getElem_mem (show m < l.length by omega))).key; omega
      have hcm : ∀ m (h : j = m + 1), wr.cell? ⟨b, off + m * 5, none⟩ = some (.string l[m].key) := fun m h => (hc m (by omega)).1
      obtain ⟨e, he⟩ : ∃ e, l[j] = e := ⟨_, rfl⟩
      rw [he] at z0 z1 z2 z3 z4 hALL HBO hIL hS0 hks
      simp only [he] at hS1
      obtain ⟨sh, hsh⟩ : ∃ sh, BK.sh V (l.take j) e = sh := ⟨_, rfl⟩
      rw [hsh] at hALL HBO hIL hS0
      simp only [hsh] at hS1
      obtain ⟨IB, hIB⟩ : ∃ IB, BK.entB e sh = IB := ⟨_, rfl⟩
      rw [hIB] at HBO hALL hIL
      have HBLD := Lib.hid hbld
      have HBEL := Lib.hid hbel
      have HSZ := Lib.hid hsz
      subst hA
      obtain ⟨k2, q2, g2, v2, t2⟩ := e
      simp only [E.val] at z0 z1 z2 z3 z4 HBO hks hS1
      have g0 : (0 : Int) ≤ (j : Int) := by omega
      have g1 : (j : Int) < (n : Int) := by omega
      have hjn : n ≤ 4096 := HLG.out
      have hV1 : 1 ≤ V := HVV.out.1
      have hV2 : V ≤ 64 := HVV.out.2
      have hVz : ((V : Int) == 0) = false := beq_eq_false_iff_ne.2 (by omega)
      have hrow : (wr.alloc (.cells #[.string k2, .int .i64 q2, .bool g2, .string v2, .int .i64 t2] 57)).heap[wr.heap.size]? = some (.cells #[.string k2, .int .i64 q2, .bool g2, .string v2, .int .i64 t2] 57 (0, 0)) := heap_alloc_new wr _
      have hal : Below wr.heap.size wr (wr.alloc (.cells #[.string k2, .int .i64 q2, .bool g2, .string v2, .int .i64 t2] 57)) := (Below.refl _ _).alloc (Nat.le_refl _) _
      clear hbld hbel hsz hc hwf he hsh hIB hgd hshl
      by_cases hm0 : j % V = 0
      · have hrem : (j : Int) % (V : Int) = 0 := by rw [← Int.natCast_emod, hm0]; rfl
        have hsz0 := hS0 hm0
        subst hsz0
        clear hS0 hS1 hks2 hcm hm0
        go_wp2_with fail
        generalize wr.alloc (.cells #[.string k2, .int .i64 q2, .bool g2, .string v2, .int .i64 t2] 57) = w3 at hrow hal ⊢
        obtain ⟨x, hx⟩ : ∃ x, wr.heap.size = x := ⟨_, rfl⟩
        rw [hx] at hrow hal ⊢
        have HX := Lib.hid hx
        have HROW := Lib.hid hrow
        have HAL := Lib.hid hal
        have HAZ : Hid (x < w3.heap.size) := Lib.hid (Array.getElem?_eq_some_iff.1 hrow).1
        clear hx hrow hal z0 z1 z2 z3 z4 hbl
        obtain ⟨d0, d1, d2, d3, d4⟩ : w3.cell? ⟨x, 0, none⟩ = some (.string k2) ∧ w3.cell? ⟨x, 1, none⟩ = some (.int .i64 q2) ∧ w3.cell? ⟨x, 2, none⟩ = some (.bool g2) ∧ w3.cell? ⟨x, 3, none⟩ = some (.string v2) ∧ w3.cell? ⟨x, 4, none⟩ = some (.int .i64 t2) := ⟨cell_of_row _ _ _ _ _ _ HROW.out, cell_of_row _ _ _ _ _ _ HROW.out, cell_of_row _ _ _ _ _ _ HROW.out, cell_of_row _ _ _ _ _ _ HROW.out, cell_of_row _ _ _ _ _ _ HROW.out⟩
        go_wp2_with fail
        refine (HBO.out _).mono ?_
        rintro e w5 ⟨rfl, hb5⟩
        have HALL5 : Hid (Below x wr w5) := Lib.hid (HAL.out.trans (hb5.mono (by have := HAZ.out; omega)))
        have HBLD5 : Hid (Bld B B (N ++ BK.bodyF V [] (l.take j)) w5) := Lib.hid (HBLD.out.kept (by rw [HX.out]; exact HALL5.out))
        have HBC5 : Hid (Below w.heap.size w w5) := Lib.hid (HBEL.out.trans (HALL5.out.mono (by have := HX.out; have := HBEL.out.size; omega)))
        have HSZ5 : Hid (B < w5.heap.size) := Lib.hid (by have := hb5.size; have := HAZ.out; have := HX.out; have := HSZ.out; omega)
        clear hb5 d0 d1 d2 d3 d4
        go_wp2_with fail
        refine (write_any _ _ _ IB _ HBLD5.out (by have := hLEN.out; have := hIL.out; omega) (by have := HSZ5.out; omega)).mono ?_
        rintro e w6 ⟨rfl, hB6, hb6⟩
        have HB6 : Hid (Bld B B (N ++ BK.bodyF V [] (l.take (j + 1))) w6) := Lib.hid (by rw [hALL.out, ← List.append_assoc]; exact hB6)
        have HBC6 : Hid (Below w.heap.size w w6) := Lib.hid (HBC5.out.trans (hb6.mono HW0.out))
        have HSZ6 : Hid (B < w6.heap.size) := Lib.hid (by have := hb6.size; have := HSZ5.out; omega)
        clear hB6 hb6
        go_wp2
        go_roundw
        case rel => exact ⟨j + 1, by omega, by go_num, HB6.out, HBC6.out, HSZ6.out⟩
        case measure => simp [intOf]; omega
      · have hrem : ((j : Int) % (V : Int) == 0) = false := beq_eq_false_iff_ne.2 (by rw [← Int.natCast_emod]; omega)
        have hrem2 : ((j : Int) % (V : Int) != 0) = true := by rw [bne, hrem]; rfl
        obtain ⟨m, hjm⟩ : ∃ m, j = m + 1 := ⟨j - 1, by have : j ≠ 0 := (fun h => hm0 (by rw [h]; exact Nat.zero_mod _)); omega⟩
        have HAK := Lib.hid (fun W => alike_any l[m].key k2 W (hks2 m hjm) (by omega))
        have hkm := hcm m hjm
        rw [← hS1 m hjm hm0] at HAK
        obtain ⟨km, hkm2⟩ : ∃ km, l[m].key = km := ⟨_, rfl⟩
        rw [hkm2] at HAK hkm
        have hwr : IntKind.i64.wrap ((j : Int) - 1) = (m : Int) := by rw [IntWalk.i64_in _ ⟨by omega, by omega⟩]; omega
        have m0 : (0 : Int) ≤ (m : Int) := by omega
        have m1 : (m : Int) < (n : Int) := by omega
        have HKM : Hid (∀ W, Below wr.heap.size wr W → W.cell? ⟨b, off + m * 5, none⟩ = some (.string km)) := Lib.hid (fun W h => (h.cell (p := ⟨b, off + m * 5, none⟩) hbl).trans hkm)
        clear hS0 hS1 hks2 hcm hm0 hkm2 hkm hjm
        go_wp2_with fail
        generalize wr.alloc (.cells #[.string k2, .int .i64 q2, .bool g2, .string v2, .int .i64 t2] 57) = w3 at hrow hal ⊢
        obtain ⟨x, hx⟩ : ∃ x, wr.heap.size = x := ⟨_, rfl⟩
        rw [hx] at hrow hal HKM ⊢
        have HX := Lib.hid hx
        have HROW := Lib.hid hrow
        have HAL := Lib.hid hal
        have HAZ : Hid (x < w3.heap.size) := Lib.hid (Array.getElem?_eq_some_iff.1 hrow).1
        clear hx hrow hal z0 z1 z2 z3 z4 hbl

        have d0 : w3.cell? ⟨x, 0, none⟩ = some (.string k2) := cell_of_row _ _ _ _ _ _ HROW.out
        have dm : w3.cell? ⟨b, off + m * 5, none⟩ = some (.string km) := HKM.out _ HAL.out
        go_region_held3 (fun s => s.cell? ⟨x, 0, none⟩ = some (.string k2) ∧ s.cell? ⟨b, off + m * 5, none⟩ = some (.string km))
          (first | exact HS2.out | go_keep | fail)
          (first
            | (go_at_call 88; refine (HAK.out _).mono ?_; rintro r w4 ⟨rfl, hb4⟩
               have HROW4 := Lib.hid ((hb4.block x (by have := HAZ.out; simp; omega)).trans HROW.out)
               have HAZ4 : Hid (x < w4.heap.size) := Lib.hid (Array.getElem?_eq_some_iff.1 HROW4.out).1
               have HAL4 : Hid (Below x wr w4) := Lib.hid (Below.trans (Below.drew HAL.out) (hb4.mono (by have := HAZ.out; simp; omega)))
               have HS2 : Hid (w4.cell? ⟨x, 0, none⟩ = some (.string k2) ∧ w4.cell? ⟨b, off + m * 5, none⟩ = some (.string km)) := Lib.hid ⟨cell_of_row _ _ _ _ _ _ HROW4.out, HKM.out _ HAL4.out⟩
               clear hb4)
            | fail)
        all_goals
          clear HS2 d0 dm
          obtain ⟨d0, d1, d2, d3, d4⟩ : w4.cell? ⟨x, 0, none⟩ = some (.string k2) ∧ w4.cell? ⟨x, 1, none⟩ = some (.int .i64 q2) ∧ w4.cell? ⟨x, 2, none⟩ = some (.bool g2) ∧ w4.cell? ⟨x, 3, none⟩ = some (.string v2) ∧ w4.cell? ⟨x, 4, none⟩ = some (.int .i64 t2) := ⟨cell_of_row _ _ _ _ _ _ HROW4.out, cell_of_row _ _ _ _ _ _ HROW4.out, cell_of_row _ _ _ _ _ _ HROW4.out, cell_of_row _ _ _ _ _ _ HROW4.out, cell_of_row _ _ _ _ _ _ HROW4.out⟩
          go_wp2_with fail
          refine (HBO.out _).mono ?_
          rintro e w5 ⟨rfl, hb5⟩
          have HALL5 : Hid (Below x wr w5) := Lib.hid (HAL4.out.trans (hb5.mono (by have := HAZ4.out; omega)))
          have HBLD5 : Hid (Bld B B (N ++ BK.bodyF V [] (l.take j)) w5) := Lib.hid (HBLD.out.kept (by rw [HX.out]; exact HALL5.out))
          have HBC5 : Hid (Below w.heap.size w w5) := Lib.hid (HBEL.out.trans (HALL5.out.mono (by have := HX.out; have := HBEL.out.size; omega)))
          have HSZ5 : Hid (B < w5.heap.size) := Lib.hid (by have := hb5.size; have := HAZ4.out; have := HX.out; have := HSZ.out; omega)
          clear hb5 d0 d1 d2 d3 d4
          go_wp2_with fail
          refine (write_any _ _ _ IB _ HBLD5.out (by have := hLEN.out; have := hIL.out; omega) (by have := HSZ5.out; omega)).mono ?_
          rintro e w6 ⟨rfl, hB6, hb6⟩
          have HB6 : Hid (Bld B B (N ++ BK.bodyF V [] (l.take (j + 1))) w6) := Lib.hid (by rw [hALL.out, ← List.append_assoc]; exact hB6)
          have HBC6 : Hid (Below w.heap.size w w6) := Lib.hid (HBC5.out.trans (hb6.mono HW0.out))
          have HSZ6 : Hid (B < w6.heap.size) := Lib.hid (by have := hb6.size; have := HSZ5.out; omega)
          clear hB6 hb6
          go_wp2
          go_roundw
          case rel => exact ⟨j + 1, by omega, by go_num, HB6.out, HBC6.out, HSZ6.out⟩
          case measure => simp [intOf]; omega
    · have hjn : j = n := by omega
      have hlj : l.take j = l := List.take_of_length_le (by rw [HLN.out]; omega)
      rw [hlj, ← HPB.out] at hbld
      have HS := Lib.hid (bstring_any B B (BK.buildB l V) wr hbld HPOS.out)
      obtain ⟨PB, hPB⟩ : ∃ PB, BK.buildB l V = PB := ⟨_, rfl⟩
      rw [hPB] at HR HS
      have HBEL := Lib.hid hbel
      have HLE := HW0
      subst hjn
      clear hlj hbld hbel hsz hPB
      go_wp2_with fail
      refine HS.out.mono ?_
      rintro e w7 ⟨rfl, hb7⟩
      have HBC7 : Hid (Below w.heap.size w w7) := Lib.hid (HBEL.out.trans (hb7.mono HLE.out))
      clear hb7
      go_wp2
      rw [HR.out]
      go_ret2
      exact ⟨rfl, HBC7.out⟩
end Go.Proofs.YtnglaolbfpdgoaaGreat

