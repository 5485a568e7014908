/- Texts joined by bundle.py: Wt. -/
import Derived.Test.YtgknkldhjejjmaaGreatDoorZbp
import Derived.Test.YtgknkldhjejjmaaGreatDoorZbk
import Derived.Test.YtgknkldhjejjmaaGreatDoorZbb
import Derived.Test.YtgknkldhjejjmaaGreatDoorZbq
import Derived.Test.YtgknkldhjejjmaaGreatDoorZaq
import Derived.Outline
import Derived.Deep.RegionHeld3
import Derived.BigQuiet

/- WalPlays: behind every calls of logs, and of the disk beneath them, the logs answer, and the disk has, what the document says. For every room and every script. Made by gen_wt.py. -/
namespace Go.Proofs.YtgknkldhjejjmaaGreatDoor
open Go.ChangeShapes Go.WideShapes Go.ChangeAt Go.RowKit Go.Maps
open DM

theorem run_slice_steps (W : World) (A : Option Addr) (n cap m : Nat) (h : m ≤ cap) : (Instr.slice 22 (.slice A n cap) none (some (.int .i64 (m : Int))) none).run Tryz.prog W = .ok (.slice A m cap) W := by
  have hs : ∀ w, (sizeOf (Tryz.prog.elem 22)).run Tryz.prog w = .ok 9 w := fun w => by kernel_rfl
  rw [run_slice_h W 22 A n cap (by kernel_rfl) .i64 (m : Int) (by omega) (by omega), hs]
  simp only [Result.andThen, sliced, Int.toNat_natCast, Nat.sub_zero, Nat.zero_mul, add_zero', Option.map_id']
  split <;> rfl

theorem same_new (room : Int) : Same (RS.new room) (DM.new room) := ⟨rfl, rfl, rfl, rfl, rfl, rfl, rfl, fun _ => rfl, fun _ => rfl, rfl, fun e he => by simp [DM.new] at he⟩
theorem duo_new1 (room : Int) (w : World) (hr : fits room) {B : Nat} (hB : w.heap.size = B) :
    Calls Tryz.prog 4 #[.int .i64 room] w fun e w' => ∃ d, e = .returned (.pointer (some ⟨d, 0, none⟩)) ∧ Live B w w' d (DM.new room) 0 140737488355328 := by
  subst hB
  exact (live_new room w w w.heap.size (Moves.refl _ _) (Nat.le_refl _) hr 0 140737488355328 (by omega)).mono fun _ _ ⟨he, hl⟩ => ⟨_, he, hl⟩
theorem duo_new2 (room : Int) {w w1 : World} {d B : Nat} (h : Live B w w1 d (DM.new room) 0 140737488355328) :
    Calls Tryz.prog 5 #[.int .i64 room] w1 fun e w' => ∃ r, e = .returned (.pointer (some ⟨r, 0, none⟩)) ∧ Duo none B w w' d r (DM.new room) 0 140737488355328 :=
  (rnew_any room w1 B h.le').mono fun _ _ ⟨r, he, ⟨g, hg⟩, hb⟩ => ⟨r, he, h.moves.below.trans (hb.mono h.le'), (h.still hb).rebase, ⟨_, g, hg, same_new room⟩, fun x C e => by cases e⟩

/-- a box of a step -/
abbrev SBox (x : Nat) (C : Array Value) (w : World) : Prop := w.heap[x]? = some (.cells C 32 (0, 0))
abbrev MOut (x : Nat) (C : Array Value) (B : Nat) (W : World) (d r : Nat) (s : St) (q : Int × St) (N M : Nat) : Ending → World → Prop := Num q.1 fun w' => Mid none B W w' d r s q.2 N M (N + 2) ∧ SBox x C w'
abbrev DOut (x : Nat) (C : Array Value) (B : Nat) (W : World) (d r : Nat) (q : Int × St) (N M : Nat) : Ending → World → Prop := Num q.1 fun w' => Duo none B W w' d r q.2 (N + 2) M ∧ SBox x C w'

section
variable {x : Nat} {C : Array Value} {B : Nat} {W w : World} {d r : Nat} {s : St} {N M : Nat}
theorem mout {f : FuncId} {args : Array Value} {q : Int × St} (h : Duo none B W w d r s N M) (hx : SBox x C w) (hc : Calls Tryz.prog f args w (ErrOut B w d q (N + 2) M)) : Calls Tryz.prog f args w (MOut x C B W d r s q N M) :=
  hc.mono fun _ _ ⟨he, hl⟩ => ⟨he, h.mid hl, KS.moves hl.moves x C hx⟩
theorem dout {f : FuncId} {args : Array Value} {q : Int × St} (hx : SBox x C w) (hc : Calls Tryz.prog f args w (RNum B W w d r q q.2 (N + 2) M (N + 2))) : Calls Tryz.prog f args w (DOut x C B W d r q N M) :=
  hc.mono fun _ _ ⟨he, hm, hk⟩ => ⟨he, hm.done, hk x C hx⟩
theorem SBox.cell {x : Nat} {C : Array Value} {w : World} (h : SBox x C w) (j : Nat) (v : Value) (hv : C[j]? = some v) : w.cell? ⟨x, j, none⟩ = some v := by
  rw [cell_of_row _ _ _ _ _ _ h]; exact hv
/-- two logs as they are read, side by side -/
theorem read_pair (h : Duo none B W w d r s N M) (hx : SBox x C w) (n : Int) (hn : -9223372036854775808 ≤ n ∧ n ≤ 9223372036854775807) (ht : Tab w) {q : List Bs × Bool × Int} (hq : WL.read n s = q) :
    Calls Tryz.prog 11 #[.pointer (some ⟨d, 0, none⟩), .int .i64 n] w (fun e w' => ∃ v, e = .returned (.tuple #[v, .bool q.2.1, .int .i64 q.2.2]) ∧ w'.ownsRow w.heap.size 9 1 v q.1.length (strs q.1) ∧ Duo none B W w' d r s N M ∧ SBox x C w') :=
  (h.live.wread n hn ht hq).mono fun _ _ ⟨v, he, ho, hl⟩ => ⟨v, he, ho, h.same hl, KS.moves hl.moves x C hx⟩
end

namespace lawPlays
set_option maxRecDepth 100000 in
set_option maxHeartbeats 8000000 in
theorem walk (room : Int) (A : Option Addr) (n cap : Nat) (sc : List SD) (w : World) (hlen : sc.length = n) (hin : StepsIn w w.heap.size A sc) (hb : n * 112 ≤ reachBytes ∧ n ≤ cap) (hroom : fits room) (ht : Tab w) :
    Calls Tryz.prog 3 #[.int .i64 room, .slice A n cap] w fun e w' => e = .returned (.bool true) ∧ Below w.heap.size w w' := by
  have hn : n ≤ 9223372036854775807 := by have := hb.1; unfold reachBytes at this; omega
  obtain ⟨B, hB⟩ : ∃ B, w.heap.size = B := ⟨_, rfl⟩
  have HNEW := Lib.hid (duo_new1 room w hroom hB)
  have HIN : Hid (∀ wr, Below w.heap.size w wr → StepsIn wr w.heap.size A sc) := Lib.hid fun wr hb => hin.below hb
  have HT : Hid (∀ W, Below B w W → Tab W) := Lib.hid fun W h => ht.below (by rw [hB]; exact h)
  rw [hB] at HIN ⊢
  have HLEN := Lib.hid hlen
  obtain ⟨N, hN⟩ : ∃ N, min n 60 = N := ⟨_, rfl⟩
  have hmin : min (n : Int) 60 = (N : Int) := by omega
  have hsl := fun W => run_slice_steps W A n cap N (by omega)
  have hNn : N ≤ n := by omega
  have hN1 : N ≤ 60 := by omega
  clear hin hb hlen hN hB ht
  go_enter Tryz.func3, Tryz.ntmps3
  go_wp2_with fail
  refine HNEW.out.mono ?_
  rintro e w1 ⟨d, rfl, h1⟩
  have H1 := Lib.hid h1
  clear h1 HNEW
  go_wp2_with fail
  refine (duo_new2 room H1.out).mono ?_
  rintro e w2 ⟨r, rfl, h2⟩
  have H2 := Lib.hid h2
  clear h2 H1
  go_wp2_with fail
  refine (wakes_any _ (HT.out _ H2.out.below)).mono ?_
  rintro e w3 ⟨rfl, hB⟩
  have H3 := Lib.hid (H2.out.still hB)
  clear hB H2
  go_wp2_with fail
  go_loopw [29] (fun i wr => ∃ (k : Nat) (s : St), k ≤ N ∧ i = .int .i64 k ∧ Duo none B w wr d r s (2 * k) 140737488355328) (fun i _ => N - (intOf i).toNat)
  case atStart => exact ⟨0, _, by omega, rfl, H3.out⟩
  case round =>
    obtain ⟨k, s, hk, rfl, hbo⟩ := hrel
    have HBO := Lib.hid hbo
    clear hbo
    by_cases hlt : k < N
    · have hkl : k < sc.length := by rw [HLEN.out]; omega
      have hIn := HIN.out wr HBO.out.below
      obtain ⟨q, off, hA, hql, hc⟩ := hIn.2 (by omega)
      obtain ⟨cc, hnm⟩ := hc k hkl
      obtain ⟨a, ha⟩ : ∃ a, sc[k] = a := ⟨_, rfl⟩
      have hwf : a.wf := hIn.1 a (by rw [← ha]; exact List.getElem_mem hkl)
      rw [ha] at cc hnm
      obtain ⟨D, L, body, ⟨ad, ak, ato, an, am, A', c', l'⟩⟩ := a
      obtain ⟨-, hL, hbody, hon⟩ := hwf
      simp only at hL hbody hon hnm
      have hL : -9223372036854775808 ≤ L ∧ L ≤ 9223372036854775807 := hL
      have c0 : wr.cell? ⟨q, off + k * 9, none⟩ = some (.int .i64 D) := cc 0 _ rfl
      have c1 : wr.cell? ⟨q, off + k * 9 + 1, none⟩ = some (.int .i64 L) := cc 1 _ rfl
      have c2 : wr.cell? ⟨q, off + k * 9 + 2, none⟩ = some (.string body) := cc 2 _ rfl
      have c3 : wr.cell? ⟨q, off + k * 9 + 3, none⟩ = some (.int .i64 ad) := cc 3 _ rfl
      have c4 : wr.cell? ⟨q, off + k * 9 + 4, none⟩ = some (.string ak) := cc 4 _ rfl
      have c5 : wr.cell? ⟨q, off + k * 9 + 5, none⟩ = some (.string ato) := cc 5 _ rfl
      have c6 : wr.cell? ⟨q, off + k * 9 + 6, none⟩ = some (.int .i64 an) := cc 6 _ rfl
      have c7 : wr.cell? ⟨q, off + k * 9 + 7, none⟩ = some (.int .i64 am) := cc 7 _ rfl
      have c8 : wr.cell? ⟨q, off + k * 9 + 8, none⟩ = some (.slice A' l'.length c') := cc 8 _ rfl
      obtain ⟨ln, hln⟩ : ∃ ln, l'.length = ln := ⟨_, rfl⟩
      have HLN := Lib.hid hln
      rw [hln] at c8
      have HON := Lib.hid hon
      have HNUM := Lib.hid hnm
      have HD0 : Hid (Duo none B w (wr.alloc (.cells #[.int .i64 D, .int .i64 L, .string body, .int .i64 ad, .string ak, .string ato, .int .i64 an, .int .i64 am, .slice A' ln c'] 32)) d r s (2 * k) 140737488355328) := Lib.hid (HBO.out.still ((Below.refl _ _).alloc (Nat.le_refl _) _))
      have HX0 : Hid (SBox wr.heap.size #[.int .i64 D, .int .i64 L, .string body, .int .i64 ad, .string ak, .string ato, .int .i64 an, .int .i64 am, .slice A' ln c'] (wr.alloc (.cells #[.int .i64 D, .int .i64 L, .string body, .int .i64 ad, .string ak, .string ato, .int .i64 an, .int .i64 am, .slice A' ln c'] 32))) := Lib.hid (heap_alloc_new wr _)
      have HB0 := Lib.hid ((Below.refl wr.heap.size wr).alloc (Nat.le_refl _) (.cells #[.int .i64 D, .int .i64 L, .string body, .int .i64 ad, .string ak, .string ato, .int .i64 an, .int .i64 am, .slice A' ln c'] 32))
      obtain ⟨x, hx⟩ : ∃ x, wr.heap.size = x := ⟨_, rfl⟩
      rw [hx] at HX0
      subst hA
      clear hc ha hon hnm hIn cc hln
      have hcase : D.tmod 5 = 0 ∨ D.tmod 5 = 1 ∨ D.tmod 5 = -1 ∨ D.tmod 5 = 2 ∨ D.tmod 5 = -2 ∨ D.tmod 5 = 3 ∨ D.tmod 5 = -3 ∨ D.tmod 5 = 4 ∨ D.tmod 5 = -4 := by
        have h1 := Int.tmod_lt_of_pos D (show (0 : Int) < 5 by decide)
        have h2 := Int.lt_tmod_of_pos D (show (0 : Int) < 5 by decide)
        omega
      rcases hcase with hm | hm | hm | hm | hm | hm | hm | hm | hm
      · -- Create
        have HC1 := Lib.hid (fun (W' : World) (hd : Duo none B w W' d r s (2 * k) 140737488355328) (hx : SBox x #[.int .i64 D, .int .i64 L, .string body, .int .i64 ad, .string ak, .string ato, .int .i64 an, .int .i64 am, .slice A' ln c'] W') => mout hd hx (hd.live.wcreate (by omega) L hL (HT.out _ hd.below) rfl))
        have HC2 := Lib.hid (fun (W' : World) (hm : Mid none B w W' d r s (WL.create L s).2 (2 * k) 140737488355328 (2 * k + 2)) (hx : SBox x #[.int .i64 D, .int .i64 L, .string body, .int .i64 ad, .string ak, .string ato, .int .i64 an, .int .i64 am, .slice A' ln c'] W') => dout hx (hm.rcreate8 (by omega) L hL rfl))
        obtain ⟨R, hR⟩ : ∃ R, WL.create L s = R := ⟨_, rfl⟩
        rw [hR] at HC1 HC2
        obtain ⟨R1, R2⟩ := R
        clear hR HON HNUM HB0
        go_wp2_with fail
        generalize wr.alloc (.cells #[.int .i64 D, .int .i64 L, .string body, .int .i64 ad, .string ak, .string ato, .int .i64 an, .int .i64 am, .slice A' ln c'] 32) = w0 at HD0 HX0 ⊢
        clear c0 c1 c2 c3 c4 c5 c6 c7 c8
        have f1 : w0.cell? ⟨x, 1, none⟩ = some (.int .i64 L) := HX0.out.cell 1 _ rfl
        have HBD := Lib.hid (HD0.out.still (Below.refl _ _).drew)
        have HXD : Hid (SBox x #[.int .i64 D, .int .i64 L, .string body, .int .i64 ad, .string ak, .string ato, .int .i64 an, .int .i64 am, .slice A' ln c'] w0.drew) := HX0
        have d1 : w0.drew.cell? ⟨x, 1, none⟩ = some (.int .i64 L) := HXD.out.cell 1 _ rfl
        go_region_held3 (fun w' => w'.cell? ⟨x, 1, none⟩ = some (.int .i64 L))
          (first | go_keep | exact z1 | exact y1 | exact d1 | fail)
          (first
            | (go_at_call 7
               refine (HC1.out _ HBD.out HXD.out).mono ?_
               rintro e w3 ⟨rfl, hbo, hxo⟩
               have HB2 := Lib.hid hbo
               have HX2 := Lib.hid hxo
               have z1 : w3.cell? ⟨x, 1, none⟩ = some (.int .i64 L) := HX2.out.cell 1 _ rfl
               clear hbo hxo)
            | (go_at_call 8; refine (HC2.out _ HB2.out HX2.out).mono ?_
               rintro e w4 ⟨rfl, hbo, hxo⟩
               have HD3 := Lib.hid hbo
               have y1 : w4.cell? ⟨x, 1, none⟩ = some (.int .i64 L) := hxo.cell 1 _ rfl
               clear hbo hxo)
            )
        clear HBD HXD HB2 HX2 HD0 HX0 HC1 HC2 HLN
        clear f1 d1
        go_wp2_with fail
        refine (same_any HD3.out).mono ?_
        rintro e w6 ⟨rfl, h6⟩
        have H6 := Lib.hid h6
        clear h6 HD3
        go_wp2
        go_roundw
        case rel => exact ⟨k + 1, _, by omega, by go_num, H6.out⟩
        case measure => simp [intOf]; omega
      · -- Append
        have HC1 := Lib.hid (fun (W' : World) (hd : Duo none B w W' d r s (2 * k) 140737488355328) (hx : SBox x #[.int .i64 D, .int .i64 L, .string body, .int .i64 ad, .string ak, .string ato, .int .i64 an, .int .i64 am, .slice A' ln c'] W') => mout hd hx (hd.live.wappend (by omega) L hL (HT.out _ hd.below) body hbody rfl))
        have HC2 := Lib.hid (fun (W' : World) (hm : Mid none B w W' d r s (WL.append L body.data.toList s).2 (2 * k) 140737488355328 (2 * k + 2)) (hx : SBox x #[.int .i64 D, .int .i64 L, .string body, .int .i64 ad, .string ak, .string ato, .int .i64 an, .int .i64 am, .slice A' ln c'] W') => dout hx (hm.rappend8 (by omega) L hL body hbody rfl))
        obtain ⟨R, hR⟩ : ∃ R, WL.append L body.data.toList s = R := ⟨_, rfl⟩
        rw [hR] at HC1 HC2
        obtain ⟨R1, R2⟩ := R
        clear hR HON HNUM HB0
        go_wp2_with fail
        generalize wr.alloc (.cells #[.int .i64 D, .int .i64 L, .string body, .int .i64 ad, .string ak, .string ato, .int .i64 an, .int .i64 am, .slice A' ln c'] 32) = w0 at HD0 HX0 ⊢
        clear c0 c1 c2 c3 c4 c5 c6 c7 c8
        have f1 : w0.cell? ⟨x, 1, none⟩ = some (.int .i64 L) := HX0.out.cell 1 _ rfl
        have f2 : w0.cell? ⟨x, 2, none⟩ = some (.string body) := HX0.out.cell 2 _ rfl
        have HBD := Lib.hid (HD0.out.still (Below.refl _ _).drew)
        have HXD : Hid (SBox x #[.int .i64 D, .int .i64 L, .string body, .int .i64 ad, .string ak, .string ato, .int .i64 an, .int .i64 am, .slice A' ln c'] w0.drew) := HX0
        have d1 : w0.drew.cell? ⟨x, 1, none⟩ = some (.int .i64 L) := HXD.out.cell 1 _ rfl
        have d2 : w0.drew.cell? ⟨x, 2, none⟩ = some (.string body) := HXD.out.cell 2 _ rfl
        go_region_held3 (fun w' => w'.cell? ⟨x, 1, none⟩ = some (.int .i64 L) ∧ w'.cell? ⟨x, 2, none⟩ = some (.string body))
          (first | go_keep | exact ⟨z1, z2⟩ | exact ⟨y1, y2⟩ | exact ⟨d1, d2⟩ | fail)
          (first
            | (go_at_call 9
               refine (HC1.out _ HBD.out HXD.out).mono ?_
               rintro e w3 ⟨rfl, hbo, hxo⟩
               have HB2 := Lib.hid hbo
               have HX2 := Lib.hid hxo
               have z1 : w3.cell? ⟨x, 1, none⟩ = some (.int .i64 L) := HX2.out.cell 1 _ rfl
               have z2 : w3.cell? ⟨x, 2, none⟩ = some (.string body) := HX2.out.cell 2 _ rfl
               clear hbo hxo)
            | (go_at_call 10; refine (HC2.out _ HB2.out HX2.out).mono ?_
               rintro e w4 ⟨rfl, hbo, hxo⟩
               have HD3 := Lib.hid hbo
               have y1 : w4.cell? ⟨x, 1, none⟩ = some (.int .i64 L) := hxo.cell 1 _ rfl
               have y2 : w4.cell? ⟨x, 2, none⟩ = some (.string body) := hxo.cell 2 _ rfl
               clear hbo hxo)
            )
        clear HBD HXD HB2 HX2 HD0 HX0 HC1 HC2 HLN
        clear f1 f2 d1 d2
        go_wp2_with fail
        refine (same_any HD3.out).mono ?_
        rintro e w6 ⟨rfl, h6⟩
        have H6 := Lib.hid h6
        clear h6 HD3
        go_wp2
        go_roundw
        case rel => exact ⟨k + 1, _, by omega, by go_num, H6.out⟩
        case measure => simp [intOf]; omega
      · -- Append
        have HC1 := Lib.hid (fun (W' : World) (hd : Duo none B w W' d r s (2 * k) 140737488355328) (hx : SBox x #[.int .i64 D, .int .i64 L, .string body, .int .i64 ad, .string ak, .string ato, .int .i64 an, .int .i64 am, .slice A' ln c'] W') => mout hd hx (hd.live.wappend (by omega) L hL (HT.out _ hd.below) body hbody rfl))
        have HC2 := Lib.hid (fun (W' : World) (hm : Mid none B w W' d r s (WL.append L body.data.toList s).2 (2 * k) 140737488355328 (2 * k + 2)) (hx : SBox x #[.int .i64 D, .int .i64 L, .string body, .int .i64 ad, .string ak, .string ato, .int .i64 an, .int .i64 am, .slice A' ln c'] W') => dout hx (hm.rappend8 (by omega) L hL body hbody rfl))
        obtain ⟨R, hR⟩ : ∃ R, WL.append L body.data.toList s = R := ⟨_, rfl⟩
        rw [hR] at HC1 HC2
        obtain ⟨R1, R2⟩ := R
        clear hR HON HNUM HB0
        go_wp2_with fail
        generalize wr.alloc (.cells #[.int .i64 D, .int .i64 L, .string body, .int .i64 ad, .string ak, .string ato, .int .i64 an, .int .i64 am, .slice A' ln c'] 32) = w0 at HD0 HX0 ⊢
        clear c0 c1 c2 c3 c4 c5 c6 c7 c8
        have f1 : w0.cell? ⟨x, 1, none⟩ = some (.int .i64 L) := HX0.out.cell 1 _ rfl
        have f2 : w0.cell? ⟨x, 2, none⟩ = some (.string body) := HX0.out.cell 2 _ rfl
        have HBD := Lib.hid (HD0.out.still (Below.refl _ _).drew)
        have HXD : Hid (SBox x #[.int .i64 D, .int .i64 L, .string body, .int .i64 ad, .string ak, .string ato, .int .i64 an, .int .i64 am, .slice A' ln c'] w0.drew) := HX0
        have d1 : w0.drew.cell? ⟨x, 1, none⟩ = some (.int .i64 L) := HXD.out.cell 1 _ rfl
        have d2 : w0.drew.cell? ⟨x, 2, none⟩ = some (.string body) := HXD.out.cell 2 _ rfl
        go_region_held3 (fun w' => w'.cell? ⟨x, 1, none⟩ = some (.int .i64 L) ∧ w'.cell? ⟨x, 2, none⟩ = some (.string body))
          (first | go_keep | exact ⟨z1, z2⟩ | exact ⟨y1, y2⟩ | exact ⟨d1, d2⟩ | fail)
          (first
            | (go_at_call 9
               refine (HC1.out _ HBD.out HXD.out).mono ?_
               rintro e w3 ⟨rfl, hbo, hxo⟩
               have HB2 := Lib.hid hbo
               have HX2 := Lib.hid hxo
               have z1 : w3.cell? ⟨x, 1, none⟩ = some (.int .i64 L) := HX2.out.cell 1 _ rfl
               have z2 : w3.cell? ⟨x, 2, none⟩ = some (.string body) := HX2.out.cell 2 _ rfl
               clear hbo hxo)
            | (go_at_call 10; refine (HC2.out _ HB2.out HX2.out).mono ?_
               rintro e w4 ⟨rfl, hbo, hxo⟩
               have HD3 := Lib.hid hbo
               have y1 : w4.cell? ⟨x, 1, none⟩ = some (.int .i64 L) := hxo.cell 1 _ rfl
               have y2 : w4.cell? ⟨x, 2, none⟩ = some (.string body) := hxo.cell 2 _ rfl
               clear hbo hxo)
            )
        clear HBD HXD HB2 HX2 HD0 HX0 HC1 HC2 HLN
        clear f1 f2 d1 d2
        go_wp2_with fail
        refine (same_any HD3.out).mono ?_
        rintro e w6 ⟨rfl, h6⟩
        have H6 := Lib.hid h6
        clear h6 HD3
        go_wp2
        go_roundw
        case rel => exact ⟨k + 1, _, by omega, by go_num, H6.out⟩
        case measure => simp [intOf]; omega
      · -- Read
        obtain ⟨X, tr, c, hq⟩ : ∃ X tr c, WL.read L s = (X, tr, c) := ⟨_, _, _, rfl⟩
        have HR1 := Lib.hid (fun (W' : World) (hd : Duo none B w W' d r s (2 * k) 140737488355328) (hx : SBox x #[.int .i64 D, .int .i64 L, .string body, .int .i64 ad, .string ak, .string ato, .int .i64 an, .int .i64 am, .slice A' ln c'] W') => read_pair hd hx L hL (HT.out _ hd.below) hq)
        have HR2 := Lib.hid (fun (W' : World) (hd : Duo none B w W' d r s (2 * k) 140737488355328) => hd.rread8 L hL hq)
        obtain ⟨m, hm2⟩ : ∃ m, X.length = m := ⟨_, rfl⟩
        have HM2 := Lib.hid hm2
        simp only [hm2] at HR1
        unfold LogR at HR2
        simp only [hm2] at HR2
        clear HON HNUM HB0 hq hm2
        go_wp2_with fail
        clear c0 c1 c2 c3 c4 c5 c6 c7 c8
        generalize wr.alloc (.cells #[.int .i64 D, .int .i64 L, .string body, .int .i64 ad, .string ak, .string ato, .int .i64 an, .int .i64 am, .slice A' ln c'] 32) = w0 at HD0 HX0 ⊢
        refine (HR1.out _ HD0.out HX0.out).mono ?_
        rintro e w3 ⟨v, rfl, hown, hd, hxx⟩
        have hmb : m ≤ 9223372036854775807 := by
          rcases hown.2 with ⟨_, h0⟩ | ⟨_, _, _, _, _, _, h1, h2, _⟩
          · omega
          · unfold maxLen at h2; omega
        obtain ⟨A1, C1, rfl, hz1⟩ := strs_of_own HM2.out hown
        have HD1 := Lib.hid hd
        have HX1 := Lib.hid hxx
        have HZ1 := Lib.hid hz1
        have f1 : w3.cell? ⟨x, 1, none⟩ = some (.int .i64 L) := hxx.cell 1 _ rfl
        clear hown hd hxx hz1 HR1 HD0 HX0
        go_wp2_with fail
        refine (HR2.out _ HD1.out).mono ?_
        rintro e w4 ⟨v, rfl, hown, hd, hb⟩
        obtain ⟨A2, C2, rfl, hz2⟩ := strs_of_own HM2.out hown
        have HD2 := Lib.hid hd
        have HZ1' : Hid (StrsIn w4 w4.heap.size A1 (texts X)) := Lib.hid ((HZ1.out.below hb).more hb.size)
        have HZ2 := Lib.hid hz2
        have HTX : Hid ((texts X).length = m) := Lib.hid (by rw [texts_length, HM2.out])
        clear hown hd hb hz2 HR2 HD1 HX1 HZ1 f1
        go_wp2_with fail
        go_loopw [9, 104] (fun o i wq => ∃ j : Nat, j ≤ m ∧ o = .bool true ∧ i = .int .i64 j ∧ Below w4.heap.size w4 wq) (fun _ i _ => m - (intOf i).toNat)
        case atStart => exact ⟨0, by omega, rfl, rfl, Below.refl _ _⟩
        case round =>
          obtain ⟨j, hj, rfl, rfl, hbq⟩ := hrel
          have HBQ := Lib.hid hbq
          clear hbq
          by_cases hjm : j < m
          · have hjt : j < (texts X).length := by rw [HTX.out]; exact hjm
            obtain ⟨g1, o1, hA1, -, hc1⟩ := HZ1'.out.below HBQ.out (by omega)
            obtain ⟨g2, o2, hA2, -, hc2⟩ := HZ2.out.below HBQ.out (by omega)
            have e1 := hc1 j hjt
            have e2 := hc2 j hjt
            obtain ⟨t, ht⟩ : ∃ t, (texts X)[j] = t := ⟨_, rfl⟩
            rw [ht] at e1 e2
            have i0 : (0 : Int) ≤ (j : Int) := by omega
            have i1 : (j : Int) < (m : Int) := by omega
            have he : (t.toList == t.toList) = true := by simp
            subst hA1
            subst hA2
            clear hc1 hc2 ht
            go_wp2_with fail
            go_quiet (fail)
            go_wp2
            go_roundw
            case rel => exact ⟨j + 1, by omega, rfl, by go_num, (by first | exact HBQ.out | exact below_drewN HBQ.out _ | exact below_drewN (below_drewN HBQ.out _) _)⟩
            case measure => simp [intOf]; omega
          · have HD3 := Lib.hid (HD2.out.still HBQ.out)
            clear HD2 HZ1' HZ2
            go_wp2_with fail
            refine (same_any HD3.out).mono ?_
            rintro e w6 ⟨rfl, h6⟩
            have H6 := Lib.hid h6
            clear h6 HD3
            go_wp2
            go_roundw
            case rel => exact ⟨k + 1, _, by omega, by go_num, (H6.out.grow (by omega)).grow (by omega)⟩
            case measure => simp [intOf]; omega
      · -- Read
        obtain ⟨X, tr, c, hq⟩ : ∃ X tr c, WL.read L s = (X, tr, c) := ⟨_, _, _, rfl⟩
        have HR1 := Lib.hid (fun (W' : World) (hd : Duo none B w W' d r s (2 * k) 140737488355328) (hx : SBox x #[.int .i64 D, .int .i64 L, .string body, .int .i64 ad, .string ak, .string ato, .int .i64 an, .int .i64 am, .slice A' ln c'] W') => read_pair hd hx L hL (HT.out _ hd.below) hq)
        have HR2 := Lib.hid (fun (W' : World) (hd : Duo none B w W' d r s (2 * k) 140737488355328) => hd.rread8 L hL hq)
        obtain ⟨m, hm2⟩ : ∃ m, X.length = m := ⟨_, rfl⟩
        have HM2 := Lib.hid hm2
        simp only [hm2] at HR1
        unfold LogR at HR2
        simp only [hm2] at HR2
        clear HON HNUM HB0 hq hm2
        go_wp2_with fail
        clear c0 c1 c2 c3 c4 c5 c6 c7 c8
        generalize wr.alloc (.cells #[.int .i64 D, .int .i64 L, .string body, .int .i64 ad, .string ak, .string ato, .int .i64 an, .int .i64 am, .slice A' ln c'] 32) = w0 at HD0 HX0 ⊢
        refine (HR1.out _ HD0.out HX0.out).mono ?_
        rintro e w3 ⟨v, rfl, hown, hd, hxx⟩
        have hmb : m ≤ 9223372036854775807 := by
          rcases hown.2 with ⟨_, h0⟩ | ⟨_, _, _, _, _, _, h1, h2, _⟩
          · omega
          · unfold maxLen at h2; omega
        obtain ⟨A1, C1, rfl, hz1⟩ := strs_of_own HM2.out hown
        have HD1 := Lib.hid hd
        have HX1 := Lib.hid hxx
        have HZ1 := Lib.hid hz1
        have f1 : w3.cell? ⟨x, 1, none⟩ = some (.int .i64 L) := hxx.cell 1 _ rfl
        clear hown hd hxx hz1 HR1 HD0 HX0
        go_wp2_with fail
        refine (HR2.out _ HD1.out).mono ?_
        rintro e w4 ⟨v, rfl, hown, hd, hb⟩
        obtain ⟨A2, C2, rfl, hz2⟩ := strs_of_own HM2.out hown
        have HD2 := Lib.hid hd
        have HZ1' : Hid (StrsIn w4 w4.heap.size A1 (texts X)) := Lib.hid ((HZ1.out.below hb).more hb.size)
        have HZ2 := Lib.hid hz2
        have HTX : Hid ((texts X).length = m) := Lib.hid (by rw [texts_length, HM2.out])
        clear hown hd hb hz2 HR2 HD1 HX1 HZ1 f1
        go_wp2_with fail
        go_loopw [9, 104] (fun o i wq => ∃ j : Nat, j ≤ m ∧ o = .bool true ∧ i = .int .i64 j ∧ Below w4.heap.size w4 wq) (fun _ i _ => m - (intOf i).toNat)
        case atStart => exact ⟨0, by omega, rfl, rfl, Below.refl _ _⟩
        case round =>
          obtain ⟨j, hj, rfl, rfl, hbq⟩ := hrel
          have HBQ := Lib.hid hbq
          clear hbq
          by_cases hjm : j < m
          · have hjt : j < (texts X).length := by rw [HTX.out]; exact hjm
            obtain ⟨g1, o1, hA1, -, hc1⟩ := HZ1'.out.below HBQ.out (by omega)
            obtain ⟨g2, o2, hA2, -, hc2⟩ := HZ2.out.below HBQ.out (by omega)
            have e1 := hc1 j hjt
            have e2 := hc2 j hjt
            obtain ⟨t, ht⟩ : ∃ t, (texts X)[j] = t := ⟨_, rfl⟩
            rw [ht] at e1 e2
            have i0 : (0 : Int) ≤ (j : Int) := by omega
            have i1 : (j : Int) < (m : Int) := by omega
            have he : (t.toList == t.toList) = true := by simp
            subst hA1
            subst hA2
            clear hc1 hc2 ht
            go_wp2_with fail
            go_quiet (fail)
            go_wp2
            go_roundw
            case rel => exact ⟨j + 1, by omega, rfl, by go_num, (by first | exact HBQ.out | exact below_drewN HBQ.out _ | exact below_drewN (below_drewN HBQ.out _) _)⟩
            case measure => simp [intOf]; omega
          · have HD3 := Lib.hid (HD2.out.still HBQ.out)
            clear HD2 HZ1' HZ2
            go_wp2_with fail
            refine (same_any HD3.out).mono ?_
            rintro e w6 ⟨rfl, h6⟩
            have H6 := Lib.hid h6
            clear h6 HD3
            go_wp2
            go_roundw
            case rel => exact ⟨k + 1, _, by omega, by go_num, (H6.out.grow (by omega)).grow (by omega)⟩
            case measure => simp [intOf]; omega
      · -- Remove
        have HC1 := Lib.hid (fun (W' : World) (hd : Duo none B w W' d r s (2 * k) 140737488355328) (hx : SBox x #[.int .i64 D, .int .i64 L, .string body, .int .i64 ad, .string ak, .string ato, .int .i64 an, .int .i64 am, .slice A' ln c'] W') => mout hd hx (hd.live.wremove (by omega) L hL (HT.out _ hd.below) rfl))
        have HC2 := Lib.hid (fun (W' : World) (hm : Mid none B w W' d r s (WL.remove L s).2 (2 * k) 140737488355328 (2 * k + 2)) (hx : SBox x #[.int .i64 D, .int .i64 L, .string body, .int .i64 ad, .string ak, .string ato, .int .i64 an, .int .i64 am, .slice A' ln c'] W') => dout hx (hm.rremove8 (by omega) L hL rfl))
        obtain ⟨R, hR⟩ : ∃ R, WL.remove L s = R := ⟨_, rfl⟩
        rw [hR] at HC1 HC2
        obtain ⟨R1, R2⟩ := R
        clear hR HON HNUM HB0
        go_wp2_with fail
        generalize wr.alloc (.cells #[.int .i64 D, .int .i64 L, .string body, .int .i64 ad, .string ak, .string ato, .int .i64 an, .int .i64 am, .slice A' ln c'] 32) = w0 at HD0 HX0 ⊢
        clear c0 c1 c2 c3 c4 c5 c6 c7 c8
        have f1 : w0.cell? ⟨x, 1, none⟩ = some (.int .i64 L) := HX0.out.cell 1 _ rfl
        have HBD := Lib.hid (HD0.out.still (Below.refl _ _).drew)
        have HXD : Hid (SBox x #[.int .i64 D, .int .i64 L, .string body, .int .i64 ad, .string ak, .string ato, .int .i64 an, .int .i64 am, .slice A' ln c'] w0.drew) := HX0
        have d1 : w0.drew.cell? ⟨x, 1, none⟩ = some (.int .i64 L) := HXD.out.cell 1 _ rfl
        go_region_held3 (fun w' => w'.cell? ⟨x, 1, none⟩ = some (.int .i64 L))
          (first | go_keep | exact z1 | exact y1 | exact d1 | fail)
          (first
            | (go_at_call 13
               refine (HC1.out _ HBD.out HXD.out).mono ?_
               rintro e w3 ⟨rfl, hbo, hxo⟩
               have HB2 := Lib.hid hbo
               have HX2 := Lib.hid hxo
               have z1 : w3.cell? ⟨x, 1, none⟩ = some (.int .i64 L) := HX2.out.cell 1 _ rfl
               clear hbo hxo)
            | (go_at_call 14; refine (HC2.out _ HB2.out HX2.out).mono ?_
               rintro e w4 ⟨rfl, hbo, hxo⟩
               have HD3 := Lib.hid hbo
               have y1 : w4.cell? ⟨x, 1, none⟩ = some (.int .i64 L) := hxo.cell 1 _ rfl
               clear hbo hxo)
            )
        clear HBD HXD HB2 HX2 HD0 HX0 HC1 HC2 HLN
        clear f1 d1
        go_wp2_with fail
        refine (same_any HD3.out).mono ?_
        rintro e w6 ⟨rfl, h6⟩
        have H6 := Lib.hid h6
        clear h6 HD3
        go_wp2
        go_roundw
        case rel => exact ⟨k + 1, _, by omega, by go_num, H6.out⟩
        case measure => simp [intOf]; omega
      · -- Remove
        have HC1 := Lib.hid (fun (W' : World) (hd : Duo none B w W' d r s (2 * k) 140737488355328) (hx : SBox x #[.int .i64 D, .int .i64 L, .string body, .int .i64 ad, .string ak, .string ato, .int .i64 an, .int .i64 am, .slice A' ln c'] W') => mout hd hx (hd.live.wremove (by omega) L hL (HT.out _ hd.below) rfl))
        have HC2 := Lib.hid (fun (W' : World) (hm : Mid none B w W' d r s (WL.remove L s).2 (2 * k) 140737488355328 (2 * k + 2)) (hx : SBox x #[.int .i64 D, .int .i64 L, .string body, .int .i64 ad, .string ak, .string ato, .int .i64 an, .int .i64 am, .slice A' ln c'] W') => dout hx (hm.rremove8 (by omega) L hL rfl))
        obtain ⟨R, hR⟩ : ∃ R, WL.remove L s = R := ⟨_, rfl⟩
        rw [hR] at HC1 HC2
        obtain ⟨R1, R2⟩ := R
        clear hR HON HNUM HB0
        go_wp2_with fail
        generalize wr.alloc (.cells #[.int .i64 D, .int .i64 L, .string body, .int .i64 ad, .string ak, .string ato, .int .i64 an, .int .i64 am, .slice A' ln c'] 32) = w0 at HD0 HX0 ⊢
        clear c0 c1 c2 c3 c4 c5 c6 c7 c8
        have f1 : w0.cell? ⟨x, 1, none⟩ = some (.int .i64 L) := HX0.out.cell 1 _ rfl
        have HBD := Lib.hid (HD0.out.still (Below.refl _ _).drew)
        have HXD : Hid (SBox x #[.int .i64 D, .int .i64 L, .string body, .int .i64 ad, .string ak, .string ato, .int .i64 an, .int .i64 am, .slice A' ln c'] w0.drew) := HX0
        have d1 : w0.drew.cell? ⟨x, 1, none⟩ = some (.int .i64 L) := HXD.out.cell 1 _ rfl
        go_region_held3 (fun w' => w'.cell? ⟨x, 1, none⟩ = some (.int .i64 L))
          (first | go_keep | exact z1 | exact y1 | exact d1 | fail)
          (first
            | (go_at_call 13
               refine (HC1.out _ HBD.out HXD.out).mono ?_
               rintro e w3 ⟨rfl, hbo, hxo⟩
               have HB2 := Lib.hid hbo
               have HX2 := Lib.hid hxo
               have z1 : w3.cell? ⟨x, 1, none⟩ = some (.int .i64 L) := HX2.out.cell 1 _ rfl
               clear hbo hxo)
            | (go_at_call 14; refine (HC2.out _ HB2.out HX2.out).mono ?_
               rintro e w4 ⟨rfl, hbo, hxo⟩
               have HD3 := Lib.hid hbo
               have y1 : w4.cell? ⟨x, 1, none⟩ = some (.int .i64 L) := hxo.cell 1 _ rfl
               clear hbo hxo)
            )
        clear HBD HXD HB2 HX2 HD0 HX0 HC1 HC2 HLN
        clear f1 d1
        go_wp2_with fail
        refine (same_any HD3.out).mono ?_
        rintro e w6 ⟨rfl, h6⟩
        have H6 := Lib.hid h6
        clear h6 HD3
        go_wp2
        go_roundw
        case rel => exact ⟨k + 1, _, by omega, by go_num, H6.out⟩
        case measure => simp [intOf]; omega
      · -- act
        have HAC : Hid (∀ W', Duo none B w W' d r s (2 * k) 140737488355328 → Below wr.heap.size wr W' → Calls Tryz.prog 15 #[.pointer (some ⟨d, 0, none⟩), .pointer (some ⟨r, 0, none⟩), .agg #[.int .i64 ad, .string ak, .string ato, .int .i64 an, .int .i64 am, .slice A' ln c']] W' (ActOut B w d r (2 * k) 140737488355328)) := Lib.hid fun W' hd hb => by
          have h := act_any hd (by omega) ⟨ad, ak, ato, an, am, A', c', l'⟩ HON.out (by have := HON.out.l8; simp only at this ⊢; omega) (HNUM.out.below hb)
          unfold AD.val AD.cells at h
          simp only [HLN.out] at h
          exact h
        rw [hx] at HAC HB0
        clear HON HNUM
        go_wp2_with fail
        clear c0 c1 c2 c3 c4 c5 c6 c7 c8
        refine (HAC.out _ HD0.out HB0.out).mono ?_
        rintro e w5 ⟨rfl, s', h5⟩
        have HD3 := Lib.hid h5
        clear h5 HAC HD0 HX0 HB0 HLN
        go_wp2_with fail
        refine (same_any HD3.out).mono ?_
        rintro e w6 ⟨rfl, h6⟩
        have H6 := Lib.hid h6
        clear h6 HD3
        go_wp2
        go_roundw
        case rel => exact ⟨k + 1, _, by omega, by go_num, H6.out.grow (by omega)⟩
        case measure => simp [intOf]; omega
      · -- act
        have HAC : Hid (∀ W', Duo none B w W' d r s (2 * k) 140737488355328 → Below wr.heap.size wr W' → Calls Tryz.prog 15 #[.pointer (some ⟨d, 0, none⟩), .pointer (some ⟨r, 0, none⟩), .agg #[.int .i64 ad, .string ak, .string ato, .int .i64 an, .int .i64 am, .slice A' ln c']] W' (ActOut B w d r (2 * k) 140737488355328)) := Lib.hid fun W' hd hb => by
          have h := act_any hd (by omega) ⟨ad, ak, ato, an, am, A', c', l'⟩ HON.out (by have := HON.out.l8; simp only at this ⊢; omega) (HNUM.out.below hb)
          unfold AD.val AD.cells at h
          simp only [HLN.out] at h
          exact h
        rw [hx] at HAC HB0
        clear HON HNUM
        go_wp2_with fail
        clear c0 c1 c2 c3 c4 c5 c6 c7 c8
        refine (HAC.out _ HD0.out HB0.out).mono ?_
        rintro e w5 ⟨rfl, s', h5⟩
        have HD3 := Lib.hid h5
        clear h5 HAC HD0 HX0 HB0 HLN
        go_wp2_with fail
        refine (same_any HD3.out).mono ?_
        rintro e w6 ⟨rfl, h6⟩
        have H6 := Lib.hid h6
        clear h6 HD3
        go_wp2
        go_roundw
        case rel => exact ⟨k + 1, _, by omega, by go_num, H6.out.grow (by omega)⟩
        case measure => simp [intOf]; omega
    · go_wp2
      go_ret
      exact ⟨rfl, HBO.out.below⟩

theorem facts {W : World} (h : laidMetH Tryz.prog Rows.walPlaysRow.laid W) : Tab W := by
  rw [MakeChecks.laidMetH_plain _ _ _ (by kernel_rfl)] at h
  exact tab_of_laid h
set_option maxRecDepth 100000 in
set_option maxHeartbeats 1000000 in
theorem contract (H : Type) (enc : TypeId × Value → H) (W : World) (base : Nat) (args : Array Value) (ds gs : List (DataW H)) (before : List MemPlace)
    (hval : ∀ (j : Nat) t v, Tryz.f3.params[j]? = some t → args[j]? = some v → Value.okWide Tryz.prog W .any base t v)
    (hW : DataW.Whole enc Tryz.prog Tryz.f3.params.toList Rows.walPlaysSpec.vars false W args.toList ds gs before)
    (hz : (DataW.weightsEach Tryz.prog Tryz.f3.params.toList (ds ++ gs)).all (· ≤ reachBytes) = true)
    (hL : laidMetH Tryz.prog Rows.walPlaysRow.laid W) :
    Calls Tryz.prog 3 args W fun e W' => ∃ v, e = .returned v ∧ Rows.walPlaysSpec.post enc Tryz.prog Tryz.f3 false true false false W args v W' := by
  have hW' := hW
  obtain ⟨p, q, hA0, hV, rfl, hfz, hnd⟩ := hW
  have hA : DataW.TrodAll enc Tryz.prog W 0 (fun _ => true) true Tryz.f3.params.toList args.toList ds p := hA0
  rw [Tryz.params3] at hA hval hz
  obtain ⟨v0, vs0, d0, ds0, p0, q0, hargs, rfl, rfl, h0, r0⟩ := trodAll_cons hA
  obtain ⟨v1, vs1, d1, ds1, p1, q1, rfl, rfl, rfl, h1, r1⟩ := trodAll_cons r0
  obtain ⟨rfl, rfl, rfl⟩ := trodAll_nil r1
  obtain rfl : args = #[v0, v1] := by cases args; simp_all
  obtain ⟨rfl, rfl⟩ := trodVars_none hV
  obtain ⟨room, rfl, rfl, rfl, wroom⟩ := open_int Tryz.underlying3 (hval 0 3 v0 rfl rfl) h0
  have hroom : -9223372036854775808 ≤ room ∧ room ≤ 9223372036854775807 := by simpa [Lit.wf, IntKind.min, IntKind.max, IntKind.signed, IntKind.bits] using wroom
  obtain ⟨scA, scN, scC, sc, rfl, hlensc, hinsc, hbsc⟩ := open_steps (hval 1 22 v1 rfl rfl) h1 (parts_sized hz (j := 1) rfl rfl)
  have hf := facts hL
  refine (walk room scA scN scC sc W hlensc hinsc hbsc hroom hf).mono fun e W' ⟨he, hB⟩ => ?_
  subst he
  exact ⟨_, rfl, law_post Tryz.laidOut (by kernel_rfl) rfl rfl Tryz.underlying4 hW' rfl hB⟩

set_option maxRecDepth 100000 in
theorem lifted (os : Os) (started : os.Started) (H : Type) (enc : TypeId × Value → H) :
    ReturnsInHanded {} Tryz.checked os 3 .any (fun w args => (Rows.walPlaysSpec.pre enc Tryz.prog Tryz.f3 [] false w args ∧ laidMetH Tryz.prog Rows.walPlaysRow.laid w) ∧ sizedMet enc Tryz.prog Tryz.f3 (OpenSpec.ofChange Rows.walPlaysSpec) false w args) (Rows.walPlaysSpec.post enc Tryz.prog Tryz.f3 false true false false) := by
  refine returnsInHanded_of_change_and (C := Tryz.checked) (X := fun w _ => laidMetH Tryz.prog Rows.walPlaysRow.laid w) (fun _ _ _ hh h => h.of_heap hh) Tryz.own started (by kernel_rfl) Tryz.func3
    (ChangeSpec.witness_shaped (enc := enc) (C := Tryz.checked) (os := os) (X := fun w _ => laidMetH Tryz.prog Rows.walPlaysRow.laid w) false (World.laidAll Tryz.prog os Rows.walPlaysRow.laid) #[.int .i64 0, .slice none 0 0] 8 (World.laidAll_os _ _ _) (World.shaped_of_ZipB (by kernel_rfl) (by kernel_rfl)) (by kernel_rfl) (by kernel_rfl) (by kernel_rfl)
      (by rw [MakeChecks.laidMetH_plain _ _ _ (by kernel_rfl)]; exact laidMet_laidAll _ (by kernel_rfl) (by kernel_rfl))) ?_
  intro W base args ds gs before hval hW _ hz hL _
  exact contract H enc W base args ds gs before hval hW hz hL

theorem proved : Rows.WalPlaysSaid :=
  OpenClaim.holds_of_wide 3 Tryz.f3 rfl rfl rfl rfl rfl rfl rfl ⟨rfl, rfl, rfl, rfl, rfl⟩ rfl rfl rfl rfl rfl (by kernel_rfl) Tryz.func3 (by kernel_rfl)
    (of_decide_eq_true (by kernel_rfl)) (by unfold Func.isWrapper; first | (rw [if_pos (by decide +kernel)]; kernel_rfl) | (rw [if_neg (by decide +kernel)]; exact ⟨rfl, rfl⟩))
    (fun os started H enc _ => lifted os started H enc)

set_option maxRecDepth 100000 in
theorem card : Rows.WalPlaysCardSaid :=
  Claim7.holds_tied_plain_at .later [] _ true _ true
    proved (fun _ h => by cases h) (by kernel_rfl) (fun _ h => by cases h) walPlays_row_tie rfl ⟨rfl, rfl⟩ (by kernel_rfl) rfl
    (fun f fn hf hfn => by
      obtain rfl : f = 3 := Option.some.inj ((show Tryz.prog.funcNamed "oxbow/oxbowlaw08.WalPlays" = some 3 by kernel_rfl).symm.trans hf) |>.symm
      obtain rfl : fn = Tryz.f3 := (Option.some.inj (Tryz.func3.symm.trans hfn)).symm
      exact ⟨by kernel_rfl, fun j t ht => by
        rw [Tryz.params3] at ht
        have hm : t ∈ [3, 22] := by simpa using Array.mem_of_getElem? ht
        have hall : ([3, 22].all fun u => !Tryz.prog.wantsStandIn u) = true := by kernel_rfl
        exact (show Tryz.prog.wantsStandIn t = false by simpa using List.all_eq_true.1 hall t hm)⟩)
    (by kernel_rfl)
end lawPlays
end Go.Proofs.YtgknkldhjejjmaaGreatDoor

