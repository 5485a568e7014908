/- Texts joined by bundle.py: Rb, Rc. -/
import Derived.Test.YtffdiiolgflbkaaZas
import Derived.StillTailTactics

/- The document's with. Made by gen_rb.py. -/
namespace Go.Proofs.Ytffdiiolgflbkaa
open Go.RowKit
open VS
attribute [local go_sem ↓] Go.wp_at_zero Go.wp_at_succ

theorem own_low {w : World} {B B' : Nat} {e : TypeId} {s : Nat} {v : Value} {n : Nat} {xs : List Value} (h : w.ownsRow B e s v n xs) (hb : B' ≤ B) : w.ownsRow B' e s v n xs :=
  ⟨h.1, h.2.imp id fun ⟨g, cap, cur, h1, h2, h3⟩ => ⟨g, cap, cur, h1, Nat.le_trans hb h2, h3⟩⟩

namespace VS
def wstep (m : M) (s : List M × Bool) (x : M) : List M × Bool := (s.1 ++ (if (ahead m x && !s.2) = true then [m, x] else [x]), s.2 || ahead m x)
def wf (m : M) (l : List M) : List M × Bool := l.foldl (wstep m) ([], false)
theorem wf_true (m : M) : ∀ (l o : List M), l.foldl (wstep m) (o, true) = (o ++ l, true)
  | [], o => by simp
  | x :: l, o => by
    rw [List.foldl_cons]
    have : wstep m (o, true) x = (o ++ [x], true) := by simp [wstep]
    rw [this, wf_true m l]
    simp
theorem wf_false (m : M) : ∀ (l o : List M), (if (l.foldl (wstep m) (o, false)).2 = true then (l.foldl (wstep m) (o, false)).1 else (l.foldl (wstep m) (o, false)).1 ++ [m]) = o ++ with_ l m
  | [], o => by simp [with_]
  | x :: l, o => by
    rw [List.foldl_cons]
    cases h : ahead m x with
    | true =>
      have : wstep m (o, false) x = (o ++ [m, x], true) := by simp [wstep, h]
      rw [this, wf_true]
      simp [with_, h]
    | false =>
      have : wstep m (o, false) x = (o ++ [x], false) := by simp [wstep, h]
      rw [this, wf_false m l]
      simp [with_, h]
theorem with_eq (m : M) (l : List M) : with_ l m = if (wf m l).2 = true then (wf m l).1 else (wf m l).1 ++ [m] := by
  have := wf_false m l []
  rw [List.nil_append] at this
  exact this.symm
theorem wf_snoc (m : M) {l : List M} {j : Nat} (h : j < l.length) : wf m (l.take (j + 1)) = wstep m (wf m (l.take j)) l[j] := by
  unfold wf
  rw [List.take_succ_eq_append_getElem h, List.foldl_append]
  rfl
theorem wf_len (m : M) (l : List M) : (wf m l).1.length ≤ 2 * l.length := by
  have key : ∀ (l : List M) (s : List M × Bool), (l.foldl (wstep m) s).1.length ≤ s.1.length + 2 * l.length := by
    intro l
    induction l with
    | nil => simp
    | cons x l ih =>
      intro s
      rw [List.foldl_cons]
      refine Nat.le_trans (ih _) ?_
      have : (wstep m s x).1.length ≤ s.1.length + 2 := by
        unfold wstep
        rw [List.length_append]
        split <;> simp
      simp only [List.length_cons]
      omega
  have := key l ([], false)
  simpa [wf] using this
theorem wf_mem (m : M) {l : List M} {x : M} : x ∈ (wf m l).1 → x = m ∨ x ∈ l := by
  have key : ∀ (l : List M) (s : List M × Bool), x ∈ (l.foldl (wstep m) s).1 → x ∈ s.1 ∨ x = m ∨ x ∈ l := by
    intro l
    induction l with
    | nil => intro s h; exact .inl h
    | cons y l ih =>
      intro s h
      rw [List.foldl_cons] at h
      rcases ih _ h with h | h | h
      · unfold wstep at h
        rcases List.mem_append.1 h with h | h
        · exact .inl h
        · split at h
          · simp at h; rcases h with h | h
            · exact .inr (.inl h)
            · exact .inr (.inr (by simp [h]))
          · simp at h; exact .inr (.inr (by simp [h]))
      · exact .inr (.inl h)
      · exact .inr (.inr (by simp [h]))
  intro h
  rcases key l _ h with h | h | h
  · simp at h
  · exact .inl h
  · exact .inr h
end VS

set_option maxRecDepth 100000 in
set_option maxHeartbeats 8000000 in
theorem with_any (A : Option Addr) (n c : Nat) (l : List M) (m : M) (w : World) (hn : l.length = n) (hin : In5 w A l) (hm : m.wf) (hb : n ≤ 10000000) :
    Calls Try.prog 34 #[.slice A n c, .agg #[.int .i64 m.lvl, .int .i64 m.file, .int .i64 m.size, .string m.lo, .string m.hi]] w fun r w' => ∃ B d, r = .returned (.slice B (n + 1) d) ∧ w'.ownsRow w.heap.size 66 5 (.slice B (n + 1) d) (n + 1) (cs5 (with_ l m)) ∧ Below w.heap.size w w' := by
  obtain ⟨i0, hi, hz0, hz1, hz2⟩ := info_parts info_rmeta
  have HN := Lib.hid hn
  have HIN := Lib.hid hin
  have HM := Lib.hid hm
  have HAH := Lib.hid (fun x W => ahead_any m x W)
  have HWI := Lib.hid (with_eq m l)
  have HSN : Hid (∀ j (h : j < l.length), wf m (l.take (j + 1)) = wstep m (wf m (l.take j)) l[j]) := Lib.hid fun j h => wf_snoc m h
  have HLEN : Hid (∀ j, (wf m (l.take j)).1.length ≤ 20000000) := Lib.hid fun j => by
    have h1 := wf_len m (l.take j)
    have h2 : (l.take j).length ≤ l.length := by rw [List.length_take]; omega
    omega
  have HWL : Hid ((with_ l m).length = n + 1) := Lib.hid (by rw [(with_perm l m).length_eq, List.length_append, hn]; rfl)
  clear hn hin hm
  obtain ⟨lv, q, g, s, t⟩ := m
  simp only at HAH
  simp only
  go_enter Try.func34, Try.ntmps34
  go_wp2_with fail
  have hrow := heap_alloc_new w (.cells #[.int .i64 lv, .int .i64 q, .int .i64 g, .string s, .string t] 66)
  have hal := (Below.refl w.heap.size w).alloc (Nat.le_refl _) (.cells #[.int .i64 lv, .int .i64 q, .int .i64 g, .string s, .string t] 66)
  have hsz : (w.alloc (.cells #[.int .i64 lv, .int .i64 q, .int .i64 g, .string s, .string t] 66)).heap.size = w.heap.size + 1 := by simp
  generalize w.alloc (.cells #[.int .i64 lv, .int .i64 q, .int .i64 g, .string s, .string t] 66) = w0 at hrow hal hsz ⊢
  obtain ⟨x, hx⟩ : ∃ x, w.heap.size = x := ⟨_, rfl⟩
  have HX := Lib.hid hx
  rw [hx] at hrow hsz ⊢
  have HROW := Lib.hid hrow
  have HIN0 := Lib.hid (HIN.out.below hal)
  have HS0 := Lib.hid hsz
  have HLOW : Hid (∀ W, Below (x + 1) w0 W → Below x w W) := Lib.hid fun W h => by
    rw [hx] at hal
    exact hal.trans (h.mono (by omega))
  clear hrow hal hsz hx
  go_loopw [5, 6, 7] (fun v p i wr => ∃ j : Nat, j ≤ n ∧ i = .int .i64 j ∧ p = .bool (wf ⟨lv, q, g, s, t⟩ (l.take j)).2 ∧ wr.ownsRow (x + 1) 66 5 v (wf ⟨lv, q, g, s, t⟩ (l.take j)).1.length (cs5 (wf ⟨lv, q, g, s, t⟩ (l.take j)).1) ∧ Below (x + 1) w0 wr) (fun _ _ i _ => n - (intOf i).toNat)
  case atStart => exact ⟨0, by omega, rfl, rfl, World.ownsRow_nil _ _ _ _, Below.refl _ _⟩
  case round =>
    obtain ⟨j, hj, rfl, rfl, hown, hbw⟩ := hrel
    have HB := Lib.hid hbw
    have hro := (hbw.block x (by omega)).trans HROW.out
    have b0 : wr.cell? ⟨x, 0, none⟩ = some (.int .i64 lv) := cell_of_row _ _ _ _ _ _ hro
    have b1 : wr.cell? ⟨x, 1, none⟩ = some (.int .i64 q) := cell_of_row _ _ _ _ _ _ hro
    have b2 : wr.cell? ⟨x, 2, none⟩ = some (.int .i64 g) := cell_of_row _ _ _ _ _ _ hro
    have b3 : wr.cell? ⟨x, 3, none⟩ = some (.string s) := cell_of_row _ _ _ _ _ _ hro
    have b4 : wr.cell? ⟨x, 4, none⟩ = some (.string t) := cell_of_row _ _ _ _ _ _ hro
    by_cases hlt : j < n
    · have hjl : j < l.length := by rw [HN.out]; exact hlt
      obtain ⟨cb, off, hA, hbl, hc⟩ := (HIN0.out.below (hbw.mono (by have := HS0.out; omega))).at_ (by omega)
      obtain ⟨c0, c1, c2, c3, c4⟩ := hc j hjl
      have hcbx : cb < x := by
        obtain ⟨cb2, off2, hA2, hbl2, -⟩ := HIN.out.at_ (by omega)
        rw [hA] at hA2
        injection hA2 with hA2
        injection hA2 with h1 h2
        have := HX.out
        omega
      have HSN1 := Lib.hid (HSN.out j hjl)
      obtain ⟨e, he⟩ : ∃ e, l[j] = e := ⟨_, rfl⟩
      rw [he] at c0 c1 c2 c3 c4 HSN1
      have HAE := Lib.hid (fun W => HAH.out e W)
      have hwl := HLEN.out j
      obtain ⟨oP, hwf⟩ : ∃ oP, wf (⟨lv, q, g, s, t⟩ : M) (l.take j) = oP := ⟨_, rfl⟩
      obtain ⟨o, P⟩ := oP
      rw [hwf] at HSN1 hown hwl
      simp only [hwf]
      simp only at hown hwl
      obtain ⟨F, hF⟩ : ∃ F, VS.ahead (⟨lv, q, g, s, t⟩ : M) e = F := ⟨_, rfl⟩
      rw [hF] at HAE
      have HST : Hid (wf (⟨lv, q, g, s, t⟩ : M) (l.take (j + 1)) = (o ++ (if (F && !P) = true then [⟨lv, q, g, s, t⟩, e] else [e]), P || F)) := Lib.hid (by rw [HSN1.out]; unfold wstep; rw [hF])
      have HO := Lib.hid hown
      obtain ⟨lv2, q2, g2, s2, t2⟩ := e
      simp only at c0 c1 c2 c3 c4 HAE
      have g0 : (0 : Int) ≤ (j : Int) := by omega
      have g1 : (j : Int) < (n : Int) := by omega
      have HCL : Hid (cb < wr.heap.size ∧ x < wr.heap.size) := Lib.hid ⟨hbl, by have := hbw.size; have := HS0.out; omega⟩
      have HCB : Hid (∀ W, Below (x + 1) w0 W → (W.cell? ⟨x, 0, none⟩ = some (.int .i64 lv) ∧ W.cell? ⟨x, 1, none⟩ = some (.int .i64 q) ∧ W.cell? ⟨x, 2, none⟩ = some (.int .i64 g) ∧ W.cell? ⟨x, 3, none⟩ = some (.string s) ∧ W.cell? ⟨x, 4, none⟩ = some (.string t)) ∧ W.cell? ⟨cb, off + j * 5, none⟩ = some (.int .i64 lv2) ∧ W.cell? ⟨cb, off + j * 5 + 1, none⟩ = some (.int .i64 q2) ∧ W.cell? ⟨cb, off + j * 5 + 2, none⟩ = some (.int .i64 g2) ∧ W.cell? ⟨cb, off + j * 5 + 3, none⟩ = some (.string s2) ∧ W.cell? ⟨cb, off + j * 5 + 4, none⟩ = some (.string t2)) := Lib.hid fun W hW => by
        have e1 := (hW.block x (by omega)).trans HROW.out
        have e2 : W.heap[cb]? = wr.heap[cb]? := (hW.block cb (by have := hcbx; omega)).trans (HB.out.block cb (by have := hcbx; omega)).symm
        have e3 : ∀ k, W.cell? ⟨cb, k, none⟩ = wr.cell? ⟨cb, k, none⟩ := fun k => by simp [World.cell?, e2]
        exact ⟨⟨cell_of_row _ _ _ _ _ _ e1, cell_of_row _ _ _ _ _ _ e1, cell_of_row _ _ _ _ _ _ e1, cell_of_row _ _ _ _ _ _ e1, cell_of_row _ _ _ _ _ _ e1⟩, (e3 _).trans c0, (e3 _).trans c1, (e3 _).trans c2, (e3 _).trans c3, (e3 _).trans c4⟩
      subst hA
      clear hcbx hc he hF hbw hro hown HSN1 hwf
      go_wp2_with fail
      refine wp_region_still_tail 5 (by kernel_rfl) (by kernel_rfl) ?_
      simp only [List.take_succ_cons, List.take_zero, List.drop_succ_cons, List.drop_zero]
      have hdr : Below wr.heap.size wr { wr with drawn := wr.drawn + 1 } := (Below.refl _ wr).drew
      generalize ({ wr with drawn := wr.drawn + 1 } : World) = wd at hdr ⊢
      have y0 : wd.cell? ⟨x, 0, none⟩ = some (.int .i64 lv) := (hdr.cell (p := ⟨x, 0, none⟩) HCL.out.2).trans b0
      have y1 : wd.cell? ⟨x, 1, none⟩ = some (.int .i64 q) := (hdr.cell (p := ⟨x, 1, none⟩) HCL.out.2).trans b1
      have y2 : wd.cell? ⟨x, 2, none⟩ = some (.int .i64 g) := (hdr.cell (p := ⟨x, 2, none⟩) HCL.out.2).trans b2
      have y3 : wd.cell? ⟨x, 3, none⟩ = some (.string s) := (hdr.cell (p := ⟨x, 3, none⟩) HCL.out.2).trans b3
      have y4 : wd.cell? ⟨x, 4, none⟩ = some (.string t) := (hdr.cell (p := ⟨x, 4, none⟩) HCL.out.2).trans b4
      have z0 : wd.cell? ⟨cb, off + j * 5, none⟩ = some (.int .i64 lv2) := (hdr.cell (p := ⟨cb, off + j * 5, none⟩) HCL.out.1).trans c0
      have z1 : wd.cell? ⟨cb, off + j * 5 + 1, none⟩ = some (.int .i64 q2) := (hdr.cell (p := ⟨cb, off + j * 5 + 1, none⟩) HCL.out.1).trans c1
      have z2 : wd.cell? ⟨cb, off + j * 5 + 2, none⟩ = some (.int .i64 g2) := (hdr.cell (p := ⟨cb, off + j * 5 + 2, none⟩) HCL.out.1).trans c2
      have z3 : wd.cell? ⟨cb, off + j * 5 + 3, none⟩ = some (.string s2) := (hdr.cell (p := ⟨cb, off + j * 5 + 3, none⟩) HCL.out.1).trans c3
      have z4 : wd.cell? ⟨cb, off + j * 5 + 4, none⟩ = some (.string t2) := (hdr.cell (p := ⟨cb, off + j * 5 + 4, none⟩) HCL.out.1).trans c4
      repeat still_step
      refine wpStill_nil ?_
      go_wp2_with fail
      refine (HAE.out _).mono ?_
      rintro r w1 ⟨rfl, hb1⟩
      have HB1 : Hid (Below (x + 1) w0 w1) := Lib.hid (HB.out.trans ((hdr.trans (hb1.mono hdr.size)).mono (by have := HB.out.size; have := HS0.out; omega)))
      have HO1 := Lib.hid (own_below HO.out (hdr.trans (hb1.mono hdr.size)))
      have HWS : Hid (x + 1 ≤ w1.heap.size) := Lib.hid (by have := HB1.out.size; have := HS0.out; omega)
      clear hb1 y0 y1 y2 y3 y4 z0 z1 z2 z3 z4 b0 b1 b2 b3 b4 c0 c1 c2 c3 c4 hdr
      cases F with
      | true =>
        cases P with
        | false =>
          have HST2 : Hid (wf (⟨lv, q, g, s, t⟩ : M) (l.take (j + 1)) = (o ++ [⟨lv, q, g, s, t⟩, ⟨lv2, q2, g2, s2, t2⟩], true)) := Lib.hid (by rw [HST.out]; rfl)
          obtain ⟨⟨y0, y1, y2, y3, y4⟩, -⟩ := HCB.out w1 HB1.out
          go_wp2_with (at_builtin; refine wpList_append_own _ rfl _ _ 27 rfl (x + 1) 66 i0 _ 5 56 Try.underlying27 hi hz0 hz1 hz2 rfl (by decide) _ _ _ rfl (HO1.out.alloc _) ⟨w1.heap.size, 0, none⟩ 1 1 (M.c5 ⟨lv, q, g, s, t⟩) rfl ?c1 ?c2 ?c3 ?c4 ?c5 ?c6 ?_)
          case c1 => rfl
          case c2 => exact cells5 w1 ⟨lv, q, g, s, t⟩ _
          case c3 => exact one5 _
          case c4 => unfold maxLen; omega
          case c5 => omega
          case c6 => have := HWS.out; simp; omega
          intro v3 w3 hown3 hgrow3 _
          have HO3 := Lib.hid hown3
          have HB3 : Hid (Below (x + 1) w0 w3) := Lib.hid ((HB1.out.alloc HWS.out _).grown hgrow3 (by have := HWS.out; simp; omega) (fun g hg => (HO1.out.lt g hg).1))
          have HWS3 : Hid (x + 1 ≤ w3.heap.size) := Lib.hid (by have := HB3.out.size; have := HS0.out; omega)
          obtain ⟨-, z0, z1, z2, z3, z4⟩ := HCB.out w3 HB3.out
          clear hown3 hgrow3 y0 y1 y2 y3 y4
          go_wp2_with (at_builtin; refine wpList_append_own _ rfl _ _ 27 rfl (x + 1) 66 i0 _ 5 56 Try.underlying27 hi hz0 hz1 hz2 rfl (by decide) _ _ _ rfl (HO3.out.alloc _) ⟨w3.heap.size, 0, none⟩ 1 1 (M.c5 ⟨lv2, q2, g2, s2, t2⟩) rfl ?c1 ?c2 ?c3 ?c4 ?c5 ?c6 ?_)
          case c1 => rfl
          case c2 => exact cells5 w3 ⟨lv2, q2, g2, s2, t2⟩ _
          case c3 => exact one5 _
          case c4 => unfold maxLen; omega
          case c5 => omega
          case c6 => have := HWS3.out; simp; omega
          intro v4 w4 hown4 hgrow4 _
          have HO4 : Hid (w4.ownsRow (x + 1) 66 5 v4 (wf (⟨lv, q, g, s, t⟩ : M) (l.take (j + 1))).1.length (cs5 (wf (⟨lv, q, g, s, t⟩ : M) (l.take (j + 1))).1)) := Lib.hid (by
            rw [HST2.out]
            have e1 : (o ++ [(⟨lv, q, g, s, t⟩ : M), ⟨lv2, q2, g2, s2, t2⟩]).length = o.length + 1 + 1 := by simp
            have e2 : cs5 (o ++ [(⟨lv, q, g, s, t⟩ : M), ⟨lv2, q2, g2, s2, t2⟩]) = cs5 o ++ (M.c5 ⟨lv, q, g, s, t⟩ ++ M.c5 ⟨lv2, q2, g2, s2, t2⟩) := by simp [cs5]
            rw [e1, e2]
            exact hown4)
          have HP4 : Hid (true = (wf (⟨lv, q, g, s, t⟩ : M) (l.take (j + 1))).2) := Lib.hid (by rw [HST2.out])
          have HB4 : Hid (Below (x + 1) w0 w4) := Lib.hid ((HB3.out.alloc HWS3.out _).grown hgrow4 (by have := HWS3.out; simp; omega) (fun g hg => (HO3.out.lt g hg).1))
          clear hown4 hgrow4 z0 z1 z2 z3 z4
          go_wp2
          go_roundw
          case rel => exact ⟨j + 1, by omega, by go_num, by rw [← HP4.out], HO4.out, HB4.out⟩
          case measure => simp [intOf]; omega
        | true =>
          have HST2 : Hid (wf (⟨lv, q, g, s, t⟩ : M) (l.take (j + 1)) = (o ++ [⟨lv2, q2, g2, s2, t2⟩], true)) := Lib.hid (by
            rw [HST.out]
            rfl)
          obtain ⟨-, z0, z1, z2, z3, z4⟩ := HCB.out w1 HB1.out
          go_wp2_with (at_builtin; refine wpList_append_own _ rfl _ _ 27 rfl (x + 1) 66 i0 _ 5 56 Try.underlying27 hi hz0 hz1 hz2 rfl (by decide) _ _ _ rfl (HO1.out.alloc _) ⟨w1.heap.size, 0, none⟩ 1 1 (M.c5 ⟨lv2, q2, g2, s2, t2⟩) rfl ?c1 ?c2 ?c3 ?c4 ?c5 ?c6 ?_)
          case c1 => rfl
          case c2 => exact cells5 w1 ⟨lv2, q2, g2, s2, t2⟩ _
          case c3 => exact one5 _
          case c4 => unfold maxLen; omega
          case c5 => omega
          case c6 => have := HWS.out; simp; omega
          intro v4 w4 hown4 hgrow4 _
          have HO4 : Hid (w4.ownsRow (x + 1) 66 5 v4 (wf (⟨lv, q, g, s, t⟩ : M) (l.take (j + 1))).1.length (cs5 (wf (⟨lv, q, g, s, t⟩ : M) (l.take (j + 1))).1)) := Lib.hid (by
            rw [HST2.out]
            have e1 : (o ++ [(⟨lv2, q2, g2, s2, t2⟩ : M)]).length = o.length + 1 := by simp
            have e2 : cs5 (o ++ [(⟨lv2, q2, g2, s2, t2⟩ : M)]) = cs5 o ++ M.c5 ⟨lv2, q2, g2, s2, t2⟩ := by simp [cs5]
            rw [e1, e2]
            exact hown4)
          have HP4 : Hid (true = (wf (⟨lv, q, g, s, t⟩ : M) (l.take (j + 1))).2) := Lib.hid (by rw [HST2.out])
          have HB4 : Hid (Below (x + 1) w0 w4) := Lib.hid ((HB1.out.alloc HWS.out _).grown hgrow4 (by have := HWS.out; simp; omega) (fun g hg => (HO1.out.lt g hg).1))
          clear hown4 hgrow4 z0 z1 z2 z3 z4
          go_wp2
          go_roundw
          case rel => exact ⟨j + 1, by omega, by go_num, by rw [← HP4.out], HO4.out, HB4.out⟩
          case measure => simp [intOf]; omega
      | false =>
        have HST2 : Hid (wf (⟨lv, q, g, s, t⟩ : M) (l.take (j + 1)) = (o ++ [⟨lv2, q2, g2, s2, t2⟩], P)) := Lib.hid (by
          rw [HST.out]
          simp)
        obtain ⟨-, z0, z1, z2, z3, z4⟩ := HCB.out w1 HB1.out
        go_wp2_with (at_builtin; refine wpList_append_own _ rfl _ _ 27 rfl (x + 1) 66 i0 _ 5 56 Try.underlying27 hi hz0 hz1 hz2 rfl (by decide) _ _ _ rfl (HO1.out.alloc _) ⟨w1.heap.size, 0, none⟩ 1 1 (M.c5 ⟨lv2, q2, g2, s2, t2⟩) rfl ?c1 ?c2 ?c3 ?c4 ?c5 ?c6 ?_)
        case c1 => rfl
        case c2 => exact cells5 w1 ⟨lv2, q2, g2, s2, t2⟩ _
        case c3 => exact one5 _
        case c4 => unfold maxLen; omega
        case c5 => omega
        case c6 => have := HWS.out; simp; omega
        intro v4 w4 hown4 hgrow4 _
        have HO4 : Hid (w4.ownsRow (x + 1) 66 5 v4 (wf (⟨lv, q, g, s, t⟩ : M) (l.take (j + 1))).1.length (cs5 (wf (⟨lv, q, g, s, t⟩ : M) (l.take (j + 1))).1)) := Lib.hid (by
          rw [HST2.out]
          have e1 : (o ++ [(⟨lv2, q2, g2, s2, t2⟩ : M)]).length = o.length + 1 := by simp
          have e2 : cs5 (o ++ [(⟨lv2, q2, g2, s2, t2⟩ : M)]) = cs5 o ++ M.c5 ⟨lv2, q2, g2, s2, t2⟩ := by simp [cs5]
          rw [e1, e2]
          exact hown4)
        have HP4 : Hid (P = (wf (⟨lv, q, g, s, t⟩ : M) (l.take (j + 1))).2) := Lib.hid (by rw [HST2.out])
        have HB4 : Hid (Below (x + 1) w0 w4) := Lib.hid ((HB1.out.alloc HWS.out _).grown hgrow4 (by have := HWS.out; simp; omega) (fun g hg => (HO1.out.lt g hg).1))
        clear hown4 hgrow4 z0 z1 z2 z3 z4
        go_wp2
        go_roundw
        case rel => exact ⟨j + 1, by omega, by go_num, by rw [← HP4.out], HO4.out, HB4.out⟩
        case measure => simp [intOf]; omega
    · obtain rfl : j = n := by omega
      have htk : l.take j = l := List.take_of_length_le (by rw [HN.out]; exact Nat.le_refl _)
      have hwl := HLEN.out j
      rw [htk] at hown hwl
      simp only [htk]
      have hwi := HWI.out
      obtain ⟨oP, hwf⟩ : ∃ oP, wf (⟨lv, q, g, s, t⟩ : M) l = oP := ⟨_, rfl⟩
      obtain ⟨o, P⟩ := oP
      rw [hwf] at hown hwi hwl
      simp only [hwf]
      simp only at hown hwi hwl
      have HWL2 := HWL
      have HO := Lib.hid hown
      have HWS : Hid (x + 1 ≤ wr.heap.size) := Lib.hid (by have := HB.out.size; have := HS0.out; omega)
      cases P with
      | true =>
        rw [if_pos rfl] at hwi
        have HWE := Lib.hid hwi
        have hol : o.length = j + 1 := by rw [← hwi]; exact HWL.out
        obtain ⟨B, d, rfl⟩ := own_shape hown
        rw [hol] at hown
        have HO5 : Hid (wr.ownsRow w.heap.size 66 5 (.slice B (j + 1) d) (j + 1) (cs5 (with_ l ⟨lv, q, g, s, t⟩))) := Lib.hid (by rw [hwi]; exact own_low hown (by have := HX.out; omega))
        have HB5 : Hid (Below w.heap.size w wr) := Lib.hid (by rw [HX.out]; exact HLOW.out _ HB.out)
        rw [hol]
        clear hown hwi hwl htk hwf hbw hro b0 b1 b2 b3 b4 hol
        go_wp2
        go_ret
        exact ⟨B, d, rfl, HO5.out, HB5.out⟩
      | false =>
        rw [if_neg (by simp)] at hwi
        have hol : o.length = j := by have := HWL.out; rw [hwi, List.length_append] at this; simpa using this
        have HWE := Lib.hid hwi
        have hcs : cs5 (with_ l ⟨lv, q, g, s, t⟩) = cs5 o ++ M.c5 ⟨lv, q, g, s, t⟩ := by rw [hwi, cs5_snoc]
        have HCS := Lib.hid hcs
        rw [hol] at HO
        clear hown hwi hwl htk hwf hbw hro hcs hol
        go_wp2_with (at_builtin; refine wpList_append_own _ rfl _ _ 27 rfl (x + 1) 66 i0 _ 5 56 Try.underlying27 hi hz0 hz1 hz2 rfl (by decide) _ _ _ rfl (HO.out.alloc _) ⟨wr.heap.size, 0, none⟩ 1 1 (M.c5 ⟨lv, q, g, s, t⟩) rfl ?c1 ?c2 ?c3 ?c4 ?c5 ?c6 ?_)
        case c1 => rfl
        case c2 => exact cells5 wr ⟨lv, q, g, s, t⟩ _
        case c3 => exact one5 _
        case c4 => unfold maxLen; omega
        case c5 => omega
        case c6 => have := HWS.out; simp; omega
        intro v4 w4 hown4 hgrow4 _
        obtain ⟨B, d, rfl⟩ := own_shape hown4
        have HO5 : Hid (w4.ownsRow w.heap.size 66 5 (.slice B (j + 1) d) (j + 1) (cs5 (with_ l ⟨lv, q, g, s, t⟩))) := Lib.hid (by rw [HCS.out]; exact own_low hown4 (by have := HX.out; omega))
        have HB4 : Hid (Below (x + 1) w0 w4) := Lib.hid ((HB.out.alloc HWS.out _).grown hgrow4 (by have := HWS.out; simp; omega) (fun g hg => (HO.out.lt g hg).1))
        have HB5 : Hid (Below w.heap.size w w4) := Lib.hid (by rw [HX.out]; exact HLOW.out _ HB4.out)
        clear hown4 hgrow4 b0 b1 b2 b3 b4
        go_wp2
        go_ret
        exact ⟨B, d, rfl, HO5.out, HB5.out⟩
end Go.Proofs.Ytffdiiolgflbkaa

/- The document's version in the making; slices' heads. -/
namespace Go.Proofs.Ytffdiiolgflbkaa
open Go.RowKit
open VS

theorem add_zero' (a : Addr) : a.add 0 = a := by obtain ⟨b, o, s⟩ := a; cases s <;> rfl
theorem ints_head (W : World) (A : Option Addr) (n cap m : Nat) (h : m ≤ cap) : (Instr.slice 31 (.slice A n cap) none (some (.int .i64 (m : Int))) none).run Try.prog W = .ok (.slice A m cap) W := by
  have hs : ∀ w, (sizeOf (Try.prog.elem 31)).run Try.prog w = .ok 1 w := fun w => by kernel_rfl
  rw [run_slice_h W 31 A n cap (by kernel_rfl) .i64 (m : Int) (by omega) (by omega), hs]
  simp only [Result.andThen, sliced, Int.toNat_natCast, Nat.sub_zero, Nat.zero_mul, add_zero', Option.map_id']
  split <;> rfl
theorem rmetas_head (W : World) (A : Option Addr) (n cap m : Nat) (h : m ≤ cap) : (Instr.slice 27 (.slice A n cap) none (some (.int .i64 (m : Int))) none).run Try.prog W = .ok (.slice A m cap) W := by
  have hs : ∀ w, (sizeOf (Try.prog.elem 27)).run Try.prog w = .ok 5 w := fun w => by kernel_rfl
  rw [run_slice_h W 27 A n cap (by kernel_rfl) .i64 (m : Int) (by omega) (by omega), hs]
  simp only [Result.andThen, sliced, Int.toNat_natCast, Nat.sub_zero, Nat.zero_mul, add_zero', Option.map_id']
  split <;> rfl

/-- the document's version in the making, in block o -/
structure OutR (o : Nat) (w : World) (v : Value) (l : List M) (lg nx sq : Int) : Prop where
  row : w.heap[o]? = some (.cells #[v, .int .i64 lg, .int .i64 nx, .int .i64 sq] 29 (0, 0))
  own : w.ownsRow (o + 1) 66 5 v l.length (cs5 l)
  wf : ∀ m ∈ l, m.wf

section
variable {o : Nat} {w w' : World} {v : Value} {l : List M} {lg nx sq : Int}
theorem OutR.lt (h : OutR o w v l lg nx sq) : o < w.heap.size := (Array.getElem?_eq_some_iff.1 h.row).1
theorem OutR.below (h : OutR o w v l lg nx sq) (hb : Below w.heap.size w w') : OutR o w' v l lg nx sq := ⟨(hb.block o h.lt).trans h.row, own_below h.own hb, h.wf⟩
theorem OutR.cell (h : OutR o w v l lg nx sq) : w.cell? ⟨o, 0, none⟩ = some v := cell_of_row _ _ _ _ _ _ h.row
theorem OutR.froz (h : OutR o w v l lg nx sq) (k : Nat) : w.frozen? ⟨o, k, none⟩ = false := frozen_of_row _ _ _ _ _ h.row

theorem OutR.set (h : OutR o w v l lg nx sq) {x : Nat} (hx : x < o) (i : Nat) (u : Value) : OutR o (w.setCell ⟨x, i, none⟩ u) v l lg nx sq := by
  have hset := grownBy_setCell w ⟨x, i, none⟩ u
  refine ⟨(Below.heap_setCell _ _ _ _ (by simp; omega)).trans h.row, h.own.kept hset ?_, h.wf⟩
  cases hv : v.ownBlock with
  | none => exact .inl rfl
  | some g =>
    refine .inr (fun e => ?_)
    have := (h.own.lt g hv).1
    have e2 : g = x := by simpa using e
    omega

/-- another row of tables is laid in its place -/
theorem OutR.put (h : OutR o w v l lg nx sq) {v' : Value} {l' : List M} (ho : w.ownsRow (o + 1) 66 5 v' l'.length (cs5 l')) (hw : ∀ m ∈ l', m.wf) : OutR o (w.setCell ⟨o, 0, none⟩ v') v' l' lg nx sq := by
  have hset := grownBy_setCell w ⟨o, 0, none⟩ v'
  refine ⟨heap_set_fr h.row 0 v', ho.kept hset ?_, hw⟩
  cases hv : v'.ownBlock with
  | none => exact .inl rfl
  | some g =>
    refine .inr (fun e => ?_)
    have := (ho.lt g hv).1
    have e2 : g = o := by simpa using e
    omega

set_option maxHeartbeats 1000000 in
theorem OutR.app {W7 : World} (h : OutR o w v l lg nx sq) (hlen : l.length ≤ 10000000) (h7 : Below w.heap.size w W7) (e : M) (he : e.wf) :
    ∃ A6 c6 w8, (Builtin.append_ #[27, 27] 27 #[v, .slice (some ⟨W7.heap.size, 0, none⟩) 1 1]).run Try.prog (W7.alloc (.cells #[.int .i64 e.lvl, .int .i64 e.file, .int .i64 e.size, .string e.lo, .string e.hi] 66)) = .ok (.slice A6 (l.length + 1) c6) w8 ∧
      w8.cell? ⟨o, 0, none⟩ = some v ∧ w8.frozen? ⟨o, 0, none⟩ = false ∧ Below o w (w8.setCell ⟨o, 0, none⟩ (.slice A6 (l.length + 1) c6)) ∧ OutR o (w8.setCell ⟨o, 0, none⟩ (.slice A6 (l.length + 1) c6)) (.slice A6 (l.length + 1) c6) (l ++ [e]) lg nx sq := by
  obtain ⟨i0, hi0, hz0, hz1, hz2⟩ := info_parts info_rmeta
  have hol := h.lt
  have how7 := own_below h.own h7
  have hsz := h7.size
  obtain ⟨v', w8, happ, hown8, hg8, -, -⟩ := run_append_own_at (P := Try.prog) (W7.alloc (.cells #[.int .i64 e.lvl, .int .i64 e.file, .int .i64 e.size, .string e.lo, .string e.hi] 66)) (o + 1) 27 27 66 i0 _ 5 56 Try.underlying27 hi0 hz0 hz1 hz2 rfl (by decide) v l.length _ (how7.alloc _)
    ⟨W7.heap.size, 0, none⟩ 1 1 (M.c5 e) rfl (cells5 W7 e _) (one5 _) (by unfold maxLen; omega) (by omega) (by simp; omega)
  obtain ⟨A6, c6, rfl⟩ : ∃ A6 c6, v' = .slice A6 (l.length + 1) c6 := own_shape hown8
  have hb7 : Below w.heap.size w (W7.alloc (.cells #[.int .i64 e.lvl, .int .i64 e.file, .int .i64 e.size, .string e.lo, .string e.hi] 66)) := h7.alloc hsz _
  have hvo : some o ≠ v.ownBlock := fun he => by
    have := (how7.lt o he.symm).1
    omega
  have hrow8 : w8.heap[o]? = some (.cells #[v, .int .i64 lg, .int .i64 nx, .int .i64 sq] 29 (0, 0)) := (hg8.block o (Nat.lt_of_lt_of_le hol hb7.size) hvo).trans ((hb7.block o hol).trans h.row)
  have hs9 := hb7.size
  have hs8 := hg8.size
  have hwf : ∀ m ∈ l ++ [e], m.wf := fun m hm => by
    rcases List.mem_append.1 hm with hm | hm
    · exact h.wf m hm
    · rw [List.mem_singleton.1 hm]; exact he
  have hO8 : OutR o w8 v [] lg nx sq ∨ True := .inr trivial
  refine ⟨A6, c6, w8, happ, cell_of_row _ _ _ _ _ _ hrow8, frozen_of_row _ _ _ _ _ hrow8, ?_, ?_⟩
  · exact ((hb7.mono (Nat.le_of_lt hol)).grown hg8 (by omega) (fun r e => by have := (how7.lt r e).1; omega)).grown (grownBy_setCell _ _ _) (by omega) (fun r e => by cases e; exact Nat.le_refl _)
  · have hset := grownBy_setCell w8 ⟨o, 0, none⟩ (.slice A6 (l.length + 1) c6)
    refine ⟨heap_set_fr hrow8 0 _, ?_, hwf⟩
    rw [cs5_snoc, List.length_append]
    refine hown8.kept hset ?_
    cases hv : (Value.slice A6 (l.length + 1) c6).ownBlock with
    | none => exact .inl rfl
    | some g =>
      refine .inr (fun e => ?_)
      have := (hown8.lt g hv).1
      have e2 : g = o := by simpa using e
      omega
end

namespace VS
theorem apart_take {l : List M} {i : Nat} (h : i < l.length) (h1 : apart (l.take i)) (h2 : ∀ k (hk : k < i), ov l[i] (l[k]'(by omega)) = false) : apart (l.take (i + 1)) := by
  rw [List.take_succ_eq_append_getElem h]
  refine List.pairwise_append.2 ⟨h1, List.pairwise_singleton _ _, fun x hx y hy => ?_⟩
  rw [List.mem_singleton.1 hy]
  obtain ⟨k, hk, rfl⟩ := List.mem_iff_getElem.1 hx
  rw [List.length_take] at hk
  rw [List.getElem_take]
  exact ov_symm (h2 k (by omega))
theorem not_apart {l : List M} {i k : Nat} (hi : i < l.length) (hk : k < i) (h : ov l[i] (l[k]'(by omega)) = true) : ¬ apart l := by
  intro ha
  have := List.pairwise_iff_getElem.1 ha k i (by omega) hi hk
  have := ov_symm this
  rw [h] at this; cases this
theorem behind_take (v : V) (e : Ed) {j : Nat} (h : j < e.add.length) : (e.add.take (j + 1)).foldl with_ (kept v e) = with_ ((e.add.take j).foldl with_ (kept v e)) e.add[j] := by
  rw [List.take_succ_eq_append_getElem h, List.foldl_append]
  rfl
theorem kept_take (v : V) (e : Ed) {j : Nat} (h : j < v.L.length) : (v.L.take (j + 1)).filter (keepB e.drop) = (v.L.take j).filter (keepB e.drop) ++ (if keepB e.drop v.L[j] = true then [v.L[j]] else []) := by
  rw [List.take_succ_eq_append_getElem h, List.filter_append]
  congr 1
  by_cases h : keepB e.drop v.L[j] = true <;> simp [h]
theorem fold_len (a : List M) (l : List M) : (a.foldl with_ l).length = l.length + a.length := by
  rw [(fold_perm a l).length_eq, List.length_append]
theorem apply_good {v : V} {e : Ed} (h1 : headOk v e = true) (h2 : dropOk (files v.L) [] e.drop = true) (h3 : addOk e.next (files v.L) [] e.add = true) (h4 : apart (behind v e)) : apply v e = (⟨behind v e, e.log, e.next, e.seq⟩, 0) := by
  unfold apply
  rw [if_pos (by simp only [good, h1, h2, h3, Bool.true_and, decide_eq_true_eq]; exact h4)]
theorem apply_bad4 {v : V} {e : Ed} (h4 : ¬ apart (behind v e)) : apply v e = (V.none, 17) := by
  unfold apply
  rw [if_neg (by simp [good, h4])]
theorem fold_wf {a l : List M} (ha : ∀ m ∈ a, m.wf) (hl : ∀ m ∈ l, m.wf) : ∀ m ∈ a.foldl with_ l, m.wf := fun m hm => by
  have := (fold_perm a l).subset hm
  rcases List.mem_append.1 this with h | h
  · exact hl m h
  · exact ha m h
end VS
end Go.Proofs.Ytffdiiolgflbkaa

