/- find; link. -/
import Derived.Test.YtgnlhnfjanoahaaSt
namespace Go.Proofs.Ytgnlhnfjanoahaa
open Go.RowKit
open SK

theorem find_nil (e : E) (w : World) : Calls Try.prog 20 #[.pointer none, e.val] w fun r w' => r = .returned (.pointer none) ∧ Below w.heap.size w w' := by
  obtain ⟨k, q, g, v, t⟩ := e
  simp only [E.val]
  go_enter Try.func20, Try.ntmps20
  go_wp2
  go_ret
  exact ⟨rfl, (Below.refl _ _).alloc (Nat.le_refl _) _⟩

theorem arr_index0 (W : World) (v0 v1 v2 v3 v4 v5 v6 v7 : Value) : (Instr.index 65 (.agg #[v0, v1, v2, v3, v4, v5, v6, v7]) (.int .i64 0)).run Try.prog W = .ok v0 W := by
  have hs : ∀ w, (sizeOf 57).run Try.prog w = .ok 1 w := fun w => by kernel_rfl
  simp [Instr.index, run_underlying Try.underlying65, asIntOf, go_sem, hs]

theorem nx0_head {l : List ND} (h : ∀ d ∈ l, 1 ≤ d.h) : nx 0 l = l.head?.map (·.b) := by
  cases l with
  | nil => rfl
  | cons d l =>
    have := h d (by simp)
    simp only [nx, List.head?_cons, Option.map_some]
    rw [if_pos (by omega)]

theorem lst0_last {l : List ND} (h : ∀ d ∈ l, 1 ≤ d.h) : lst 0 l = l.getLast? :=
  lst_last fun d hd => h d (List.mem_of_getLast? hd)

set_option maxRecDepth 100000 in
theorem find_any {B : Nat} {w : World} {a hb : Nat} {cs : List Int} {l : List ND} {s : St} (h : Rep B w a hb cs l s) (e : E) (pre post : List ND) (hl : l = pre ++ post) (hpre : ∀ d ∈ pre, less d.e e = true) (hpost : ∀ d ∈ post, less d.e e = false) :
    Calls Try.prog 20 #[.pointer (some ⟨a, 0, none⟩), e.val] w fun r w' => r = .returned (pv (post.head?.map (·.b))) ∧ Below w.heap.size w w' := by
  have h1 : ∀ d ∈ l, 1 ≤ d.h := fun d hd => (h.full d hd).2.1
  have hlst : (lst 0 pre).map (·.b) = pre.getLast?.map (·.b) := by rw [lst0_last fun d hd => h1 d (by rw [hl]; simp [hd])]
  have hnx : nx 0 post = post.head?.map (·.b) := nx0_head fun d hd => h1 d (by rw [hl]; simp [hd])
  have HA : Hid (∀ W, Below w.heap.size w W → Calls Try.prog 25 #[.pointer (some ⟨a, 0, none⟩), e.val] W fun r w' => r = .returned (aheadV pre) ∧ Below W.heap.size W w') := fun W hB => ahead_any (h.below hB) e pre post hl hpre hpost
  have HN : Hid (∀ W, Below w.heap.size w W → Calls Try.prog 26 #[.pointer (some ⟨a, 0, none⟩), pv (pre.getLast?.map (·.b))] W fun e w' => e = .returned (towerV a pre.getLast?) ∧ W = w') := fun W hB =>
    next_any a pre.getLast? W (fun d hd => (h.below hB).node (by rw [hl]; exact List.mem_append_left _ (List.mem_of_getLast? hd)))
  have HT : Hid (∀ W, Below w.heap.size w W → W.cell? ⟨towerB a pre.getLast?, towerO pre.getLast? + 0, none⟩ = some (pv (nx 0 post)) ∧ 0 < towerN pre.getLast?) := fun W hB => by
    obtain ⟨x, y, -⟩ := (h.below hB).tower pre post hl 0 (fun d hd => h1 d (by rw [hl]; exact List.mem_append_left _ (List.mem_of_getLast? hd))) (by omega)
    exact ⟨x, y⟩
  obtain ⟨k, q, g, v, t⟩ := e
  obtain ⟨p0, hp0⟩ : ∃ p0, pv (pre.getLast?.map (·.b)) = p0 := ⟨_, rfl⟩
  obtain ⟨pn, hpn⟩ : ∃ pn, (post.head?.map (·.b)).map (fun b => (⟨b, 0, none⟩ : Addr)) = pn := ⟨_, rfl⟩
  have hpv : pv (post.head?.map (·.b)) = .pointer pn := by rw [← hpn]; rfl
  rw [hnx] at HT
  unfold towerV at HN
  obtain ⟨tb, htb⟩ : ∃ y, towerB a pre.getLast? = y := ⟨_, rfl⟩
  obtain ⟨to, hto⟩ : ∃ y, towerO pre.getLast? = y := ⟨_, rfl⟩
  obtain ⟨tn, htn⟩ : ∃ y, towerN pre.getLast? = y := ⟨_, rfl⟩
  rw [htb, hto, htn, hp0] at HN
  rw [htb, hto, htn, hpv] at HT
  unfold aheadV arr8 at HA
  simp only [hlst, hp0] at HA
  rw [hpv]
  simp only [E.val] at HA ⊢
  have hbel := (Below.refl w.heap.size w).alloc (Nat.le_refl _) (.cells #[.string k, .int .i64 q, .bool g, .string v, .int .i64 t] 36)
  have HBEL := Lib.hid hbel
  clear h hl hpre hpost h1 hlst hnx hp0 hpn hpv htb hto htn hbel
  have hix := fun W => arr_index0 W p0 (pv (Option.map (fun x => x.b) (lst 1 pre))) (pv (Option.map (fun x => x.b) (lst 2 pre))) (pv (Option.map (fun x => x.b) (lst 3 pre))) (pv (Option.map (fun x => x.b) (lst 4 pre))) (pv (Option.map (fun x => x.b) (lst 5 pre))) (pv (Option.map (fun x => x.b) (lst 6 pre))) (pv (Option.map (fun x => x.b) (lst 7 pre)))
  go_enter Try.func20, Try.ntmps20
  go_wp2_with fail
  refine (HA.out _ HBEL.out).mono ?_
  rintro e w1 ⟨rfl, hb1⟩
  have hb2 : Below w.heap.size w w1 := HBEL.out.trans (hb1.mono (by simp))
  obtain ⟨z, hz0⟩ := HT.out w1 hb2
  simp only [Nat.add_zero] at z
  have HB2 := Lib.hid hb2
  clear hb1 hb2
  go_wp2_with fail
  refine (HN.out _ HB2.out).mono ?_
  rintro e w2 ⟨rfl, rfl⟩
  have hz0' : (0 : Int) < (tn : Int) := by omega
  go_wp2
  go_ret
  exact ⟨rfl, HB2.out⟩
end Go.Proofs.Ytgnlhnfjanoahaa
