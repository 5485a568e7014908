/- Put, Get of a list in memory; From makes an iterator. -/
import Derived.Test.YtgnlhnfjanoahaaPu
namespace Go.Proofs.Ytgnlhnfjanoahaa
open Go.RowKit
open SK

theorem put_any {B : Nat} {w : World} {a hb : Nat} {cs : List Int} {l : List ND} {s : St} (h : Rep B w a hb cs l s) (ok : Ok s) (hB : B ≤ w.heap.size) (e : E) (he : e.wf) (hlen : s.l.length ≤ 1000000) :
    Calls Try.prog 10 #[.pointer (some ⟨a, 0, none⟩), e.val] w fun r w' => r = .returned (.int .i64 (s.step cs e).1) ∧
      ∃ l', Rep B w' a hb cs l' (s.step cs e).2 ∧ Keeps (a :: hb :: blks l) w w' ∧ (∀ x ∈ blks l', x ∈ blks l ∨ w.heap.size ≤ x) ∧ ((s.step cs e).1 ≠ 0 → Below w.heap.size w w') := by
  by_cases hg : good e = 0
  · obtain ⟨pre, post, hl, h1, h2, h3, h4⟩ := h.split ok.sorted e
    have hth := there_iff (e := e) ok.sorted
    rw [← h4] at hth
    cases hp : post with
    | nil =>
      rw [hp] at hth
      have hs : s.step cs e = (0, ⟨front e s.l ++ e :: rest e s.l, s.size + cost cs s.l.length e⟩) := by
        unfold St.step
        rw [if_neg (by simp [hg]), if_neg (by rw [hth]; simp)]
      rw [hs]
      exact (put_end h hB e he hg pre post hl h1 h2 hp (by have := ok.size; omega) (by omega) h3 h4).mono fun r w' ⟨a1, l', a2, a3, a4⟩ => ⟨a1, l', a2, a3, a4, fun h => absurd rfl h⟩
    | cons d r =>
      rw [hp] at hth
      simp only [List.map_cons] at hth
      cases hle : less e d.e with
      | false =>
        have hs : s.step cs e = (11, s) := by
          unfold St.step
          rw [if_neg (by simp [hg]), if_pos (by rw [hth, hle]; rfl)]
        rw [hs]
        refine (put_there h e he hg pre post hl h1 h2 d r hp hle).mono ?_
        rintro r' w' ⟨rfl, hb'⟩
        exact ⟨rfl, l, h.below hb', Keeps.of_below hb', fun x hx => .inl hx, fun _ => hb'⟩
      | true =>
        have hs : s.step cs e = (0, ⟨front e s.l ++ e :: rest e s.l, s.size + cost cs s.l.length e⟩) := by
          unfold St.step
          rw [if_neg (by simp [hg]), if_neg (by rw [hth, hle]; simp)]
        rw [hs]
        exact (put_amid h hB e he hg pre post hl h1 h2 d r hp hle (by have := ok.size; omega) (by omega) h3 h4).mono fun r w' ⟨a1, l', a2, a3, a4⟩ => ⟨a1, l', a2, a3, a4, fun h => absurd rfl h⟩
  · have hs : s.step cs e = (good e, s) := by
      unfold St.step
      rw [if_pos hg]
    rw [hs]
    refine (put_bad a e w he hg).mono ?_
    rintro r' w' ⟨rfl, hb'⟩
    exact ⟨rfl, l, h.below hb', Keeps.of_below hb', fun x hx => .inl hx, fun _ => hb'⟩

theorem get_nil (k : ByteArray) (q : Int) (w : World) : Calls Try.prog 16 #[.pointer none, .string k, .int .i64 q] w fun r w' => r = .returned (.tuple #[E.zero.val, .bool false]) ∧ Below w.heap.size w w' := by
  have HF : Hid (∀ W, Calls Try.prog 20 #[.pointer none, (askE k q).val] W fun r w' => r = .returned (.pointer none) ∧ Below W.heap.size W w') := fun W => find_nil _ W
  simp only [E.val, askE] at HF
  simp only [E.val, E.zero]
  obtain ⟨x, hx⟩ : ∃ x, w.heap.size = x := ⟨_, rfl⟩
  have hrow := heap_alloc_new w (.cells #[.string ⟨#[]⟩, .int .i64 0, .bool false, .string ⟨#[]⟩, .int .i64 0] 36)
  have hbel := (Below.refl w.heap.size w).alloc (Nat.le_refl _) (.cells #[.string ⟨#[]⟩, .int .i64 0, .bool false, .string ⟨#[]⟩, .int .i64 0] 36)
  have hsz : (w.alloc (.cells #[.string ⟨#[]⟩, .int .i64 0, .bool false, .string ⟨#[]⟩, .int .i64 0] 36)).heap.size = w.heap.size + 1 := by simp
  go_enter Try.func16, Try.ntmps16
  go_wp2_with fail
  generalize w.alloc (.cells #[.string ⟨#[]⟩, .int .i64 0, .bool false, .string ⟨#[]⟩, .int .i64 0] 36) = W0 at hrow hbel hsz ⊢
  refine (HF.out _).mono ?_
  rintro r w1 ⟨rfl, hb⟩
  rw [hx] at hrow hbel hsz
  have hr1 : w1.heap[x]? = some (.cells #[.string ⟨#[]⟩, .int .i64 0, .bool false, .string ⟨#[]⟩, .int .i64 0] 36 (0, 0)) := (hb.block x (by omega)).trans hrow
  have HB : Hid (Below w.heap.size w w1) := Lib.hid (by rw [hx]; exact hbel.trans (hb.mono (by omega)))
  have n0 : w1.cell? ⟨x, 0, none⟩ = some (.string ⟨#[]⟩) := cell_of_row _ _ _ _ _ _ hr1
  have n1 : w1.cell? ⟨x, 1, none⟩ = some (.int .i64 0) := cell_of_row _ _ _ _ _ _ hr1
  have n2 : w1.cell? ⟨x, 2, none⟩ = some (.bool false) := cell_of_row _ _ _ _ _ _ hr1
  have n3 : w1.cell? ⟨x, 3, none⟩ = some (.string ⟨#[]⟩) := cell_of_row _ _ _ _ _ _ hr1
  have n4 : w1.cell? ⟨x, 4, none⟩ = some (.int .i64 0) := cell_of_row _ _ _ _ _ _ hr1
  have g0 : w1.frozen? ⟨x, 0, none⟩ = false := frozen_of_row _ _ _ _ _ hr1
  have g1 : w1.frozen? ⟨x, 1, none⟩ = false := frozen_of_row _ _ _ _ _ hr1
  have g2 : w1.frozen? ⟨x, 2, none⟩ = false := frozen_of_row _ _ _ _ _ hr1
  have g3 : w1.frozen? ⟨x, 3, none⟩ = false := frozen_of_row _ _ _ _ _ hr1
  have g4 : w1.frozen? ⟨x, 4, none⟩ = false := frozen_of_row _ _ _ _ _ hr1
  have s0 := set_same n0
  have s1 := set_same n1
  have s2 := set_same n2
  have s3 := set_same n3
  have s4 := set_same n4
  clear hrow hbel hsz hb hr1 hx
  go_wp2
  exact bodyPost_ret (v := .tuple #[.agg #[.string ⟨#[]⟩, .int .i64 0, .bool false, .string ⟨#[]⟩, .int .i64 0], .bool false]) (by simp [results, Try.results16, go_sem, *]) rfl ⟨rfl, by simpa only [s0, s1, s2, s3, s4] using HB.out⟩

theorem cell0 {w : World} {b j : Nat} {cs : Array Value} {t : TypeId} {fr : Nat × Nat} {v : Value} (h : w.heap[b]? = some (.cells cs t fr)) (hj : cs[j]? = some v) : w.cell? ⟨b, j, none⟩ = some v := (cell_of_row _ _ _ _ _ _ h).trans hj

set_option maxRecDepth 100000 in
set_option maxHeartbeats 1000000 in
theorem get_none (a : Nat) (k : ByteArray) (q : Int) (w : World) (o : Option (Nat × E)) (hk : ∀ b e, o = some (b, e) → e.key ≠ k) (hb : ∀ b e, o = some (b, e) → ∀ W, Below w.heap.size w W → W.cell? ⟨b, 0, none⟩ = some (.string e.key))
    (HF : ∀ W, Below w.heap.size w W → Calls Try.prog 20 #[.pointer (some ⟨a, 0, none⟩), (askE k q).val] W fun r w' => r = .returned (pv (o.map (·.1))) ∧ Below W.heap.size W w') :
    Calls Try.prog 16 #[.pointer (some ⟨a, 0, none⟩), .string k, .int .i64 q] w fun r w' => r = .returned (.tuple #[E.zero.val, .bool false]) ∧ Below w.heap.size w w' := by
  have HF' := Lib.hid HF
  clear HF
  simp only [E.val, askE] at HF'
  simp only [E.val, E.zero]
  obtain ⟨x, hx⟩ : ∃ x, w.heap.size = x := ⟨_, rfl⟩
  have hrow := heap_alloc_new w (.cells #[.string ⟨#[]⟩, .int .i64 0, .bool false, .string ⟨#[]⟩, .int .i64 0] 36)
  have hbel := (Below.refl w.heap.size w).alloc (Nat.le_refl _) (.cells #[.string ⟨#[]⟩, .int .i64 0, .bool false, .string ⟨#[]⟩, .int .i64 0] 36)
  have hsz : (w.alloc (.cells #[.string ⟨#[]⟩, .int .i64 0, .bool false, .string ⟨#[]⟩, .int .i64 0] 36)).heap.size = w.heap.size + 1 := by simp
  have HHB := Lib.hid hb
  clear hb
  go_enter Try.func16, Try.ntmps16
  go_wp2_with fail
  generalize w.alloc (.cells #[.string ⟨#[]⟩, .int .i64 0, .bool false, .string ⟨#[]⟩, .int .i64 0] 36) = W0 at hrow hbel hsz ⊢
  refine (HF'.out _ hbel).mono ?_
  rintro r w1 ⟨rfl, hb⟩
  have HBA : Hid (Below w.heap.size w w1) := Lib.hid (hbel.trans (hb.mono (by omega)))
  rw [hx] at hrow hbel hsz
  have hr1 : w1.heap[x]? = some (.cells #[.string ⟨#[]⟩, .int .i64 0, .bool false, .string ⟨#[]⟩, .int .i64 0] 36 (0, 0)) := (hb.block x (by omega)).trans hrow
  have n0 : w1.cell? ⟨x, 0, none⟩ = some (.string ⟨#[]⟩) := cell_of_row _ _ _ _ _ _ hr1
  have n1 : w1.cell? ⟨x, 1, none⟩ = some (.int .i64 0) := cell_of_row _ _ _ _ _ _ hr1
  have n2 : w1.cell? ⟨x, 2, none⟩ = some (.bool false) := cell_of_row _ _ _ _ _ _ hr1
  have n3 : w1.cell? ⟨x, 3, none⟩ = some (.string ⟨#[]⟩) := cell_of_row _ _ _ _ _ _ hr1
  have n4 : w1.cell? ⟨x, 4, none⟩ = some (.int .i64 0) := cell_of_row _ _ _ _ _ _ hr1
  have g0 : w1.frozen? ⟨x, 0, none⟩ = false := frozen_of_row _ _ _ _ _ hr1
  have g1 : w1.frozen? ⟨x, 1, none⟩ = false := frozen_of_row _ _ _ _ _ hr1
  have g2 : w1.frozen? ⟨x, 2, none⟩ = false := frozen_of_row _ _ _ _ _ hr1
  have g3 : w1.frozen? ⟨x, 3, none⟩ = false := frozen_of_row _ _ _ _ _ hr1
  have g4 : w1.frozen? ⟨x, 4, none⟩ = false := frozen_of_row _ _ _ _ _ hr1
  have s0 := set_same n0
  have s1 := set_same n1
  have s2 := set_same n2
  have s3 := set_same n3
  have s4 := set_same n4
  cases o with
  | none =>
    simp only [pv, Option.map_none]
    clear hrow hbel hsz hb hr1 hx HHB HF' hk
    go_wp2
    exact bodyPost_ret (v := .tuple #[.agg #[.string ⟨#[]⟩, .int .i64 0, .bool false, .string ⟨#[]⟩, .int .i64 0], .bool false]) (by simp [results, Try.results16, go_sem, *]) rfl ⟨rfl, by simpa only [s0, s1, s2, s3, s4] using HBA.out⟩
  | some p =>
    obtain ⟨b, e⟩ := p
    have hke := hk b e rfl
    have zk := HHB.out b e rfl w1 HBA.out
    obtain ⟨ke, hke'⟩ : ∃ ke, e.key = ke := ⟨_, rfl⟩
    rw [hke'] at hke zk
    have hne : (ke.toList == k.toList) = false := by rw [text_eq]; exact decide_eq_false hke
    simp only [pv, Option.map_some]
    clear hrow hbel hsz hb hr1 hx HHB HF' hk hke hke'
    go_wp2
    exact bodyPost_ret (v := .tuple #[.agg #[.string ⟨#[]⟩, .int .i64 0, .bool false, .string ⟨#[]⟩, .int .i64 0], .bool false]) (by simp [results, Try.results16, go_sem, *]) rfl ⟨rfl, by simpa only [s0, s1, s2, s3, s4] using HBA.out⟩

set_option maxRecDepth 100000 in
set_option maxHeartbeats 1000000 in
theorem get_some (a : Nat) (k : ByteArray) (q : Int) (w : World) (d : ND) (hk : d.e.key = k) (hw : d.e.key.size ≤ 281474976710656 ∧ d.e.value.size ≤ 281474976710656) (hb : ∀ W, Below w.heap.size w W → W.heap[d.b]? = some (.cells (ncells d) 62 (0, 0)))
    (HF : ∀ W, Below w.heap.size w W → Calls Try.prog 20 #[.pointer (some ⟨a, 0, none⟩), (askE k q).val] W fun r w' => r = .returned (.pointer (some ⟨d.b, 0, none⟩)) ∧ Below W.heap.size W w') :
    Calls Try.prog 16 #[.pointer (some ⟨a, 0, none⟩), .string k, .int .i64 q] w fun r w' => r = .returned (.tuple #[d.e.val, .bool true]) ∧ Below w.heap.size w w' := by
  have HF' := Lib.hid HF
  have HC : Hid (∀ W, Calls Try.prog 22 #[d.e.val] W fun r w' => r = .returned d.e.val ∧ Below W.heap.size W w') := fun W => eclone_any d.e W hw
  clear HF hw
  simp only [E.val, askE] at HF'
  obtain ⟨b, hbn⟩ : ∃ b, d.b = b := ⟨_, rfl⟩
  unfold ncells at hb
  rw [hbn] at hb HF'
  obtain ⟨e, he⟩ : ∃ e, d.e = e := ⟨_, rfl⟩
  rw [he] at hk hb HC ⊢
  obtain ⟨k2, q2, g2, v2, t2⟩ := e
  simp only [E.val] at hk hb HC ⊢
  subst hk
  have hkk : (k2.toList == k2.toList) = true := by simp
  obtain ⟨x, hx⟩ : ∃ x, w.heap.size = x := ⟨_, rfl⟩
  have hrow := heap_alloc_new w (.cells #[.string ⟨#[]⟩, .int .i64 0, .bool false, .string ⟨#[]⟩, .int .i64 0] 36)
  have hbel := (Below.refl w.heap.size w).alloc (Nat.le_refl _) (.cells #[.string ⟨#[]⟩, .int .i64 0, .bool false, .string ⟨#[]⟩, .int .i64 0] 36)
  have hsz : (w.alloc (.cells #[.string ⟨#[]⟩, .int .i64 0, .bool false, .string ⟨#[]⟩, .int .i64 0] 36)).heap.size = w.heap.size + 1 := by simp
  have HHB := Lib.hid hb
  clear hb hbn he
  go_enter Try.func16, Try.ntmps16
  go_wp2_with fail
  generalize w.alloc (.cells #[.string ⟨#[]⟩, .int .i64 0, .bool false, .string ⟨#[]⟩, .int .i64 0] 36) = W0 at hrow hbel hsz ⊢
  refine (HF'.out _ hbel).mono ?_
  rintro r w1 ⟨rfl, hb⟩
  have hba : Below w.heap.size w w1 := hbel.trans (hb.mono (by omega))
  have hnd := HHB.out w1 hba
  rw [hx] at hrow hbel hsz
  have hr1 : w1.heap[x]? = some (.cells #[.string ⟨#[]⟩, .int .i64 0, .bool false, .string ⟨#[]⟩, .int .i64 0] 36 (0, 0)) := (hb.block x (by omega)).trans hrow
  have hlt : x < w1.heap.size := (Array.getElem?_eq_some_iff.1 hr1).1
  have z0 : w1.cell? ⟨b, 0, none⟩ = some (.string k2) := cell_of_row _ _ _ _ _ _ hnd
  have z1 : w1.cell? ⟨b, 1, none⟩ = some (.int .i64 q2) := cell_of_row _ _ _ _ _ _ hnd
  have z2 : w1.cell? ⟨b, 2, none⟩ = some (.bool g2) := cell_of_row _ _ _ _ _ _ hnd
  have z3 : w1.cell? ⟨b, 3, none⟩ = some (.string v2) := cell_of_row _ _ _ _ _ _ hnd
  have z4 : w1.cell? ⟨b, 4, none⟩ = some (.int .i64 t2) := cell_of_row _ _ _ _ _ _ hnd
  have HBA := Lib.hid hba
  have HR1 := Lib.hid hr1
  clear hrow hbel hsz hb hr1 HHB HF' hba hnd
  go_wp2_with fail
  refine (HC.out _).mono ?_
  rintro r w2 ⟨rfl, hb⟩
  have hr2 : w2.heap[x]? = some (.cells #[.string ⟨#[]⟩, .int .i64 0, .bool false, .string ⟨#[]⟩, .int .i64 0] 36 (0, 0)) := (hb.block x (by omega)).trans HR1.out
  have hba2 : Below w.heap.size w w2 := HBA.out.trans (hb.mono (by omega))
  have n0 : w2.cell? ⟨x, 0, none⟩ = some (.string ⟨#[]⟩) := cell_of_row _ _ _ _ _ _ hr2
  have n1 : w2.cell? ⟨x, 1, none⟩ = some (.int .i64 0) := cell_of_row _ _ _ _ _ _ hr2
  have n2 : w2.cell? ⟨x, 2, none⟩ = some (.bool false) := cell_of_row _ _ _ _ _ _ hr2
  have n3 : w2.cell? ⟨x, 3, none⟩ = some (.string ⟨#[]⟩) := cell_of_row _ _ _ _ _ _ hr2
  have n4 : w2.cell? ⟨x, 4, none⟩ = some (.int .i64 0) := cell_of_row _ _ _ _ _ _ hr2
  have fz0 : w2.frozen? ⟨x, 0, none⟩ = false := frozen_of_row _ _ _ _ _ hr2
  have fz1 : w2.frozen? ⟨x, 1, none⟩ = false := frozen_of_row _ _ _ _ _ hr2
  have fz2 : w2.frozen? ⟨x, 2, none⟩ = false := frozen_of_row _ _ _ _ _ hr2
  have fz3 : w2.frozen? ⟨x, 3, none⟩ = false := frozen_of_row _ _ _ _ _ hr2
  have fz4 : w2.frozen? ⟨x, 4, none⟩ = false := frozen_of_row _ _ _ _ _ hr2
  have HEND2 : Hid (∀ v0 v1 v2 v3 v4, Below w.heap.size w (((((w2.setCell ⟨x, 0, none⟩ v0).setCell ⟨x, 1, none⟩ v1).setCell ⟨x, 2, none⟩ v2).setCell ⟨x, 3, none⟩ v3).setCell ⟨x, 4, none⟩ v4)) := fun v0 v1 v2 v3 v4 => by
    have hle : w.heap.size ≤ x := by omega
    exact ((((hba2.setCell (p := ⟨x, 0, none⟩) hle v0).setCell (p := ⟨x, 1, none⟩) hle v1).setCell (p := ⟨x, 2, none⟩) hle v2).setCell (p := ⟨x, 3, none⟩) hle v3).setCell (p := ⟨x, 4, none⟩) hle v4
  clear hr2 hba2 z0 z1 z2 z3 z4 hb HR1 hx
  go_wp2
  exact bodyPost_ret (v := .tuple #[.agg #[.string k2, .int .i64 q2, .bool g2, .string v2, .int .i64 t2], .bool true]) (by simp [results, Try.results16, go_sem, *]) rfl ⟨rfl, HEND2.out _ _ _ _ _⟩

theorem get_any {B : Nat} {w : World} {a hb : Nat} {cs : List Int} {l : List ND} {s : St} (h : Rep B w a hb cs l s) (ok : Ok s) (k : ByteArray) (q : Int) :
    Calls Try.prog 16 #[.pointer (some ⟨a, 0, none⟩), .string k, .int .i64 q] w fun r w' => r = .returned (.tuple #[(get s.l k q).1.val, .bool (get s.l k q).2]) ∧ Below w.heap.size w w' := by
  obtain ⟨pre, post, hl, h1, h2, -, h4⟩ := h.split ok.sorted (askE k q)
  have hg := get_rest ok.sorted k q
  rw [← h4] at hg
  have HF : ∀ W, Below w.heap.size w W → Calls Try.prog 20 #[.pointer (some ⟨a, 0, none⟩), (askE k q).val] W fun r w' => r = .returned (pv (post.head?.map (·.b))) ∧ Below W.heap.size W w' := fun W hB => find_any (h.below hB) (askE k q) pre post hl h1 h2
  cases hp : post with
  | nil =>
    rw [hp] at hg HF
    simp only [List.map_nil] at hg
    rw [hg]
    exact get_none a k q w none (fun b e h => by cases h) (fun b e h => by cases h) HF
  | cons d r =>
    rw [hp] at hg HF
    simp only [List.map_cons] at hg
    have hd : d ∈ l := by rw [hl, hp]; simp
    have hnode := fun W hB => (h.below (w' := W) hB).node hd
    by_cases hk : d.e.key = k
    · rw [if_pos hk] at hg
      rw [hg]
      have hwf := ok.wf d.e (by rw [← h.ents]; exact List.mem_map_of_mem hd)
      exact get_some a k q w d hk ⟨by have := hwf.key; omega, by have := hwf.value; omega⟩ hnode HF
    · rw [if_neg hk] at hg
      rw [hg]
      refine get_none a k q w (some (d.b, d.e)) (fun b e h => ?_) (fun b e h W hB => ?_) HF
      · simp only [Option.some.injEq, Prod.mk.injEq] at h
        rw [← h.2]; exact hk
      · simp only [Option.some.injEq, Prod.mk.injEq] at h
        rw [← h.1, ← h.2]
        exact cell_of_row _ _ _ _ _ _ (hnode W hB)

/-- From: an iterator over what it has captured -/
theorem from_any (p : Option Addr) (k : ByteArray) (w : World) (hk : k.size ≤ 281474976710656) :
    Calls Try.prog 8 #[.pointer p, .string k] w fun r w' => r = .returned (.func (.func 19) #[] #[.pointer (some ⟨w.heap.size, 0, none⟩), .pointer (some ⟨w.heap.size + 1, 0, none⟩)]) ∧
      Below w.heap.size w w' ∧ w.heap.size + 2 ≤ w'.heap.size ∧ w'.cell? ⟨w.heap.size, 0, none⟩ = some (.pointer p) ∧ w'.cell? ⟨w.heap.size + 1, 0, none⟩ = some (.string k) := by
  have HC : Hid (∀ W, Calls Try.prog 18 #[.string k] W fun r w' => r = .returned (.string k) ∧ Below W.heap.size W w') := fun W => clone_any k W hk
  clear hk
  have hr0 : ((w.alloc (.cells #[.pointer p] 26)).alloc (.cells #[.string k] 9)).heap[w.heap.size]? = some (.cells #[.pointer p] 26 (0, 0)) := (Below.heap_alloc _ _ _ (by simp)).trans (heap_alloc_new w _)
  have hr1 : ((w.alloc (.cells #[.pointer p] 26)).alloc (.cells #[.string k] 9)).heap[w.heap.size + 1]? = some (.cells #[.string k] 9 (0, 0)) := by
    have := heap_alloc_new (w.alloc (.cells #[.pointer p] 26)) (.cells #[.string k] 9)
    simpa using this
  have hbel : Below w.heap.size w ((w.alloc (.cells #[.pointer p] 26)).alloc (.cells #[.string k] 9)) := ((Below.refl _ w).alloc (Nat.le_refl _) _).alloc (by simp) _
  have hsz : ((w.alloc (.cells #[.pointer p] 26)).alloc (.cells #[.string k] 9)).heap.size = w.heap.size + 2 := by simp
  go_enter Try.func8, Try.ntmps8
  go_wp2_with fail
  generalize (w.alloc (.cells #[.pointer p] 26)).alloc (.cells #[.string k] 9) = W0 at hr0 hr1 hbel hsz ⊢
  refine (HC.out _).mono ?_
  rintro r w1 ⟨rfl, hb⟩
  have hr2 := (hb.block (w.heap.size + 1) (by omega)).trans hr1
  have z0 : w1.cell? ⟨w.heap.size, 0, none⟩ = some (.pointer p) := cell_of_row _ _ _ _ _ _ ((hb.block w.heap.size (by omega)).trans hr0)
  have z1 : w1.cell? ⟨w.heap.size + 1, 0, none⟩ = some (.string k) := cell_of_row _ _ _ _ _ _ hr2
  have f1 : w1.frozen? ⟨w.heap.size + 1, 0, none⟩ = false := frozen_of_row _ _ _ _ _ hr2
  have s1 := set_same z1
  have HB : Hid (Below w.heap.size w w1 ∧ w.heap.size + 2 ≤ w1.heap.size) := Lib.hid ⟨hbel.trans (hb.mono (by omega)), by have := hb.size; omega⟩
  have HZ : Hid (w1.cell? ⟨w.heap.size, 0, none⟩ = some (.pointer p) ∧ w1.cell? ⟨w.heap.size + 1, 0, none⟩ = some (.string k)) := Lib.hid ⟨z0, z1⟩
  clear hr0 hr1 hbel hsz hr2 hb
  go_wp2
  go_ret
  exact ⟨rfl, HB.out.1, HB.out.2, HZ.out.1, HZ.out.2⟩
end Go.Proofs.Ytgnlhnfjanoahaa
