/- Put: mathematics, and the map. -/
import Derived.Test.YtlfhjbilnfkabaaCm
namespace Go.Proofs.Ytlfhjbilnfkabaa
open Go.RowKit Go.Maps
open BM CM

theorem left_rel {s : S} {n : Nat} (h : (n : Int) ≤ s.k1) : left (BM.release 1 n s).2 = left s + n := by
  have hb : ¬ bad 1 (n : Int) := by unfold bad known; omega
  have h2 : ¬ (n : Int) > s.of 1 := by simp [S.of]; omega
  unfold BM.release left
  rw [if_neg hb, if_neg h2]
  simp [S.put, S.set, S.of, S.used]
  omega
theorem rels_spec : ∀ (P : Zs) (s : S), Ok s → (tot P : Int) ≤ s.k1 → Ok (rels s P) ∧ (rels s P).k1 = s.k1 - tot P ∧ left (rels s P) = left s + tot P
  | [], s, h, _ => ⟨h, by simp [rels, tot], by simp [rels, tot]⟩
  | x :: P, s, h, ht => by
    rw [tot_cons] at ht
    have h1 := rel_k1 (s := s) (n := cost x.2.data) (by omega)
    have h2 := left_rel (s := s) (n := cost x.2.data) (by omega)
    obtain ⟨r1, r2, r3⟩ := rels_spec P (BM.release 1 (cost x.2.data) s).2 (ok_release h _ _) (by omega)
    rw [rels_cons, tot_cons]
    exact ⟨r1, by omega, by omega⟩
theorem reserve_ok {s : S} {n : Nat} (h : (n : Int) ≤ left s) : BM.reserve 1 n s = (0, s.put 1 (s.k1 + n)) := by
  have hb : ¬ bad 1 (n : Int) := by unfold bad known; omega
  have h2 : ¬ (n : Int) > s.lim - s.used := by unfold left at h; omega
  unfold BM.reserve
  rw [if_neg hb, if_neg h2]
  simp [S.of]

/-- behind a Shrink that could be done so many bytes are left -/
theorem shr_room {n : Int} {Z : Zs} {s : S} (ok : Ok s) (hs : s.k1 = tot Z) (h : (shr n Z s).1 = true) : n ≤ left (shr n Z s).2.2 := by
  have hr := left_range ok
  unfold shr at h ⊢
  simp only at h ⊢
  split at h
  · cases h
  · rename_i hh
    rw [if_neg hh]
    obtain ⟨-, -, h3⟩ := rels_spec (pkb (max n 0 - left s) loose 0 Z) s ok (by have := tot_sub ((pkb_sub (max n 0 - left s) loose 0 Z).trans List.filter_sublist); omega)
    rw [h3]
    omega
theorem shr_sub (n : Int) (Z : Zs) (s : S) : (shr n Z s).2.1.Sublist Z := by
  unfold shr
  simp only
  split
  · exact List.Sublist.refl _
  · exact gone_sub _ _

section
variable {w : World} {c z b N : Nat} {Z : Zs} {s : S}
theorem Cor.add (h : Cor w c z b N Z) (hN : N ≤ 1000000) {p : Nat} {x : Blk} (hx : x.wf) (hp0 : x.pins = 0) {o n : Value} (hrow : w.heap[p]? = some (.cells #[.int .i64 x.file, .int .i64 x.block, .string x.data, .int .i64 0, o, n] 76 (0, 0)))
    (hpm : p ∉ ads Z) (hk : ∀ y ∈ Z, ¬ (y.2.file = x.file ∧ y.2.block = x.block)) :
    ∃ w', (Instr.mapUpdate 73 (.map (some z)) (keyV x.file x.block) (.pointer (some ⟨p, 0, none⟩))).run Try.prog w = .ok () w' ∧ Cor w' c z b (N + 1) (Z ++ [(p, x)]) ∧ w.grownBy w' (some z) := by
  obtain ⟨D, hm, h1, h2⟩ := h.map
  obtain ⟨w1, hrun, hm1, ht⟩ := hm.store keyLaw Try.underlying73 (by unfold maxLen; omega) (key_of hx.f hx.b) (val := .pointer (some ⟨p, 0, none⟩)) (d := .lit (.int .i64 p)) (ps := []) rfl
  have hg := ht.grown
  obtain ⟨hz1, hz2⟩ := h.zc
  obtain ⟨es, ck, hzz⟩ := heap_map hm
  have hzp : z ≠ p := by rintro rfl; rw [hzz] at hrow; simp at hrow
  refine ⟨w1, hrun, ⟨?_, fun y hy => ?_, ?_, ?_, fun y hy => ?_, ?_⟩, hg⟩
  · obtain ⟨o, n, hh⟩ := h.head
    exact ⟨o, n, (hg.block c h.lt_c (fun e => hz1 (by cases e; rfl))).trans hh⟩
  · rcases List.mem_append.1 hy with hy | hy
    · obtain ⟨o, n, hh⟩ := h.blks y hy
      exact ⟨o, n, (hg.block y.1 (h.lt_p hy) (fun e => hz2 (by cases e; exact mem_ads.2 ⟨y, hy, rfl⟩))).trans hh⟩
    · obtain rfl : y = (p, x) := by simpa using hy
      refine ⟨o, n, (hg.block p (Array.getElem?_eq_some_iff.1 hrow).1 (fun e => hzp (by cases e; rfl))).trans ?_⟩
      rw [hrow]; simp [hp0]
  · rw [show ads (Z ++ [(p, x)]) = ads Z ++ [p] by simp [ads]]
    rw [List.nodup_append]
    exact ⟨h.nodup, by simp, fun a ha b hb e => hpm (by simp at hb; rw [← hb, ← e]; exact ha)⟩
  · rw [List.pairwise_append]
    exact ⟨h.keys, by simp, fun y hy q hq => by simp at hq; rw [hq]; exact hk y hy⟩
  · rcases List.mem_append.1 hy with hy | hy
    · exact h.wf y hy
    · obtain rfl : y = (p, x) := by simpa using hy
      exact hx
  · refine ⟨_, hm1, fun y hy => ?_, fun f k hf hkk hn => ?_⟩
    · rcases List.mem_append.1 hy with hy | hy
      · have hyw := h.wf y hy
        rw [Maps.atKey_put_other (fun e => hk y hy (kl_inj hyw.f hyw.b hx.f hx.b e))]
        exact h1 y hy
      · obtain rfl : y = (p, x) := by simpa using hy
        exact Maps.atKey_put_same hm.isMap (kl_key hx.f hx.b) _ _
    · have hne : ¬ (x.file = f ∧ x.block = k) := hn (p, x) (by simp)
      rw [Maps.atKey_put_other (fun e => hne (by have := kl_inj hf hkk hx.f hx.b e; exact ⟨this.1.symm, this.2.symm⟩))]
      exact h2 f k hf hkk fun y hy => hn y (by simp [hy])
end
end Go.Proofs.Ytlfhjbilnfkabaa
