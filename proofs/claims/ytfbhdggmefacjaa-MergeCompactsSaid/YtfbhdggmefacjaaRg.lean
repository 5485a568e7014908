/- Plain mathematics: what is left of each key's entries is what is left entry by entry. -/
import Derived.Test.YtfbhdggmefacjaaRf
namespace Go.Proofs.Ytfbhdggmefacjaa
open SK HP
namespace VB

/-- of a run: seqs fall -/
def Falls (r : List SK.E) : Prop := r.Pairwise (fun x y => y.seq < x.seq)
theorem falls_of {k : ByteArray} {r : List SK.E} (hs : Sorted r) (hk : ∀ x ∈ r, x.key = k) : Falls r := by
  refine List.Pairwise.imp_of_mem ?_ hs
  intro x y hx hy h
  unfold less at h
  rw [if_pos (by rw [hk x hx, hk y hy])] at h
  exact of_decide_eq_true h
theorem sq_at {r : List SK.E} {i : Nat} (h : i < r.length) : sq r i = r[i].seq := by
  unfold sq
  rw [getD_at _ _ h]
/-- who is the first up to a number -/
theorem take_any {r : List SK.E} (hf : Falls r) {i : Nat} (hi : i < r.length) (h0 : 0 < i) (s : Int) : (r.take i).any (fun x => decide (x.seq ≤ s)) = decide (sq r (i - 1) ≤ s) := by
  rw [sq_at (by omega), Bool.eq_iff_iff, List.any_eq_true, decide_eq_true_eq]
  constructor
  · rintro ⟨x, hx, hxs⟩
    obtain ⟨m, hm, rfl⟩ := List.mem_take_iff_getElem.1 hx
    simp only [decide_eq_true_eq] at hxs
    by_cases e : m = i - 1
    · subst e; exact hxs
    · have := List.pairwise_iff_getElem.1 hf m (i - 1) (by omega) (by omega) (by omega)
      omega
  · intro h
    exact ⟨r[i - 1], List.mem_take_iff_getElem.2 ⟨i - 1, by omega, rfl⟩, by simpa using h⟩
theorem keepsE_run {xs : List Int} {k : ByteArray} {a r : List SK.E} (ha : a.any (hasKey k) = false) (hk : ∀ x ∈ r, x.key = k) (hf : Falls r) {i : Nat} (hi : i < r.length) : keepsE xs (a ++ r.take i) r[i] = ndd r xs i := by
  have hki : r[i].key = k := hk _ (List.getElem_mem hi)
  have hpa : ∀ s, a.any (pk k s) = false := fun s => by
    rw [List.any_eq_false] at ha ⊢
    intro x hx
    have := ha x hx
    simp only [hasKey, decide_eq_true_eq] at this
    simp [pk, this]
  have hkt : ∀ x ∈ r.take i, x.key = k := fun x hx => hk x (List.mem_of_mem_take hx)
  have hp : ∀ s, (r.take i).any (pk k s) = (r.take i).any (fun x => decide (x.seq ≤ s)) := fun s => by
    rw [Bool.eq_iff_iff, List.any_eq_true, List.any_eq_true]
    exact ⟨fun ⟨x, h1, h2⟩ => ⟨x, h1, by simp only [pk, Bool.and_eq_true] at h2; exact h2.2⟩, fun ⟨x, h1, h2⟩ => ⟨x, h1, by simp only [pk, Bool.and_eq_true, decide_eq_true_eq]; exact ⟨hkt x h1, by simpa using h2⟩⟩⟩
  unfold keepsE ndd
  rw [hki, List.any_append, ha, decide_eq_true hi, Bool.true_and, Bool.false_or]
  by_cases h0 : i = 0
  · subst h0; simp
  · have h1 : (r.take i).any (hasKey k) = true := List.any_eq_true.2 ⟨r[0], List.mem_take_iff_getElem.2 ⟨0, by omega, rfl⟩, by simp [hasKey, hk]⟩
    rw [h1, decide_eq_false h0, Bool.not_true, Bool.false_or, Bool.false_or]
    unfold come
    congr 1
    funext s
    rw [List.any_append, hpa, Bool.false_or, hp, take_any hf hi (by omega), sq_at hi, Bool.and_comm]
    congr 1
    rw [Bool.eq_iff_iff]
    simp
theorem rk_run {xs : List Int} {k : ByteArray} {a r : List SK.E} (ha : a.any (hasKey k) = false) (hk : ∀ x ∈ r, x.key = k) (hf : Falls r) : rk xs a r = pkd (ndd r xs) 0 r := by
  have key : ∀ m, m ≤ r.length → rk xs a (r.take m) = pkd (ndd r xs) 0 (r.take m) := by
    intro m
    induction m with
    | zero => intro _; simp [rk, pkd]
    | succ m ih =>
      intro hm
      rw [List.take_succ_eq_append_getElem (by omega), rk_snoc, pkd_snoc, ih (by omega), keepsE_run ha hk hf (by omega), List.length_take, Nat.min_eq_left (by omega), Nat.zero_add]
  have := key r.length (Nat.le_refl _)
  rwa [List.take_length] at this
theorem cpt_rk (xs : List Int) (now : Int) : ∀ (m : Nat) (l a : List SK.E), l.length ≤ m → Sorted l → (∀ x ∈ a, ∀ y ∈ l, x.key ≠ y.key) → rk xs a l = cpt xs now false l
  | _, [], _, _, _, _ => rfl
  | 0, e :: t, _, hm, _, _ => by simp at hm
  | m + 1, e :: t, a, hm, hs, ha => by
    have ht : t.takeWhile (fun x => decide (x.key = e.key)) ++ t.dropWhile (fun x => decide (x.key = e.key)) = t := List.takeWhile_append_dropWhile ..
    have htk : ∀ x ∈ e :: t.takeWhile (fun x => decide (x.key = e.key)), x.key = e.key := fun x hx => by
      rcases List.mem_cons.1 hx with rfl | hx
      · rfl
      · simpa using List.all_eq_true.1 List.all_takeWhile x hx
    have hdk := drop_key hs
    have hv : cpt xs now false (e :: t) = cone xs now false (e :: t.takeWhile (fun x => decide (x.key = e.key))) ++ cpt xs now false (t.dropWhile (fun x => decide (x.key = e.key))) := by
      unfold cpt
      rw [runs_cons]
      rfl
    obtain ⟨tw, htw⟩ : ∃ tw, t.takeWhile (fun x => decide (x.key = e.key)) = tw := ⟨_, rfl⟩
    obtain ⟨dw, hdw⟩ : ∃ dw, t.dropWhile (fun x => decide (x.key = e.key)) = dw := ⟨_, rfl⟩
    rw [htw] at ht htk hv
    rw [hdw] at ht hdk hv
    rw [hv]
    subst ht
    rw [show e :: (tw ++ dw) = (e :: tw) ++ dw from rfl] at hs ⊢
    have hs1 := (List.pairwise_append.1 hs).1
    rw [rk_append, rk_run (k := e.key) (by
      rw [List.any_eq_false]
      intro x hx
      have := ha x hx e (by simp)
      simp [hasKey, this]) htk (falls_of hs1 htk)]
    congr 1
    refine cpt_rk xs now m dw _ (by simp at hm; omega) (List.pairwise_append.1 hs).2.1 ?_
    intro x hx y hy hxy
    rcases List.mem_append.1 hx with hx | hx
    · exact ha x hx y (by simp [hy]) hxy
    · rw [htk x hx] at hxy
      exact hdk y hy hxy.symm

/-! ### at the bottom -/
theorem mem_pkd {S : Nat → Bool} {k : Nat} {b : List SK.E} {x : SK.E} : x ∈ pkd S k b ↔ ∃ (j : Nat) (h : j < b.length), b[j] = x ∧ S (k + j) = true := by
  induction b generalizing k with
  | nil => simp [pkd]
  | cons e b ih =>
    rw [pkd, List.mem_append, ih]
    constructor
    · rintro (h | ⟨j, hj, h1, h2⟩)
      · split at h
        · rename_i hS
          exact ⟨0, by simp, (List.mem_singleton.1 h).symm, by simpa using hS⟩
        · cases h
      · exact ⟨j + 1, by simpa using hj, by simpa using h1, by rw [show k + (j + 1) = k + 1 + j by omega]; exact h2⟩
    · rintro ⟨j, hj, h1, h2⟩
      cases j with
      | zero =>
        left
        rw [Nat.add_zero] at h2
        rw [if_pos h2]
        exact List.mem_singleton.2 (by simpa using h1.symm)
      | succ j => exact .inr ⟨j, by simpa using hj, by simpa using h1, by rw [show k + 1 + j = k + (j + 1) by omega]; exact h2⟩
theorem lives_suffix {S : Nat → Bool} {r : List SK.E} {now : Int} {i : Nat} (hi : i ≤ r.length) : lives S r now i = (S i && (pkd S i (r.drop i)).any (fun x => alive x now)) := by
  unfold lives
  congr 1
  rw [Bool.eq_iff_iff, List.any_eq_true, List.any_eq_true]
  constructor
  · rintro ⟨t, ht, h⟩
    rw [List.mem_range] at ht
    simp only [Bool.and_eq_true, decide_eq_true_eq] at h
    obtain ⟨h1, h2, h3⟩ := h
    rw [getD_at _ _ ht] at h3
    exact ⟨r[t], mem_pkd.2 ⟨t - i, by simp; omega, by simp [List.getElem_drop, show i + (t - i) = t by omega], by rw [show i + (t - i) = t by omega]; exact h2⟩, h3⟩
  · rintro ⟨x, hx, ha⟩
    obtain ⟨j, hj, h1, h2⟩ := mem_pkd.1 hx
    simp at hj
    refine ⟨i + j, List.mem_range.2 (by omega), ?_⟩
    rw [getD_at _ _ (by omega)]
    rw [List.getElem_drop] at h1
    rw [h2, h1, ha]
    simp
theorem rl_run {S : Nat → Bool} {now : Int} {k : ByteArray} {r : List SK.E} (hk : ∀ x ∈ r, x.key = k) : rl now (pkd S 0 r) = pkd (lives S r now) 0 r := by
  have key : ∀ m i, r.length - i ≤ m → i ≤ r.length → rl now (pkd S i (r.drop i)) = pkd (lives S r now) i (r.drop i) := by
    intro m
    induction m with
    | zero =>
      intro i hi hle
      rw [List.drop_of_length_le (by omega)]
      rfl
    | succ m ih =>
      intro i hi hle
      by_cases hlt : i < r.length
      · have hd : r.drop i = r[i] :: r.drop (i + 1) := List.drop_eq_getElem_cons hlt
        have hl := lives_suffix (S := S) (now := now) (r := r) (i := i) hle
        have hki := hk _ (List.getElem_mem hlt)
        have hih := ih (i + 1) (by omega) (by omega)
        rw [hd] at hl ⊢
        rw [pkd, pkd, ← hih, hl]
        cases hS : S i with
        | false => simp
        | true =>
          have hmem : ∀ x ∈ r[i] :: pkd S (i + 1) (r.drop (i + 1)), x.key = k := fun x hx => by
            rcases List.mem_cons.1 hx with rfl | hx
            · exact hki
            · exact hk x (List.mem_of_mem_drop ((pkd_sub _ _ _).subset hx))
          have e1 : (r[i] :: pkd S (i + 1) (r.drop (i + 1))).any (fun x => decide (x.key = r[i].key) && alive x now) = (r[i] :: pkd S (i + 1) (r.drop (i + 1))).any (fun x => alive x now) := by
            rw [Bool.eq_iff_iff, List.any_eq_true, List.any_eq_true]
            exact ⟨fun ⟨x, h1, h2⟩ => ⟨x, h1, by simp only [Bool.and_eq_true] at h2; exact h2.2⟩, fun ⟨x, h1, h2⟩ => ⟨x, h1, by rw [hmem x h1, hki, h2]; simp⟩⟩
          simp only [if_true, List.singleton_append, Bool.true_and, pkd, hS]
          rw [rl, e1]
      · rw [List.drop_of_length_le (by omega)]
        rfl
  have := key r.length 0 (by omega) (by omega)
  rwa [List.drop_zero] at this
theorem rl_append {now : Int} {a b : List SK.E} (h : ∀ x ∈ a, ∀ y ∈ b, x.key ≠ y.key) : rl now (a ++ b) = rl now a ++ rl now b := by
  induction a with
  | nil => rfl
  | cons e a ih =>
    rw [List.cons_append, rl, rl, ih (fun x hx y hy => h x (by simp [hx]) y hy), List.append_assoc]
    congr 2
    rw [show e :: (a ++ b) = (e :: a) ++ b from rfl, List.any_append]
    have : b.any (fun x => decide (x.key = e.key) && alive x now) = false := by
      rw [List.any_eq_false]
      intro y hy
      have := h e (by simp) y hy
      simp [Ne.symm this]
    rw [this, Bool.or_false]
theorem cpt_rl (xs : List Int) (now : Int) : ∀ (m : Nat) (l : List SK.E), l.length ≤ m → Sorted l → rl now (cpt xs now false l) = cpt xs now true l
  | _, [], _, _ => rfl
  | 0, e :: t, hm, _ => by simp at hm
  | m + 1, e :: t, hm, hs => by
    have ht : t.takeWhile (fun x => decide (x.key = e.key)) ++ t.dropWhile (fun x => decide (x.key = e.key)) = t := List.takeWhile_append_dropWhile ..
    have htk : ∀ x ∈ e :: t.takeWhile (fun x => decide (x.key = e.key)), x.key = e.key := fun x hx => by
      rcases List.mem_cons.1 hx with rfl | hx
      · rfl
      · simpa using List.all_eq_true.1 List.all_takeWhile x hx
    have hdk := drop_key hs
    have hv : ∀ b, cpt xs now b (e :: t) = cone xs now b (e :: t.takeWhile (fun x => decide (x.key = e.key))) ++ cpt xs now b (t.dropWhile (fun x => decide (x.key = e.key))) := fun b => by
      unfold cpt
      rw [runs_cons]
      rfl
    obtain ⟨tw, htw⟩ : ∃ tw, t.takeWhile (fun x => decide (x.key = e.key)) = tw := ⟨_, rfl⟩
    obtain ⟨dw, hdw⟩ : ∃ dw, t.dropWhile (fun x => decide (x.key = e.key)) = dw := ⟨_, rfl⟩
    rw [htw] at ht htk hv
    rw [hdw] at ht hdk hv
    rw [hv, hv]
    subst ht
    rw [show e :: (tw ++ dw) = (e :: tw) ++ dw from rfl] at hs
    have hs2 := (List.pairwise_append.1 hs).2.1
    rw [rl_append, cpt_rl xs now m dw (by simp at hm; omega) hs2]
    · congr 1
      exact rl_run htk
    · intro x hx y hy hxy
      rw [← cpt_rk xs now dw.length dw [] (Nat.le_refl _) hs2 (by simp)] at hy
      have hx' := htk x ((pkd_sub _ _ _).subset hx)
      rw [hx'] at hxy
      exact hdk y ((rk_sub _ _ _).subset hy) hxy.symm

/-! ### what the laws ask -/
theorem sorted_sub {a b : List SK.E} (h : a.Sublist b) (hb : Sorted b) : Sorted a := hb.sublist h
theorem cpt_false {l : List SK.E} (xs : List Int) (now : Int) (h : Sorted l) : cpt xs now false l = rk xs [] l := (cpt_rk xs now l.length l [] (Nat.le_refl _) h (by simp)).symm
theorem cpt_true {l : List SK.E} (xs : List Int) (now : Int) (h : Sorted l) : cpt xs now true l = rl now (rk xs [] l) := by
  rw [← cpt_rl xs now l.length l (Nat.le_refl _) h, cpt_false xs now h]
theorem cpt_sub {l : List SK.E} (xs : List Int) (now : Int) (b : Bool) (h : Sorted l) : (cpt xs now b l).Sublist l := by
  cases b with
  | false => rw [cpt_false xs now h]; exact rk_sub _ _ _
  | true => rw [cpt_true xs now h]; exact (rl_sub _ _).trans (rk_sub _ _ _)
/-- what was compacted stays as it is -/
theorem cpt_again {l : List SK.E} (xs : List Int) (now : Int) (h : Sorted l) : cpt xs now false (cpt xs now false l) = cpt xs now false l := by
  rw [cpt_false xs now (sorted_sub (cpt_sub xs now false h) h), cpt_false xs now h]
  exact rk_again (by simp)
/-- what is visible is the same of what is left as of all -/
theorem vis_cpt {l : List SK.E} {xs : List Int} {now t q : Int} (b : Bool) (h : Sorted l) (ht : now ≤ t) (hq : q ∈ xs ∨ ∀ x ∈ l, x.seq ≤ q) : vis q t (cpt xs now b l) = vis q t l := by
  have hs := sorted_sub (cpt_sub xs now b h) h
  rw [← vis_rv q t _ _ [] (Nat.le_refl _) hs (by simp), ← vis_rv q t _ l [] (Nat.le_refl _) h (by simp)]
  have hq' : q ∈ xs ∨ ((∀ x ∈ ([] : List SK.E), x.seq ≤ q) ∧ ∀ x ∈ l, x.seq ≤ q) := hq.imp id (fun h => ⟨by simp, h⟩)
  cases b with
  | false => rw [cpt_false xs now h]; exact rv_rk hq' (by simp)
  | true => rw [cpt_true xs now h, rv_rl ht (a := []) (by simp)]; exact rv_rk hq' (by simp)
end VB
end Go.Proofs.Ytfbhdggmefacjaa
