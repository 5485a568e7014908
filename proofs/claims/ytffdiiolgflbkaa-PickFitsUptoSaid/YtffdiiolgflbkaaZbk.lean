/- Texts joined by bundle.py: Km. -/
import Derived.Test.YtffdiiolgflbkaaZbc
import Derived.Test.YtffdiiolgflbkaaZbj
import Derived.Test.YtffdiiolgflbkaaZbf
import Derived.BigRegion

/- Two lists of numbers in one; the span of the tables seen; the merged edit is applied. -/
namespace Go.Proofs.Ytffdiiolgflbkaa
open Go.RowKit Go.Maps
open VS
attribute [local go_sem ↓] Go.wp_at_zero Go.wp_at_succ

/-- 'append(v, l...)' of a list that is one's own -/
theorem app_two (w : World) (B : Nat) (D : Option Addr) (m1 d : Nat) (l1 : List Int) (ho : w.ownsRow B 2 1 (.slice D m1 d) m1 (nums l1)) (h1 : ∀ x ∈ l1, i64 x) (hm1 : l1.length = m1) (hp : 0 < m1)
    (E : Option Addr) (m2 e : Nat) (l2 : List Int) (h2 : IntsIn w w.heap.size E l2) (hm2 : l2.length = m2) (hb : m1 + m2 ≤ 4000000) (hB : B ≤ w.heap.size) :
    ∃ D' d' w', (Builtin.append_ #[31, 31] 31 #[.slice D m1 d, .slice E m2 e]).run Try.prog w = .ok (.slice D' (m1 + m2) d') w' ∧ IntsIn w' w'.heap.size D' (l1 ++ l2) ∧ m1 + m2 ≤ d' ∧ Below B w w' ∧ w'.ownsRow B 2 1 (.slice D' (m1 + m2) d') (m1 + m2) (nums (l1 ++ l2)) := by
  obtain ⟨i0, hi, hz0, hz1, hz2⟩ := info_parts info_i64
  have hall : ∀ x ∈ l1 ++ l2, i64 x := fun x hx => by
    rcases List.mem_append.1 hx with hx | hx
    · exact h1 x hx
    · exact h2.1 x hx
  have hlen : (l1 ++ l2).length = m1 + m2 := by rw [List.length_append]; omega
  by_cases hm0 : m2 = 0
  · have hl : l2 = [] := List.length_eq_zero_iff.1 (by omega)
    subst hm0 hl
    obtain ⟨D1, d1, heq, hin, -, hd⟩ := own_nums h1 hm1 ho
    obtain ⟨rfl, rfl⟩ : D = D1 ∧ d = d1 := by
      simp only [Value.slice.injEq, true_and] at heq
      exact heq
    obtain ⟨b, o, rfl, -, -⟩ := hin.2 (by omega)
    refine ⟨_, d, w, ?_, by simpa using hin, by omega, Below.refl _ _, by simpa using ho⟩
    cases E with
    | none => simp [Builtin.append_, run_underlying Try.underlying31, sizeOf, typeInfo, hi, Builtin.lenOf, Builtin.firstCells, storeCells, hd]
    | some a =>
      have hf := run_firstCells_some (P := Try.prog) w i0.size 0 a 0 e [] (by simp) (by simp)
      simp [Builtin.append_, run_underlying Try.underlying31, sizeOf, typeInfo, hi, Builtin.lenOf, hf, storeCells, hd]
  · obtain ⟨b, o, rfl, -, hc⟩ := h2.2 (by omega)
    obtain ⟨v', w', hr, ho', hg, -, -⟩ := run_append_own_at (P := Try.prog) w B 31 31 2 i0 _ 1 8 Try.underlying31 hi hz0 hz1 hz2 rfl (by decide) (.slice D m1 d) m1 (nums l1) ho ⟨b, o, none⟩ m2 e (nums l2) (by simp [nums, hm2]) (fun j u hj => by
      have hjl : j < l2.length := by
        have := (List.getElem?_eq_some_iff.1 hj).1
        simpa [nums] using this
      rw [add_off, hc j hjl]
      simpa [nums, hjl] using hj) (nums_one l2) (by unfold maxLen; omega) (by omega) hB
    rw [show nums l1 ++ nums l2 = nums (l1 ++ l2) by simp [nums]] at ho'
    obtain ⟨D', d', rfl, he, -, hd⟩ := own_nums hall hlen ho'
    exact ⟨D', d', w', hr, he, hd, (Below.refl B w).grown hg hB fun r e => (ho.lt r e).1, ho'⟩

/-- .. as a step of a region that draws its order -/
theorem step_app_two {ops : Array Oper} {o : Oper} {a : Act} {K : Act → World → Prop} {Q : Exit → Act → World → Prop} {E : Prop} {w : World} (hgd : o.guard = none) (s x : Operand) (ho : o.op = .call { callee := .builtin .append, args := #[s, x], argTypes := #[31, 31] }) (hty : o.type = 31)
    (B : Nat) (D : Option Addr) (m1 d : Nat) (l1 : List Int) (D2 : Option Addr) (m2 e : Nat) (l2 : List Int) (hs : a.eval s = .slice D m1 d) (hx : a.eval x = .slice D2 m2 e) (hown : w.ownsRow B 2 1 (.slice D m1 d) m1 (nums l1)) (h1 : ∀ x ∈ l1, i64 x) (hm1 : l1.length = m1) (hp : 0 < m1) (h2 : IntsIn w w.heap.size D2 l2) (hm2 : l2.length = m2) (hb : m1 + m2 ≤ 4000000) (hB : B ≤ w.heap.size)
    (hk : ∀ D' d' w', IntsIn w' w'.heap.size D' (l1 ++ l2) → m1 + m2 ≤ d' → Below B w w' → w'.ownsRow B 2 1 (.slice D' (m1 + m2) d') (m1 + m2) (nums (l1 ++ l2)) → K (a.put o.dst (.slice D' (m1 + m2) d')) w') :
    if Region.wanted o (yielded ops a.tmps) = true then Oper.wp Try.prog o a w K Q else E := by
  obtain ⟨D', d', w', h1, h2, h3, h4, h5⟩ := app_two w B D m1 d l1 hown h1 hm1 hp D2 m2 e l2 h2 hm2 hb hB
  exact step_app 31 hgd s x ho hty _ _ hs hx _ _ h1 (hk D' d' w' h2 h3 h4 h5)

theorem step_app_three {ops : Array Oper} {o : Oper} {a : Act} {K : Act → World → Prop} {Q : Exit → Act → World → Prop} {E : Prop} {w : World} (hgd : o.guard = none) (s x : Operand) (ho : o.op = .call { callee := .builtin .append, args := #[s, x], argTypes := #[31, 31] }) (hty : o.type = 31)
    (B : Nat) (D : Option Addr) (m1 d : Nat) (l1 : List Int) (D2 : Option Addr) (m2 e : Nat) (l2 : List Int) (m3 : Nat) (h3 : m1 + m2 = m3) (hs : a.eval s = .slice D m1 d) (hx : a.eval x = .slice D2 m2 e) (hown : w.ownsRow B 2 1 (.slice D m1 d) m1 (nums l1)) (h1 : ∀ x ∈ l1, i64 x) (hm1 : l1.length = m1) (hp : 0 < m1) (h2 : IntsIn w w.heap.size D2 l2) (hm2 : l2.length = m2) (hb : m1 + m2 ≤ 4000000) (hB : B ≤ w.heap.size)
    (hk : ∀ D' d' w', IntsIn w' w'.heap.size D' (l1 ++ l2) → m3 ≤ d' → Below B w w' → w'.ownsRow B 2 1 (.slice D' m3 d') m3 (nums (l1 ++ l2)) → K (a.put o.dst (.slice D' m3 d')) w') :
    if Region.wanted o (yielded ops a.tmps) = true then Oper.wp Try.prog o a w K Q else E := by
  subst h3
  exact step_app_two hgd s x ho hty B D m1 d l1 D2 m2 e l2 hs hx hown h1 hm1 hp h2 hm2 hb hB hk
theorem ints_grown {w w' : World} {A : Option Addr} {l : List Int} (h : IntsIn w w.heap.size A l) {p : Nat} (hg : w.grownBy w' (some p)) (hA : ∀ g, A = some g → g.block ≠ p) : IntsIn w' w'.heap.size A l := by
  refine ⟨h.1, fun hn => ?_⟩
  obtain ⟨b, off, rfl, hlt, hc⟩ := h.2 hn
  have hne : b ≠ p := hA _ rfl
  refine ⟨b, off, rfl, Nat.lt_of_lt_of_le hlt hg.size, fun i hi => ?_⟩
  rw [← hc i hi]
  unfold World.cell?
  rw [hg.block b hlt (fun e => hne (Option.some.inj e))]
/-- how often each number is in a list -/
def cnt (l : List Int) : Int → Int := fun z => (l.count z : Nat)
theorem cnt_nil : (fun _ : Int => (0 : Int)) = cnt [] := by funext z; simp [cnt]
theorem cnt_snoc (l : List Int) (z : Int) : (fun x => if x = z then cnt l z + 1 else cnt l x) = cnt (l ++ [z]) := by
  funext x
  unfold cnt
  by_cases h : x = z
  · subst h; simp
  · rw [if_neg h, List.count_append, List.count_singleton]
    have : (z == x) = false := by simpa using fun e : z = x => h e.symm
    simp [this]
theorem cnt_le (l : List Int) (z : Int) : 0 ≤ cnt l z ∧ cnt l z ≤ l.length := by
  unfold cnt
  have := List.count_le_length (a := z) (l := l)
  omega
theorem cnt_pos (l : List Int) (z : Int) : decide (0 < cnt l z) = decide (z ∈ l) := by
  unfold cnt
  have : (0 : Int) < ((l.count z : Nat) : Int) ↔ z ∈ l := by rw [← List.count_pos_iff]; omega
  exact decide_eq_decide.2 this

namespace VS
theorem IsLo.same {l k : List M} {lo : ByteArray} (h : IsLo l lo) (he : ∀ x, x ∈ l ↔ x ∈ k) : IsLo k lo :=
  ⟨fun m hm => h.1 m ((he m).2 hm), by obtain ⟨m, hm, e⟩ := h.2; exact ⟨m, (he m).1 hm, e⟩⟩
theorem IsHi.same {l k : List M} {hi : ByteArray} (h : IsHi l hi) (he : ∀ x, x ∈ l ↔ x ∈ k) : IsHi k hi :=
  ⟨fun m hm => h.1 m ((he m).2 hm), by obtain ⟨m, hm, e⟩ := h.2; exact ⟨m, (he m).1 hm, e⟩⟩
/-- what the law's loops hold of the tables seen -/
def Seen (T : List M) (lo hi : ByteArray) (b : Bool) : Prop := (b = false → T = []) ∧ (b = true → IsLo T lo ∧ IsHi T hi)
theorem Seen.nil (lo hi : ByteArray) : Seen [] lo hi false := ⟨fun _ => rfl, fun h => by cases h⟩
theorem Seen.more {T : List M} {lo hi : ByteArray} (h : Seen T lo hi true) (m : M) : Seen (T ++ [m]) (Lib.minS lo m.lo) (Lib.maxS hi m.hi) true :=
  ⟨fun h => (by cases h), fun _ => ⟨(h.2 rfl).1.more m, (h.2 rfl).2.more m⟩⟩
theorem Seen.one {T : List M} {lo hi : ByteArray} (h : Seen T lo hi false) (m : M) : Seen (T ++ [m]) (Lib.minS m.lo m.lo) (Lib.maxS m.hi m.hi) true := by
  rw [h.1 rfl]
  exact ⟨fun h => (by cases h), fun _ => ⟨((isLo_one m).more m).same (by simp), ((isHi_one m).more m).same (by simp)⟩⟩
/-- is this table's file among these? -/
def inb (fl : List Int) (m : M) : Bool := decide (m.file ∈ fl)
theorem seen_snoc (fl : List Int) (P : List M) (m : M) : (P ++ [m]).filter (inb fl) = if m.file ∈ fl then P.filter (inb fl) ++ [m] else P.filter (inb fl) := by
  rw [List.filter_append]
  by_cases h : m.file ∈ fl
  · rw [if_pos h]; simp [inb, h]
  · rw [if_neg h]; simp [inb, h]
theorem nodup_len : ∀ {l k : List Int}, l.Nodup → (∀ x ∈ l, x ∈ k) → l.length ≤ k.length
  | [], _, _, _ => Nat.zero_le _
  | x :: l, k, hn, hs => by
    obtain ⟨h1, h2⟩ := List.nodup_cons.1 hn
    have hx := hs x (List.mem_cons_self ..)
    have h3 := nodup_len (l := l) (k := k.erase x) h2 fun y hy => (List.mem_erase_of_ne (fun e : y = x => h1 (by rw [← e]; exact hy))).2 (hs y (List.mem_cons_of_mem _ hy))
    rw [List.length_erase_of_mem hx] at h3
    have := List.length_pos_of_mem hx
    simp only [List.length_cons]
    omega
section
variable {v : V} {k : Nat} {fr tw : List M} (hv : Ok v) (hj : Job v k fr tw)
include hv hj
theorem Job.sub : ∀ m ∈ fr ++ tw, m ∈ v.L := by
  intro m hm
  have _ := hv.uniq
  obtain ⟨-, -, hfi, -, lf, hf, -, -, hto⟩ := hj
  rcases List.mem_append.1 hm with hm | hm
  · exact (hfi m hm).1
  · rw [hto] at hm; exact (over_mem.1 hm).1
theorem Job.nd : (files fr ++ files tw).Nodup := by
  have hsub := Job.sub hv hj
  obtain ⟨-, -, hfi, hfn, lf, hf, -, -, hto⟩ := hj
  have htn : tw.Nodup := by rw [hto]; exact (hv.nodup.filter _).filter _
  have hbn : (fr ++ tw).Nodup := List.nodup_append.2 ⟨hfn, htn, fun a ha b hb e => by
    have h1 := (hfi a ha).2
    rw [hto] at hb
    have h2 := (over_mem.1 hb).2.1
    rw [e] at h1
    omega⟩
  rw [← files_append]
  exact nodup_files hbn fun a ha b hb e => uniq_of hv.uniq a (hsub a ha) b (hsub b hb) e
theorem Job.small : fr.length + tw.length ≤ v.L.length := by
  have := nodup_len (Job.nd hv hj) (k := files v.L) fun x hx => by
    rw [← files_append] at hx
    obtain ⟨m, hm, rfl⟩ := List.mem_map.1 hx
    exact List.mem_map.2 ⟨m, Job.sub hv hj m hm, rfl⟩
  simpa [files] using this
theorem Job.seen (x : M) : x ∈ v.L.filter (inb (files fr ++ files tw)) ↔ x ∈ fr ++ tw := by
  rw [List.mem_filter]
  simp only [inb, decide_eq_true_eq, ← files_append]
  constructor
  · rintro ⟨h1, h2⟩
    obtain ⟨y, hy, e⟩ := List.mem_map.1 h2
    exact uniq_of hv.uniq y (Job.sub hv hj y hy) x h1 e ▸ hy
  · intro h
    exact ⟨Job.sub hv hj x h, List.mem_map.2 ⟨x, h, rfl⟩⟩
theorem Job.done (hn : Nums v) (hnx : v.next < 9223372036854775807) {lo hi : ByteArray} {b : Bool} (hs : Seen (v.L.filter (inb (files fr ++ files tw))) lo hi b) :
    b = true ∧ (apply v ⟨[⟨(k : Int) + 1, v.next, 0, lo, hi⟩], files fr ++ files tw, v.log, v.next + 1, v.seq⟩).2 = 0 := by
  have hb : b = true := by
    cases hbb : b with
    | true => rfl
    | false =>
      have h0 := hs.1 hbb
      obtain ⟨m, hm⟩ := List.exists_mem_of_ne_nil _ hj.fr_ne
      have := (Job.seen hv hj m).2 (List.mem_append_left _ hm)
      rw [h0] at this
      cases this
  obtain ⟨hl, hh⟩ := hs.2 hb
  have hg := job_fits hv hn hj (hl.same (Job.seen hv hj)) (hh.same (Job.seen hv hj)) hnx
  refine ⟨hb, ?_⟩
  unfold apply
  rw [if_pos hg]
end
end VS
end Go.Proofs.Ytffdiiolgflbkaa

