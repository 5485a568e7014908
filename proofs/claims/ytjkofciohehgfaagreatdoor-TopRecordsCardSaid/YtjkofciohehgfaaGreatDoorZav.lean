/- Texts joined by bundle.py: YDWk. -/
import Derived.Test.YtjkofciohehgfaaGreatDoorZae
import Derived.Test.YtjkofciohehgfaaGreatDoorZas
import Derived.Test.YtjkofciohehgfaaGreatDoorZag

/- The calls of a log over a disk, as plain mathematics: what a log holds, behind losses of power. No function of the program. -/
namespace Go.Proofs.YtjkofciohehgfaaGreatDoor.L8
open DM

/-! ### as plain mathematics -/
namespace WL
def K (n : Int) : Bs := WN.file [108, 111, 103] n
/-- the disk's first error of two calls -/
def both (r : Int × St) (f : St → Int × St) : Int × St := if r.1 = 0 then f r.2 else r
def create (n : Int) (s : St) : Int × St := if K n = [] then (2, s) else both (DM.create (K n) s) DM.syncDir
def append (n : Int) (b : Bs) (s : St) : Int × St := if K n = [] then (2, s) else if 65535 < b.length then (5, s) else both (DM.append (K n) (FM.frame b) s) (DM.sync (K n))
def readOf (r : Bs × Int) : List Bs × Bool × Int :=
  if r.2 ≠ 0 then ([], false, r.2) else if (FM.all (r.1.length + 1) r.1).2.2 = 4 ∨ (FM.all (r.1.length + 1) r.1).2.2 = 6 then ([], false, 6)
  else ((FM.all (r.1.length + 1) r.1).1, decide ((FM.all (r.1.length + 1) r.1).2.2 = 3), 0)
def read (n : Int) (s : St) : List Bs × Bool × Int := if K n = [] then ([], false, 2) else readOf (DM.read (K n) s)
theorem k_len (n : Int) : (K n).length ≤ 12 := by
  rcases WN.file_len [108, 111, 103] n with h | h <;> (unfold K; rw [h]; decide)
theorem both_go {r : Int × St} {f : St → Int × St} (h : r.1 = 0) : both r f = f r.2 := if_pos h
theorem both_stop {r : Int × St} {f : St → Int × St} (h : r.1 ≠ 0) : both r f = r := if_neg h
end WL


namespace WL
theorem k1 : K 1 = [108, 111, 103, 45, 48, 48, 48, 48, 48, 48, 48, 49] := WN.log1
/-! ### one log on a disk -/
/-- a disk that has a file of one name alone -/
def one (R : Int) (k F : Bs) (y : Nat) (c : Nat) (n : Int) (l : List Int) : St := ⟨R, [⟨F, y⟩], [(k, 0)], [(k, 0)], [], false, c, n, l, 0⟩
abbrev lg (F : Bs) (y : Nat) (c : Nat) (n : Int) (l : List Int) : St := one 1099511627776 (K 1) F y c n l

theorem lg_create : create 1 (DM.new 1099511627776) = (0, lg [] 0 0 0 []) := by
  unfold create lg
  rw [k1]
  rfl

theorem find_one (k : Bs) : find [(k, 0)] k = some 0 := by simp [find]

theorem dk_append (R : Int) (k F M : Bs) (y c : Nat) (n : Int) (l : List Int) (h : F.length + M.length ≤ 1048576) (hR : ((F.length + M.length : Nat) : Int) ≤ R) : DM.append k M (one R k F y c n l) = if c = 1 then (13, dark (one R k (F ++ M) y 0 n l) n l) else (0, one R k (F ++ M) y (c - 1) n l) := by
  have hl : lens [⟨F, y⟩] 0 = F.length := rfl
  have hu : used [⟨F, y⟩] [(k, 0)] = F.length := by simp [used, lens]
  unfold DM.append one
  simp only [find_one, Bool.false_eq_true, if_false]
  rw [if_neg (by rw [hl, hu]; omega)]
  unfold change
  by_cases hc : c = 1
  · subst hc
    simp only [if_true]
    rfl
  · simp only [hc, if_false]
    rfl

theorem dk_sync (R : Int) (k F : Bs) (y c : Nat) (n : Int) (l : List Int) : DM.sync k (one R k F y c n l) = if c = 1 then (13, dark (one R k F y 0 n l) n l) else (0, one R k F F.length (c - 1) n l) := by
  unfold DM.sync one
  simp only [find_one, Bool.false_eq_true, if_false]
  unfold change
  by_cases hc : c = 1
  · subst hc
    simp only [if_true]
    rfl
  · simp only [hc, if_false]
    rfl

theorem lg_append (F b : Bs) (c : Nat) (n : Int) (l : List Int) (h : F.length + b.length ≤ 1000000) (hb : b.length ≤ 65535) :
    append 1 b (lg F F.length c n l) = if c = 1 ∨ c = 2 then (13, dark (lg (F ++ FM.frame b) F.length 0 n l) n l) else (0, lg (F ++ FM.frame b) (F ++ FM.frame b).length (c - 2) n l) := by
  have hne : K 1 ≠ [] := by rw [k1]; decide
  have hfl := FM.frame_len b
  unfold append
  rw [if_neg hne, if_neg (by omega), dk_append _ _ _ _ _ _ _ _ (by omega) (by omega)]
  by_cases h1 : c = 1
  · rw [if_pos h1, if_pos (.inl h1), both_stop (show (13 : Int) ≠ 0 by decide)]
  · rw [if_neg h1, both_go rfl]
    simp only []
    rw [dk_sync]
    by_cases h2 : c = 2
    · rw [if_pos (by omega), if_pos (.inr h2)]
    · rw [if_neg (by omega), if_neg (by omega)]
      rfl

/-- what a log's file reads as -/
def Reads (p : Bs → Prop) (s : St) : Prop := ∀ (n : Int) (l : List Int), ∃ x, DM.read (K 1) (crash n l s) = (x, 0) ∧ p x

theorem holds_one (R : Int) (k F : Bs) (c : Nat) (n : Int) (l : List Int) : Holds k (fun x => x = F) (one R k F F.length c n l) := fun j hj => by
  have hj0 : j = 0 := by simpa [one] using hj
  subst hj0
  exact ⟨0, F, by simp [one, pre, find_one], by simp [one], rfl, rfl⟩

theorem reads_lg (F : Bs) (c : Nat) (n : Int) (l : List Int) : Reads (fun x => x = F) (lg F F.length c n l) := fun n' l' => holds_read (holds_one _ _ F c n l) n' l'

/-- of what is behind the bytes that are synced a beginning lasts -/
def some_ (F M x : Bs) : Prop := ∃ m, F.length ≤ m ∧ m ≤ F.length + M.length ∧ x = (F ++ M).take m

theorem holds_dark1 (R : Int) (k F M : Bs) (n : Int) (l : List Int) : Holds k (some_ F M) (dark (one R k (F ++ M) F.length 0 n l) n l) := fun j hj => by
  have hj0 : j = 0 := by simpa [dark, fail] using hj
  subst hj0
  have hr := rest_le (l.getD (0 % l.length) 0) ((F ++ M).length - F.length)
  rw [List.length_append] at hr
  refine ⟨0, (F ++ M).take (F.length + rest (l.getD (0 % l.length) 0) ((F ++ M).length - F.length + 1)), ?_, by simp [dark, fail, one], ?_, ⟨F.length + rest (l.getD (0 % l.length) 0) ((F ++ M).length - F.length + 1), by omega, by rw [List.length_append]; omega, rfl⟩⟩
  · simp [dark, fail, one, pre, find_one]
  · have hle : F.length + rest (l.getD (0 % l.length) 0) ((F ++ M).length - F.length + 1) ≤ (F ++ M).length := by rw [List.length_append]; omega
    simp only [dark, fail, one, List.mapIdx_cons, List.mapIdx_nil, List.getD_cons_zero, loseF]
    rw [List.length_take, Nat.min_eq_left hle]

theorem reads_dark (F M : Bs) (n : Int) (l : List Int) : Reads (some_ F M) (dark (lg (F ++ M) F.length 0 n l) n l) := fun n' l' => holds_read (holds_dark1 _ _ F M n l) n' l'

/-! ### what is read of a log -/
theorem readOf_end {x : Bs} {X : List Bs} {k : Nat} {c : Int} (h : FM.all (x.length + 1) x = (X, k, c)) : readOf (x, 0) = if c = 4 ∨ c = 6 then ([], false, 6) else (X, decide (c = 3), 0) := by
  unfold readOf
  simp only [h]
  rw [if_neg (by simp)]
theorem read_go {n : Int} (hn : K n ≠ []) {s : St} {r : Bs × Int} (h : DM.read (K n) s = r) : read n s = readOf r := by
  unfold read
  rw [if_neg hn, h]
theorem n1 : K 1 ≠ [] := by rw [k1]; decide
theorem read_whole {n : Int} (hn : K n ≠ []) {s : St} (bs : List Bs) (hb : ∀ b ∈ bs, b.length ≤ 65535) (h : DM.read (K n) s = (FM.frames bs, 0)) : read n s = (bs, false, 0) := by
  have hc := FM.cut_all bs hb (FM.frames bs).length ((FM.frames bs).length + 1) (Nat.le_refl _) (by omega)
  have hw := FM.whole_spec bs (FM.frames bs).length
  have hall := FM.ends_all bs
  have he : FM.whole bs (FM.frames bs).length = bs.length := by
    apply Classical.byContradiction
    intro hne
    have h1 := hw.2.2 (by omega)
    have h2 := FM.ends_mono bs (i := FM.whole bs (FM.frames bs).length + 1) (j := bs.length) (by omega) (Nat.le_refl _)
    omega
  rw [List.take_length, he, hall, if_pos rfl, List.take_length] at hc
  rw [read_go hn h, readOf_end hc]
  simp

theorem read_some {s : St} (bs : List Bs) (b : Bs) (hb : ∀ x ∈ bs ++ [b], x.length ≤ 65535) {x : Bs} (hx : some_ (FM.frames bs) (FM.frame b) x) (h : DM.read (K 1) s = (x, 0)) :
    ∃ j torn, read 1 s = ((bs ++ [b]).take j, torn, 0) ∧ bs.length ≤ j ∧ j ≤ bs.length + 1 ∧ (j = bs.length + 1 → torn = false) := by
  obtain ⟨m, h1, h2, rfl⟩ := hx
  have hfr : FM.frames (bs ++ [b]) = FM.frames bs ++ FM.frame b := by simp [FM.frames]
  have hfl : (FM.frames (bs ++ [b])).length = (FM.frames bs).length + (FM.frame b).length := by rw [hfr, List.length_append]
  have hlen : (bs ++ [b]).length = bs.length + 1 := by simp
  rw [← hfr] at h
  have hxl : ((FM.frames (bs ++ [b])).take m).length = m := by rw [List.length_take]; omega
  have hc := FM.cut_all (bs ++ [b]) hb m (m + 1) (by omega) (by omega)
  obtain ⟨w1, w2, w3⟩ := FM.whole_spec (bs ++ [b]) m
  have hall := FM.ends_all (bs ++ [b])
  have hends : FM.ends (bs ++ [b]) bs.length = (FM.frames bs).length := by simp [FM.ends]
  have hge : bs.length ≤ FM.whole (bs ++ [b]) m := by
    rcases Nat.eq_zero_or_pos bs.length with e | e
    · omega
    · have := (FM.ends_le_iff (bs ++ [b]) m (bs.length - 1) (by omega)).1 (by rw [show bs.length - 1 + 1 = bs.length by omega, hends]; exact h1)
      omega
  refine ⟨FM.whole (bs ++ [b]) m, decide (FM.ends (bs ++ [b]) (FM.whole (bs ++ [b]) m) ≠ m), ?_, hge, by omega, fun e => ?_⟩
  · have hc2 : FM.all (((FM.frames (bs ++ [b])).take m).length + 1) ((FM.frames (bs ++ [b])).take m) = _ := (congrArg (fun z => FM.all (z + 1) ((FM.frames (bs ++ [b])).take m)) hxl).trans hc
    rw [read_go n1 h, readOf_end hc2]
    by_cases he : FM.ends (bs ++ [b]) (FM.whole (bs ++ [b]) m) = m
    · simp [he]
    · simp [he]
  · rw [e, ← hlen, hall, hfl]
    rw [e, ← hlen, hall, hfl] at w2
    simp
    omega

/-! ### a log of which a bit is turned -/
theorem frames_len_le (bs : List Bs) (m : Nat) (h : ∀ b ∈ bs, b.length ≤ m) : (FM.frames bs).length ≤ bs.length * (8 + m) := by
  induction bs with
  | nil => simp [FM.frames]
  | cons b r ih =>
    rw [FM.frames_cons, List.length_append, FM.frame_len, List.length_cons, Nat.add_mul]
    have h1 := h b (by simp)
    have h2 := ih fun x hx => h x (by simp [hx])
    omega

/-! ### the log that wakes makes -/
end WL
end Go.Proofs.YtjkofciohehgfaaGreatDoor.L8


