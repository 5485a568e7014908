/- Texts joined by bundle.py: YDDmB, YDDmC, YDDmD, YDDmE. -/
import Derived.Test.YtjkofciohehgfaaGreatDoorZaf
import Derived.Sort.KeysCollected

/- A disk's state, its steps, and what stays true of it. No function of the program. -/
namespace Go.Proofs.YtjkofciohehgfaaGreatDoor.L8
namespace DM

structure St where
  room : Int
  files : List F
  names : Nm
  lasts : Nm
  queue : List E
  off : Bool
  cutN : Nat
  cutNames : Int
  cutBytes : List Int
  brk : Nat

def rest (n : Int) (b : Nat) : Nat := (if n < 0 then -(n + 1) else n).toNat % b
def pre (l : Nm) (q : List E) (k : Nat) : Nm := (q.take k).foldl app l
def loseF (bytes : List Int) (i : Nat) (f : F) : F :=
  ⟨f.data.take (f.sync + rest (bytes.getD (i % bytes.length) 0) (f.data.length - f.sync + 1)), f.sync + rest (bytes.getD (i % bytes.length) 0) (f.data.length - f.sync + 1)⟩
def fail (s : St) (names : Int) (bytes : List Int) : St :=
  { s with files := s.files.mapIdx (loseF bytes), names := pre s.lasts s.queue (rest names (s.queue.length + 1)), lasts := pre s.lasts s.queue (rest names (s.queue.length + 1)), queue := [], cutN := 0, cutNames := 0, cutBytes := [], brk := 0 }
def point (s : St) (e : E) : St := { s with names := app s.names e, queue := s.queue ++ [e] }
def counted (s : St) : St := { s with cutN := s.cutN - 1, brk := s.brk - 1 }
def change (ahead : Bool) (go : St → St) (s : St) : Int × St :=
  if s.cutN = 1 then (13, { fail (if ahead then go (counted s) else counted s) s.cutNames s.cutBytes with off := true })
  else if s.brk = 1 then (12, counted s) else (0, go (counted s))
def fileAt (s : St) (n : Nat) : F := s.files.getD n ⟨[], 0⟩
def doCreate (name : Bs) (s : St) : St := point { s with files := s.files ++ [⟨[], 0⟩] } ⟨[], name, s.files.length⟩
def doAppend (n : Nat) (data : Bs) (s : St) : St := { s with files := s.files.set n ⟨(fileAt s n).data ++ data, (fileAt s n).sync⟩ }
def doSync (n : Nat) (s : St) : St := { s with files := s.files.set n ⟨(fileAt s n).data, (fileAt s n).data.length⟩ }
def doSyncDir (s : St) : St := { s with lasts := pre s.lasts s.queue s.queue.length, queue := [] }
def goodName (k : Bs) : Bool := !k.isEmpty && decide (k.length ≤ 64)

def create (name : Bs) (s : St) : Int × St :=
  if s.off then (13, s) else if !goodName name then (2, s) else if (find s.names name).isSome then (11, s) else if 4096 ≤ s.names.length then (12, s) else change true (doCreate name) s
def append (name data : Bs) (s : St) : Int × St :=
  if s.off then (13, s) else match find s.names name with
    | none => (10, s)
    | some n => if 1048576 < (lens s.files n + data.length : Int) ∨ s.room < (used s.files s.names + data.length : Int) then (12, s) else change true (doAppend n data) s
def sync (name : Bs) (s : St) : Int × St :=
  if s.off then (13, s) else match find s.names name with
    | none => (10, s)
    | some n => change false (doSync n) s
def syncDir (s : St) : Int × St := if s.off then (13, s) else change false doSyncDir s
def read (a : Bs) (s : St) : Bs × Int :=
  if s.off then ([], 13) else match find s.names a with
    | none => ([], 10)
    | some n => ((fileAt s n).data, 0)
def on (s : St) : St := { s with off := false, cutN := 0, cutNames := 0, cutBytes := [], brk := 0 }
def crash (names : Int) (bytes : List Int) (s : St) : St := on (fail s names bytes)
def cut (n names : Int) (bytes : List Int) (s : St) : St := { s with cutN := (max n 1).toNat, cutNames := names, cutBytes := bytes }
def new (room : Int) : St := ⟨max room 0, [], [], [], [], false, 0, 0, [], 0⟩

/-! ### what stays true -/
def fits (x : Int) : Prop := -9223372036854775808 ≤ x ∧ x ≤ 9223372036854775807

structure Ok (s : St) : Prop where
  room : 0 ≤ s.room ∧ s.room ≤ 9223372036854775807
  files : ∀ f ∈ s.files, f.sync ≤ f.data.length ∧ f.data.length ≤ 1048576
  good : ∀ k, k ≤ s.queue.length → Good s.files.length (pre s.lasts s.queue k)
  names : s.names = pre s.lasts s.queue s.queue.length
  ents : ∀ e ∈ s.queue, e.gone.length ≤ 64 ∧ e.name.length ≤ 64 ∧ (e.name ≠ [] → e.file < s.files.length)
  cutN : s.cutN ≤ 9223372036854775807
  brk : s.brk ≤ 9223372036854775807
  cutNames : fits s.cutNames
  cutBytes : ∀ b ∈ s.cutBytes, fits b

theorem Ok.gnames {s : St} (h : Ok s) : Good s.files.length s.names := by rw [h.names]; exact h.good _ (Nat.le_refl _)
theorem Ok.glasts {s : St} (h : Ok s) : Good s.files.length s.lasts := h.good 0 (Nat.zero_le _)

theorem fileAt_mem {s : St} {n : Nat} (h : n < s.files.length) : fileAt s n ∈ s.files := by
  unfold fileAt
  rw [List.getD_eq_getElem?_getD, List.getElem?_eq_getElem h]
  exact List.getElem_mem h

theorem Ok.lens_le {s : St} (h : Ok s) (n : Nat) : lens s.files n ≤ 1048576 := by
  by_cases hn : n < s.files.length
  · exact (h.files _ (fileAt_mem hn)).2
  · unfold lens
    rw [List.getD_eq_getElem?_getD, List.getElem?_eq_none (by omega)]
    simp

theorem Ok.used_le {s : St} (h : Ok s) : used s.files s.names ≤ 4294967296 := by
  have h1 := DM.used_le (l := s.names) h.lens_le
  have h2 := h.gnames.few
  have h3 : s.names.length * 1048576 ≤ 4096 * 1048576 := Nat.mul_le_mul_right _ h2
  omega

theorem pre_all (l : Nm) (q : List E) : pre l q q.length = q.foldl app l := by unfold pre; rw [List.take_length]
theorem pre_succ (l : Nm) (q : List E) (k : Nat) (h : k < q.length) : pre l q (k + 1) = app (pre l q k) q[k] := by
  unfold pre
  rw [List.take_succ_eq_append_getElem h, List.foldl_append]
  rfl

theorem ok_new (room : Int) (h : fits room) : Ok (new room) where
  room := by unfold fits at h; simp only [new]; omega
  files := by simp [new]
  good := fun k _ => by simp [new, pre]; exact good_nil _
  names := by simp [new, pre]
  ents := by simp [new]
  cutN := by simp [new]
  brk := by simp [new]
  cutNames := by simp [new, fits]
  cutBytes := by simp [new]

theorem ok_on {s : St} (h : Ok s) : Ok (on s) :=
  { h with cutN := by simp [on], brk := by simp [on], cutNames := by simp [on, fits], cutBytes := by simp [on] }

theorem ok_counted {s : St} (h : Ok s) : Ok (counted s) :=
  { h with cutN := by have := h.cutN; simp only [counted]; omega, brk := by have := h.brk; simp only [counted]; omega }

theorem rest_lt (n : Int) {b : Nat} (h : 0 < b) : rest n b < b := Nat.mod_lt _ h

theorem loseF_ok (bytes : List Int) (i : Nat) {f : F} (h : f.sync ≤ f.data.length ∧ f.data.length ≤ 1048576) :
    (loseF bytes i f).sync = (loseF bytes i f).data.length ∧ (loseF bytes i f).data.length ≤ 1048576 := by
  have := rest_lt (bytes.getD (i % bytes.length) 0) (b := f.data.length - f.sync + 1) (by omega)
  unfold loseF
  simp only [List.length_take]
  omega

theorem mem_mapIdx {α β : Type} {f : Nat → α → β} {l : List α} {y : β} (h : y ∈ l.mapIdx f) : ∃ i x, x ∈ l ∧ y = f i x := by
  rw [List.mem_mapIdx] at h
  obtain ⟨i, hi, rfl⟩ := h
  exact ⟨i, l[i], List.getElem_mem hi, rfl⟩

theorem ok_fail {s : St} (h : Ok s) (names : Int) (bytes : List Int) : Ok (fail s names bytes) where
  room := h.room
  files := fun f hf => by
    obtain ⟨i, x, hx, rfl⟩ := mem_mapIdx hf
    have := loseF_ok bytes i (h.files x hx)
    omega
  good := fun k _ => by
    have := rest_lt names (b := s.queue.length + 1) (by omega)
    have h1 := h.good (rest names (s.queue.length + 1)) (by omega)
    have e : pre (fail s names bytes).lasts (fail s names bytes).queue k = pre s.lasts s.queue (rest names (s.queue.length + 1)) := by simp [fail, pre]
    have e2 : (fail s names bytes).files.length = s.files.length := by simp [fail]
    rw [e, e2]
    exact h1
  names := by simp [fail, pre]
  ents := by simp [fail]
  cutN := by simp [fail]
  brk := by simp [fail]
  cutNames := by simp [fail, fits]
  cutBytes := by simp [fail]

theorem ok_off {s : St} (h : Ok s) (b : Bool) : Ok { s with off := b } := { h with }

theorem ok_crash {s : St} (h : Ok s) (names : Int) (bytes : List Int) : Ok (crash names bytes s) := ok_on (ok_fail h names bytes)

theorem ok_cut {s : St} (h : Ok s) {n names : Int} {bytes : List Int} (hn : fits n) (hs : fits names) (hb : ∀ b ∈ bytes, fits b) : Ok (cut n names bytes s) :=
  { h with cutN := by unfold fits at hn; simp only [cut]; omega, cutNames := hs, cutBytes := hb }

theorem ok_point {s : St} (h : Ok s) {e : E} (hg : Good s.files.length (app s.names e)) (he : e.gone.length ≤ 64 ∧ e.name.length ≤ 64 ∧ (e.name ≠ [] → e.file < s.files.length)) : Ok (point s e) where
  room := h.room
  files := h.files
  good := fun k hk => by
    have hk' : k ≤ s.queue.length + 1 := by simpa [point] using hk
    by_cases h1 : k ≤ s.queue.length
    · have : pre s.lasts (s.queue ++ [e]) k = pre s.lasts s.queue k := by
        unfold pre
        rw [List.take_append_of_le_length h1]
      show Good s.files.length (pre s.lasts (s.queue ++ [e]) k)
      rw [this]
      exact h.good k h1
    · obtain rfl : k = s.queue.length + 1 := by omega
      have : pre s.lasts (s.queue ++ [e]) (s.queue.length + 1) = app s.names e := by
        rw [h.names, pre_all]
        unfold pre
        rw [List.take_of_length_le (by simp), List.foldl_append]
        rfl
      show Good s.files.length (pre s.lasts (s.queue ++ [e]) (s.queue.length + 1))
      rw [this]
      exact hg
  names := by
    show app s.names e = pre s.lasts (s.queue ++ [e]) (s.queue ++ [e]).length
    rw [pre_all, List.foldl_append, h.names, pre_all]
    rfl
  ents := fun x hx => by
    rcases List.mem_append.1 hx with hx | hx
    · exact h.ents x hx
    · rw [List.mem_singleton] at hx
      subst hx
      exact he
  cutN := h.cutN
  brk := h.brk
  cutNames := h.cutNames
  cutBytes := h.cutBytes

theorem goodName_iff (k : Bs) : goodName k = true ↔ k ≠ [] ∧ k.length ≤ 64 := by
  unfold goodName
  cases k <;> simp

theorem ok_more {s : St} (h : Ok s) (f : F) (hf : f.sync ≤ f.data.length ∧ f.data.length ≤ 1048576) : Ok { s with files := s.files ++ [f] } :=
  { h with
    files := fun x hx => by
      rcases List.mem_append.1 hx with hx | hx
      · exact h.files x hx
      · rw [List.mem_singleton] at hx; subst hx; exact hf
    good := fun k hk => (h.good k hk).mono (by simp)
    ents := fun e he => ⟨(h.ents e he).1, (h.ents e he).2.1, fun hn => by have := (h.ents e he).2.2 hn; simp; omega⟩ }

theorem ok_set {s : St} (h : Ok s) (n : Nat) (f : F) (hf : f.sync ≤ f.data.length ∧ f.data.length ≤ 1048576) : Ok { s with files := s.files.set n f } :=
  { h with
    files := fun x hx => by
      rcases List.mem_or_eq_of_mem_set hx with hx | hx
      · exact h.files x hx
      · subst hx; exact hf
    good := fun k hk => by have := h.good k hk; simpa using this
    ents := fun e he => by have := h.ents e he; simpa using this }

theorem ok_create {s : St} (h : Ok s) {k : Bs} (hk : goodName k = true) (_ : find s.names k = none) (hl : s.names.length < 4096) : Ok (doCreate k s) := by
  obtain ⟨h1, h2⟩ := (goodName_iff k).1 hk
  refine ok_point (ok_more h ⟨[], 0⟩ (by simp)) ?_ ⟨by simp, h2, fun _ => by simp⟩
  have g := h.gnames
  have e1 : del s.names [] = s.names := del_of_none (fun p hp => (g.key p hp).1)
  show Good _ (app s.names ⟨[], k, s.files.length⟩)
  unfold app
  rw [if_neg h1]
  simp only
  rw [e1]
  refine (g.mono (by simp)).put ⟨h1, h2⟩ (by simp) (fun p hp _ => Nat.ne_of_lt (g.file p hp)) ?_
  have := length_del (l := s.names) k
  omega

theorem ok_append {s : St} (h : Ok s) {n : Nat} {data : Bs} (hn : n < s.files.length) (hl : lens s.files n + data.length ≤ 1048576) : Ok (doAppend n data s) := by
  have := h.files _ (fileAt_mem hn)
  refine ok_set h n _ ?_
  simp only [List.length_append]
  unfold lens at hl
  unfold fileAt at this ⊢
  omega

theorem ok_sync {s : St} (h : Ok s) {n : Nat} (hn : n < s.files.length) : Ok (doSync n s) := by
  have := h.files _ (fileAt_mem hn)
  exact ok_set h n _ ⟨Nat.le_refl _, this.2⟩

theorem ok_syncDir {s : St} (h : Ok s) : Ok (doSyncDir s) :=
  { h with
    good := fun k _ => by
      have e : pre (doSyncDir s).lasts (doSyncDir s).queue k = pre s.lasts s.queue s.queue.length := by simp [doSyncDir, pre]
      rw [e]
      exact h.good _ (Nat.le_refl _)
    names := by simp [doSyncDir, pre, h.names]
    ents := by simp [doSyncDir] }

/-! ### names as a map's datum -/
def D (blk : Nat → Nat) (l : Nm) : DataW Unit := .map (l.map fun p => (.string p.1, .lit (.int .i64 (blk p.2))))

theorem D_congr {blk blk' : Nat → Nat} {l : Nm} (h : ∀ p ∈ l, blk p.2 = blk' p.2) : D blk l = D blk' l := by
  unfold D
  congr 1
  exact List.map_congr_left fun p hp => by rw [h p hp]

theorem filter_notKey (blk : Nat → Nat) (l : Nm) (k : Bs) : (l.map fun p => (Lit.string p.1, (DataW.lit (.int .i64 (blk p.2)) : DataW Unit))).filter (ChangeMaps.notKey (.string k)) = (del l k).map fun p => (Lit.string p.1, .lit (.int .i64 (blk p.2))) := by
  induction l with
  | nil => rfl
  | cons p r ih =>
    rw [List.map_cons, List.filter_cons, ih]
    unfold del
    rw [List.filter_cons]
    have : ChangeMaps.notKey (H := Unit) (.string k) (Lit.string p.1, .lit (.int .i64 (blk p.2))) = !(p.1 == k) := rfl
    rw [this]
    split <;> simp

theorem insert_ins (blk : Nat → Nat) (x : Bs × Nat) : ∀ l : Nm, DataW.insert (Lit.string x.1, (DataW.lit (.int .i64 (blk x.2)) : DataW Unit)) (l.map fun p => (Lit.string p.1, .lit (.int .i64 (blk p.2)))) = (ins x l).map fun p => (Lit.string p.1, .lit (.int .i64 (blk p.2)))
  | [] => rfl
  | y :: r => by
    rw [List.map_cons]
    unfold DataW.insert ins
    have : (Lit.string x.1).before (Lit.string y.1) = bytesBefore x.1 y.1 := rfl
    simp only [this]
    split
    · simp
    · rw [insert_ins blk x r]
      simp

theorem D_put (blk : Nat → Nat) (l : Nm) (k : Bs) (n : Nat) : (D blk l).put (.string k) (.lit (.int .i64 (blk n))) = D blk (put l k n) := by
  unfold D
  rw [DataW.put_eq]
  unfold ChangeMaps.putKey put
  rw [filter_notKey, insert_ins blk (k, n)]

theorem D_del (blk : Nat → Nat) (l : Nm) (k : Bs) : (D blk l).del (.string k) = D blk (del l k) := by
  unfold D
  rw [DataW.del_eq]
  unfold ChangeMaps.delKey
  rw [filter_notKey]

theorem D_at (blk : Nat → Nat) (l : Nm) (k : Bs) (z : DataW Unit) : (D blk l).atKey (.string k) z = match find l k with | some n => .lit (.int .i64 (blk n)) | none => z := by
  unfold D DataW.atKey find
  simp only
  rw [List.find?_map]
  have : ((fun p : Lit × DataW Unit => p.1.sameKey (.string k)) ∘ fun p : Bs × Nat => (Lit.string p.1, (DataW.lit (.int .i64 (blk p.2)) : DataW Unit))) = fun p => p.1 == k := by
    funext p
    rfl
  rw [this]
  cases l.find? (fun p => p.1 == k) <;> rfl

theorem D_size (blk : Nat → Nat) (l : Nm) : Maps.size (D blk l) = l.length := by simp [D, Maps.size]

theorem D_has (blk : Nat → Nat) (l : Nm) (k : Bs) : Maps.has (D blk l) (.string k) = (find l k).isSome := by
  unfold D
  rw [Maps.has_eq]
  unfold find
  rw [List.any_map]
  have : ((fun p : Lit × DataW Unit => p.1.sameKey (.string k)) ∘ fun p : Bs × Nat => (Lit.string p.1, (DataW.lit (.int .i64 (blk p.2)) : DataW Unit))) = fun p => p.1 == k := by
    funext p
    rfl
  rw [this, Option.isSome_map]
  cases h : l.find? (fun p => p.1 == k) with
  | none =>
    rw [List.find?_eq_none] at h
    simp only [Option.isSome_none, List.any_eq_false]
    intro p hp; simpa using h p hp
  | some p =>
    simp only [Option.isSome_some, List.any_eq_true]
    exact ⟨p, List.mem_of_find?_eq_some h, by have := List.find?_some h; simpa using this⟩

end DM
end Go.Proofs.YtjkofciohehgfaaGreatDoor.L8


/- A loss of power, file by file. No function of the program. -/
namespace Go.Proofs.YtjkofciohehgfaaGreatDoor.L8
namespace DM

def isDone (names : Nm) (left : Bs → Bool) (i : Nat) : Bool := names.any (fun p => p.2 == i && !left p.1)
def fsL (bytes : List Int) (names : Nm) (left : Bs → Bool) (fs : List F) : List F := fs.mapIdx (fun i f => if isDone names left i then loseF bytes i f else f)
def lostFs (bytes : List Int) (fs : List F) : List F := fs.mapIdx (loseF bytes)
def usedL (fs : List F) (names : Nm) (left : Bs → Bool) : Nat := (names.map (fun p => if left p.1 then 0 else lens fs p.2)).sum

/-- a loss of power, but for what is set -/
def loseS (s : St) (names : Int) (bytes : List Int) : St :=
  { s with files := lostFs bytes s.files, names := pre s.lasts s.queue (rest names (s.queue.length + 1)), lasts := pre s.lasts s.queue (rest names (s.queue.length + 1)), queue := [] }

theorem fsL_length (bytes : List Int) (names : Nm) (left : Bs → Bool) (fs : List F) : (fsL bytes names left fs).length = fs.length := by simp [fsL]
theorem isDone_iff {names : Nm} {left : Bs → Bool} {i : Nat} : isDone names left i = true ↔ ∃ p ∈ names, p.2 = i ∧ left p.1 = false := by
  unfold isDone
  rw [List.any_eq_true]
  constructor
  · rintro ⟨p, hp, h⟩
    simp at h
    exact ⟨p, hp, h.1, h.2⟩
  · rintro ⟨p, hp, h1, h2⟩
    exact ⟨p, hp, by simp [h1, h2]⟩

theorem fsL_start (bytes : List Int) {names : Nm} {left : Bs → Bool} (fs : List F) (h : ∀ p ∈ names, left p.1 = true) : fsL bytes names left fs = fs := by
  have hd : ∀ i, isDone names left i = false := fun i => by
    cases hh : isDone names left i with
    | false => rfl
    | true =>
      obtain ⟨p, hp, _, h2⟩ := isDone_iff.1 hh
      rw [h p hp] at h2
      cases h2
  unfold fsL
  apply List.ext_getElem
  · simp
  · intro i h1 h2
    simp [hd]

theorem usedL_start {left : Bs → Bool} (fs : List F) : ∀ {names : Nm}, (∀ p ∈ names, left p.1 = true) → usedL fs names left = 0
  | [], _ => rfl
  | p :: r, h => by
    have h1 := usedL_start fs (fun q hq => h q (List.mem_cons_of_mem _ hq))
    unfold usedL at h1 ⊢
    rw [List.map_cons, List.sum_cons, h1, h p (List.mem_cons_self ..)]
    rfl

theorem getD_mapIdx (g : Nat → F → F) (fs : List F) (i : Nat) (h : i < fs.length) : (fs.mapIdx g).getD i ⟨[], 0⟩ = g i (fs.getD i ⟨[], 0⟩) := by
  rw [List.getD_eq_getElem?_getD, List.getD_eq_getElem?_getD, List.getElem?_mapIdx, List.getElem?_eq_getElem h]
  rfl

def strike (left : Bs → Bool) (x : Bs) : Bs → Bool := fun k => left k && !(k == x)

theorem done_strike {n : Nat} {names : Nm} (hg : Good n names) {left : Bs → Bool} {x : Bs} {m : Nat} (hm : (x, m) ∈ names) (i : Nat) : isDone names (strike left x) i = (isDone names left i || i == m) := by
  rw [Bool.eq_iff_iff]
  simp only [Bool.or_eq_true, beq_iff_eq, isDone_iff]
  constructor
  · rintro ⟨p, hp, h1, h2⟩
    unfold strike at h2
    simp at h2
    by_cases hl : left p.1 = true
    · right
      have : p = (x, m) := by
        have hx : p.1 = x := h2 hl
        have h3 := find_of_mem hg.sorted (k := p.1) (n := p.2) hp
        have h4 := find_of_mem hg.sorted hm
        rw [hx, h4] at h3
        have h5 : m = p.2 := Option.some.inj h3
        exact Prod.ext hx h5.symm
      rw [← h1, this]
    · left
      exact ⟨p, hp, h1, by simpa using hl⟩
  · rintro (⟨p, hp, h1, h2⟩ | h)
    · exact ⟨p, hp, h1, by unfold strike; simp [h2]⟩
    · exact ⟨(x, m), hm, h.symm, by unfold strike; simp⟩

theorem fsL_step (bytes : List Int) {n : Nat} {names : Nm} (hg : Good n names) {left : Bs → Bool} {x : Bs} {m : Nat} (hm : (x, m) ∈ names) (hl : left x = true) (fs : List F) (hlt : m < fs.length) :
    fsL bytes names (strike left x) fs = (fsL bytes names left fs).set m (loseF bytes m (fs.getD m ⟨[], 0⟩)) ∧ (fsL bytes names left fs).getD m ⟨[], 0⟩ = fs.getD m ⟨[], 0⟩ := by
  have hnd : isDone names left m = false := by
    cases hh : isDone names left m with
    | false => rfl
    | true =>
      obtain ⟨p, hp, h1, h2⟩ := isDone_iff.1 hh
      have := hg.one p hp _ hm h1
      rw [this] at h2
      simp only at h2
      rw [hl] at h2
      cases h2
  constructor
  · apply List.ext_getElem
    · simp [fsL]
    · intro i h1 h2
      have hi : i < fs.length := by simpa [fsL] using h1
      simp only [fsL, List.getElem_mapIdx, List.getElem_set, done_strike hg hm]
      by_cases him : i = m
      · subst him
        simp [List.getD_eq_getElem?_getD, List.getElem?_eq_getElem hi]
      · have : (i == m) = false := by simpa using him
        rw [this, Bool.or_false, if_neg (Ne.symm him)]
  · unfold fsL
    rw [getD_mapIdx _ _ _ hlt, hnd]
    rfl

theorem usedL_step {n : Nat} (fs : List F) {left : Bs → Bool} {x : Bs} {m : Nat} (hl : left x = true) : ∀ {names : Nm}, Good n names → (x, m) ∈ names → usedL fs names (strike left x) = usedL fs names left + lens fs m
  | [], _, h => by cases h
  | p :: r, hg, h => by
    obtain ⟨h1, h2⟩ := List.pairwise_cons.1 hg.sorted
    have hgr : Good n r := ⟨h2, fun q hq => hg.key q (List.mem_cons_of_mem _ hq), fun q hq => hg.file q (List.mem_cons_of_mem _ hq), fun a ha b hb => hg.one a (List.mem_cons_of_mem _ ha) b (List.mem_cons_of_mem _ hb), by have := hg.few; simp at this; omega⟩
    have e1 : ∀ l : Bs → Bool, usedL fs (p :: r) l = (if l p.1 then 0 else lens fs p.2) + usedL fs r l := fun l => by unfold usedL; rw [List.map_cons, List.sum_cons]
    rw [e1, e1]
    rcases List.mem_cons.1 h with e | e
    · subst e
      have hs : strike left x x = false := by unfold strike; simp
      have hr : usedL fs r (strike left x) = usedL fs r left := by
        unfold usedL
        congr 1
        refine List.map_congr_left fun q hq => ?_
        have hne : q.1 ≠ x := fun e => before_ne (h1 q hq) e.symm
        have : strike left x q.1 = left q.1 := by unfold strike; simp [hne]
        rw [this]
      simp only [hs, hl, hr]
      simp
      omega
    · have hne : p.1 ≠ x := fun e2 => before_ne (h1 _ e) e2
      have hp : strike left x p.1 = left p.1 := by unfold strike; simp [hne]
      rw [hp, usedL_step fs hl hgr e]
      omega

theorem usedL_end (fs : List F) {names : Nm} {left : Bs → Bool} (h : ∀ k, left k = false) : usedL fs names left = used fs names := by
  unfold usedL used
  congr 1
  refine List.map_congr_left fun p _ => ?_
  rw [h]
  rfl

theorem fsL_end (bytes : List Int) {names : Nm} {left : Bs → Bool} (h : ∀ k, left k = false) (fs : List F) {p : Bs × Nat} (hp : p ∈ names) (hlt : p.2 < fs.length) : (fsL bytes names left fs).getD p.2 ⟨[], 0⟩ = (lostFs bytes fs).getD p.2 ⟨[], 0⟩ := by
  have hd : isDone names left p.2 = true := isDone_iff.2 ⟨p, hp, rfl, h _⟩
  unfold fsL lostFs
  rw [getD_mapIdx _ _ _ hlt, getD_mapIdx _ _ _ hlt, hd]
  rfl

theorem usedL_le {fs : List F} {names : Nm} {left : Bs → Bool} {M : Nat} (h : ∀ n, lens fs n ≤ M) : usedL fs names left ≤ names.length * M := by
  induction names with
  | nil => simp [usedL]
  | cons p r ih =>
    have e1 : usedL fs (p :: r) left = (if left p.1 then 0 else lens fs p.2) + usedL fs r left := by unfold usedL; rw [List.map_cons, List.sum_cons]
    rw [e1, List.length_cons, Nat.succ_mul]
    have := h p.2
    split <;> omega

theorem ok_loseS {s : St} (h : Ok s) (names : Int) (bytes : List Int) : Ok (loseS s names bytes) :=
  { ok_fail h names bytes with cutN := h.cutN, brk := h.brk, cutNames := h.cutNames, cutBytes := h.cutBytes }
end DM
end Go.Proofs.YtjkofciohehgfaaGreatDoor.L8


/- What stays true over whole calls. No function of the program. -/
namespace Go.Proofs.YtjkofciohehgfaaGreatDoor.L8
namespace DM

/-- no more than so many in the queue, files, numbers of a cut -/
structure Lim (N M : Nat) (s : St) : Prop where
  queue : s.queue.length ≤ N
  files : s.files.length ≤ N
  cut : s.cutBytes.length ≤ M

theorem Lim.mono {N N' M : Nat} {s : St} (h : Lim N M s) (hN : N ≤ N') : Lim N' M s := ⟨Nat.le_trans h.queue hN, Nat.le_trans h.files hN, h.cut⟩

theorem lim_fail {N M : Nat} {s : St} (h : Lim N M s) (n : Int) (l : List Int) : Lim N M (fail s n l) := ⟨by simp [fail], by have := h.files; simp [fail]; omega, by simp [fail]⟩
theorem lim_counted {N M : Nat} {s : St} (h : Lim N M s) : Lim N M (counted s) := ⟨h.queue, h.files, h.cut⟩

theorem ok_change {s : St} (h : Ok s) (ahead : Bool) (go : St → St) (hg : Ok (go (counted s))) : Ok (change ahead go s).2 := by
  unfold change
  split
  · refine ok_off (ok_fail ?_ _ _) true
    cases ahead
    · exact ok_counted h
    · exact hg
  · split
    · exact ok_counted h
    · exact hg

theorem lim_change {N M : Nat} {s : St} (h : Lim N M s) (ahead : Bool) (go : St → St) (hg : Lim (N + 1) M (go (counted s))) : Lim (N + 1) M (change ahead go s).2 := by
  unfold change
  split
  · have : Lim (N + 1) M (fail (if ahead then go (counted s) else counted s) s.cutNames s.cutBytes) := by
      refine lim_fail ?_ _ _
      cases ahead
      · exact (lim_counted h).mono (by omega)
      · exact hg
    exact ⟨this.queue, this.files, this.cut⟩
  · split
    · exact (lim_counted h).mono (by omega)
    · exact hg

theorem lim_point {N M : Nat} {s : St} (h : Lim N M s) (e : E) : Lim (N + 1) M (point s e) := ⟨by have := h.queue; simp [point]; omega, by have := h.files; simp [point]; omega, h.cut⟩

theorem create_ok {N M : Nat} {s : St} (h : Ok s) (hl : Lim N M s) (k : Bs) : Ok (create k s).2 ∧ Lim (N + 1) M (create k s).2 := by
  have h0 := hl.mono (Nat.le_succ N)
  unfold create
  split
  · exact ⟨h, h0⟩
  · split
    · exact ⟨h, h0⟩
    · rename_i hg
      split
      · exact ⟨h, h0⟩
      · rename_i hf
        split
        · exact ⟨h, h0⟩
        · rename_i hn
          have hf' : find s.names k = none := by cases hh : find s.names k with | none => rfl | some _ => rw [hh] at hf; simp at hf
          refine ⟨ok_change h _ _ (ok_create (ok_counted h) (by simpa using hg) hf' (by simp only [counted]; omega)), lim_change hl _ _ ⟨?_, ?_, hl.cut⟩⟩
          · have := hl.queue; simp [doCreate, point, counted]; omega
          · have := hl.files; simp [doCreate, point, counted]; omega

theorem append_ok {N M : Nat} {s : St} (h : Ok s) (hl : Lim N M s) (k data : Bs) : Ok (append k data s).2 ∧ Lim (N + 1) M (append k data s).2 := by
  have h0 := hl.mono (Nat.le_succ N)
  unfold append
  split
  · exact ⟨h, h0⟩
  · split
    · exact ⟨h, h0⟩
    · rename_i n hf
      split
      · exact ⟨h, h0⟩
      · rename_i hc
        have hc1 : lens s.files n + data.length ≤ 1048576 := by
          have := fun hh => hc (.inl hh)
          omega
        exact ⟨ok_change h _ _ (ok_append (ok_counted h) (h.gnames.file _ (find_some hf)) hc1), lim_change hl _ _ ⟨by have := hl.queue; simp [doAppend, counted]; omega, by have := hl.files; simp [doAppend, counted]; omega, hl.cut⟩⟩

theorem sync_ok {N M : Nat} {s : St} (h : Ok s) (hl : Lim N M s) (k : Bs) : Ok (sync k s).2 ∧ Lim (N + 1) M (sync k s).2 := by
  have h0 := hl.mono (Nat.le_succ N)
  unfold sync
  split
  · exact ⟨h, h0⟩
  · split
    · exact ⟨h, h0⟩
    · rename_i n hf
      exact ⟨ok_change h _ _ (ok_sync (ok_counted h) (h.gnames.file _ (find_some hf))), lim_change hl _ _ ⟨by have := hl.queue; simp [doSync, counted]; omega, by have := hl.files; simp [doSync, counted]; omega, hl.cut⟩⟩

theorem syncDir_ok {N M : Nat} {s : St} (h : Ok s) (hl : Lim N M s) : Ok (syncDir s).2 ∧ Lim (N + 1) M (syncDir s).2 := by
  have h0 := hl.mono (Nat.le_succ N)
  unfold syncDir
  split
  · exact ⟨h, h0⟩
  · exact ⟨ok_change h _ _ (ok_syncDir (ok_counted h)), lim_change hl _ _ ⟨by simp [doSyncDir], by have := hl.files; simp [doSyncDir, counted]; omega, hl.cut⟩⟩

theorem crash_ok {N M : Nat} {s : St} (h : Ok s) (hl : Lim N M s) (n : Int) (l : List Int) : Ok (crash n l s) ∧ Lim N M (crash n l s) :=
  ⟨ok_crash h n l, by have := lim_fail hl n l; exact ⟨this.queue, this.files, by simp [crash, on]⟩⟩

theorem lim_new (room : Int) (N M : Nat) : Lim N M (new room) := ⟨by simp [new], by simp [new], by simp [new]⟩
end DM
end Go.Proofs.YtjkofciohehgfaaGreatDoor.L8


/- A file that is renamed over another one: what a loss of power leaves. No function of the program. -/
namespace Go.Proofs.YtjkofciohehgfaaGreatDoor.L8
namespace DM

/-- a loss of power leaves a file whose bytes all last -/
theorem loseF_whole (bytes : List Int) (i : Nat) (x : Bs) : loseF bytes i ⟨x, x.length⟩ = ⟨x, x.length⟩ := by
  unfold loseF
  have : rest (bytes.getD (i % bytes.length) 0) (x.length - x.length + 1) = 0 := by
    have := rest_lt (bytes.getD (i % bytes.length) 0) (b := x.length - x.length + 1) (by omega)
    omega
  simp only [this, Nat.add_zero, List.take_length]

/-- whatever of the queue lasts, the name has a file whose bytes all last, one of those asked for -/
def Holds (k : Bs) (p : Bs → Prop) (s : St) : Prop :=
  ∀ j, j ≤ s.queue.length → ∃ m x, find (pre s.lasts s.queue j) k = some m ∧ m < s.files.length ∧ s.files.getD m ⟨[], 0⟩ = ⟨x, x.length⟩ ∧ p x

theorem rest_le (n : Int) (b : Nat) : rest n (b + 1) ≤ b := by
  have := rest_lt n (b := b + 1) (by omega)
  omega

theorem holds_read {k : Bs} {p : Bs → Prop} {s : St} (h : Holds k p s) (n : Int) (l : List Int) : ∃ x, read k (crash n l s) = (x, 0) ∧ p x := by
  obtain ⟨m, x, h1, h2, h3, h4⟩ := h (rest n (s.queue.length + 1)) (rest_le _ _)
  refine ⟨x, ?_, h4⟩
  have e1 : find (crash n l s).names k = some m := h1
  have e2 : fileAt (crash n l s) m = ⟨x, x.length⟩ := by
    unfold fileAt
    show (s.files.mapIdx (loseF l)).getD m ⟨[], 0⟩ = _
    rw [getD_mapIdx _ _ _ h2, h3]
    exact loseF_whole _ _ _
  unfold read
  rw [if_neg (by simp [crash, on]), e1]
  simp only [e2]

/-! ### the script -/
def dark (s : St) (n : Int) (l : List Int) : St := { fail s n l with off := true }

end DM
end Go.Proofs.YtjkofciohehgfaaGreatDoor.L8


