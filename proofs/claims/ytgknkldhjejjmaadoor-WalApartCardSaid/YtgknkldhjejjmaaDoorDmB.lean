/- A disk's state, its steps, and what stays true of it. No function of the program. -/
import Derived.Test.YtgknkldhjejjmaaDoorDmA
import Derived.Sort.KeysCollected
namespace Go.Proofs.YtgknkldhjejjmaaDoor
namespace DM

structure St where
  room : Int
  files : List F
  names : Nm
  lasts : Nm
  queue : List E
  off : Bool
  cutN : Nat
  cutNames : Int
  cutBytes : List Int
  brk : Nat

def rest (n : Int) (b : Nat) : Nat := (if n < 0 then -(n + 1) else n).toNat % b
def pre (l : Nm) (q : List E) (k : Nat) : Nm := (q.take k).foldl app l
def loseF (bytes : List Int) (i : Nat) (f : F) : F :=
  ⟨f.data.take (f.sync + rest (bytes.getD (i % bytes.length) 0) (f.data.length - f.sync + 1)), f.sync + rest (bytes.getD (i % bytes.length) 0) (f.data.length - f.sync + 1)⟩
def fail (s : St) (names : Int) (bytes : List Int) : St :=
  { s with files := s.files.mapIdx (loseF bytes), names := pre s.lasts s.queue (rest names (s.queue.length + 1)), lasts := pre s.lasts s.queue (rest names (s.queue.length + 1)), queue := [], cutN := 0, cutNames := 0, cutBytes := [], brk := 0 }
def point (s : St) (e : E) : St := { s with names := app s.names e, queue := s.queue ++ [e] }
def counted (s : St) : St := { s with cutN := s.cutN - 1, brk := s.brk - 1 }
def change (ahead : Bool) (go : St → St) (s : St) : Int × St :=
  if s.cutN = 1 then (13, { fail (if ahead then go (counted s) else counted s) s.cutNames s.cutBytes with off := true })
  else if s.brk = 1 then (12, counted s) else (0, go (counted s))
def fileAt (s : St) (n : Nat) : F := s.files.getD n ⟨[], 0⟩
def doCreate (name : Bs) (s : St) : St := point { s with files := s.files ++ [⟨[], 0⟩] } ⟨[], name, s.files.length⟩
def doAppend (n : Nat) (data : Bs) (s : St) : St := { s with files := s.files.set n ⟨(fileAt s n).data ++ data, (fileAt s n).sync⟩ }
def doSync (n : Nat) (s : St) : St := { s with files := s.files.set n ⟨(fileAt s n).data, (fileAt s n).data.length⟩ }
def doSyncDir (s : St) : St := { s with lasts := pre s.lasts s.queue s.queue.length, queue := [] }
def doRename (a b : Bs) (n : Nat) (s : St) : St := if a = b then s else point s ⟨a, b, n⟩
def doRemove (a : Bs) (s : St) : St := point s ⟨a, [], 0⟩

def goodName (k : Bs) : Bool := !k.isEmpty && decide (k.length ≤ 64)

def create (name : Bs) (s : St) : Int × St :=
  if s.off then (13, s) else if !goodName name then (2, s) else if (find s.names name).isSome then (11, s) else if 4096 ≤ s.names.length then (12, s) else change true (doCreate name) s
def append (name data : Bs) (s : St) : Int × St :=
  if s.off then (13, s) else match find s.names name with
    | none => (10, s)
    | some n => if 1048576 < (lens s.files n + data.length : Int) ∨ s.room < (used s.files s.names + data.length : Int) then (12, s) else change true (doAppend n data) s
def sync (name : Bs) (s : St) : Int × St :=
  if s.off then (13, s) else match find s.names name with
    | none => (10, s)
    | some n => change false (doSync n) s
def syncDir (s : St) : Int × St := if s.off then (13, s) else change false doSyncDir s
def rename (a b : Bs) (s : St) : Int × St :=
  if s.off then (13, s) else match find s.names a with
    | none => (10, s)
    | some n => if !goodName b then (2, s) else change true (doRename a b n) s
def remove (a : Bs) (s : St) : Int × St :=
  if s.off then (13, s) else match find s.names a with
    | none => (10, s)
    | some _ => change true (doRemove a) s
def read (a : Bs) (s : St) : Bs × Int :=
  if s.off then ([], 13) else match find s.names a with
    | none => ([], 10)
    | some n => ((fileAt s n).data, 0)
def part (a : Bs) (i n : Int) (s : St) : Bs × Int :=
  if s.off then ([], 13) else match find s.names a with
    | none => ([], 10)
    | some f => if i < 0 ∨ n < 0 ∨ (lens s.files f : Int) < i ∨ (lens s.files f : Int) - i < n then ([], 2) else (((fileAt s f).data.drop i.toNat).take n.toNat, 0)
def on (s : St) : St := { s with off := false, cutN := 0, cutNames := 0, cutBytes := [], brk := 0 }
def crash (names : Int) (bytes : List Int) (s : St) : St := on (fail s names bytes)
def cut (n names : Int) (bytes : List Int) (s : St) : St := { s with cutN := (max n 1).toNat, cutNames := names, cutBytes := bytes }
def brk (n : Int) (s : St) : St := { s with brk := (max n 1).toNat }
def flip (l : Bs) (j : Nat) (b : Nat) : Bs := l.set j (l.getD j 0 ^^^ (UInt8.ofNat (2 ^ b)))
def spoil (a : Bs) (bit : Int) (s : St) : St :=
  match find s.names a with
    | none => s
    | some n => if (fileAt s n).data = [] then s else
        { s with files := s.files.set n ⟨flip (fileAt s n).data (rest bit (8 * lens s.files n) / 8) (rest bit (8 * lens s.files n) % 8), (fileAt s n).sync⟩ }
def new (room : Int) : St := ⟨max room 0, [], [], [], [], false, 0, 0, [], 0⟩

/-! ### what stays true -/
def fits (x : Int) : Prop := -9223372036854775808 ≤ x ∧ x ≤ 9223372036854775807

structure Ok (s : St) : Prop where
  room : 0 ≤ s.room ∧ s.room ≤ 9223372036854775807
  files : ∀ f ∈ s.files, f.sync ≤ f.data.length ∧ f.data.length ≤ 1048576
  good : ∀ k, k ≤ s.queue.length → Good s.files.length (pre s.lasts s.queue k)
  names : s.names = pre s.lasts s.queue s.queue.length
  ents : ∀ e ∈ s.queue, e.gone.length ≤ 64 ∧ e.name.length ≤ 64 ∧ (e.name ≠ [] → e.file < s.files.length)
  cutN : s.cutN ≤ 9223372036854775807
  brk : s.brk ≤ 9223372036854775807
  cutNames : fits s.cutNames
  cutBytes : ∀ b ∈ s.cutBytes, fits b

theorem Ok.gnames {s : St} (h : Ok s) : Good s.files.length s.names := by rw [h.names]; exact h.good _ (Nat.le_refl _)
theorem Ok.glasts {s : St} (h : Ok s) : Good s.files.length s.lasts := h.good 0 (Nat.zero_le _)

theorem fileAt_mem {s : St} {n : Nat} (h : n < s.files.length) : fileAt s n ∈ s.files := by
  unfold fileAt
  rw [List.getD_eq_getElem?_getD, List.getElem?_eq_getElem h]
  exact List.getElem_mem h

theorem Ok.lens_le {s : St} (h : Ok s) (n : Nat) : lens s.files n ≤ 1048576 := by
  by_cases hn : n < s.files.length
  · exact (h.files _ (fileAt_mem hn)).2
  · unfold lens
    rw [List.getD_eq_getElem?_getD, List.getElem?_eq_none (by omega)]
    simp

theorem Ok.used_le {s : St} (h : Ok s) : used s.files s.names ≤ 4294967296 := by
  have h1 := DM.used_le (l := s.names) h.lens_le
  have h2 := h.gnames.few
  have h3 : s.names.length * 1048576 ≤ 4096 * 1048576 := Nat.mul_le_mul_right _ h2
  omega

theorem pre_all (l : Nm) (q : List E) : pre l q q.length = q.foldl app l := by unfold pre; rw [List.take_length]
theorem pre_succ (l : Nm) (q : List E) (k : Nat) (h : k < q.length) : pre l q (k + 1) = app (pre l q k) q[k] := by
  unfold pre
  rw [List.take_succ_eq_append_getElem h, List.foldl_append]
  rfl

theorem ok_new (room : Int) (h : fits room) : Ok (new room) where
  room := by unfold fits at h; simp only [new]; omega
  files := by simp [new]
  good := fun k _ => by simp [new, pre]; exact good_nil _
  names := by simp [new, pre]
  ents := by simp [new]
  cutN := by simp [new]
  brk := by simp [new]
  cutNames := by simp [new, fits]
  cutBytes := by simp [new]

theorem ok_on {s : St} (h : Ok s) : Ok (on s) :=
  { h with cutN := by simp [on], brk := by simp [on], cutNames := by simp [on, fits], cutBytes := by simp [on] }

theorem ok_counted {s : St} (h : Ok s) : Ok (counted s) :=
  { h with cutN := by have := h.cutN; simp only [counted]; omega, brk := by have := h.brk; simp only [counted]; omega }

theorem rest_lt (n : Int) {b : Nat} (h : 0 < b) : rest n b < b := Nat.mod_lt _ h

theorem loseF_ok (bytes : List Int) (i : Nat) {f : F} (h : f.sync ≤ f.data.length ∧ f.data.length ≤ 1048576) :
    (loseF bytes i f).sync = (loseF bytes i f).data.length ∧ (loseF bytes i f).data.length ≤ 1048576 := by
  have := rest_lt (bytes.getD (i % bytes.length) 0) (b := f.data.length - f.sync + 1) (by omega)
  unfold loseF
  simp only [List.length_take]
  omega

theorem mem_mapIdx {α β : Type} {f : Nat → α → β} {l : List α} {y : β} (h : y ∈ l.mapIdx f) : ∃ i x, x ∈ l ∧ y = f i x := by
  rw [List.mem_mapIdx] at h
  obtain ⟨i, hi, rfl⟩ := h
  exact ⟨i, l[i], List.getElem_mem hi, rfl⟩

theorem ok_fail {s : St} (h : Ok s) (names : Int) (bytes : List Int) : Ok (fail s names bytes) where
  room := h.room
  files := fun f hf => by
    obtain ⟨i, x, hx, rfl⟩ := mem_mapIdx hf
    have := loseF_ok bytes i (h.files x hx)
    omega
  good := fun k _ => by
    have := rest_lt names (b := s.queue.length + 1) (by omega)
    have h1 := h.good (rest names (s.queue.length + 1)) (by omega)
    have e : pre (fail s names bytes).lasts (fail s names bytes).queue k = pre s.lasts s.queue (rest names (s.queue.length + 1)) := by simp [fail, pre]
    have e2 : (fail s names bytes).files.length = s.files.length := by simp [fail]
    rw [e, e2]
    exact h1
  names := by simp [fail, pre]
  ents := by simp [fail]
  cutN := by simp [fail]
  brk := by simp [fail]
  cutNames := by simp [fail, fits]
  cutBytes := by simp [fail]

theorem ok_off {s : St} (h : Ok s) (b : Bool) : Ok { s with off := b } := { h with }

theorem ok_crash {s : St} (h : Ok s) (names : Int) (bytes : List Int) : Ok (crash names bytes s) := ok_on (ok_fail h names bytes)

theorem ok_cut {s : St} (h : Ok s) {n names : Int} {bytes : List Int} (hn : fits n) (hs : fits names) (hb : ∀ b ∈ bytes, fits b) : Ok (cut n names bytes s) :=
  { h with cutN := by unfold fits at hn; simp only [cut]; omega, cutNames := hs, cutBytes := hb }

theorem ok_brk {s : St} (h : Ok s) {n : Int} (hn : fits n) : Ok (DM.brk n s) :=
  { h with brk := by unfold fits at hn; simp only [DM.brk]; omega }

theorem ok_point {s : St} (h : Ok s) {e : E} (hg : Good s.files.length (app s.names e)) (he : e.gone.length ≤ 64 ∧ e.name.length ≤ 64 ∧ (e.name ≠ [] → e.file < s.files.length)) : Ok (point s e) where
  room := h.room
  files := h.files
  good := fun k hk => by
    have hk' : k ≤ s.queue.length + 1 := by simpa [point] using hk
    by_cases h1 : k ≤ s.queue.length
    · have : pre s.lasts (s.queue ++ [e]) k = pre s.lasts s.queue k := by
        unfold pre
        rw [List.take_append_of_le_length h1]
      show Good s.files.length (pre s.lasts (s.queue ++ [e]) k)
      rw [this]
      exact h.good k h1
    · obtain rfl : k = s.queue.length + 1 := by omega
      have : pre s.lasts (s.queue ++ [e]) (s.queue.length + 1) = app s.names e := by
        rw [h.names, pre_all]
        unfold pre
        rw [List.take_of_length_le (by simp), List.foldl_append]
        rfl
      show Good s.files.length (pre s.lasts (s.queue ++ [e]) (s.queue.length + 1))
      rw [this]
      exact hg
  names := by
    show app s.names e = pre s.lasts (s.queue ++ [e]) (s.queue ++ [e]).length
    rw [pre_all, List.foldl_append, h.names, pre_all]
    rfl
  ents := fun x hx => by
    rcases List.mem_append.1 hx with hx | hx
    · exact h.ents x hx
    · rw [List.mem_singleton] at hx
      subst hx
      exact he
  cutN := h.cutN
  brk := h.brk
  cutNames := h.cutNames
  cutBytes := h.cutBytes

theorem goodName_iff (k : Bs) : goodName k = true ↔ k ≠ [] ∧ k.length ≤ 64 := by
  unfold goodName
  cases k <;> simp

theorem ok_more {s : St} (h : Ok s) (f : F) (hf : f.sync ≤ f.data.length ∧ f.data.length ≤ 1048576) : Ok { s with files := s.files ++ [f] } :=
  { h with
    files := fun x hx => by
      rcases List.mem_append.1 hx with hx | hx
      · exact h.files x hx
      · rw [List.mem_singleton] at hx; subst hx; exact hf
    good := fun k hk => (h.good k hk).mono (by simp)
    ents := fun e he => ⟨(h.ents e he).1, (h.ents e he).2.1, fun hn => by have := (h.ents e he).2.2 hn; simp; omega⟩ }

theorem ok_set {s : St} (h : Ok s) (n : Nat) (f : F) (hf : f.sync ≤ f.data.length ∧ f.data.length ≤ 1048576) : Ok { s with files := s.files.set n f } :=
  { h with
    files := fun x hx => by
      rcases List.mem_or_eq_of_mem_set hx with hx | hx
      · exact h.files x hx
      · subst hx; exact hf
    good := fun k hk => by have := h.good k hk; simpa using this
    ents := fun e he => by have := h.ents e he; simpa using this }

theorem ok_create {s : St} (h : Ok s) {k : Bs} (hk : goodName k = true) (_ : find s.names k = none) (hl : s.names.length < 4096) : Ok (doCreate k s) := by
  obtain ⟨h1, h2⟩ := (goodName_iff k).1 hk
  refine ok_point (ok_more h ⟨[], 0⟩ (by simp)) ?_ ⟨by simp, h2, fun _ => by simp⟩
  have g := h.gnames
  have e1 : del s.names [] = s.names := del_of_none (fun p hp => (g.key p hp).1)
  show Good _ (app s.names ⟨[], k, s.files.length⟩)
  unfold app
  rw [if_neg h1]
  simp only
  rw [e1]
  refine (g.mono (by simp)).put ⟨h1, h2⟩ (by simp) (fun p hp _ => Nat.ne_of_lt (g.file p hp)) ?_
  have := length_del (l := s.names) k
  omega

theorem ok_rename {s : St} (h : Ok s) {a b : Bs} {n : Nat} (ha : find s.names a = some n) (hb : goodName b = true) : Ok (doRename a b n s) := by
  unfold doRename
  split
  · exact h
  · rename_i hab
    obtain ⟨h1, h2⟩ := (goodName_iff b).1 hb
    have g := h.gnames
    have hm := find_some ha
    refine ok_point h ?_ ⟨(g.key _ hm).2, h2, fun _ => g.file _ hm⟩
    unfold app
    rw [if_neg h1]
    simp only
    refine (g.del a).put ⟨h1, h2⟩ (g.file _ hm) (fun p hp _ he => ?_) ?_
    · have hp' := mem_del.1 hp
      exact hp'.2 (by rw [g.one p hp'.1 _ hm he])
    · have l1 := length_del_some (k := a) hm rfl
      have l2 := length_del (l := del s.names a) b
      have := g.few
      omega

theorem ok_remove {s : St} (h : Ok s) {a : Bs} {n : Nat} (ha : find s.names a = some n) : Ok (doRemove a s) := by
  refine ok_point h ?_ ⟨(h.gnames.key _ (find_some ha)).2, by simp, fun hn => absurd rfl hn⟩
  unfold app
  rw [if_pos rfl]
  exact h.gnames.del a

theorem ok_append {s : St} (h : Ok s) {n : Nat} {data : Bs} (hn : n < s.files.length) (hl : lens s.files n + data.length ≤ 1048576) : Ok (doAppend n data s) := by
  have := h.files _ (fileAt_mem hn)
  refine ok_set h n _ ?_
  simp only [List.length_append]
  unfold lens at hl
  unfold fileAt at this ⊢
  omega

theorem ok_sync {s : St} (h : Ok s) {n : Nat} (hn : n < s.files.length) : Ok (doSync n s) := by
  have := h.files _ (fileAt_mem hn)
  exact ok_set h n _ ⟨Nat.le_refl _, this.2⟩

theorem ok_syncDir {s : St} (h : Ok s) : Ok (doSyncDir s) :=
  { h with
    good := fun k _ => by
      have e : pre (doSyncDir s).lasts (doSyncDir s).queue k = pre s.lasts s.queue s.queue.length := by simp [doSyncDir, pre]
      rw [e]
      exact h.good _ (Nat.le_refl _)
    names := by simp [doSyncDir, pre, h.names]
    ents := by simp [doSyncDir] }

theorem flip_length (l : Bs) (j b : Nat) : (flip l j b).length = l.length := by simp [flip]

theorem ok_spoil {s : St} (h : Ok s) (a : Bs) (bit : Int) : Ok (spoil a bit s) := by
  unfold spoil
  split
  · exact h
  · rename_i n hn
    split
    · exact h
    · have hm := h.gnames.file _ (find_some hn)
      have := h.files _ (fileAt_mem hm)
      refine ok_set h n _ ?_
      rw [flip_length]
      exact this

/-! ### names as a map's datum -/
def D (blk : Nat → Nat) (l : Nm) : DataW Unit := .map (l.map fun p => (.string p.1, .lit (.int .i64 (blk p.2))))

theorem D_nil (blk : Nat → Nat) : D blk [] = .map [] := rfl

theorem D_congr {blk blk' : Nat → Nat} {l : Nm} (h : ∀ p ∈ l, blk p.2 = blk' p.2) : D blk l = D blk' l := by
  unfold D
  congr 1
  exact List.map_congr_left fun p hp => by rw [h p hp]

theorem filter_notKey (blk : Nat → Nat) (l : Nm) (k : Bs) : (l.map fun p => (Lit.string p.1, (DataW.lit (.int .i64 (blk p.2)) : DataW Unit))).filter (ChangeMaps.notKey (.string k)) = (del l k).map fun p => (Lit.string p.1, .lit (.int .i64 (blk p.2))) := by
  induction l with
  | nil => rfl
  | cons p r ih =>
    rw [List.map_cons, List.filter_cons, ih]
    unfold del
    rw [List.filter_cons]
    have : ChangeMaps.notKey (H := Unit) (.string k) (Lit.string p.1, .lit (.int .i64 (blk p.2))) = !(p.1 == k) := rfl
    rw [this]
    split <;> simp

theorem insert_ins (blk : Nat → Nat) (x : Bs × Nat) : ∀ l : Nm, DataW.insert (Lit.string x.1, (DataW.lit (.int .i64 (blk x.2)) : DataW Unit)) (l.map fun p => (Lit.string p.1, .lit (.int .i64 (blk p.2)))) = (ins x l).map fun p => (Lit.string p.1, .lit (.int .i64 (blk p.2)))
  | [] => rfl
  | y :: r => by
    rw [List.map_cons]
    unfold DataW.insert ins
    have : (Lit.string x.1).before (Lit.string y.1) = bytesBefore x.1 y.1 := rfl
    simp only [this]
    split
    · simp
    · rw [insert_ins blk x r]
      simp

theorem D_put (blk : Nat → Nat) (l : Nm) (k : Bs) (n : Nat) : (D blk l).put (.string k) (.lit (.int .i64 (blk n))) = D blk (put l k n) := by
  unfold D
  rw [DataW.put_eq]
  unfold ChangeMaps.putKey put
  rw [filter_notKey, insert_ins blk (k, n)]

theorem D_del (blk : Nat → Nat) (l : Nm) (k : Bs) : (D blk l).del (.string k) = D blk (del l k) := by
  unfold D
  rw [DataW.del_eq]
  unfold ChangeMaps.delKey
  rw [filter_notKey]

theorem D_at (blk : Nat → Nat) (l : Nm) (k : Bs) (z : DataW Unit) : (D blk l).atKey (.string k) z = match find l k with | some n => .lit (.int .i64 (blk n)) | none => z := by
  unfold D DataW.atKey find
  simp only
  rw [List.find?_map]
  have : ((fun p : Lit × DataW Unit => p.1.sameKey (.string k)) ∘ fun p : Bs × Nat => (Lit.string p.1, (DataW.lit (.int .i64 (blk p.2)) : DataW Unit))) = fun p => p.1 == k := by
    funext p
    rfl
  rw [this]
  cases l.find? (fun p => p.1 == k) <;> rfl

theorem D_size (blk : Nat → Nat) (l : Nm) : Maps.size (D blk l) = l.length := by simp [D, Maps.size]

theorem D_keys (blk : Nat → Nat) (l : Nm) : strKeys (D blk l) = l.map (·.1) := by simp [D, strKeys, strOf]

theorem D_has (blk : Nat → Nat) (l : Nm) (k : Bs) : Maps.has (D blk l) (.string k) = (find l k).isSome := by
  unfold D
  rw [Maps.has_eq]
  unfold find
  rw [List.any_map]
  have : ((fun p : Lit × DataW Unit => p.1.sameKey (.string k)) ∘ fun p : Bs × Nat => (Lit.string p.1, (DataW.lit (.int .i64 (blk p.2)) : DataW Unit))) = fun p => p.1 == k := by
    funext p
    rfl
  rw [this, Option.isSome_map]
  cases h : l.find? (fun p => p.1 == k) with
  | none =>
    rw [List.find?_eq_none] at h
    simp only [Option.isSome_none, List.any_eq_false]
    intro p hp; simpa using h p hp
  | some p =>
    simp only [Option.isSome_some, List.any_eq_true]
    exact ⟨p, List.mem_of_find?_eq_some h, by have := List.find?_some h; simpa using this⟩

theorem before_lt : ∀ (a b : Bs), bytesBefore a b = true → a ≤ b
  | [], _, _ => List.nil_le _
  | x :: r, [], h => by simp [bytesBefore] at h
  | x :: r, y :: t, h => by
    simp only [bytesBefore, Bool.or_eq_true, Bool.and_eq_true, decide_eq_true_eq, beq_iff_eq] at h
    rw [List.cons_le_cons_iff]
    rcases h with h | ⟨h1, h2⟩
    · exact .inl h
    · exact .inr ⟨h1, before_lt r t h2⟩

/-- the keys, sorted, are as they stand -/
theorem keys_sorted {l : Nm} (h : Sorted l) : (l.map (·.1)).mergeSort leB = l.map (·.1) := by
  refine List.mergeSort_of_pairwise ?_
  rw [List.pairwise_map]
  refine h.imp fun {p q} hb => ?_
  simp only [decide_eq_true_eq]
  exact before_lt _ _ hb

end DM
end Go.Proofs.YtgknkldhjejjmaaDoor
