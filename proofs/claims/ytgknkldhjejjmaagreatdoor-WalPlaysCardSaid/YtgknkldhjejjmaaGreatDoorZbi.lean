/- Texts joined by bundle.py: RmC. -/
import Derived.Test.YtgknkldhjejjmaaGreatDoorZbd
import Derived.Test.YtgknkldhjejjmaaGreatDoorZbh
import Derived.Test.YtgknkldhjejjmaaGreatDoorZar


/- The reference beside a disk: what both answer is the same. Plain mathematics. No function of the program. -/
namespace Go.Proofs.YtgknkldhjejjmaaGreatDoor
namespace DM

structure Same (t : RS) (s : St) : Prop where
  room : t.room = s.room
  files : t.files = s.files
  names : t.names = nm s.names
  lasts : t.lasts = nm s.lasts
  queue : t.queue = s.queue.map qd
  off : t.off = s.off
  cutN : t.cutLeft = s.cutN
  cutNames : s.cutN ≠ 0 → t.cutNames = s.cutNames
  cutBytes : s.cutN ≠ 0 → t.cutBytes = s.cutBytes
  brk : t.brk = s.brk
  dif : ∀ e ∈ s.queue, e.gone ≠ e.name ∨ e.name = []

theorem rpre_succ (l : RN) (q : List RN) (k : Nat) (h : k < q.length) : rpre l q (k + 1) = rall (rpre l q k) q[k] := by
  unfold rpre
  rw [List.take_succ_eq_append_getElem h, List.foldl_append]
  rfl

theorem rpre_same {l : Nm} {q : List E} {n : Nat} (hg : ∀ k, k ≤ q.length → Good n (pre l q k)) (hd : ∀ e ∈ q, e.gone ≠ e.name ∨ e.name = []) : ∀ k, k ≤ q.length → rpre (nm l) (q.map qd) k = nm (pre l q k)
  | 0, _ => rfl
  | k + 1, hk => by
    have hk' : k < q.length := hk
    have ih := rpre_same hg hd k (by omega)
    have g := hg k (by omega)
    rw [rpre_succ _ _ _ (by simpa using hk'), ih, pre_succ _ _ _ hk', List.getElem_map]
    exact rall_qd g.sorted (fun p hp => (g.key p hp).1) (hd _ (List.getElem_mem hk'))

section
variable {t : RS} {s : St}
theorem Same.qlen (h : Same t s) : t.queue.length = s.queue.length := by rw [h.queue, List.length_map]

theorem Same.fail (h : Same t s) (ok : Ok s) (n : Int) (l : List Int) : Same (t.fail n l) (DM.fail s n l) := by
  have hr := rest_lt n (b := s.queue.length + 1) (by omega)
  have hp := rpre_same ok.good h.dif (rest n (s.queue.length + 1)) (by omega)
  have hn : rpre t.lasts t.queue (rest n (t.queue.length + 1)) = nm (pre s.lasts s.queue (rest n (s.queue.length + 1))) := by
    rw [h.qlen, h.lasts, h.queue]; exact hp
  refine ⟨h.room, ?_, hn, hn, rfl, h.off, rfl, fun hc => absurd rfl hc, fun hc => absurd rfl hc, rfl, fun e he => by simp [DM.fail] at he⟩
  show t.files.mapIdx _ = s.files.mapIdx _
  rw [h.files]

theorem Same.setOff (h : Same t s) (b : Bool) : Same { t with off := b } { s with off := b } := ⟨h.room, h.files, h.names, h.lasts, h.queue, rfl, h.cutN, h.cutNames, h.cutBytes, h.brk, h.dif⟩
theorem Same.counted (h : Same t s) : Same t.trap.2 (DM.counted s) :=
  ⟨h.room, h.files, h.names, h.lasts, h.queue, h.off, by show t.cutLeft - 1 = s.cutN - 1; rw [h.cutN], fun hc => h.cutNames (by simp only [DM.counted] at hc; omega), fun hc => h.cutBytes (by simp only [DM.counted] at hc; omega), by show t.brk - 1 = s.brk - 1; rw [h.brk], h.dif⟩
theorem Same.setFiles (h : Same t s) {l m : List F} (hl : l = m) : Same { t with files := l } { s with files := m } := ⟨h.room, hl, h.names, h.lasts, h.queue, h.off, h.cutN, h.cutNames, h.cutBytes, h.brk, h.dif⟩

theorem Same.did (h : Same t s) {n : Nat} (g : Good n s.names) {e : E} (hd : e.gone ≠ e.name ∨ e.name = []) (hne : qd e ≠ []) : Same (t.did (qd e)) (point s e) := by
  refine ⟨h.room, h.files, ?_, h.lasts, ?_, h.off, h.cutN, h.cutNames, h.cutBytes, h.brk, ?_⟩
  · show rall t.names (qd e) = nm (app s.names e)
    rw [h.names]
    exact rall_qd g.sorted (fun p hp => (g.key p hp).1) hd
  · show (if qd e = [] then t.queue else t.queue ++ [qd e]) = (s.queue ++ [e]).map qd
    rw [if_neg hne, h.queue, List.map_append]
    rfl
  · intro x hx
    rcases List.mem_append.1 hx with hx | hx
    · exact h.dif x hx
    · rw [List.mem_singleton] at hx; subst hx; exact hd

def Agree (x : Int × RS) (y : Int × St) : Prop := x.1 = y.1 ∧ Same x.2 y.2

theorem Same.trap1 (h : Same t s) : t.trap.1 = if s.cutN = 1 then 1 else if s.brk = 1 then 2 else 0 := by
  show (if t.cutLeft = 1 then (1 : Int) else if t.brk = 1 then 2 else 0) = _
  rw [h.cutN, h.brk]

theorem Same.ahead (h : Same t s) {t2 : RS} {go : St → St} (h2 : Same t2 (go (DM.counted s))) (ok2 : Ok (go (DM.counted s))) (hn : t2.cutNames = t.cutNames) (hb : t2.cutBytes = t.cutBytes) : Agree ((if t.trap.1 = 2 then t.trap.2 else t2).finish t.trap.1) (change true go s) := by
  rw [h.trap1]
  unfold change
  by_cases hc : s.cutN = 1
  · rw [if_pos hc, if_pos hc, if_neg (by decide), if_pos rfl]
    unfold RS.finish
    rw [if_pos rfl, hn, hb, h.cutNames (by omega), h.cutBytes (by omega)]
    exact ⟨rfl, (h2.fail ok2 _ _).setOff true⟩
  · rw [if_neg hc, if_neg hc]
    by_cases hb' : s.brk = 1
    · rw [if_pos hb', if_pos hb', if_pos rfl]
      unfold RS.finish
      rw [if_neg (by decide), if_pos rfl]
      exact ⟨rfl, h.counted⟩
    · rw [if_neg hb', if_neg hb', if_neg (by decide)]
      unfold RS.finish
      rw [if_neg (by decide), if_neg (by decide)]
      exact ⟨rfl, h2⟩

theorem Same.behind (h : Same t s) (ok : Ok s) {t2 : RS} {go : St → St} (h2 : Same t2 (go (DM.counted s))) : Agree ((if t.trap.1 = 0 then t2 else t.trap.2).finish t.trap.1) (change false go s) := by
  rw [h.trap1]
  unfold change
  by_cases hc : s.cutN = 1
  · rw [if_pos hc, if_pos hc, if_neg (by decide), if_neg (by decide)]
    unfold RS.finish
    rw [if_pos rfl, show t.trap.2.cutNames = s.cutNames from h.cutNames (by omega), show t.trap.2.cutBytes = s.cutBytes from h.cutBytes (by omega)]
    exact ⟨rfl, (h.counted.fail (ok_counted ok) _ _).setOff true⟩
  · rw [if_neg hc, if_neg hc]
    by_cases hb' : s.brk = 1
    · rw [if_pos hb', if_pos hb', if_neg (by decide)]
      unfold RS.finish
      rw [if_neg (by decide), if_pos rfl]
      exact ⟨rfl, h.counted⟩
    · rw [if_neg hb', if_neg hb', if_pos rfl]
      unfold RS.finish
      rw [if_neg (by decide), if_neg (by decide)]
      exact ⟨rfl, h2⟩

theorem Same.find (h : Same t s) (k : Bs) : rfind' t.names k = match DM.find s.names k with | some n => (n : Int) | none => -1 := by
  unfold rfind'
  rw [h.names]
  exact rfind_nm s.names k
theorem Same.find_some (h : Same t s) {k : Bs} {n : Nat} (hf : DM.find s.names k = some n) : rfind' t.names k = (n : Int) := by rw [h.find, hf]
theorem Same.find_none (h : Same t s) {k : Bs} (hf : DM.find s.names k = none) : rfind' t.names k = -1 := by rw [h.find, hf]
theorem Same.nlen (h : Same t s) : t.names.length = s.names.length := by rw [h.names]; simp [nm]
theorem Same.at' (h : Same t s) (n : Nat) : t.at (n : Int) = fileAt s n := by
  unfold RS.at fileAt
  rw [h.files]
  rfl
theorem Same.used (h : Same t s) : t.used = DM.used s.files s.names := by
  unfold RS.used DM.used
  rw [h.names, h.files]
  unfold nm
  rw [List.map_map]
  rfl
theorem Same.put (h : Same t s) (n : Nat) (f : F) : Same (t.put (n : Int) f) { s with files := s.files.set n f } :=
  h.setFiles (by show t.files.set _ _ = _; rw [h.files]; rfl)

theorem qd_put {k : Bs} (hk : k ≠ []) (n : Nat) : qd ⟨[], k, n⟩ = [(k, (n : Int))] := by unfold qd; rw [if_neg hk, if_pos rfl]; rfl
theorem qd_del {a : Bs} (ha : a ≠ []) (n : Nat) : qd ⟨a, [], n⟩ = [(a, -1)] := by unfold qd; rw [if_pos rfl, if_neg ha]; rfl
theorem qd_both {a b : Bs} (ha : a ≠ []) (hb : b ≠ []) (n : Nat) : qd ⟨a, b, n⟩ = [(b, (n : Int)), (a, -1)] := by unfold qd; rw [if_neg hb, if_neg ha]; rfl

theorem goodName_not {k : Bs} (h : k ≠ [] ∧ ¬ 64 < k.length) : (!goodName k) = false := by
  have : goodName k = true := (goodName_iff k).2 ⟨h.1, by omega⟩
  rw [this]; rfl
theorem goodName_bad {k : Bs} (h : k = [] ∨ 64 < k.length) : (!goodName k) = true := by
  cases hg : goodName k
  · rfl
  · obtain ⟨h1, h2⟩ := (goodName_iff k).1 hg
    rcases h with h | h
    · exact absurd h h1
    · omega

theorem Same.create (h : Same t s) (ok : Ok s) (k : Bs) : Agree (t.create k) (DM.create k s) := by
  unfold RS.create DM.create
  by_cases ho : s.off = true
  · rw [if_pos (h.off.trans ho), if_pos ho]; exact ⟨rfl, h⟩
  rw [if_neg (fun e => ho (h.off.symm.trans e)), if_neg ho]
  by_cases hk : k = [] ∨ 64 < k.length
  · rw [if_pos hk, goodName_bad hk, if_pos rfl]; exact ⟨rfl, h⟩
  have hk' : k ≠ [] ∧ ¬ 64 < k.length := ⟨fun e => hk (Or.inl e), fun e => hk (Or.inr e)⟩
  rw [if_neg hk, goodName_not hk', if_neg Bool.false_ne_true]
  cases hf : DM.find s.names k with
  | some n =>
    rw [h.find_some hf, if_pos (by omega), Option.isSome_some, if_pos rfl]; exact ⟨rfl, h⟩
  | none =>
    rw [h.find_none hf, if_neg (show ¬ (0 : Int) ≤ -1 by decide), Option.isSome_none, if_neg Bool.false_ne_true, h.nlen]
    by_cases h4 : 4096 ≤ s.names.length
    · rw [if_pos h4, if_pos h4]; exact ⟨rfl, h⟩
    rw [if_neg h4, if_neg h4]
    by_cases hc : t.brk ≠ 1 ∨ t.cutLeft = 1
    · rw [if_pos hc]
      have h2 : t.trap.1 ≠ 2 := by
        rw [h.trap1]
        rw [h.cutN, h.brk] at hc
        by_cases h1 : s.cutN = 1
        · rw [if_pos h1]; decide
        · rw [if_neg h1, if_neg (by rcases hc with hc | hc; exact hc; exact absurd hc h1)]; decide
      have hq := qd_put hk'.1 s.files.length
      have hq' : qd ⟨[], k, s.files.length⟩ = [(k, (t.files.length : Int))] := by rw [hq, h.files]
      have hg := ok.gnames
      have hs : Same (({ t with files := t.files ++ [⟨[], 0⟩] } : RS).trap.2.did [(k, (t.files.length : Int))]) (doCreate k (DM.counted s)) := by
        have h3 := h.counted.setFiles (show t.files ++ [⟨[], 0⟩] = s.files ++ [(⟨[], 0⟩ : F)] by rw [h.files])
        have h4 := h3.did (n := s.files.length) (e := ⟨[], k, s.files.length⟩) hg (Or.inl (fun e => hk'.1 e.symm)) (by rw [hq]; simp)
        rw [hq'] at h4
        exact h4
      have ha := h.ahead hs (ok_create (ok_counted ok) ((goodName_iff k).2 ⟨hk'.1, by omega⟩) hf (by simp only [DM.counted]; omega)) rfl rfl
      rw [if_neg h2] at ha
      unfold RS.names'
      rw [if_neg (show ¬ ({ t with files := t.files ++ [⟨[], 0⟩] } : RS).trap.1 = 2 from h2)]
      exact ha
    · rw [if_neg hc]
      have hb : t.brk = 1 := by
        by_cases hb : t.brk = 1
        · exact hb
        · exact absurd (Or.inl hb) hc
      have hcc : t.cutLeft ≠ 1 := fun e => hc (Or.inr e)
      have h1 : t.trap.1 = 2 := by
        show (if t.cutLeft = 1 then (1 : Int) else if t.brk = 1 then 2 else 0) = 2
        rw [if_neg hcc, if_pos hb]
      unfold RS.names' change
      rw [h1, if_pos rfl, if_neg (by rw [← h.cutN]; exact hcc), if_pos (by rw [← h.brk]; exact hb)]
      exact ⟨rfl, h.counted⟩

theorem Same.append (h : Same t s) (ok : Ok s) (k d : Bs) : Agree (t.append k d) (DM.append k d s) := by
  unfold RS.append DM.append
  rw [h.off]
  by_cases ho : s.off = true
  · rw [if_pos ho, if_pos ho]; exact ⟨rfl, h⟩
  rw [if_neg ho, if_neg ho]
  cases hf : DM.find s.names k with
  | none => rw [h.find_none hf, if_pos (by decide)]; exact ⟨rfl, h⟩
  | some n =>
    simp only
    rw [h.find_some hf, if_neg (by omega), h.at' n, h.used, h.room]
    show Agree (if 1048576 < ((lens s.files n : Nat) + d.length : Int) ∨ s.room < (DM.used s.files s.names + d.length : Int) then _ else _) _
    by_cases hb : 1048576 < ((lens s.files n : Nat) + d.length : Int) ∨ s.room < (DM.used s.files s.names + d.length : Int)
    · rw [if_pos hb, if_pos hb]; exact ⟨rfl, h⟩
    rw [if_neg hb, if_neg hb]
    have hm := ok.gnames.file _ (DM.find_some hf)
    exact h.ahead (go := doAppend n d) (h.counted.put n _) (ok_append (ok_counted ok) hm (by show lens s.files n + d.length ≤ 1048576; omega)) rfl rfl

theorem Same.sync (h : Same t s) (ok : Ok s) (k : Bs) : Agree (t.sync k) (DM.sync k s) := by
  unfold RS.sync DM.sync
  rw [h.off]
  by_cases ho : s.off = true
  · rw [if_pos ho, if_pos ho]; exact ⟨rfl, h⟩
  rw [if_neg ho, if_neg ho]
  cases hf : DM.find s.names k with
  | none => rw [h.find_none hf, if_pos (by decide)]; exact ⟨rfl, h⟩
  | some n =>
    simp only
    rw [h.find_some hf, if_neg (by omega), h.at' n]
    exact h.behind ok (go := doSync n) (h.counted.put n _)

theorem Same.syncDir (h : Same t s) (ok : Ok s) : Agree t.syncDir (DM.syncDir s) := by
  unfold RS.syncDir DM.syncDir
  rw [h.off]
  by_cases ho : s.off = true
  · rw [if_pos ho, if_pos ho]; exact ⟨rfl, h⟩
  rw [if_neg ho, if_neg ho]
  refine h.behind ok (go := doSyncDir) ?_
  have hc := h.counted
  refine ⟨hc.room, hc.files, hc.names, ?_, rfl, hc.off, hc.cutN, hc.cutNames, hc.cutBytes, hc.brk, fun e he => by simp [doSyncDir] at he⟩
  show t.names = nm (pre s.lasts s.queue s.queue.length)
  rw [← ok.names]
  exact h.names

theorem Same.remove (h : Same t s) (ok : Ok s) (a : Bs) : Agree (t.remove a) (DM.remove a s) := by
  unfold RS.remove DM.remove
  rw [h.off]
  by_cases ho : s.off = true
  · rw [if_pos ho, if_pos ho]; exact ⟨rfl, h⟩
  rw [if_neg ho, if_neg ho]
  cases hf : DM.find s.names a with
  | none => rw [h.find_none hf, if_pos (by decide)]; exact ⟨rfl, h⟩
  | some n =>
    simp only
    rw [h.find_some hf, if_neg (by omega)]
    have ha := (ok.gnames.key _ (DM.find_some hf)).1
    have hd := h.counted.did (n := s.files.length) (e := ⟨a, [], 0⟩) ok.gnames (Or.inr rfl) (by rw [qd_del ha]; simp)
    rw [qd_del ha] at hd
    exact h.ahead (go := doRemove a) hd (ok_remove (ok_counted ok) (show DM.find (DM.counted s).names a = some n from hf)) rfl rfl

theorem Same.rename (h : Same t s) (ok : Ok s) (a b : Bs) : Agree (t.rename a b) (DM.rename a b s) := by
  unfold RS.rename DM.rename
  rw [h.off]
  by_cases ho : s.off = true
  · rw [if_pos ho, if_pos ho]; exact ⟨rfl, h⟩
  rw [if_neg ho, if_neg ho]
  cases hf : DM.find s.names a with
  | none => rw [h.find_none hf, if_pos (by decide)]; exact ⟨rfl, h⟩
  | some n =>
    simp only
    rw [h.find_some hf, if_neg (by omega)]
    by_cases hk : b = [] ∨ 64 < b.length
    · rw [if_pos hk, goodName_bad hk, if_pos rfl]; exact ⟨rfl, h⟩
    have hk' : b ≠ [] ∧ ¬ 64 < b.length := ⟨fun e => hk (Or.inl e), fun e => hk (Or.inr e)⟩
    rw [if_neg hk, goodName_not hk', if_neg Bool.false_ne_true]
    have hren := ok_rename (ok_counted ok) (show DM.find (DM.counted s).names a = some n from hf) ((goodName_iff b).2 ⟨hk'.1, by omega⟩)
    by_cases hab : a = b
    · rw [if_pos hab]
      refine h.ahead (go := doRename a b n) ?_ hren rfl rfl
      unfold doRename
      rw [if_pos hab]
      exact ⟨h.counted.room, h.counted.files, h.counted.names, h.counted.lasts, h.counted.queue, h.counted.off, h.counted.cutN, h.counted.cutNames, h.counted.cutBytes, h.counted.brk, h.counted.dif⟩
    · rw [if_neg hab]
      have ha := (ok.gnames.key _ (DM.find_some hf)).1
      have hd := h.counted.did (n := s.files.length) (e := ⟨a, b, n⟩) ok.gnames (Or.inl hab) (by rw [qd_both ha hk'.1]; simp)
      rw [qd_both ha hk'.1] at hd
      refine h.ahead (go := doRename a b n) ?_ hren rfl rfl
      unfold doRename
      rw [if_neg hab]
      exact hd

theorem Same.read (h : Same t s) (k : Bs) : t.read k = DM.read k s := by
  unfold RS.read DM.read
  rw [h.off]
  by_cases ho : s.off = true
  · rw [if_pos ho, if_pos ho]
  rw [if_neg ho, if_neg ho]
  cases hf : DM.find s.names k with
  | none => rw [h.find_none hf, if_pos (by decide)]
  | some n => rw [h.find_some hf, if_neg (by omega), h.at' n]

theorem Same.part (h : Same t s) (k : Bs) (i n : Int) : t.part k i n = DM.part k i n s := by
  unfold RS.part DM.part
  rw [h.read]
  unfold DM.read
  by_cases ho : s.off = true
  · rw [if_pos ho, if_pos ho, if_pos (by decide)]
  rw [if_neg ho, if_neg ho]
  cases hf : DM.find s.names k with
  | none => simp only; rw [if_pos (by decide)]
  | some m =>
    simp only
    rw [if_neg (by decide)]
    rfl

theorem Same.cut (h : Same t s) (n names : Int) (l : List Int) : Same (t.cut n names l) (DM.cut n names l s) := ⟨h.room, h.files, h.names, h.lasts, h.queue, h.off, rfl, fun _ => rfl, fun _ => rfl, h.brk, h.dif⟩
theorem Same.break' (h : Same t s) (n : Int) : Same (t.break' n) (DM.brk n s) := ⟨h.room, h.files, h.names, h.lasts, h.queue, h.off, h.cutN, h.cutNames, h.cutBytes, rfl, h.dif⟩
theorem Same.spoil (h : Same t s) (k : Bs) (bit : Int) : Same (t.spoil k bit) (DM.spoil k bit s) := by
  unfold RS.spoil DM.spoil
  cases hf : DM.find s.names k with
  | none => rw [h.find_none hf, if_pos (by decide)]; exact h
  | some n =>
    simp only
    rw [h.find_some hf, if_neg (by omega), h.at' n]
    by_cases hd : (fileAt s n).data = []
    · rw [if_pos hd, if_pos hd]; exact h
    · rw [if_neg hd, if_neg hd]
      exact h.put n _
end
end DM
end Go.Proofs.YtgknkldhjejjmaaGreatDoor

/- The reference's bounds, of a disk's. No function of the program. -/
namespace Go.Proofs.YtgknkldhjejjmaaGreatDoor
open Go.RowKit Go.Maps
open DM

theorem qd_len (e : E) : (qd e).length ≤ 2 := by
  unfold qd
  rw [List.length_append]
  split <;> split <;> simp

theorem nm_mem {l : Nm} {p : Bs × Int} (h : p ∈ nm l) : ∃ q ∈ l, p = (q.1, (q.2 : Int)) := by
  unfold nm at h
  obtain ⟨q, h1, h2⟩ := List.mem_map.1 h
  exact ⟨q, h1, h2.symm⟩
theorem nm_len (l : Nm) : (nm l).length = l.length := by simp [nm]

section
variable {t : RS} {s : St} {N M : Nat}
theorem DM.Same.pre (h : Same t s) (ok : Ok s) (j : Nat) (hj : j ≤ t.queue.length) : rpre t.lasts t.queue j = nm (DM.pre s.lasts s.queue j) := by
  rw [h.lasts, h.queue]
  exact rpre_same ok.good h.dif j (by rw [← h.qlen]; exact hj)

theorem DM.Same.few (h : Same t s) (ok : Ok s) (lim : Lim N M s) (hN : N < 1000000000) : RFew t where
  pre := fun j hj => by
    rw [h.pre ok j hj, nm_len]
    exact (ok.good j (by rw [← h.qlen]; exact hj)).few
  ents := fun x hx => by
    rw [h.queue] at hx
    obtain ⟨e, _, rfl⟩ := List.mem_map.1 hx
    exact qd_len e
  queue := by have := lim.queue; rw [h.qlen]; omega
  files := by have := lim.files; rw [h.files]; omega
  file := fun f hf => ok.files f (by rw [← h.files]; exact hf)
  names := by rw [h.nlen]; exact ok.gnames.few
  nfile := fun p hp => by
    rw [h.names] at hp
    obtain ⟨q, hq, rfl⟩ := nm_mem hp
    have := ok.gnames.file q hq
    rw [h.files]
    exact ⟨by simp, by simp only; omega⟩

theorem DM.Same.rcut (h : Same t s) (ok : Ok s) (lim : Lim N M s) (hM : M ≤ 140737488355328) (hc : t.trap.1 = 1) : RCut t := by
  have h1 : s.cutN = 1 := by
    rw [h.trap1] at hc
    by_cases h1 : s.cutN = 1
    · exact h1
    · rw [if_neg h1] at hc
      split at hc <;> exact absurd hc (by decide)
  refine ⟨by rw [h.cutNames (by omega)]; exact ok.cutNames, fun x hx => ok.cutBytes x (by rw [← h.cutBytes (by omega)]; exact hx), ?_⟩
  rw [h.cutBytes (by omega)]
  have := lim.cut
  omega

theorem DM.Same.bc (h : Same t s) (ok : Ok s) : t.cutLeft ≤ 9223372036854775807 := by rw [h.cutN]; exact ok.cutN
theorem DM.Same.bb (h : Same t s) (ok : Ok s) : t.brk ≤ 9223372036854775807 := by rw [h.brk]; exact ok.brk
theorem DM.Same.whole (h : Same t s) (ok : Ok s) : t.names = rpre t.lasts t.queue t.queue.length := by
  rw [h.pre ok _ (Nat.le_refl _), h.qlen, ← ok.names]
  exact h.names

/-- the names have moved -/
theorem RFew.did (f : RFew t) (hw : t.names = rpre t.lasts t.queue t.queue.length) {x : RN} (hx : x.length ≤ 2) (hq : t.queue.length + 1 < 1000000000) (hl : (rall t.names x).length ≤ 4096) (hn : ∀ p ∈ rall t.names x, 0 ≤ p.2 ∧ p.2 < t.files.length) : RFew (t.did x) := by
  by_cases h0 : x = []
  · subst h0
    have : t.did [] = t := rfl
    rw [this]
    exact f
  · have hqq : (t.did x).queue = t.queue ++ [x] := by show (if x = [] then t.queue else t.queue ++ [x]) = _; rw [if_neg h0]
    refine ⟨fun j hj => ?_, fun y hy => ?_, by rw [hqq, List.length_append]; exact hq, f.files, f.file, hl, hn⟩
    · show (rpre t.lasts (t.did x).queue j).length ≤ 4096
      rw [hqq] at hj ⊢
      by_cases h1 : j ≤ t.queue.length
      · have : rpre t.lasts (t.queue ++ [x]) j = rpre t.lasts t.queue j := by unfold rpre; rw [List.take_append_of_le_length h1]
        rw [this]
        exact f.pre j h1
      · have hj' : j = t.queue.length + 1 := by rw [List.length_append] at hj; simp at hj; omega
        subst hj'
        rw [rpre_succ _ _ _ (by rw [List.length_append]; simp)]
        have : rpre t.lasts (t.queue ++ [x]) t.queue.length = t.names := by unfold rpre; rw [List.take_append_of_le_length (Nat.le_refl _)]; exact hw.symm
        rw [this, List.getElem_append_right (Nat.le_refl _)]
        simpa using hl
    · rw [hqq] at hy
      rcases List.mem_append.1 hy with hy | hy
      · exact f.ents y hy
      · rw [List.mem_singleton] at hy; subst hy; exact hx

theorem good_of (h : Same t s) (ok : Ok s) (lim : Lim N M s) (hN : N + 1 < 1000000000) (hM : M ≤ 140737488355328) {x : RN} (hx : x.length ≤ 2) (l : Nm) (hr : rall t.names x = nm l) (hl : l.length ≤ 4096) (hn : ∀ p ∈ l, p.2 < s.files.length) : RGood t x := by
  have hf := h.few ok lim (by omega)
  refine ⟨hf, h.bc ok, h.bb ok, fun hc => ?_⟩
  have hf2 := h.counted.few (ok_counted ok) (lim_counted lim) (by omega)
  have hcut := h.rcut ok lim hM hc
  refine ⟨hf2.did (h.counted.whole (ok_counted ok)) hx ?_ (by show (rall t.names x).length ≤ 4096; rw [hr, nm_len]; exact hl) (fun p hp => ?_), ⟨hcut.names, hcut.bytes, hcut.len⟩⟩
  · have := lim.queue
    have := h.qlen
    show t.queue.length + 1 < 1000000000
    omega
  · have hp' : p ∈ nm l := by rw [← hr]; exact hp
    obtain ⟨q, hq, rfl⟩ := nm_mem hp'
    have := hn q hq
    show (0 : Int) ≤ (q.2 : Int) ∧ (q.2 : Int) < (t.files.length : Int)
    rw [h.files]
    omega

theorem good_remove (h : Same t s) (ok : Ok s) (lim : Lim N M s) (hN : N + 1 < 1000000000) (hM : M ≤ 140737488355328) (k : Bs) : RGood t [(k, -1)] := by
  refine good_of h ok lim hN hM (by simp) (DM.del s.names k) ?_ (Nat.le_trans (length_del k) ok.gnames.few) (fun p hp => ok.gnames.file p (mem_del.1 hp).1)
  rw [h.names]
  exact rwith_del _ _

theorem good_none (h : Same t s) (ok : Ok s) (lim : Lim N M s) (hN : N + 1 < 1000000000) (hM : M ≤ 140737488355328) : RGood t [] :=
  good_of h ok lim hN hM (by simp) s.names h.names ok.gnames.few ok.gnames.file

theorem len_put (l : Nm) (k : Bs) (n : Nat) : (DM.put l k n).length ≤ l.length + 1 := by
  unfold DM.put
  rw [length_ins]
  have := length_del (l := l) k
  omega

theorem good_rename (h : Same t s) (ok : Ok s) (lim : Lim N M s) (hN : N + 1 < 1000000000) (hM : M ≤ 140737488355328) (a b : Bs) : RGood t [(b, rfind' t.names a), (a, -1)] := by
  cases hf : DM.find s.names a with
  | none =>
    rw [h.find_none hf]
    refine good_of h ok lim hN hM (by simp) (DM.del (DM.del s.names b) a) ?_ (Nat.le_trans (length_del a) (Nat.le_trans (length_del b) ok.gnames.few)) (fun p hp => ok.gnames.file p (mem_del.1 (mem_del.1 hp).1).1)
    rw [h.names]
    show rwith (rwith (nm s.names) (b, -1)) (a, -1) = _
    rw [rwith_del, rwith_del]
  | some n =>
    rw [h.find_some hf]
    have hm := DM.find_some hf
    refine good_of h ok lim hN hM (by simp) (DM.del (DM.put s.names b n) a) ?_ ?_ (fun p hp => ?_)
    · rw [h.names]
      show rwith (rwith (nm s.names) (b, (n : Int))) (a, -1) = _
      rw [rwith_put, rwith_del]
    · have h1 := len_put s.names b n
      have h2 := ok.gnames.few
      by_cases hab : a = b
      · have := length_del_some (l := DM.put s.names b n) (k := a) (mem_put.2 (Or.inl rfl)) hab.symm
        omega
      · have := length_del_some (l := DM.put s.names b n) (k := a) (mem_put.2 (Or.inr ⟨hm, hab⟩)) rfl
        omega
    · rcases mem_put.1 (mem_del.1 hp).1 with rfl | ⟨hp, _⟩
      · have := ok.gnames.file _ hm
        exact this
      · exact ok.gnames.file p hp

theorem good_create (h : Same t s) (ok : Ok s) (lim : Lim N M s) (hN : N + 1 < 1000000000) (hM : M ≤ 140737488355328) (k : Bs) (h4 : t.names.length < 4096) : RGood { t with files := t.files ++ [⟨[], 0⟩] } [(k, (t.files.length : Int))] := by
  have h2 : Same { t with files := t.files ++ [⟨[], 0⟩] } { s with files := s.files ++ [⟨[], 0⟩] } := h.setFiles (by rw [h.files])
  rw [h.nlen] at h4
  have hlim : Lim (N + 1) M { s with files := s.files ++ [⟨[], 0⟩] } := ⟨Nat.le_succ_of_le lim.queue, by have := lim.files; simp; omega, lim.cut⟩
  have ok2 : Ok { s with files := s.files ++ [⟨[], 0⟩] } := ok_more ok ⟨[], 0⟩ (by simp)
  have hf := h2.few ok2 hlim hN
  have hcn := h2.counted
  have hf2 := hcn.few (ok_counted ok2) (lim_counted hlim) hN
  have hr : rall t.names [(k, (t.files.length : Int))] = nm (DM.put s.names k s.files.length) := by
    rw [h.names, h.files]
    exact rwith_put _ _ _
  refine ⟨hf, h2.bc ok2, h2.bb ok2, fun hc => ?_⟩
  have hcut := h2.rcut ok2 hlim hM hc
  refine ⟨hf2.did (hcn.whole (ok_counted ok2)) (by simp) ?_ ?_ (fun p hp => ?_), ⟨hcut.names, hcut.bytes, hcut.len⟩⟩
  · have := lim.queue
    have := h.qlen
    show t.queue.length + 1 < 1000000000
    omega
  · show (rall t.names [(k, (t.files.length : Int))]).length ≤ 4096
    rw [hr, nm_len]
    have := len_put s.names k s.files.length
    omega
  · have hp' : p ∈ nm (DM.put s.names k s.files.length) := by rw [← hr]; exact hp
    obtain ⟨q, hq, rfl⟩ := nm_mem hp'
    have : q.2 < s.files.length + 1 := by
      rcases mem_put.1 hq with rfl | ⟨hq, _⟩
      · exact Nat.lt_succ_self _
      · exact Nat.lt_succ_of_lt (ok.gnames.file q hq)
    show (0 : Int) ≤ (q.2 : Int) ∧ (q.2 : Int) < ((t.files ++ [(⟨[], 0⟩ : F)]).length : Int)
    rw [List.length_append, h.files]
    simp
    omega

theorem good_append (h : Same t s) (ok : Ok s) (lim : Lim N M s) (hN : N < 1000000000) (hM : M ≤ 140737488355328) (k d : Bs) (h0 : 0 ≤ rfind' t.names k) (hb : ¬ 1048576 < ((t.at (rfind' t.names k)).data.length + d.length : Int)) (hc : t.trap.1 = 1) :
    RFew (t.trap.2.put (rfind' t.names k) ⟨(t.at (rfind' t.names k)).data ++ d, (t.at (rfind' t.names k)).sync⟩) ∧ RCut (t.trap.2.put (rfind' t.names k) ⟨(t.at (rfind' t.names k)).data ++ d, (t.at (rfind' t.names k)).sync⟩) := by
  have hcut := h.rcut ok lim hM hc
  refine ⟨?_, hcut.names, hcut.bytes, hcut.len⟩
  cases hf : DM.find s.names k with
  | none => rw [h.find_none hf] at h0; exact absurd h0 (by decide)
  | some n =>
    rw [h.find_some hf] at hb ⊢
    rw [h.at' n] at hb ⊢
    have hm := ok.gnames.file _ (DM.find_some hf)
    have hs := h.counted.put n ⟨(fileAt s n).data ++ d, (fileAt s n).sync⟩
    have hok : Ok (doAppend n d (DM.counted s)) := ok_append (ok_counted ok) hm (by show (fileAt s n).data.length + d.length ≤ 1048576; omega)
    have hl : Lim N M (doAppend n d (DM.counted s)) := ⟨lim.queue, by have := lim.files; simp [doAppend, DM.counted]; omega, lim.cut⟩
    exact Same.few (s := doAppend n d (DM.counted s)) hs hok hl hN

theorem good_sync (h : Same t s) (ok : Ok s) (lim : Lim N M s) (hN : N < 1000000000) (hM : M ≤ 140737488355328) (hc : t.trap.1 = 1) : RFew t.trap.2 ∧ RCut t.trap.2 := by
  have hcut := h.rcut ok lim hM hc
  exact ⟨h.counted.few (ok_counted ok) (lim_counted lim) hN, hcut.names, hcut.bytes, hcut.len⟩
end
end Go.Proofs.YtgknkldhjejjmaaGreatDoor

/- The program's disk and the reference's, side by side: the calls by pairs. No law. -/
namespace Go.Proofs.YtgknkldhjejjmaaGreatDoor
open Go.RowKit Go.Maps
open DM

theorem Live.rebase {B : Nat} {w0 w : World} {d : Nat} {s : St} {N M : Nat} (h : Live B w0 w d s N M) : Live B w w d s N M := ⟨Moves.refl _ _, h.ok, h.lim, h.rep, h.le', h.few⟩

/-- the act's box, where there is one -/
abbrev Box := Option (Nat × Array Value)

/-- both disks stand for s -/
structure Duo (K : Box) (B : Nat) (W w : World) (d r : Nat) (s : St) (N M : Nat) : Prop where
  below : Below B W w
  live : Live B w w d s N M
  ref : ∃ t g, RRep B w r t g ∧ Same t s
  box : ∀ x C, K = some (x, C) → w.heap[x]? = some (.cells C 30 (0, 0))

/-- the program's disk is a call ahead -/
structure Mid (K : Box) (B : Nat) (W w : World) (d r : Nat) (s s' : St) (N M N' : Nat) : Prop where
  below : Below B W w
  live : Live B w w d s' N' M
  ref : ∃ t g, RRep B w r t g ∧ Same t s
  ok : Ok s
  lim : Lim N M s
  box : ∀ x C, K = some (x, C) → w.heap[x]? = some (.cells C 30 (0, 0))

section
variable {K : Box} {B : Nat} {W w w' : World} {d r : Nat} {s s' : St} {N M N' : Nat}
theorem Duo.mid (h : Duo K B W w d r s N M) (hl : Live B w w' d s' N' M) : Mid K B W w' d r s s' N M N' := by
  obtain ⟨t, g, h1, h2⟩ := h.ref
  exact ⟨h.below.trans hl.moves.below, hl.rebase, ⟨t, g, RHalf.moved h1 hl.moves, h2⟩, h.live.ok, h.live.lim, fun x C e => hl.moves.kept _ _ _ _ (h.box x C e) (by decide)⟩
theorem Mid.duo (h : Mid K B W w d r s s' N M N') {t' : RS} (hm : MovesR B w w') (hr : ∃ g, RRep B w' r t' g) (hs : Same t' s') : Duo K B W w' d r s' N' M := by
  obtain ⟨g, hg⟩ := hr
  obtain ⟨g0, h0⟩ := h.live.rep
  exact ⟨h.below.trans hm.below, ⟨Moves.refl _ _, h.live.ok, h.live.lim, ⟨g0, h0.far hm⟩, Nat.le_trans h.live.le' hm.size, h.live.few⟩, ⟨t', g, hg, hs⟩, fun x C e => hm.kept _ _ (h.box x C e) (fun c' t' fr' e => by
    injection e with _ e
    rw [← e]
    decide)⟩
theorem Duo.same (h : Duo K B W w d r s N M) (hl : Live B w w' d s N M) : Duo K B W w' d r s N M := by
  have := h.mid hl
  exact ⟨this.below, this.live, this.ref, this.box⟩
theorem Duo.still (h : Duo K B W w d r s N M) (hb : Below w.heap.size w w') : Duo K B W w' d r s N M := by
  obtain ⟨t, g, h1, h2⟩ := h.ref
  exact ⟨h.below.trans (hb.mono h.live.le'), (h.live.still hb).rebase, ⟨t, g, RRep.below h1 hb, h2⟩, fun x C e => (hb.block x (Array.getElem?_eq_some_iff.1 (h.box x C e)).1).trans (h.box x C e)⟩
theorem Mid.still (h : Mid K B W w d r s s' N M N') (hb : Below w.heap.size w w') : Mid K B W w' d r s s' N M N' := by
  obtain ⟨t, g, h1, h2⟩ := h.ref
  exact ⟨h.below.trans (hb.mono h.live.le'), (h.live.still hb).rebase, ⟨t, g, RRep.below h1 hb, h2⟩, h.ok, h.lim, fun x C e => (hb.block x (Array.getElem?_eq_some_iff.1 (h.box x C e)).1).trans (h.box x C e)⟩

/-- a box is made; it is forgotten -/
theorem Duo.boxed (h : Duo K B W w d r s N M) (C : Array Value) : Duo (some (w.heap.size, C)) B W (w.alloc (.cells C 30)) d r s N M := by
  have h1 := h.still ((Below.refl w.heap.size w).alloc (Nat.le_refl _) (.cells C 30))
  exact ⟨h1.below, h1.live, h1.ref, fun x C' e => by cases e; exact heap_alloc_new w _⟩
theorem Duo.unboxed (h : Duo K B W w d r s N M) : Duo none B W w d r s N M := ⟨h.below, h.live, h.ref, fun x C e => by cases e⟩

/-- what one of the pair leaves that answers a number -/
def Num (c : Int) (P : World → Prop) (e : Ending) (w' : World) : Prop := e = .returned (.int .i64 c) ∧ P w'
def Void (P : World → Prop) (e : Ending) (w' : World) : Prop := e = .returned (.tuple #[]) ∧ P w'
def Text (x : Bs × Int) (P : World → Prop) (e : Ending) (w' : World) : Prop := e = .returned (.tuple #[encS x.1, .int .i64 x.2]) ∧ P w'

theorem Mid.num (h : Mid K B W w d r s s' N M N') {f : FuncId} {args : Array Value} {x : Int × RS} {c : Int} (hc : Calls Tryz.prog f args w (ROut B w r x)) (a : Agree x (c, s')) : Calls Tryz.prog f args w (Num c fun w' => Duo K B W w' d r s' N' M) :=
  hc.mono fun _ _ ⟨he, hg, hm⟩ => ⟨by rw [he, a.1], h.duo hm hg a.2⟩

theorem Duo.fewT (h : Duo K B W w d r s N M) {t : RS} (hs : Same t s) : RFew t := hs.few h.live.ok h.live.lim h.live.few.1
theorem Mid.fewT (h : Mid K B W w d r s s' N M N') (hN : N < 1000000000) {t : RS} (hs : Same t s) : RFew t := hs.few h.ok h.lim hN
theorem Duo.grow (h : Duo K B W w d r s N M) (hN : N + 1 < 1000000000) : Duo K B W w d r s (N + 1) M := ⟨h.below, ⟨h.live.moves, h.live.ok, h.live.lim.mono (Nat.le_succ N), h.live.rep, h.live.le, hN, h.live.few.2⟩, h.ref, h.box⟩

theorem Duo.create1 (h : Duo K B W w d r s N M) (hN : N + 1 < 1000000000) (k : ByteArray) (hk : k.size ≤ 140737488355328) :
    Calls Tryz.prog 20 #[.pointer (some ⟨d, 0, none⟩), .string k] w (Num (DM.create k.data.toList s).1 fun w' => Mid K B W w' d r s (DM.create k.data.toList s).2 N M (N + 1)) :=
  (h.live.create hN k hk rfl).mono fun _ _ ⟨he, hl⟩ => ⟨he, h.mid hl⟩
theorem Mid.create2 (k : ByteArray) (h : Mid K B W w d r s (DM.create k.data.toList s).2 N M N') (hN : N + 1 < 1000000000) :
    Calls Tryz.prog 23 #[.pointer (some ⟨r, 0, none⟩), .string k] w (Num (DM.create k.data.toList s).1 fun w' => Duo K B W w' d r (DM.create k.data.toList s).2 N' M) := by
  obtain ⟨t, g, hr, hs⟩ := h.ref
  have hM := h.live.few.2
  have hf := h.fewT (by omega) hs
  exact h.num (rcreate_any hr h.live.le' k hf (fun h4 _ => good_create hs h.ok h.lim hN hM _ h4) (fun hc => ⟨hf, hs.bc h.ok, hs.bb h.ok, fun h1 => absurd h1 (by show ¬ (if t.cutLeft = 1 then (1 : Int) else if t.brk = 1 then 2 else 0) = 1; rw [if_neg (fun e => hc (Or.inr e))]; split <;> decide)⟩)) (hs.create h.ok _)

theorem Duo.append1 (h : Duo K B W w d r s N M) (hN : N + 1 < 1000000000) (j k : ByteArray) (hj : j.size ≤ 140737488355328) :
    Calls Tryz.prog 27 #[.pointer (some ⟨d, 0, none⟩), .string j, .string k] w (Num (DM.append j.data.toList k.data.toList s).1 fun w' => Mid K B W w' d r s (DM.append j.data.toList k.data.toList s).2 N M (N + 1)) :=
  (h.live.append hN j k hj rfl).mono fun _ _ ⟨he, hl⟩ => ⟨he, h.mid hl⟩
theorem Mid.append2 (j k : ByteArray) (h : Mid K B W w d r s (DM.append j.data.toList k.data.toList s).2 N M N') (hN : N + 1 < 1000000000) (hk : k.size ≤ 140737488355328) :
    Calls Tryz.prog 31 #[.pointer (some ⟨r, 0, none⟩), .string j, .string k] w (Num (DM.append j.data.toList k.data.toList s).1 fun w' => Duo K B W w' d r (DM.append j.data.toList k.data.toList s).2 N' M) := by
  obtain ⟨t, g, hr, hs⟩ := h.ref
  have hM := h.live.few.2
  have hf := h.fewT (by omega) hs
  exact h.num (rappend_any hr h.live.le' j k hk hf (hs.bc h.ok) (hs.bb h.ok) (fun h0 hb hc => good_append hs h.ok h.lim (by omega) hM _ _ h0 hb hc)) (hs.append h.ok _ _)

theorem Duo.sync1 (h : Duo K B W w d r s N M) (hN : N + 1 < 1000000000) (k : ByteArray) (hk : k.size ≤ 140737488355328) :
    Calls Tryz.prog 29 #[.pointer (some ⟨d, 0, none⟩), .string k] w (Num (DM.sync k.data.toList s).1 fun w' => Mid K B W w' d r s (DM.sync k.data.toList s).2 N M (N + 1)) :=
  (h.live.sync hN k hk rfl).mono fun _ _ ⟨he, hl⟩ => ⟨he, h.mid hl⟩
theorem Mid.sync2 (k : ByteArray) (h : Mid K B W w d r s (DM.sync k.data.toList s).2 N M N') (hN : N + 1 < 1000000000) :
    Calls Tryz.prog 32 #[.pointer (some ⟨r, 0, none⟩), .string k] w (Num (DM.sync k.data.toList s).1 fun w' => Duo K B W w' d r (DM.sync k.data.toList s).2 N' M) := by
  obtain ⟨t, g, hr, hs⟩ := h.ref
  have hM := h.live.few.2
  have hf := h.fewT (by omega) hs
  exact h.num (rsync_any hr h.live.le' k hf (hs.bc h.ok) (hs.bb h.ok) (good_sync hs h.ok h.lim (by omega) hM)) (hs.sync h.ok _)

theorem Duo.syncDir1 (h : Duo K B W w d r s N M) (hN : N + 1 < 1000000000) :
    Calls Tryz.prog 21 #[.pointer (some ⟨d, 0, none⟩)] w (Num (DM.syncDir s).1 fun w' => Mid K B W w' d r s (DM.syncDir s).2 N M (N + 1)) :=
  (h.live.syncDir hN rfl).mono fun _ _ ⟨he, hl⟩ => ⟨he, h.mid hl⟩
theorem Mid.syncDir2 (h : Mid K B W w d r s (DM.syncDir s).2 N M N') (hN : N + 1 < 1000000000) :
    Calls Tryz.prog 24 #[.pointer (some ⟨r, 0, none⟩)] w (Num (DM.syncDir s).1 fun w' => Duo K B W w' d r (DM.syncDir s).2 N' M) := by
  obtain ⟨t, g, hr, hs⟩ := h.ref
  have hM := h.live.few.2
  have hf := h.fewT (by omega) hs
  exact h.num (rsyncDir_any hr h.live.le' hf (hs.bc h.ok) (hs.bb h.ok) (good_sync hs h.ok h.lim (by omega) hM)) (hs.syncDir h.ok)

theorem Duo.rename1 (h : Duo K B W w d r s N M) (hN : N + 1 < 1000000000) (j k : ByteArray) (hj : j.size ≤ 140737488355328) :
    Calls Tryz.prog 40 #[.pointer (some ⟨d, 0, none⟩), .string j, .string k] w (Num (DM.rename j.data.toList k.data.toList s).1 fun w' => Mid K B W w' d r s (DM.rename j.data.toList k.data.toList s).2 N M (N + 1)) :=
  (h.live.rename hN j k hj rfl).mono fun _ _ ⟨he, hl⟩ => ⟨he, h.mid hl⟩
theorem Mid.rename2 (j k : ByteArray) (h : Mid K B W w d r s (DM.rename j.data.toList k.data.toList s).2 N M N') (hN : N + 1 < 1000000000) :
    Calls Tryz.prog 41 #[.pointer (some ⟨r, 0, none⟩), .string j, .string k] w (Num (DM.rename j.data.toList k.data.toList s).1 fun w' => Duo K B W w' d r (DM.rename j.data.toList k.data.toList s).2 N' M) := by
  obtain ⟨t, g, hr, hs⟩ := h.ref
  have hM := h.live.few.2
  have hf := h.fewT (by omega) hs
  exact h.num (rrename_any hr h.live.le' j k (good_rename hs h.ok h.lim hN hM _ _) (good_none hs h.ok h.lim hN hM)) (hs.rename h.ok _ _)

theorem Duo.remove1 (h : Duo K B W w d r s N M) (hN : N + 1 < 1000000000) (k : ByteArray) (hk : k.size ≤ 140737488355328) :
    Calls Tryz.prog 38 #[.pointer (some ⟨d, 0, none⟩), .string k] w (Num (DM.remove k.data.toList s).1 fun w' => Mid K B W w' d r s (DM.remove k.data.toList s).2 N M (N + 1)) :=
  (h.live.remove hN k hk rfl).mono fun _ _ ⟨he, hl⟩ => ⟨he, h.mid hl⟩
theorem Mid.remove2 (k : ByteArray) (h : Mid K B W w d r s (DM.remove k.data.toList s).2 N M N') (hN : N + 1 < 1000000000) :
    Calls Tryz.prog 39 #[.pointer (some ⟨r, 0, none⟩), .string k] w (Num (DM.remove k.data.toList s).1 fun w' => Duo K B W w' d r (DM.remove k.data.toList s).2 N' M) := by
  obtain ⟨t, g, hr, hs⟩ := h.ref
  have hM := h.live.few.2
  have hf := h.fewT (by omega) hs
  exact h.num (rremove_any hr h.live.le' k (good_remove hs h.ok h.lim hN hM _)) (hs.remove h.ok _)

theorem Duo.read1 (h : Duo K B W w d r s N M) (k : ByteArray) (hk : k.size ≤ 140737488355328) :
    Calls Tryz.prog 33 #[.pointer (some ⟨d, 0, none⟩), .string k] w (Text (DM.read k.data.toList s) fun w' => Duo K B W w' d r s N M) :=
  (h.live.read k hk rfl).mono fun _ _ ⟨he, hl⟩ => ⟨he, h.same hl⟩
theorem Duo.read2 (h : Duo K B W w d r s N M) (k : ByteArray) :
    Calls Tryz.prog 35 #[.pointer (some ⟨r, 0, none⟩), .string k] w (Text (DM.read k.data.toList s) fun w' => Duo K B W w' d r s N M) := by
  obtain ⟨t, g, hr, hs⟩ := h.ref
  rw [← hs.read]
  exact (rread_any hr (h.fewT hs) k).mono fun _ _ ⟨he, hb⟩ => ⟨he, h.still hb⟩
theorem Duo.part1 (h : Duo K B W w d r s N M) (k : ByteArray) (hk : k.size ≤ 140737488355328) (i n : Int) (hi : fits i) (hn : fits n) :
    Calls Tryz.prog 42 #[.pointer (some ⟨d, 0, none⟩), .string k, .int .i64 i, .int .i64 n] w (Text (DM.part k.data.toList i n s) fun w' => Duo K B W w' d r s N M) :=
  (h.live.part k hk i n hi hn rfl).mono fun _ _ ⟨he, hl⟩ => ⟨he, h.same hl⟩
theorem Duo.part2 (h : Duo K B W w d r s N M) (k : ByteArray) (i n : Int) (hi : fits i) (hn : fits n) :
    Calls Tryz.prog 43 #[.pointer (some ⟨r, 0, none⟩), .string k, .int .i64 i, .int .i64 n] w (Text (DM.part k.data.toList i n s) fun w' => Duo K B W w' d r s N M) := by
  obtain ⟨t, g, hr, hs⟩ := h.ref
  rw [← hs.part]
  exact (rpart_any hr (h.fewT hs) k i n hi hn).mono fun _ _ ⟨he, hb⟩ => ⟨he, h.still hb⟩
theorem Duo.spoil1 (h : Duo K B W w d r s N M) (k : ByteArray) (hk : k.size ≤ 140737488355328) (bit : Int) (hb : fits bit) :
    Calls Tryz.prog 51 #[.pointer (some ⟨d, 0, none⟩), .string k, .int .i64 bit] w (Void fun w' => Mid K B W w' d r s (DM.spoil k.data.toList bit s) N M N) :=
  (h.live.spoil k hk bit hb).mono fun _ _ ⟨he, hl⟩ => ⟨he, h.mid hl⟩
theorem Mid.spoil2 (k : ByteArray) (bit : Int) (h : Mid K B W w d r s (DM.spoil k.data.toList bit s) N M N') (hN : N < 1000000000) (hb : fits bit) :
    Calls Tryz.prog 52 #[.pointer (some ⟨r, 0, none⟩), .string k, .int .i64 bit] w (Void fun w' => Duo K B W w' d r (DM.spoil k.data.toList bit s) N' M) := by
  obtain ⟨t, g, hr, hs⟩ := h.ref
  exact (rspoil_any hr h.live.le' (h.fewT hN hs) k bit hb).mono fun _ _ ⟨he, hg, hm⟩ => ⟨he, h.duo hm hg (hs.spoil _ _)⟩
theorem Duo.brk1 (h : Duo K B W w d r s N M) (n : Int) (hn : fits n) :
    Calls Tryz.prog 48 #[.pointer (some ⟨d, 0, none⟩), .int .i64 n] w (Void fun w' => Mid K B W w' d r s (DM.brk n s) N M N) :=
  (h.live.brk n hn).mono fun _ _ ⟨he, hl⟩ => ⟨he, h.mid hl⟩
theorem Mid.brk2 (n : Int) (h : Mid K B W w d r s (DM.brk n s) N M N') :
    Calls Tryz.prog 49 #[.pointer (some ⟨r, 0, none⟩), .int .i64 n] w (Void fun w' => Duo K B W w' d r (DM.brk n s) N' M) := by
  obtain ⟨t, g, hr, hs⟩ := h.ref
  exact (rbreak_any hr h.live.le' n).mono fun _ _ ⟨he, hg, hm⟩ => ⟨he, h.duo hm hg (hs.break' _)⟩

/-- a row of numbers of the act's own -/
abbrev Own (B : Nat) (w : World) (A : Option Addr) (c : Nat) (l : List Int) : Prop := w.ownsRow B 3 1 (.slice A l.length c) l.length (l.map (Value.int .i64))
theorem Own.moved {A : Option Addr} {c : Nat} {l : List Int} (h : Own B w A c l) {B' : Nat} (hm : Moves B' w w') : Own B w' A c l := own_keep h fun x cs fr hx => hm.kept _ _ _ _ hx (by decide)
theorem Own.stays {A : Option Addr} {c : Nat} {l : List Int} (h : Own B w A c l) : Stays B w A l := fun h0 => by
  obtain ⟨A', c', hv, hz⟩ := own_at h
  cases hv
  obtain ⟨b, rfl, _, _, _⟩ := hz (by simpa using h0)
  refine ⟨b, 0, rfl, fun w' hm j hj => ?_⟩
  obtain ⟨A', c', hv, hz⟩ := own_at (Own.moved h hm)
  cases hv
  obtain ⟨b', e, _, _, hc, _⟩ := hz (by simpa using h0)
  cases e
  rw [Nat.zero_add]
  exact (hc j (by simpa using hj)).trans (by simp [hj])

theorem Duo.crash1 (h : Duo K B W w d r s N M) (names : Int) (hn : fits names) (A : Option Addr) (c : Nat) (l : List Int) (hl : l.length ≤ M) (ho : Own B w A c l) (hf : ∀ x ∈ l, fits x) :
    Calls Tryz.prog 44 #[.pointer (some ⟨d, 0, none⟩), .int .i64 names, .slice A l.length c] w (Void fun w' => Mid K B W w' d r s (DM.crash names l s) N M N ∧ Own B w' A c l) :=
  (h.live.crash names hn A c l hl ho.stays hf).mono fun _ _ ⟨he, hl⟩ => ⟨he, h.mid hl, ho.moved hl.moves⟩
theorem Mid.fail2 (names : Int) (hn : fits names) (A : Option Addr) (c : Nat) (l : List Int) (h : Mid K B W w d r s (DM.crash names l s) N M N') (hN : N < 1000000000) (hl : l.length ≤ 140737488355328) (ho : Own B w A c l) (hf : ∀ x ∈ l, fits x) :
    Calls Tryz.prog 45 #[.pointer (some ⟨r, 0, none⟩), .int .i64 names, .slice A l.length c] w (Void fun w' => (∃ x, w'.cell? ⟨r, 5, none⟩ = some x) ∧ w'.frozen? ⟨r, 5, none⟩ = false ∧ Duo K B W (w'.setCell ⟨r, 5, none⟩ (.bool false)) d r (DM.crash names l s) N' M) := by
  obtain ⟨t, g, hr, hs⟩ := h.ref
  refine (rfail_any hr h.live.le' (h.fewT hN hs) names hn _ l ho hl hf).mono fun _ _ ⟨he, ⟨_, hg⟩, hm⟩ => ⟨he, ⟨_, RHalf.cells hg 5⟩, RHalf.frozen hg 5, ?_⟩
  refine h.duo (hm.set (Nat.le_trans h.live.le' hm.size) hg 5 _) ⟨_, RRep.setOff hg false⟩ ?_
  have hff := hs.fail h.ok names l
  exact ⟨hff.room, hff.files, hff.names, hff.lasts, hff.queue, rfl, rfl, fun hc => absurd rfl hc, fun hc => absurd rfl hc, rfl, hff.dif⟩
theorem Duo.cut1 (h : Duo K B W w d r s N M) (n names : Int) (h0 : fits n) (hn : fits names) (A : Option Addr) (c : Nat) (l : List Int) (hl : l.length ≤ M) (hl8 : l.length * 8 ≤ 140737488355328) (ho : Own B w A c l) (hf : ∀ x ∈ l, fits x) :
    Calls Tryz.prog 46 #[.pointer (some ⟨d, 0, none⟩), .int .i64 n, .int .i64 names, .slice A l.length c] w (Void fun w' => Mid K B W w' d r s (DM.cut n names l s) N M N ∧ Own B w' A c l) :=
  (h.live.cut n names h0 hn A c l hl hl8 ho.stays hf).mono fun _ _ ⟨he, hl⟩ => ⟨he, h.mid hl, ho.moved hl.moves⟩
theorem Mid.cut2 (n names : Int) (A : Option Addr) (c : Nat) (l : List Int) (h : Mid K B W w d r s (DM.cut n names l s) N M N') (ho : Own B w A c l) :
    Calls Tryz.prog 47 #[.pointer (some ⟨r, 0, none⟩), .int .i64 n, .int .i64 names, .slice A l.length c] w (Void fun w' => Duo K B W w' d r (DM.cut n names l s) N' M) := by
  obtain ⟨t, g, hr, hs⟩ := h.ref
  exact (rcut_any hr h.live.le' n names _ l ho).mono fun _ _ ⟨he, hg, hm⟩ => ⟨he, h.duo hm hg (hs.cut _ _ _)⟩
theorem Duo.on1 (h : Duo K B W w d r s N M) :
    Calls Tryz.prog 50 #[.pointer (some ⟨d, 0, none⟩)] w (Void fun w' => Mid K B W w' d r s (DM.on s) N M N) :=
  h.live.on.mono fun _ _ ⟨he, hl⟩ => ⟨he, h.mid hl⟩
/-- the three fields that On stores -/
theorem Mid.on2 (h : Mid K B W w d r s (DM.on s) N M N') :
    (∃ x, w.cell? ⟨r, 5, none⟩ = some x) ∧ (∃ x, w.cell? ⟨r, 6, none⟩ = some x) ∧ (∃ x, w.cell? ⟨r, 9, none⟩ = some x) ∧ (∀ j, w.frozen? ⟨r, j, none⟩ = false) ∧
    Duo K B W (((w.setCell ⟨r, 5, none⟩ (.bool false)).setCell ⟨r, 6, none⟩ (.int .i64 0)).setCell ⟨r, 9, none⟩ (.int .i64 0)) d r (DM.on s) N' M := by
  obtain ⟨t, g, hr, hs⟩ := h.ref
  refine ⟨⟨_, RHalf.cells hr 5⟩, ⟨_, RHalf.cells hr 6⟩, ⟨_, RHalf.cells hr 9⟩, RHalf.frozen hr, ?_⟩
  have h1 := RRep.setOff hr false
  have h2 := RRep.setCut h1 0 0 rfl
  have h3 := RRep.setBrk h2 0 0 rfl
  have hB := h.live.le'
  have m1 := (MovesR.refl B w).set hB hr 5 (.bool false)
  have m2 := m1.set (by rw [setCell_size]; exact hB) h1 6 (.int .i64 0)
  have m3 := m2.set (by rw [setCell_size, setCell_size]; exact hB) h2 9 (.int .i64 0)
  exact h.duo m3 ⟨_, h3⟩ ⟨hs.room, hs.files, hs.names, hs.lasts, hs.queue, rfl, rfl, fun hc => absurd rfl hc, fun hc => absurd rfl hc, rfl, hs.dif⟩
end
end Go.Proofs.YtgknkldhjejjmaaGreatDoor

/- An act: its datum, the copy of its numbers. -/
namespace Go.Proofs.YtgknkldhjejjmaaGreatDoor
open Go.RowKit Go.Maps
open DM

/-- one act as plain data -/
structure AD where
  d : Int
  k : ByteArray
  «to» : ByteArray
  n : Int
  m : Int
  A : Option Addr
  c : Nat
  l : List Int
def AD.cells (a : AD) : Array Value := #[.int .i64 a.d, .string a.k, .string a.«to», .int .i64 a.n, .int .i64 a.m, .slice a.A a.l.length a.c]
def AD.val (a : AD) : Value := .agg a.cells
structure AD.wf (a : AD) : Prop where
  d : fits a.d
  k : a.k.size ≤ 140737488355328
  «to» : a.«to».size ≤ 140737488355328
  n : fits a.n
  m : fits a.m
  l : ∀ x ∈ a.l, fits x
  l8 : a.l.length * 8 ≤ 140737488355328
instance : Inhabited AD := ⟨⟨0, ⟨#[]⟩, ⟨#[]⟩, 0, 0, none, 0, []⟩⟩

theorem info_int : (Tryz.prog.info? 3).map (fun i => (i.zero, i.size, i.bytes)) = some (some (.int .i64 0), 1, 8) := by kernel_rfl

theorem run_nums (w : World) (A : Option Addr) (c : Nat) (l : List Int) (h : NumsAt w A l) (h8 : l.length * 8 ≤ 140737488355328) (B : Nat) (hB : B ≤ w.heap.size) :
    ∃ A' c' w', (Builtin.append_ #[28, 28] 28 #[.slice none 0 0, .slice A l.length c]).run Tryz.prog w = .ok (.slice A' l.length c') w' ∧ Own B w' A' c' l ∧ Below w.heap.size w w' := by
  obtain ⟨i0, hi, hz0, hz1, hz2⟩ := info_parts info_int
  by_cases h0 : l = []
  · subst h0
    refine ⟨none, 0, w, ?_, World.ownsRow_nil _ _ _ _, Below.refl _ _⟩
    have hfc : (Builtin.firstCells i0.size 0 (.slice A 0 c)).run Tryz.prog w = .ok #[] w := by
      cases A with
      | none => exact run_firstCells_none w i0.size 0 0 c
      | some a => exact run_firstCells_some w i0.size 0 a 0 c [] (by simp) (by simp)
    simp [Builtin.append_, run_underlying Tryz.underlying28, Builtin.lenOf, sizeOf, typeInfo, zeroValue, hi, hz0, hfc]
  · have hl0 : 0 < l.length := List.length_pos_iff.2 h0
    obtain ⟨b, off, rfl, hb, hc⟩ := h hl0
    obtain ⟨v', w', hr, ho, hg, -, -⟩ := run_append_own_at (P := Tryz.prog) w B 28 28 3 i0 (.int .i64 0) 1 8 Tryz.underlying28 hi hz0 hz1 hz2 rfl (by decide) (.slice none 0 0) 0 [] (World.ownsRow_nil _ _ _ _) ⟨b, off, none⟩ l.length c (l.map (Value.int .i64)) (by simp) (fun j u hj => by
        have hj' : j < l.length := by have := (List.getElem?_eq_some_iff.1 hj).1; simpa using this
        have : (⟨b, off, none⟩ : Addr).add j = ⟨b, off + j, none⟩ := by unfold Addr.add; split <;> simp_all
        rw [this, hc j hj']
        simp [hj'] at hj
        rw [← hj]) (fun u hu => by obtain ⟨x, _, rfl⟩ := List.mem_map.1 hu; rfl) (by unfold maxLen; omega) (by omega) hB
    rw [Nat.zero_add, List.nil_append] at ho
    obtain ⟨A', c', rfl, -⟩ := own_at ho
    exact ⟨A', c', w', hr, ho, ⟨hg.os, hg.tape, hg.output, hg.size, fun k hk => hg.block k hk (by simp [Value.ownBlock])⟩⟩

section
variable {ops : Array Oper} {rest : List Oper} {o : Oper} {a : Act} {Q : Exit → Act → World → Prop} {w : World}
theorem wpList_nums (hgd : o.guard = none) (s x : Operand) (ho : o.op = .call { callee := .builtin .append, args := #[s, x], argTypes := #[28, 28] }) (hty : o.type = 28)
    (hs : a.eval s = .slice none 0 0) (A : Option Addr) (n c : Nat) (l : List Int) (hn : l.length = n) (hx : a.eval x = .slice A n c) (h : NumsAt w A l) (h8 : l.length * 8 ≤ 140737488355328) (B : Nat) (hB : B ≤ w.heap.size)
    (hk : ∀ A' c' w', Own B w' A' c' l → Below w.heap.size w w' → wpList Tryz.prog ops Q rest (a.put o.dst (.slice A' l.length c')) w') :
    wpList Tryz.prog ops Q (o :: rest) a w := by
  subst hn
  refine wpList_plain hgd fun K hK => ?_
  obtain ⟨A', c', w', hr, h2, h3⟩ := run_nums w A c l h h8 B hB
  unfold Oper.wp execOp
  simp only [ho, hty, resolve, invoke, builtin, Sem.run_bind, Sem.run_pure, Result.andThen_ok, List.map_toArray, List.map_cons, List.map_nil, hs, hx, hr]
  exact hK _ _ (hk A' c' w' h2 h3)
end

theorem mod12 (d : Int) (k : Nat) (_ : k < 12) (h : d % 12 = k) : d.tmod 12 = k ∨ (d.tmod 12 = (k : Int) - 12 ∧ 0 < k) := by
  by_cases h0 : 0 ≤ d
  · rw [Int.tmod_eq_emod_of_nonneg h0]; omega
  · obtain ⟨e, rfl⟩ : ∃ e, d = -e := ⟨-d, by omega⟩
    rw [Int.neg_tmod, Int.tmod_eq_emod_of_nonneg (show 0 ≤ e by omega)]
    omega
end Go.Proofs.YtgknkldhjejjmaaGreatDoor


