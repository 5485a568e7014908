/- What stays true over whole calls. No function of the program. -/
import Derived.Test.YtgknkldhjejjmaaDoorDmC
namespace Go.Proofs.YtgknkldhjejjmaaDoor
namespace DM

/-- no more than so many in the queue, files, numbers of a cut -/
structure Lim (N M : Nat) (s : St) : Prop where
  queue : s.queue.length ≤ N
  files : s.files.length ≤ N
  cut : s.cutBytes.length ≤ M

theorem Lim.mono {N N' M : Nat} {s : St} (h : Lim N M s) (hN : N ≤ N') : Lim N' M s := ⟨Nat.le_trans h.queue hN, Nat.le_trans h.files hN, h.cut⟩

theorem lim_fail {N M : Nat} {s : St} (h : Lim N M s) (n : Int) (l : List Int) : Lim N M (fail s n l) := ⟨by simp [fail], by have := h.files; simp [fail]; omega, by simp [fail]⟩
theorem lim_counted {N M : Nat} {s : St} (h : Lim N M s) : Lim N M (counted s) := ⟨h.queue, h.files, h.cut⟩

theorem ok_change {s : St} (h : Ok s) (ahead : Bool) (go : St → St) (hg : Ok (go (counted s))) : Ok (change ahead go s).2 := by
  unfold change
  split
  · refine ok_off (ok_fail ?_ _ _) true
    cases ahead
    · exact ok_counted h
    · exact hg
  · split
    · exact ok_counted h
    · exact hg

theorem lim_change {N M : Nat} {s : St} (h : Lim N M s) (ahead : Bool) (go : St → St) (hg : Lim (N + 1) M (go (counted s))) : Lim (N + 1) M (change ahead go s).2 := by
  unfold change
  split
  · have : Lim (N + 1) M (fail (if ahead then go (counted s) else counted s) s.cutNames s.cutBytes) := by
      refine lim_fail ?_ _ _
      cases ahead
      · exact (lim_counted h).mono (by omega)
      · exact hg
    exact ⟨this.queue, this.files, this.cut⟩
  · split
    · exact (lim_counted h).mono (by omega)
    · exact hg

theorem lim_point {N M : Nat} {s : St} (h : Lim N M s) (e : E) : Lim (N + 1) M (point s e) := ⟨by have := h.queue; simp [point]; omega, by have := h.files; simp [point]; omega, h.cut⟩

theorem create_ok {N M : Nat} {s : St} (h : Ok s) (hl : Lim N M s) (k : Bs) : Ok (create k s).2 ∧ Lim (N + 1) M (create k s).2 := by
  have h0 := hl.mono (Nat.le_succ N)
  unfold create
  split
  · exact ⟨h, h0⟩
  · split
    · exact ⟨h, h0⟩
    · rename_i hg
      split
      · exact ⟨h, h0⟩
      · rename_i hf
        split
        · exact ⟨h, h0⟩
        · rename_i hn
          have hf' : find s.names k = none := by cases hh : find s.names k with | none => rfl | some _ => rw [hh] at hf; simp at hf
          refine ⟨ok_change h _ _ (ok_create (ok_counted h) (by simpa using hg) hf' (by simp only [counted]; omega)), lim_change hl _ _ ⟨?_, ?_, hl.cut⟩⟩
          · have := hl.queue; simp [doCreate, point, counted]; omega
          · have := hl.files; simp [doCreate, point, counted]; omega

theorem append_ok {N M : Nat} {s : St} (h : Ok s) (hl : Lim N M s) (k data : Bs) : Ok (append k data s).2 ∧ Lim (N + 1) M (append k data s).2 := by
  have h0 := hl.mono (Nat.le_succ N)
  unfold append
  split
  · exact ⟨h, h0⟩
  · split
    · exact ⟨h, h0⟩
    · rename_i n hf
      split
      · exact ⟨h, h0⟩
      · rename_i hc
        have hc1 : lens s.files n + data.length ≤ 1048576 := by
          have := fun hh => hc (.inl hh)
          omega
        exact ⟨ok_change h _ _ (ok_append (ok_counted h) (h.gnames.file _ (find_some hf)) hc1), lim_change hl _ _ ⟨by have := hl.queue; simp [doAppend, counted]; omega, by have := hl.files; simp [doAppend, counted]; omega, hl.cut⟩⟩

theorem sync_ok {N M : Nat} {s : St} (h : Ok s) (hl : Lim N M s) (k : Bs) : Ok (sync k s).2 ∧ Lim (N + 1) M (sync k s).2 := by
  have h0 := hl.mono (Nat.le_succ N)
  unfold sync
  split
  · exact ⟨h, h0⟩
  · split
    · exact ⟨h, h0⟩
    · rename_i n hf
      exact ⟨ok_change h _ _ (ok_sync (ok_counted h) (h.gnames.file _ (find_some hf))), lim_change hl _ _ ⟨by have := hl.queue; simp [doSync, counted]; omega, by have := hl.files; simp [doSync, counted]; omega, hl.cut⟩⟩

theorem syncDir_ok {N M : Nat} {s : St} (h : Ok s) (hl : Lim N M s) : Ok (syncDir s).2 ∧ Lim (N + 1) M (syncDir s).2 := by
  have h0 := hl.mono (Nat.le_succ N)
  unfold syncDir
  split
  · exact ⟨h, h0⟩
  · exact ⟨ok_change h _ _ (ok_syncDir (ok_counted h)), lim_change hl _ _ ⟨by simp [doSyncDir], by have := hl.files; simp [doSyncDir, counted]; omega, hl.cut⟩⟩

theorem rename_ok {N M : Nat} {s : St} (h : Ok s) (hl : Lim N M s) (a b : Bs) : Ok (rename a b s).2 ∧ Lim (N + 1) M (rename a b s).2 := by
  have h0 := hl.mono (Nat.le_succ N)
  unfold rename
  split
  · exact ⟨h, h0⟩
  · split
    · exact ⟨h, h0⟩
    · rename_i n hf
      split
      · exact ⟨h, h0⟩
      · rename_i hg
        refine ⟨ok_change h _ _ (ok_rename (ok_counted h) hf (by simpa using hg)), lim_change hl _ _ ?_⟩
        unfold doRename
        split
        · exact (lim_counted hl).mono (by omega)
        · exact lim_point (lim_counted hl) _

theorem remove_ok {N M : Nat} {s : St} (h : Ok s) (hl : Lim N M s) (a : Bs) : Ok (remove a s).2 ∧ Lim (N + 1) M (remove a s).2 := by
  have h0 := hl.mono (Nat.le_succ N)
  unfold remove
  split
  · exact ⟨h, h0⟩
  · split
    · exact ⟨h, h0⟩
    · rename_i n hf
      exact ⟨ok_change h _ _ (ok_remove (ok_counted h) hf), lim_change hl _ _ (lim_point (lim_counted hl) _)⟩

theorem crash_ok {N M : Nat} {s : St} (h : Ok s) (hl : Lim N M s) (n : Int) (l : List Int) : Ok (crash n l s) ∧ Lim N M (crash n l s) :=
  ⟨ok_crash h n l, by have := lim_fail hl n l; exact ⟨this.queue, this.files, by simp [crash, on]⟩⟩

theorem lim_new (room : Int) (N M : Nat) : Lim N M (new room) := ⟨by simp [new], by simp [new], by simp [new]⟩
end DM
end Go.Proofs.YtgknkldhjejjmaaDoor
