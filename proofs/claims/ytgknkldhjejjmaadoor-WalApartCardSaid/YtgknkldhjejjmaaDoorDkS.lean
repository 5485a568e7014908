/- Whole calls of a disk, one after another; and the disk that wakes makes. -/
import Derived.Test.YtgknkldhjejjmaaDoorDkQ
import Derived.Test.YtgknkldhjejjmaaDoorDmD
namespace Go.Proofs.YtgknkldhjejjmaaDoor
open Go.RowKit Go.Maps
open DM

/-- a disk in a world that has come from w0 -/
structure Live (B : Nat) (w0 w : World) (d : Nat) (s : St) (N M : Nat) : Prop where
  moves : Moves B w0 w
  ok : Ok s
  lim : Lim N M s
  rep : ∃ g, Rep B w d s g
  le : B ≤ w0.heap.size
  few : N < 1000000000 ∧ M ≤ 140737488355328

theorem Live.fewS {B : Nat} {w0 w : World} {d : Nat} {s : St} {N M : Nat} (h : Live B w0 w d s N M) : Few s := ⟨by have := h.lim.queue; have := h.few; omega, by have := h.lim.files; have := h.few; omega, by have := h.lim.cut; have := h.few; omega⟩
theorem Live.le' {B : Nat} {w0 w : World} {d : Nat} {s : St} {N M : Nat} (h : Live B w0 w d s N M) : B ≤ w.heap.size := Nat.le_trans h.le h.moves.size

/-- what a call leaves that answers a number -/
def ErrOut (B : Nat) (w0 : World) (d : Nat) (r : Int × St) (N M : Nat) (e : Ending) (w' : World) : Prop := e = .returned (.int .i64 r.1) ∧ Live B w0 w' d r.2 N M

theorem Live.create {B : Nat} {w0 w : World} {d : Nat} {s : St} {N M : Nat} (h : Live B w0 w d s N M) (hN : N + 1 < 1000000000) (k : ByteArray) (hk : k.size ≤ 140737488355328) {r : Int × St} (hr : DM.create k.data.toList s = r) :
    Calls Tryd.prog 27 #[.pointer (some ⟨d, 0, none⟩), .string k] w (ErrOut B w0 d r (N + 1) M) := by
  subst hr
  obtain ⟨g, hg⟩ := h.rep
  obtain ⟨o1, o2⟩ := create_ok h.ok h.lim k.data.toList
  exact (create_any hg h.ok h.le' k hk h.fewS).mono fun e w' ⟨he, hm, hr⟩ => ⟨he, h.moves.trans hm, o1, o2, hr, h.le, hN, h.few.2⟩
theorem Live.append {B : Nat} {w0 w : World} {d : Nat} {s : St} {N M : Nat} (h : Live B w0 w d s N M) (hN : N + 1 < 1000000000) (j k : ByteArray) (hj : j.size ≤ 140737488355328) {r : Int × St} (hr : DM.append j.data.toList k.data.toList s = r) :
    Calls Tryd.prog 32 #[.pointer (some ⟨d, 0, none⟩), .string j, .string k] w (ErrOut B w0 d r (N + 1) M) := by
  subst hr
  obtain ⟨g, hg⟩ := h.rep
  obtain ⟨o1, o2⟩ := append_ok h.ok h.lim j.data.toList k.data.toList
  exact (append_any hg h.ok h.le' j k hj h.fewS).mono fun e w' ⟨he, hm, hr⟩ => ⟨he, h.moves.trans hm, o1, o2, hr, h.le, hN, h.few.2⟩
theorem Live.sync {B : Nat} {w0 w : World} {d : Nat} {s : St} {N M : Nat} (h : Live B w0 w d s N M) (hN : N + 1 < 1000000000) (k : ByteArray) (hk : k.size ≤ 140737488355328) {r : Int × St} (hr : DM.sync k.data.toList s = r) :
    Calls Tryd.prog 34 #[.pointer (some ⟨d, 0, none⟩), .string k] w (ErrOut B w0 d r (N + 1) M) := by
  subst hr
  obtain ⟨g, hg⟩ := h.rep
  obtain ⟨o1, o2⟩ := sync_ok h.ok h.lim k.data.toList
  exact (sync_any hg h.ok h.le' k hk h.fewS).mono fun e w' ⟨he, hm, hr⟩ => ⟨he, h.moves.trans hm, o1, o2, hr, h.le, hN, h.few.2⟩
theorem Live.syncDir {B : Nat} {w0 w : World} {d : Nat} {s : St} {N M : Nat} (h : Live B w0 w d s N M) (hN : N + 1 < 1000000000) {r : Int × St} (hr : DM.syncDir s = r) :
    Calls Tryd.prog 28 #[.pointer (some ⟨d, 0, none⟩)] w (ErrOut B w0 d r (N + 1) M) := by
  subst hr
  obtain ⟨g, hg⟩ := h.rep
  obtain ⟨o1, o2⟩ := syncDir_ok h.ok h.lim
  exact (syncDir_any hg h.ok h.le' h.fewS).mono fun e w' ⟨he, hm, hr⟩ => ⟨he, h.moves.trans hm, o1, o2, hr, h.le, hN, h.few.2⟩
theorem Live.remove {B : Nat} {w0 w : World} {d : Nat} {s : St} {N M : Nat} (h : Live B w0 w d s N M) (hN : N + 1 < 1000000000) (k : ByteArray) (hk : k.size ≤ 140737488355328) {r : Int × St} (hr : DM.remove k.data.toList s = r) :
    Calls Tryd.prog 41 #[.pointer (some ⟨d, 0, none⟩), .string k] w (ErrOut B w0 d r (N + 1) M) := by
  subst hr
  obtain ⟨g, hg⟩ := h.rep
  obtain ⟨o1, o2⟩ := remove_ok h.ok h.lim k.data.toList
  exact (remove_any hg h.ok h.le' k hk h.fewS).mono fun e w' ⟨he, hm, hr⟩ => ⟨he, h.moves.trans hm, o1, o2, hr, h.le, hN, h.few.2⟩

/-- what a call leaves that answers nothing -/
def VoidOut (B : Nat) (w0 : World) (d : Nat) (s : St) (N M : Nat) (e : Ending) (w' : World) : Prop := e = .returned (.tuple #[]) ∧ Live B w0 w' d s N M

theorem Live.crash {B : Nat} {w0 w : World} {d : Nat} {s : St} {N M : Nat} (h : Live B w0 w d s N M) (names : Int) (hn : fits names) (A : Option Addr) (cap : Nat) (l : List Int) (hl : l.length ≤ M) (hst : Stays B w A l) (hfit : ∀ x ∈ l, fits x) :
    Calls Tryd.prog 17 #[.pointer (some ⟨d, 0, none⟩), .int .i64 names, .slice A l.length cap] w (VoidOut B w0 d (DM.crash names l s) N M) := by
  obtain ⟨g, hg⟩ := h.rep
  obtain ⟨o1, o2⟩ := crash_ok h.ok h.lim names l
  exact (crash_any hg h.ok h.le' names hn A cap l (by have := h.few; omega) hst hfit h.fewS).mono fun e w' ⟨he, hm, hr⟩ => ⟨he, h.moves.trans hm, o1, o2, hr, h.le, h.few⟩

theorem Live.cut {B : Nat} {w0 w : World} {d : Nat} {s : St} {N M : Nat} (h : Live B w0 w d s N M) (n names : Int) (h0 : fits n) (hn : fits names) (A : Option Addr) (cap : Nat) (l : List Int) (hl : l.length ≤ M) (hl8 : l.length * 8 ≤ 140737488355328) (hst : Stays B w A l) (hfit : ∀ x ∈ l, fits x) :
    Calls Tryd.prog 15 #[.pointer (some ⟨d, 0, none⟩), .int .i64 n, .int .i64 names, .slice A l.length cap] w (VoidOut B w0 d (DM.cut n names l s) N M) := by
  obtain ⟨g, hg⟩ := h.rep
  exact (cut_any hg h.le' n names A cap l hst hl8).mono fun e w' ⟨he, hm, hr⟩ => ⟨he, h.moves.trans hm, ok_cut h.ok h0 hn hfit, ⟨h.lim.queue, h.lim.files, hl⟩, hr, h.le, h.few⟩

theorem Live.on {B : Nat} {w0 w : World} {d : Nat} {s : St} {N M : Nat} (h : Live B w0 w d s N M) :
    Calls Tryd.prog 36 #[.pointer (some ⟨d, 0, none⟩)] w (VoidOut B w0 d (DM.on s) N M) := by
  obtain ⟨g, hg⟩ := h.rep
  exact (on_any hg h.le').mono fun e w' ⟨he, hm, hr⟩ => ⟨he, h.moves.trans hm, ok_on h.ok, ⟨h.lim.queue, h.lim.files, by simp [DM.on]⟩, hr, h.le, h.few⟩

/-- what Read leaves -/
def TextOut (B : Nat) (w0 : World) (d : Nat) (s : St) (N M : Nat) (r : Bs × Int) (e : Ending) (w' : World) : Prop := e = .returned (.tuple #[encS r.1, .int .i64 r.2]) ∧ Live B w0 w' d s N M

theorem Live.read {B : Nat} {w0 w : World} {d : Nat} {s : St} {N M : Nat} (h : Live B w0 w d s N M) (k : ByteArray) (hk : k.size ≤ 140737488355328) {r : Bs × Int} (hr : DM.read k.data.toList s = r) :
    Calls Tryd.prog 37 #[.pointer (some ⟨d, 0, none⟩), .string k] w (TextOut B w0 d s N M r) := by
  subst hr
  obtain ⟨g, hg⟩ := h.rep
  exact (read_any hg h.ok h.le' k hk).mono fun e w' ⟨he, hm, hr⟩ => ⟨he, h.moves.trans hm, h.ok, h.lim, hr, h.le, h.few⟩

theorem live_new (room : Int) (w0 w : World) (B : Nat) (hm : Moves B w0 w) (hB : B ≤ w0.heap.size) (hr : fits room) (N M : Nat) (hN : N < 1000000000 ∧ M ≤ 140737488355328) :
    Calls Tryd.prog 13 #[.int .i64 room] w fun e w' => e = .returned (.pointer (some ⟨w.heap.size, 0, none⟩)) ∧ Live B w0 w' w.heap.size (new room) N M :=
  (new_any room w hr).mono fun e w' ⟨he, h⟩ => by
    obtain ⟨h1, h2⟩ := h B (Nat.le_trans hB hm.size)
    exact ⟨he, hm.trans h1, ok_new room hr, lim_new _ _ _, h2, hB, hN⟩

end Go.Proofs.YtgknkldhjejjmaaDoor
