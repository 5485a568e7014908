/- Texts joined by bundle.py: YDDkQ, YDDkS. -/
import Derived.Test.YtjkofciohehgfaaGreatDoorZap
import Derived.Test.YtjkofciohehgfaaGreatDoorZai
import Derived.Test.YtjkofciohehgfaaGreatDoorZag

/- The calls of a disk: Read, Used, Off, Crash, Cut, Break. -/
namespace Go.Proofs.YtjkofciohehgfaaGreatDoor.L8
open Go.RowKit Go.Maps
open DM

theorem row_string {B : Nat} {w : World} {v : Value} {l : Bs} (h : Row B w v l) : (convert 68 9 v).run Tryz.prog w = .ok (encS l) w := by
  rcases h with ⟨rfl, rfl⟩ | ⟨g, cap, cur, rfl, _, hg, _, _, _, htk⟩
  · exact Lib.run_convert_nil_bytes w 68 9 5 0 Tryz.underlying68 Tryz.underlying5 Tryz.underlying9
  · have hb := Lib.bytes_of_row hg (l := l) htk
    have h := Lib.run_convert_whole (P := Tryz.prog) w 68 5 9 Tryz.underlying68 Tryz.underlying5 Tryz.underlying9 g 0 ⟨l.toArray⟩ (fun i hi => by
      have hi' : i < l.length := by simpa [ByteArray.size] using hi
      have h1 := hb i hi'
      rw [addr_add0] at h1
      rw [Nat.zero_add, h1]
      rfl) cap
    exact h

/-- what Read leaves -/
def ReadOut (B : Nat) (w : World) (d : Nat) (s : St) (r : Bs × Int) (e : Ending) (w' : World) : Prop :=
  e = .returned (.tuple #[encS r.1, .int .i64 r.2]) ∧ Moves B w w' ∧ ∃ g, Rep B w' d s g

set_option maxRecDepth 100000 in
set_option maxHeartbeats 2000000 in
theorem read_any {B : Nat} {w : World} {d : Nat} {s : St} {g : Gh} (h : Rep B w d s g) (ok : Ok s) (hB : B ≤ w.heap.size) (k : ByteArray) (hk : k.size ≤ 140737488355328) :
    Calls Tryz.prog 39 #[.pointer (some ⟨d, 0, none⟩), .string k] w (ReadOut B w d s (DM.read k.data.toList s)) := by
  have hml : maxLen = 9223372036854775807 := rfl
  unfold DM.read
  cases hoff : s.off with
  | true =>
    rw [if_pos rfl]
    have HR := Lib.hid (find_off h hoff k)
    have HE : Hid (ReadOut B w d s ([], 13) (.returned (.tuple #[.string ⟨#[]⟩, .int .i64 13])) w) := ⟨rfl, Moves.refl _ _, g, h⟩
    clear h ok hoff
    go_enter Tryz.func39, Tryz.ntmps39
    go_wp2_with (go_at_call 76; refine HR.out.mono ?_; rintro e w' ⟨rfl, rfl⟩)
    go_ret2
    exact HE.out
  | false =>
    rw [if_neg (by simp)]
    have HR := Lib.hid (find_on h hoff hB k (by omega))
    have HOK := Lib.hid ok
    clear h ok hoff
    cases hf : find s.names k.data.toList with
    | none =>
      rw [hf] at HR
      simp only
      clear hf
      go_enter Tryz.func39, Tryz.ntmps39
      go_wp2_with fail
      refine HR.out.mono ?_
      rintro e w3 ⟨hm3, g3, b1, b2, h1, h2, hr3, rfl⟩
      have HE : Hid (ReadOut B w d s ([], 10) (.returned (.tuple #[.string ⟨#[]⟩, .int .i64 10])) w3) := ⟨rfl, hm3, g3, hr3⟩
      clear hm3 h1 h2 hr3
      simp only [pv, Option.isNone_none, if_true]
      go_wp2
      go_ret2
      exact HE.out
    | some n =>
      rw [hf] at HR
      simp only
      have HF := Lib.hid hf
      clear hf
      go_enter Tryz.func39, Tryz.ntmps39
      go_wp2_with fail
      refine HR.out.mono ?_
      rintro e w3 ⟨hm3, g3, b1, b2, h1, h2, hr3, rfl⟩
      have hfn := find_live hr3.body HOK.out.names HF.out
      have hcv := row_string hfn.2.2
      obtain ⟨RA, RC, hrow⟩ := row_slice hfn
      rw [hrow] at hcv
      have zb : w3.cell? ⟨g3.blk n, 1, none⟩ = some (.slice RA (fileAt s n).data.length RC) := by rw [← hrow]; exact cell_of_row _ _ _ _ _ _ hfn.2.1
      have HE : Hid (ReadOut B w d s ((fileAt s n).data, 0) (.returned (.tuple #[encS (fileAt s n).data, .int .i64 0])) w3) := ⟨rfl, hm3, g3, hr3⟩
      obtain ⟨S, hS⟩ : ∃ S, encS (fileAt s n).data = .string S := ⟨_, rfl⟩
      rw [hS] at hcv HE
      clear hm3 h1 h2 hr3 hfn hrow hS
      simp only [pv, Option.isNone_some]
      go_wp2
      go_ret2
      exact HE.out

set_option maxRecDepth 100000 in
theorem crash_any {B : Nat} {w : World} {d : Nat} {s : St} {g : Gh} (h : Rep B w d s g) (ok : Ok s) (hB : B ≤ w.heap.size) (names : Int) (hn : fits names) (A : Option Addr) (cap : Nat) (l : List Int) (hl : l.length ≤ 4611686018427387904) (hst : Stays B w A l) (hfit : ∀ x ∈ l, fits x) (few : Few s) :
    Calls Tryz.prog 11 #[.pointer (some ⟨d, 0, none⟩), .int .i64 names, .slice A l.length cap] w (LoseOut B w d (crash names l s)) := by
  have HL := Lib.hid (lose_any h ok hB names hn A cap l hl hst hfit (by have := few.1; omega) (by have := few.2.1; omega))
  have hcr : Hid (on (loseS s names l) = crash names l s) := rfl
  clear h ok hn hst hfit few
  go_enter Tryz.func11, Tryz.ntmps11
  go_wp2_with fail
  refine HL.out.mono ?_
  rintro e w1 ⟨rfl, hm1, g1, hr1⟩
  have HON := Lib.hid (on_any hr1 (Nat.le_trans hB hm1.size))
  have HM := Lib.hid hm1
  clear hm1 hr1 HL
  go_wp2_with fail
  refine HON.out.mono ?_
  rintro e w2 ⟨rfl, hm2, g2, hr2⟩
  have HE : Hid (LoseOut B w d (crash names l s) (.returned (.tuple #[])) w2) := ⟨rfl, HM.out.trans hm2, g2, by rw [← hcr.out]; exact hr2⟩
  clear hm2 hr2 HM HON
  go_wp2
  go_end0
  exact HE.out

theorem max_one (n : Int) : max n 1 = max 1 n := by omega

theorem own_mono {w : World} {b b' : Nat} {e : TypeId} {z : Nat} {v : Value} {n : Nat} {xs : List Value} (h : w.ownsRow b e z v n xs) (hb : b' ≤ b) : w.ownsRow b' e z v n xs := by
  refine ⟨h.1, ?_⟩
  rcases h.2 with h1 | ⟨g, cap, cur, h1, h2, h3⟩
  · exact .inl h1
  · exact .inr ⟨g, cap, cur, h1, Nat.le_trans hb h2, h3⟩

/-- what slices.Clone leaves -/
def CloneOut (w : World) (l : List Int) (e : Ending) (w' : World) : Prop := ∃ A c, e = .returned (.slice A l.length c) ∧ w'.ownsRow w.heap.size 3 1 (.slice A l.length c) l.length (l.map (Value.int .i64)) ∧ Below w.heap.size w w'

theorem cloneOut_of {w : World} {l : List Int} {e : Ending} {w' : World} {v : Value} (he : e = .returned v) (ho : w'.ownsRow w.heap.size 3 1 v l.length (l.map (Value.int .i64))) (hb : Below w.heap.size w w') : CloneOut w l e w' := by
  obtain ⟨A, c, hv⟩ : ∃ A c, v = .slice A l.length c := by
    rcases ho.2 with ⟨e1, h0⟩ | ⟨r, c, _, e1, _⟩
    · exact ⟨none, 0, by rw [e1, h0]⟩
    · exact ⟨_, c, e1⟩
  subst hv
  exact ⟨A, c, he, ho, hb⟩

theorem sclone_any {B : Nat} {w : World} (A : Option Addr) (cap : Nat) (l : List Int) (hst : Stays B w A l) (hbig : l.length * 8 ≤ 140737488355328) :
    Calls Tryz.prog 25 #[.slice A l.length cap] w (CloneOut w l) := by
  cases A with
  | none =>
    have hl : l = [] := by
      by_cases h0 : 0 < l.length
      · obtain ⟨_, _, e, _⟩ := hst h0; cases e
      · exact List.eq_nil_of_length_eq_zero (by omega)
    subst hl
    refine (Tryz.slices_Clone_int_nil _ _ w).mono fun e w' ⟨he, hw⟩ => ?_
    subst hw
    exact cloneOut_of he (World.ownsRow_nil _ _ _ _) (Below.refl _ _)
  | some a =>
    by_cases h0 : 0 < l.length
    · obtain ⟨b, off, ha, hc⟩ := hst h0
      injection ha with ha
      subst ha
      refine (Tryz.slices_Clone_int b off l.length cap l w (Nat.le_refl _) hbig (fun j hj => ?_)).mono fun e w' ⟨v, he, ho, _, hb⟩ => ?_
      · rw [hc w (Moves.refl B w) j hj, List.getD_eq_getElem?_getD, List.getElem?_eq_getElem hj]
        rfl
      · rw [List.take_length] at ho
        exact cloneOut_of he ho hb
    · have hl : l = [] := List.eq_nil_of_length_eq_zero (by omega)
      subst hl
      exact (Tryz.slices_Clone_int_zero a cap w).mono fun e w' ⟨v, he, ho, _, hb⟩ => cloneOut_of he ho hb

theorem cut_rep {B : Nat} {w w1 : World} {d : Nat} {s : St} {g : Gh} (h : Rep B w d s g) (hB : B ≤ w.heap.size) {n m names : Int} {l : List Int} {A : Option Addr} {c : Nat} (hm : max n 1 = m) (ho : w1.ownsRow w.heap.size 3 1 (.slice A l.length c) l.length (l.map (Value.int .i64))) (hb : Below w.heap.size w w1) :
    LoseOut B w d (DM.cut n names l s) (.returned (.tuple #[])) (((w1.setCell ⟨d, 7, none⟩ (.int .i64 m)).setCell ⟨d, 8, none⟩ (.int .i64 names)).setCell ⟨d, 9, none⟩ (.slice A l.length c)) := by
  have hr := h.still (grown_of_below hb)
  have h7 := hr.half.set 7 (.int .i64 m)
  have h8 := h7.set 8 (.int .i64 names)
  have h9 := h8.set 9 (.slice A l.length c)
  have hm1 := (Moves.refl B w).of_below hb hB
  have hs := hb.size
  have ho' := own_mono ho hB
  have hk : ∀ {w : World} {C : Array Value}, w.heap[d]? = some (.cells C 52 (0, 0)) → w.ownsRow B 3 1 (.slice A l.length c) l.length (l.map (Value.int .i64)) → ∀ j u, (w.setCell ⟨d, j, none⟩ u).ownsRow B 3 1 (.slice A l.length c) l.length (l.map (Value.int .i64)) := fun hd ho j u =>
    ho.kept (grownBy_setCell _ ⟨d, j, none⟩ u) (own_ne ho hd (fun c e => by injection e with _ e; exact absurd e (by decide)))
  refine ⟨rfl, ((hm1.setCell (p := ⟨d, 7, none⟩) (by omega) h.le hr.half.kin _).setCell (p := ⟨d, 8, none⟩) (by rw [setCell_size]; omega) h.le h7.kin _).setCell (p := ⟨d, 9, none⟩) (by rw [setCell_size, setCell_size]; omega) h.le h8.kin _, { g with cv := .slice A l.length c }, ⟨h9.body.maps, h9.body.queue, h9.body.files, h9.body.apart, ?_, h9.body.bk⟩, ?_, h9.le⟩
  · exact hk h8.at_ (hk h7.at_ (hk hr.at_ ho' 7 _) 8 _) 9 _
  · rw [h9.at_]
    have : ((max n 1).toNat : Int) = m := by omega
    simp [dC, DM.cut, this]

set_option maxRecDepth 100000 in
theorem cut_any {B : Nat} {w : World} {d : Nat} {s : St} {g : Gh} (h : Rep B w d s g) (hB : B ≤ w.heap.size) (n names : Int) (A : Option Addr) (cap : Nat) (l : List Int) (hst : Stays B w A l) (hbig : l.length * 8 ≤ 140737488355328) :
    Calls Tryz.prog 7 #[.pointer (some ⟨d, 0, none⟩), .int .i64 n, .int .i64 names, .slice A l.length cap] w (LoseOut B w d (DM.cut n names l s)) := by
  obtain ⟨m, hm⟩ : ∃ m, max n 1 = m := ⟨_, rfl⟩
  have HE := Lib.hid (fun (w1 : World) (A : Option Addr) (c : Nat) ho hb => @cut_rep B w w1 d s g h hB n m names l A c hm ho hb)
  have HCL := Lib.hid (sclone_any A cap l hst hbig)
  have hm' : max 1 n = m := by rw [← max_one]; exact hm
  have HR := Lib.hid h
  have hdl := h.lt
  clear h hst
  go_enter Tryz.func7, Tryz.ntmps7
  go_wp2_with fail
  refine HCL.out.mono ?_
  rintro e w1 ⟨A1, c1, rfl, ho, hb⟩
  have HE1 := Lib.hid (HE.out w1 A1 c1 ho hb)
  have hr := HR.out.still (grown_of_below hb)
  have f7 := hr.half.frozen 7
  have f8 := hr.half.frozen 8
  have f9 := hr.half.frozen 9
  obtain ⟨-, -, -, -, -, -, -, i7, i8, i9, -⟩ := hr.cells
  clear ho hb hr HE HCL HR
  go_wp2
  go_end0
  exact HE1.out
end Go.Proofs.YtjkofciohehgfaaGreatDoor.L8


/- Whole calls of a disk, one after another; and the disk that wakes makes. -/
namespace Go.Proofs.YtjkofciohehgfaaGreatDoor.L8
open Go.RowKit Go.Maps
open DM

/-- a disk in a world that has come from w0 -/
structure Live (B : Nat) (w0 w : World) (d : Nat) (s : St) (N M : Nat) : Prop where
  moves : Moves B w0 w
  ok : Ok s
  lim : Lim N M s
  rep : ∃ g, Rep B w d s g
  le : B ≤ w0.heap.size
  few : N < 1000000000 ∧ M ≤ 140737488355328

theorem Live.fewS {B : Nat} {w0 w : World} {d : Nat} {s : St} {N M : Nat} (h : Live B w0 w d s N M) : Few s := ⟨by have := h.lim.queue; have := h.few; omega, by have := h.lim.files; have := h.few; omega, by have := h.lim.cut; have := h.few; omega⟩
theorem Live.le' {B : Nat} {w0 w : World} {d : Nat} {s : St} {N M : Nat} (h : Live B w0 w d s N M) : B ≤ w.heap.size := Nat.le_trans h.le h.moves.size

/-- what a call leaves that answers a number -/
def ErrOut (B : Nat) (w0 : World) (d : Nat) (r : Int × St) (N M : Nat) (e : Ending) (w' : World) : Prop := e = .returned (.int .i64 r.1) ∧ Live B w0 w' d r.2 N M

theorem Live.create {B : Nat} {w0 w : World} {d : Nat} {s : St} {N M : Nat} (h : Live B w0 w d s N M) (hN : N + 1 < 1000000000) (k : ByteArray) (hk : k.size ≤ 140737488355328) {r : Int × St} (hr : DM.create k.data.toList s = r) :
    Calls Tryz.prog 23 #[.pointer (some ⟨d, 0, none⟩), .string k] w (ErrOut B w0 d r (N + 1) M) := by
  subst hr
  obtain ⟨g, hg⟩ := h.rep
  obtain ⟨o1, o2⟩ := create_ok h.ok h.lim k.data.toList
  exact (create_any hg h.ok h.le' k hk h.fewS).mono fun e w' ⟨he, hm, hr⟩ => ⟨he, h.moves.trans hm, o1, o2, hr, h.le, hN, h.few.2⟩
theorem Live.append {B : Nat} {w0 w : World} {d : Nat} {s : St} {N M : Nat} (h : Live B w0 w d s N M) (hN : N + 1 < 1000000000) (j k : ByteArray) (hj : j.size ≤ 140737488355328) {r : Int × St} (hr : DM.append j.data.toList k.data.toList s = r) :
    Calls Tryz.prog 34 #[.pointer (some ⟨d, 0, none⟩), .string j, .string k] w (ErrOut B w0 d r (N + 1) M) := by
  subst hr
  obtain ⟨g, hg⟩ := h.rep
  obtain ⟨o1, o2⟩ := append_ok h.ok h.lim j.data.toList k.data.toList
  exact (append_any hg h.ok h.le' j k hj h.fewS).mono fun e w' ⟨he, hm, hr⟩ => ⟨he, h.moves.trans hm, o1, o2, hr, h.le, hN, h.few.2⟩
theorem Live.sync {B : Nat} {w0 w : World} {d : Nat} {s : St} {N M : Nat} (h : Live B w0 w d s N M) (hN : N + 1 < 1000000000) (k : ByteArray) (hk : k.size ≤ 140737488355328) {r : Int × St} (hr : DM.sync k.data.toList s = r) :
    Calls Tryz.prog 36 #[.pointer (some ⟨d, 0, none⟩), .string k] w (ErrOut B w0 d r (N + 1) M) := by
  subst hr
  obtain ⟨g, hg⟩ := h.rep
  obtain ⟨o1, o2⟩ := sync_ok h.ok h.lim k.data.toList
  exact (sync_any hg h.ok h.le' k hk h.fewS).mono fun e w' ⟨he, hm, hr⟩ => ⟨he, h.moves.trans hm, o1, o2, hr, h.le, hN, h.few.2⟩
theorem Live.syncDir {B : Nat} {w0 w : World} {d : Nat} {s : St} {N M : Nat} (h : Live B w0 w d s N M) (hN : N + 1 < 1000000000) {r : Int × St} (hr : DM.syncDir s = r) :
    Calls Tryz.prog 24 #[.pointer (some ⟨d, 0, none⟩)] w (ErrOut B w0 d r (N + 1) M) := by
  subst hr
  obtain ⟨g, hg⟩ := h.rep
  obtain ⟨o1, o2⟩ := syncDir_ok h.ok h.lim
  exact (syncDir_any hg h.ok h.le' h.fewS).mono fun e w' ⟨he, hm, hr⟩ => ⟨he, h.moves.trans hm, o1, o2, hr, h.le, hN, h.few.2⟩
/-- what a call leaves that answers nothing -/
def VoidOut (B : Nat) (w0 : World) (d : Nat) (s : St) (N M : Nat) (e : Ending) (w' : World) : Prop := e = .returned (.tuple #[]) ∧ Live B w0 w' d s N M

theorem Live.crash {B : Nat} {w0 w : World} {d : Nat} {s : St} {N M : Nat} (h : Live B w0 w d s N M) (names : Int) (hn : fits names) (A : Option Addr) (cap : Nat) (l : List Int) (hl : l.length ≤ M) (hst : Stays B w A l) (hfit : ∀ x ∈ l, fits x) :
    Calls Tryz.prog 11 #[.pointer (some ⟨d, 0, none⟩), .int .i64 names, .slice A l.length cap] w (VoidOut B w0 d (DM.crash names l s) N M) := by
  obtain ⟨g, hg⟩ := h.rep
  obtain ⟨o1, o2⟩ := crash_ok h.ok h.lim names l
  exact (crash_any hg h.ok h.le' names hn A cap l (by have := h.few; omega) hst hfit h.fewS).mono fun e w' ⟨he, hm, hr⟩ => ⟨he, h.moves.trans hm, o1, o2, hr, h.le, h.few⟩

theorem Live.cut {B : Nat} {w0 w : World} {d : Nat} {s : St} {N M : Nat} (h : Live B w0 w d s N M) (n names : Int) (h0 : fits n) (hn : fits names) (A : Option Addr) (cap : Nat) (l : List Int) (hl : l.length ≤ M) (hl8 : l.length * 8 ≤ 140737488355328) (hst : Stays B w A l) (hfit : ∀ x ∈ l, fits x) :
    Calls Tryz.prog 7 #[.pointer (some ⟨d, 0, none⟩), .int .i64 n, .int .i64 names, .slice A l.length cap] w (VoidOut B w0 d (DM.cut n names l s) N M) := by
  obtain ⟨g, hg⟩ := h.rep
  exact (cut_any hg h.le' n names A cap l hst hl8).mono fun e w' ⟨he, hm, hr⟩ => ⟨he, h.moves.trans hm, ok_cut h.ok h0 hn hfit, ⟨h.lim.queue, h.lim.files, hl⟩, hr, h.le, h.few⟩

/-- what Read leaves -/
def TextOut (B : Nat) (w0 : World) (d : Nat) (s : St) (N M : Nat) (r : Bs × Int) (e : Ending) (w' : World) : Prop := e = .returned (.tuple #[encS r.1, .int .i64 r.2]) ∧ Live B w0 w' d s N M

theorem Live.read {B : Nat} {w0 w : World} {d : Nat} {s : St} {N M : Nat} (h : Live B w0 w d s N M) (k : ByteArray) (hk : k.size ≤ 140737488355328) {r : Bs × Int} (hr : DM.read k.data.toList s = r) :
    Calls Tryz.prog 39 #[.pointer (some ⟨d, 0, none⟩), .string k] w (TextOut B w0 d s N M r) := by
  subst hr
  obtain ⟨g, hg⟩ := h.rep
  exact (read_any hg h.ok h.le' k hk).mono fun e w' ⟨he, hm, hr⟩ => ⟨he, h.moves.trans hm, h.ok, h.lim, hr, h.le, h.few⟩

theorem live_new (room : Int) (w0 w : World) (B : Nat) (hm : Moves B w0 w) (hB : B ≤ w0.heap.size) (hr : fits room) (N M : Nat) (hN : N < 1000000000 ∧ M ≤ 140737488355328) :
    Calls Tryz.prog 4 #[.int .i64 room] w fun e w' => e = .returned (.pointer (some ⟨w.heap.size, 0, none⟩)) ∧ Live B w0 w' w.heap.size (new room) N M :=
  (new_any room w hr).mono fun e w' ⟨he, h⟩ => by
    obtain ⟨h1, h2⟩ := h B (Nat.le_trans hB hm.size)
    exact ⟨he, hm.trans h1, ok_new room hr, lim_new _ _ _, h2, hB, hN⟩

end Go.Proofs.YtjkofciohehgfaaGreatDoor.L8


