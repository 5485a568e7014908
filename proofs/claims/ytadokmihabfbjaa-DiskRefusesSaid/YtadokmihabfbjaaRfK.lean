/- The reference: Used, Break, Cut; a name's file. -/
import Derived.Test.YtadokmihabfbjaaRfJ
namespace Go.Proofs.Ytadokmihabfbjaa
open Go.RowKit Go.Maps
open DM

theorem rfind_eq (l : RN) (k : Bs) : rfind l k = rfind' l k := rfl

section
variable {B : Nat} {w : World} {r : Nat} {t : RS} {g : RV}
/-- a file, as it lies -/
theorem RRep.fileIn (h : RRep B w r t g) (i : Nat) (hi : i < t.files.length) : ∃ b c, g.fv = .slice (some ⟨b, 0, none⟩) t.files.length c ∧ b < w.heap.size ∧ w.cell? ⟨b, i * 2, none⟩ = some (encS t.files[i].data) ∧ w.cell? ⟨b, i * 2 + 1, none⟩ = some (.int .i64 t.files[i].sync) ∧ (∀ j, w.frozen? ⟨b, j, none⟩ = false) := by
  obtain ⟨A, c, hv, hz⟩ := own_at h.body.frow
  obtain ⟨b, rfl, _, hb, hc, hf, _⟩ := hz (by omega)
  obtain ⟨z1, z2⟩ := fC_at t.files i hi
  exact ⟨b, c, hv, hb, (hc (i * 2) (by omega)).trans z1, (hc (i * 2 + 1) (by omega)).trans z2, hf⟩
end

theorem RFew.lens {t : RS} (few : RFew t) (n : Nat) : lens t.files n ≤ 1048576 := by
  unfold DM.lens
  by_cases hn : n < t.files.length
  · rw [List.getD_eq_getElem?_getD, List.getElem?_eq_getElem hn]
    exact (few.file _ (List.getElem_mem hn)).2
  · rw [List.getD_eq_getElem?_getD, List.getElem?_eq_none (by omega)]
    simp

theorem lens_at (fs : List F) (n : Nat) (h : n < fs.length) : lens fs n = fs[n].data.length := by
  unfold DM.lens
  rw [List.getD_eq_getElem?_getD, List.getElem?_eq_getElem h]
  rfl

theorem enc_size (d : Bs) : ∃ s : ByteArray, encS d = .string s ∧ s.data.toList = d ∧ s.size = d.length := ⟨⟨d.toArray⟩, rfl, by simp, by simp [ByteArray.size]⟩

set_option maxRecDepth 100000 in
set_option maxHeartbeats 2000000 in
theorem rused_any {B : Nat} {w : World} {r : Nat} {t : RS} {g : RV} (h : RRep B w r t g) (few : RFew t) :
    Calls Try.prog 20 #[.pointer (some ⟨r, 0, none⟩)] w fun e w' => e = .returned (.int .i64 t.used) ∧ Below w.heap.size w w' := by
  have H := Lib.hid h
  have FEW := Lib.hid few
  obtain ⟨NA, nc, hnv, hnz⟩ := Prs.slice h.body.nrow
  have c2 : w.cell? ⟨r, 2, none⟩ = some g.nv := RHalf.cells h 2
  rw [hnv] at c2
  obtain ⟨n, hn⟩ : ∃ n, t.names.length = n := ⟨_, rfl⟩
  rw [hn] at c2
  have hn4 := few.names
  rw [hn] at hn4
  have HN := Lib.hid hn
  have HNZ := Lib.hid hnz
  have hrl := RHalf.lt h
  have HC2 : Hid (∀ W, Below w.heap.size w W → W.cell? ⟨r, 2, none⟩ = some (.slice NA n nc)) := Lib.hid fun W hW => (hW.cell (p := ⟨r, 2, none⟩) hrl).trans c2
  clear h few hnv hnz hn c2 hrl
  go_enter Try.func20, Try.ntmps20
  go_wp2_with fail
  go_loopw [3, 4] (fun s i wr => ∃ j : Nat, j ≤ n ∧ i = .int .i64 j ∧ s = .int .i64 (t.usedTo j) ∧ Below w.heap.size w wr) (fun _ i _ => n - (intOf i).toNat)
  case atStart => exact ⟨0, by omega, rfl, by simp [RS.usedTo], Below.refl _ _⟩
  case round =>
    obtain ⟨j, hj, rfl, rfl, hB⟩ := hrel
    have HB := Lib.hid hB
    have c2 := HC2.out wr hB
    clear hB
    have hub := t.usedTo_le 1048576 (fun n => FEW.out.lens n) j
    by_cases hlt : j < n
    · have hjl : j < t.names.length := by rw [HN.out]; exact hlt
      obtain ⟨nb, rfl, -, hnbw, hc⟩ := HNZ.out (by omega)
      obtain ⟨-, z2⟩ := hc wr (HB.out.block nb hnbw) j hjl
      have hst := t.usedTo_step j hjl
      obtain ⟨p0, p1⟩ := FEW.out.nfile _ (List.getElem_mem hjl)
      obtain ⟨p, hp⟩ : ∃ p, t.names[j] = p := ⟨_, rfl⟩
      rw [hp] at z2 hst p0 p1
      obtain ⟨m, hm⟩ : ∃ m : Nat, p.2 = (m : Int) := ⟨p.2.toNat, by omega⟩
      rw [hm] at z2 hst p1
      have hmf : m < t.files.length := by omega
      obtain ⟨fb, fc, hfv, hfbw, y1, -, -⟩ := RRep.fileIn H.out m hmf
      have c1 : wr.cell? ⟨r, 1, none⟩ = some (.slice (some ⟨fb, 0, none⟩) t.files.length fc) := by rw [← hfv]; exact (HB.out.cell (p := ⟨r, 1, none⟩) (RHalf.lt H.out)).trans (RHalf.cells H.out 1)
      have y1 := (HB.out.cell (p := ⟨fb, m * 2, none⟩) hfbw).trans y1
      obtain ⟨s, hs, -, hsz⟩ := enc_size t.files[m].data
      rw [hs] at y1
      rw [show (m : Int).toNat = m by omega, lens_at _ _ hmf, ← hsz] at hst
      have hsb := FEW.out.lens m
      rw [lens_at _ _ hmf, ← hsz] at hsb
      have hff := FEW.out.files
      obtain ⟨fl, hfl⟩ : ∃ fl, t.files.length = fl := ⟨_, rfl⟩
      rw [hfl] at c1 hmf hff
      obtain ⟨U, hU⟩ : ∃ U, t.usedTo j = U := ⟨_, rfl⟩
      rw [hU] at hst hub
      have HST := Lib.hid hst
      have v0 : IntKind.i64.wrap ((U : Int) + (s.size : Int)) = (U : Int) + (s.size : Int) := wrapN _ (by omega) (by omega)
      have g0 : (0 : Int) ≤ (j : Int) := by omega
      have g1 : (j : Int) < (n : Int) := by omega
      have g2 : (0 : Int) ≤ (m : Int) := by omega
      have g3 : (m : Int) < (fl : Int) := by omega
      clear hc hp hm hfv hs hsz hst hfl p0 p1 hjl
      go_wp2_with fail
      rw [hU]
      go_quiet (fail)
      go_wp2
      go_roundw
      case rel => exact ⟨j + 1, by omega, by go_num, by rw [HST.out]; go_num, below_drewN HB.out _⟩
      case measure => simp [intOf]; omega
    · have hjn : j = t.names.length := by rw [HN.out]; omega
      have HE : Hid (t.usedTo j = t.used) := Lib.hid (by rw [hjn]; exact t.usedTo_end)
      clear hjn
      go_wp2
      go_ret
      exact ⟨ret_int (by have := HE.out; omega), HB.out⟩

theorem rbreak_any {B : Nat} {w : World} {r : Nat} {t : RS} {g : RV} (h : RRep B w r t g) (hB : B ≤ w.heap.size) (n : Int) :
    Calls Try.prog 35 #[.pointer (some ⟨r, 0, none⟩), .int .i64 n] w (RVoid B w r (t.break' n)) := by
  have c9 : w.cell? ⟨r, 9, none⟩ = some (.int .i64 t.brk) := RHalf.cells h 9
  have f9 := RHalf.frozen h 9
  have HS := Lib.hid (fun u (hu : u = ((max n 1).toNat : Int)) => RRep.setBrk h (max n 1).toNat u hu)
  have HM := Lib.hid (fun u => (MovesR.refl B w).set hB h 9 u)
  unfold RS.break'
  by_cases h1 : n < 1
  · clear h
    go_enter Try.func35, Try.ntmps35
    go_wp2
    go_end0
    exact ⟨rfl, ⟨_, HS.out _ (by omega)⟩, HM.out _⟩
  · clear h
    go_enter Try.func35, Try.ntmps35
    go_wp2
    go_end0
    exact ⟨rfl, ⟨_, HS.out _ (by omega)⟩, HM.out _⟩

set_option maxHeartbeats 1000000 in
theorem rcut_any {B : Nat} {w : World} {r : Nat} {t : RS} {g : RV} (h : RRep B w r t g) (hB : B ≤ w.heap.size) (n names : Int) (bv : Value) (l : List Int) (hb : w.ownsRow B 3 1 bv l.length (l.map (Value.int .i64))) :
    Calls Try.prog 33 #[.pointer (some ⟨r, 0, none⟩), .int .i64 n, .int .i64 names, bv] w (RVoid B w r (t.cut n names l)) := by
  obtain ⟨BA, bc, rfl, -⟩ := own_at hb
  have c6 : w.cell? ⟨r, 6, none⟩ = some (.int .i64 t.cutLeft) := RHalf.cells h 6
  have f6 := RHalf.frozen h 6
  have c7 : w.cell? ⟨r, 7, none⟩ = some (.int .i64 t.cutNames) := RHalf.cells h 7
  have f7 := RHalf.frozen h 7
  have c8 : w.cell? ⟨r, 8, none⟩ = some g.cv := RHalf.cells h 8
  have f8 := RHalf.frozen h 8
  have HS : Hid (∀ u : Int, u = ((max n 1).toNat : Int) → RRep B (((w.setCell ⟨r, 6, none⟩ (.int .i64 u)).setCell ⟨r, 7, none⟩ (.int .i64 names)).setCell ⟨r, 8, none⟩ (.slice BA l.length bc)) r (t.cut n names l) { g with cv := .slice BA l.length bc } ∧ MovesR B w (((w.setCell ⟨r, 6, none⟩ (.int .i64 u)).setCell ⟨r, 7, none⟩ (.int .i64 names)).setCell ⟨r, 8, none⟩ (.slice BA l.length bc))) := Lib.hid fun u hu => by
    have h1 := RRep.setCut h (max n 1).toNat u hu
    have h2 := RRep.setCutNames h1 names
    refine ⟨RRep.setCutBytes h2 (RHalf.own_set h1 7 _ (RHalf.own_set h 6 _ hb (by decide)) (by decide)), ?_⟩
    have m1 := (MovesR.refl B w).set hB h 6 (.int .i64 u)
    have m2 := m1.set (by rw [setCell_size]; exact hB) h1 7 (.int .i64 names)
    exact m2.set (by rw [setCell_size, setCell_size]; exact hB) h2 8 (.slice BA l.length bc)
  by_cases h1 : n < 1
  · clear h hb
    go_enter Try.func33, Try.ntmps33
    go_wp2
    go_end0
    exact ⟨rfl, ⟨_, (HS.out _ (by omega)).1⟩, (HS.out _ (by omega)).2⟩
  · clear h hb
    go_enter Try.func33, Try.ntmps33
    go_wp2
    go_end0
    exact ⟨rfl, ⟨_, (HS.out _ (by omega)).1⟩, (HS.out _ (by omega)).2⟩
end Go.Proofs.Ytadokmihabfbjaa
