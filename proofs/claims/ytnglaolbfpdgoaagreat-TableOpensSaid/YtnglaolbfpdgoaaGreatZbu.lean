/- Texts joined by bundle.py: Uf, Ug, Um, Un. -/
import Derived.Test.YtnglaolbfpdgoaaGreatZbt
import Derived.Test.YtnglaolbfpdgoaaGreatZbm
import Derived.Test.YtnglaolbfpdgoaaGreatZaq
import Derived.Test.YtnglaolbfpdgoaaGreatZbd

/- A block's bytes fit into a frame; the keys of entries, each once. -/
namespace Go.Proofs.YtnglaolbfpdgoaaGreat
open Go.RowKit
open SK
open TB (Bs Sp)

theorem enc_two (n : Nat) (h : n ≤ 8191) : (VM.enc (n : Int)).length ≤ 2 := by
  unfold VM.enc
  have hz : Go.Lib.zigzag (n : Int) = 2 * n := by unfold Go.Lib.zigzag; rw [if_pos (by omega)]; omega
  rw [hz]
  by_cases hs : 2 * n < 128
  · rw [Go.Lib.uvarint_small hs]; simp
  · rw [Go.Lib.uvarint_big (by omega), Go.Lib.uvarint_small (by omega)]; simp

theorem textB_two (s : ByteArray) (h : s.size ≤ 8191) : (BK.textB s).length ≤ 2 + s.size := by
  have := enc_two s.size h
  unfold BK.textB
  rw [List.length_append, size_list]
  omega

theorem entB_len2 {e : E} {n : Nat} (hg : good e = 0) (hn : n ≤ e.key.size) (hw : e.wf) (ht : e.til ≠ 9223372036854775807) : (BK.entB e n).length ≤ 26 + (e.key.size + e.value.size) := by
  obtain ⟨h1, h2, h3, h4, h5⟩ := good_zero hg
  have hq := hw.seq
  have htl := hw.til
  have l1 := enc_two n (by omega)
  have l2 := textB_two (e.key.extract n e.key.size) (by rw [BK.tail_size]; omega)
  have l3 := (VM.enc_len (n := e.seq) (by omega) (by omega)).2
  rw [BK.tail_size] at l2
  unfold BK.entB
  rw [List.length_append, List.length_append, List.length_append]
  split
  · have := enc_two 0 (by omega)
    simp only [Int.natCast_zero] at this
    omega
  · have l4 := (VM.enc_len (n := e.til + 1) (by omega) (by omega)).2
    have l5 := textB_two e.value (by omega)
    rw [List.length_append]
    omega

theorem bodyF_len2 (v : Nat) : ∀ (a r : List E), Fine r → (BK.bodyF v a r).length ≤ r.length * 26 + TB.wt r
  | _, [], _ => by simp [BK.bodyF]
  | a, e :: r, h => by
    obtain ⟨h2, h1, h3⟩ := h e (List.mem_cons_self ..)
    have l1 := entB_len2 h1 (BK.sh_le v a e).2.1 h2 h3
    have l2 := bodyF_len2 v (a ++ [e]) r fun x hx => h x (List.mem_cons_of_mem _ hx)
    simp only [BK.bodyF, List.length_append, List.length_cons, TB.wt, List.map_cons, List.sum_cons] at *
    omega

theorem Fine.take {l : List E} (h : Fine l) (n : Nat) : Fine (l.take n) := fun e he => h e (List.mem_of_mem_take he)
theorem Fine.drop {l : List E} (h : Fine l) (n : Nat) : Fine (l.drop n) := fun e he => h e (List.mem_of_mem_drop he)

theorem block_fits {S : Nat} {l : List E} (hS : 1 ≤ S) (hS2 : S ≤ 4096) (hne : l ≠ []) (h : Fine l) : (BK.buildB (l.take (TB.taken S l)) 16).length ≤ 65535 := by
  obtain ⟨b1, b2, b3⟩ := TB.taken_bounds hS hne
  obtain ⟨m, hm⟩ : ∃ m, TB.taken S l = m + 1 := ⟨TB.taken S l - 1, by omega⟩
  have hheld := TB.tk_held S l 0 0 m (by unfold TB.taken at hm; omega)
  have hml : m < l.length := by omega
  have hw := TB.wt_take hml
  obtain ⟨g1, g2, g3, -⟩ := good_zero (h _ (List.getElem_mem hml)).2.1
  have hbl := bodyF_len2 16 [] (l.take (TB.taken S l)) (h.take _)
  have hel := (VM.enc_len (n := ((l.take (TB.taken S l)).length : Int)) (by omega) (by rw [List.length_take]; omega)).2
  have hll : (l.take (TB.taken S l)).length = TB.taken S l := by rw [List.length_take]; omega
  rw [hm] at hbl hel hll ⊢
  unfold BK.buildB
  rw [List.length_append]
  rw [hll] at hbl hel ⊢
  omega

/-! ### entries in order, parted -/

theorem okF_last : ∀ (a b r : List E), a.getLast? = b.getLast? → BK.OkF a r → BK.OkF b r
  | _, _, [], _, _ => trivial
  | a, b, e :: r, hl, h => by
    refine ⟨?_, okF_last (a ++ [e]) (b ++ [e]) r (by simp) h.2⟩
    have := h.1
    unfold BK.nb at this ⊢
    rw [← hl]
    exact this
theorem okF_nil : ∀ (a r : List E), BK.OkF a r → BK.OkF [] r
  | _, [], _ => trivial
  | a, e :: r, h => by
    obtain ⟨h1, h2, -⟩ := BK.nb_zero h.1
    refine ⟨by unfold BK.nb; simp [h1, h2], okF_last (a ++ [e]) ([] ++ [e]) r (by simp) h.2⟩
theorem okF_take : ∀ (n : Nat) (a r : List E), BK.OkF a r → BK.OkF a (r.take n)
  | 0, _, _, _ => by simp [BK.OkF]
  | n + 1, _, [], _ => trivial
  | n + 1, a, e :: r, h => ⟨h.1, okF_take n _ r h.2⟩
theorem okF_drop : ∀ (n : Nat) (a r : List E), BK.OkF a r → BK.OkF [] (r.drop n)
  | 0, a, r, h => by simpa using okF_nil a r h
  | n + 1, _, [], _ => trivial
  | n + 1, a, e :: r, h => okF_drop n _ r h.2

/-! ### keys -/

theorem info_strs : (Tryz.prog.info? 9).map (fun i => (i.zero, i.size, i.bytes)) = some (some (.string ⟨#[]⟩), 1, 16) := by kernel_rfl
theorem make_strs (w : World) (n : Nat) (h : n * 16 ≤ 281474976710656) : (Instr.makeSlice 66 (.int .i64 (n : Int)) (.int .i64 (n : Int))).run Tryz.prog w = .ok (.slice (some ⟨w.heap.size, 0, none⟩) n n) (w.alloc (.cells (strV (List.replicate n ⟨#[]⟩)).toArray 9)) := by
  obtain ⟨i0, hi, hz0, hz1, hz2⟩ := info_parts info_strs
  have h := run_make (P := Tryz.prog) w 66 9 i0 (.string ⟨#[]⟩) Tryz.underlying66 hi hz0 .i64 .i64 (n : Int) (n : Int) (by omega) (Int.le_refl _) (by rw [hz2]; omega) (by omega)
  rw [Int.toNat_natCast] at h
  have e : madeCells #[Value.string ⟨#[]⟩] n = (strV (List.replicate n ⟨#[]⟩)).toArray := by
    apply Array.toList_inj.1
    rw [toList_madeCells_one]
    simp [strV]
  rw [← e]
  simpa [hz1, Value.cells] using h

def keyRow (l : List E) (j : Nat) : List ByteArray := (l.take j).map E.key ++ List.replicate (l.length - j) ⟨#[]⟩
theorem keyRow_set (l : List E) (j : Nat) (h : j < l.length) : (keyRow l j).set j l[j].key = keyRow l (j + 1) := by
  unfold keyRow
  rw [List.take_succ_eq_append_getElem h, List.map_append, List.append_assoc, List.set_append_right _ _ (by simp; omega)]
  congr 1
  obtain ⟨m, hm⟩ : ∃ m, l.length - j = m + 1 := ⟨l.length - j - 1, by omega⟩
  rw [hm, List.replicate_succ, show l.length - (j + 1) = m by omega]
  have : j - ((l.take j).map E.key).length = 0 := by simp; omega
  rw [this]
  rfl

set_option maxRecDepth 100000 in
set_option maxHeartbeats 2000000 in
theorem keysOf_any (A : Option Addr) (n cap : Nat) (l : List E) (w : World) (hn : l.length = n) (hin : EntsIn w A l) (hb : n ≤ 65536) :
    Calls Tryz.prog 57 #[.slice A n cap] w fun e w' => ∃ A2 c2, e = .returned (.slice A2 (TB.keys l).length c2) ∧ B9.StrsIn w' w'.heap.size A2 (TB.keys l) ∧ Below w.heap.size w w' := by
  have hmk := fun W => make_strs W n (by omega)
  obtain ⟨B, hBB⟩ : ∃ B, w.heap.size = B := ⟨_, rfl⟩
  have HR0 : Hid (B9.Lies (w.alloc (.cells (strV (List.replicate n ⟨#[]⟩)).toArray 9)) B 9 (strV (keyRow l 0))) := Lib.hid (by
    rw [← hBB]
    unfold keyRow
    simp only [List.take_zero, List.map_nil, List.nil_append, Nat.sub_zero, hn]
    exact B9.Lies.new w _ _)
  have HW0 : Hid (Below B w (w.alloc (.cells (strV (List.replicate n ⟨#[]⟩)).toArray 9))) := Lib.hid ((Below.refl _ _).alloc (by omega) _)
  have HS0 : Hid ((w.alloc (.cells (strV (List.replicate n ⟨#[]⟩)).toArray 9)).heap.size = B + 1) := Lib.hid (by simp; omega)
  have HIN := Lib.hid hin
  have HN := Lib.hid hn
  simp only [hBB]
  clear hin hn
  go_enter Tryz.func57, Tryz.ntmps57
  go_wp2_with fail
  generalize w.alloc (.cells (strV (List.replicate n ⟨#[]⟩)).toArray 9) = w0 at HR0 HW0 HS0 ⊢
  go_loopw [11] (fun i wr => ∃ j : Nat, j ≤ n ∧ i = .int .i64 j ∧ B9.Lies wr B 9 (strV (keyRow l j)) ∧ Below B w wr ∧ B + 1 ≤ wr.heap.size) (fun i _ => n - (intOf i).toNat)
  case atStart => exact ⟨0, by omega, rfl, HR0.out, HW0.out, by have := HS0.out; omega⟩
  case round =>
    obtain ⟨j, hj, rfl, hrow, hbel, hsz⟩ := hrel
    by_cases hlt : j < n
    · have hjl : j < l.length := by rw [HN.out]; exact hlt
      obtain ⟨bb, off, hA, hbl, hc⟩ := (HIN.out.below (by rw [hBB]; exact hbel)).at_ (by omega)
      obtain ⟨z0, z1, z2, z3, z4⟩ := hc j hjl
      have HKS := Lib.hid (keyRow_set l j hjl)
      have HKL : Hid (j < (keyRow l j).length) := Lib.hid (by unfold keyRow; simp; omega)
      obtain ⟨y, hy⟩ : ∃ y, l[j] = y := ⟨_, rfl⟩
      rw [hy] at z0 z1 z2 z3 z4 HKS
      subst hA
      obtain ⟨k2, r2, g2, v2, t2⟩ := y
      simp only at z0 z1 z2 z3 z4 HKS
      have HROW : Hid (B9.Lies (wr.alloc (.cells #[.string k2, .int .i64 r2, .bool g2, .string v2, .int .i64 t2] 57)) B 9 (strV (keyRow l j))) := Lib.hid (hrow.all ((Below.refl _ _).alloc (Nat.le_refl _) _))
      have ck := HROW.out.cell (strV_at _ j HKL.out)
      have fk := HROW.out.frozen j
      have HSET : Hid (B9.Lies ((wr.alloc (.cells #[.string k2, .int .i64 r2, .bool g2, .string v2, .int .i64 t2] 57)).setCell ⟨B, j, none⟩ (.string k2)) B 9 (strV (keyRow l (j + 1)))) := Lib.hid (by
        have := HROW.out.set j (.string k2)
        unfold strV at this ⊢
        rw [strV_set, HKS.out] at this
        exact this)
      have HB2 : Hid (Below B w ((wr.alloc (.cells #[.string k2, .int .i64 r2, .bool g2, .string v2, .int .i64 t2] 57)).setCell ⟨B, j, none⟩ (.string k2))) := Lib.hid ((hbel.alloc (by omega) _).setCell (p := ⟨B, j, none⟩) (Nat.le_refl _) _)
      have g0 : (0 : Int) ≤ (j : Int) := by omega
      have g1 : (j : Int) < (n : Int) := by omega
      have HSZ := Lib.hid hsz
      clear hrow hbel hsz hc hbl hy
      go_wp2
      go_roundw
      case rel => exact ⟨j + 1, by omega, by go_num, HSET.out, HB2.out, by rw [setCell_size]; have := HSZ.out; simp; omega⟩
      case measure => simp [intOf]; omega
    · have hjn : j = n := by omega
      have hkr : keyRow l j = l.map E.key := by unfold keyRow; rw [hjn, HN.out, List.take_of_length_le (by rw [HN.out]; exact Nat.le_refl _)]; simp
      rw [hkr] at hrow
      have HC := Lib.hid (compact_any B n (l.map E.key) wr (by rw [List.length_map]; exact HN.out) hrow hb)
      have HBEL := Lib.hid hbel
      have HSZ := Lib.hid hsz
      clear hrow hbel hsz hkr
      go_wp2_with fail
      refine HC.out.mono ?_
      rintro e w2 ⟨rfl, hcl, hg⟩
      have HBR : Hid (Below B w w2) := Lib.hid (below_via HBEL.out hg (by have := HSZ.out; omega) (Nat.le_refl _))
      have HST : Hid (B9.StrsIn w2 w2.heap.size (some ⟨B, 0, none⟩) (TB.keys l)) := Lib.hid fun _ => ⟨B, 0, rfl, by have := hg.size; have := HSZ.out; omega, fun j hj => by rw [Nat.zero_add]; exact hcl j hj⟩
      clear hcl hg HC
      go_wp2
      go_ret
      exact ⟨some ⟨B, 0, none⟩, n, rfl, HST.out, HBR.out⟩
end Go.Proofs.YtnglaolbfpdgoaaGreat

/- bytesOf: a table's frames. -/
namespace Go.Proofs.YtnglaolbfpdgoaaGreat
open Go.RowKit
open SK
open TB (Bs Sp)
attribute [local go_sem ↓] Go.wp_at_zero Go.wp_at_succ

theorem ents_drop {W : World} {b off k : Nat} {l : List E} (h : EntsIn W (some ⟨b, off, none⟩) l) : EntsIn W (some ⟨b, off + k * 5, none⟩) (l.drop k) :=
  ⟨fun e he => h.wf e (List.mem_of_mem_drop he), fun hn => by
    rw [List.length_drop] at hn
    obtain ⟨b', off', hA, hlt, hc⟩ := h.at_ (by omega)
    simp only [Option.some.injEq, Addr.mk.injEq] at hA
    obtain ⟨rfl, rfl, -⟩ := hA
    refine ⟨b, off + k * 5, rfl, hlt, fun j hj => ?_⟩
    rw [List.length_drop] at hj
    rw [List.getElem_drop]
    have := hc (k + j) (by omega)
    rw [show off + (k + j) * 5 = off + k * 5 + j * 5 by omega] at this
    exact this⟩

theorem tail_ents (b off n cap t : Nat) (h1 : t ≤ n) (h2 : n ≤ cap) : ∃ A', (∀ W, (Instr.slice 23 (.slice (some ⟨b, off, none⟩) n cap) (some (.int .i64 (t : Int))) none none).run Tryz.prog W = .ok (.slice A' (n - t) (cap - t)) W) ∧ (t < n → A' = some ⟨b, off + t * 5, none⟩) := by
  have hs : ∀ w, (sizeOf (Tryz.prog.elem 23)).run Tryz.prog w = .ok 5 w := fun w => by kernel_rfl
  by_cases hc : t < cap
  · refine ⟨some ⟨b, off + t * 5, none⟩, fun W => ?_, fun _ => rfl⟩
    rw [run_slice_l W 23 (some ⟨b, off, none⟩) n cap (by kernel_rfl) .i64 (t : Int) (by omega) (by omega), hs]
    simp only [Result.andThen, sliced, Int.toNat_natCast]
    split
    · omega
    · simp [add_off]
  · refine ⟨some ⟨b, off, none⟩, fun W => ?_, fun h => by omega⟩
    rw [run_slice_l W 23 (some ⟨b, off, none⟩) n cap (by kernel_rfl) .i64 (t : Int) (by omega) (by omega), hs]
    simp only [Result.andThen, sliced, Int.toNat_natCast]
    split
    · rfl
    · omega

def sliceLen : Value → Nat
  | .slice _ n _ => n
  | _ => 0

theorem build_ok {b : List E} (h1 : b.length ≤ 4096) (h : BK.OkF [] b) : BK.buildOut b 16 = (BK.buildB b 16, 0) := by
  unfold BK.buildOut
  rw [if_neg (by omega), if_neg (by omega), if_neg (by unfold BK.ord; rw [BK.ordF_ok _ _ h]; simp)]
  rfl

theorem dedF_len : ∀ (l : List ByteArray) (p : Option ByteArray), (TB.dedF p l).length ≤ l.length
  | [], _ => by simp [TB.dedF]
  | k :: r, p => by
    have h1 := dedF_len r p
    have h2 := dedF_len r (some k)
    unfold TB.dedF
    split
    · simp; omega
    · simp; omega
theorem dedF_mem : ∀ (l : List ByteArray) (p : Option ByteArray) (x : ByteArray), x ∈ TB.dedF p l → x ∈ l
  | [], _, _, h => by simp [TB.dedF] at h
  | k :: r, p, x, h => by
    unfold TB.dedF at h
    split at h
    · exact List.mem_cons_of_mem _ (dedF_mem r p x h)
    · rcases List.mem_cons.1 h with rfl | h
      · exact List.mem_cons_self ..
      · exact List.mem_cons_of_mem _ (dedF_mem r _ x h)

/-- what making a table comes to -/
def BytesOr (w : World) (S b : Nat) (l : List E) (e : Ending) (w' : World) : Prop :=
  Below w.heap.size w w' ∧ if 65535 < (TB.ixOf S l).length ∨ 65535 < (TB.flOf b l).length then e = .panicked (tfault 5) else e = .returned (.string ⟨(TB.bytes S b l).toArray⟩)

set_option maxRecDepth 100000 in
set_option maxHeartbeats 8000000 in
theorem tbytes_any (A : Option Addr) (n cap S b : Nat) (l : List E) (w : World) (hn : l.length = n) (hcap : n ≤ cap) (hin : EntsIn w A l) (hf : Fine l) (hok : BK.OkF [] l) (hb : n ≤ 65536) (hS : 1 ≤ S) (hS2 : S ≤ 4096) (hb1 : 1 ≤ b) (hb2 : b ≤ 16) :
    Calls Tryz.prog 23 #[.slice A n cap, .int .i64 S, .int .i64 b] w fun e w' => BytesOr w S b l e w' := by
  obtain ⟨i0, hi, hz0, hz1, hz2⟩ := info_parts info_span
  have hmf : ∀ (fn : Fn) (first cap : Array Value) (w : World), (Instr.makeFunc fn first cap).run Tryz.prog w = .ok (.func fn first cap) w := fun _ _ _ _ => rfl
  obtain ⟨B, hBB⟩ : ∃ B, w.heap.size = B := ⟨_, rfl⟩
  have HB0 : Hid (Bld B B [] (w.alloc (.cells #[.pointer none, .slice none 0 0] 100))) := Lib.hid (by rw [← hBB]; exact bld_new w)
  have HW0 : Hid (Below B w (w.alloc (.cells #[.pointer none, .slice none 0 0] 100))) := Lib.hid ((Below.refl _ _).alloc (by omega) _)
  have HS0 : Hid ((w.alloc (.cells #[.pointer none, .slice none 0 0] 100)).heap.size = B + 1) := Lib.hid (by simp; omega)
  obtain ⟨b0, off0, hA0⟩ : ∃ b0 off0, 0 < n → A = some ⟨b0, off0, none⟩ := by
    by_cases h0 : 0 < n
    · obtain ⟨b0, off0, hA, -⟩ := hin.at_ (by omega)
      exact ⟨b0, off0, fun _ => hA⟩
    · exact ⟨0, 0, fun h => absurd h h0⟩
  have HPUT : Hid (∀ G p W, Bld B B G W → G.length + (8 + p.length) ≤ 100000000 → B ≤ W.heap.size → Calls Tryz.prog 48 #[.string ⟨p.toArray⟩, .int .i64 0, .pointer (some ⟨B, 0, none⟩)] W fun e w' => PutT B B G p W 0 e w') := Lib.hid fun G p W h1 h2 h3 => tput_any B B G p 0 W h1 h2 h3
  have HENT : Hid (∀ W k, Below B w W → k < n → EntsIn W (some ⟨b0, off0 + k * 5, none⟩) (l.drop k)) := Lib.hid fun W k hW hk => ents_drop (by rw [← hA0 (by omega)]; exact hin.below (by rw [hBB]; exact hW))
  have HN := Lib.hid hn
  have HFI := Lib.hid hf
  have HOK := Lib.hid hok
  have HIN := Lib.hid hin
  have HA0 := Lib.hid hA0
  unfold BytesOr
  simp only [hBB]
  clear hn hf hok hin hA0
  go_enter Tryz.func23, Tryz.ntmps23
  go_wp2_with fail
  generalize w.alloc (.cells #[.pointer none, .slice none 0 0] 100) = w0 at HB0 HW0 HS0 ⊢
  go_loopw [9, 10] (fun v lf wr => ∃ (k : Nat) (D : List (List E)) (A2 : Option Addr), k ≤ n ∧ lf = .slice A2 (n - k) (cap - k) ∧ (k < n → A2 = some ⟨b0, off0 + k * 5, none⟩) ∧ D ++ TB.cuts S (l.drop k) = TB.cuts S l ∧ D.length ≤ k ∧ (TB.body D).length ≤ k * 718 ∧
      wr.ownsRow (B + 1) 81 3 v D.length (scs (TB.sps 0 D)) ∧ Bld B B (TB.body D) wr ∧ Below B w wr ∧ B + 1 ≤ wr.heap.size ∧ ∀ y ∈ TB.sps 0 D, y.wf ∧ y.last.size ≤ 64) (fun _ lf _ => sliceLen lf)
  case atStart => exact ⟨0, [], A, by omega, rfl, fun h => by rw [HA0.out (by omega)]; simp, by simp, by simp, by simp [TB.body], World.ownsRow_nil _ _ _ _, HB0.out, HW0.out, by have := HS0.out; omega, by simp [TB.sps]⟩
  case round =>
    obtain ⟨k, D, A2, hk, rfl, hA2, hcut, hDl, hDb, hown, hbld, hbel, hsz, hwf⟩ := hrel
    obtain ⟨V, vc, rfl⟩ := B9.own_slice hown
    have HCUT := Lib.hid hcut
    have HDL := Lib.hid hDl
    have HDB := Lib.hid hDb
    have HOWN := Lib.hid hown
    have HBLD := Lib.hid hbld
    have HBEL := Lib.hid hbel
    have HSZ := Lib.hid hsz
    have HWF := Lib.hid hwf
    clear hcut hDl hDb hown hbld hbel hsz hwf
    by_cases hlt : k < n
    · obtain rfl := hA2 hlt
      have hLne : l.drop k ≠ [] := by intro h; have := congrArg List.length h; rw [List.length_drop, HN.out] at this; simp at this; omega
      have hLl : (l.drop k).length = n - k := by rw [List.length_drop, HN.out]
      obtain ⟨ht1, ht2, ht3⟩ := TB.taken_bounds hS hLne
      have HCS := Lib.hid (TB.cuts_step hS hLne)
      have HFT := Lib.hid (block_fits hS hS2 hLne (HFI.out.drop k))
      have HENK := Lib.hid (HENT.out wr k HBEL.out hlt)
      have HTK := Lib.hid (taken_any (some ⟨b0, off0 + k * 5, none⟩) (n - k) (cap - k) S (l.drop k) wr hLl HENK.out (HFI.out.drop k) hS hS2)
      obtain ⟨t, htt⟩ : ∃ t, TB.taken S (l.drop k) = t := ⟨_, rfl⟩
      rw [htt] at HCS HFT HTK ht1 ht2 ht3
      rw [hLl] at ht2
      have hBL : ((l.drop k).take t).length = t := by rw [List.length_take, hLl]; omega
      have HBO := Lib.hid (build_ok (b := (l.drop k).take t) (by omega) (okF_take t _ _ (okF_drop k _ _ HOK.out)))
      have HBLn := Lib.hid hBL
      clear hLne hLl htt hBL
      go_wp2_with fail
      refine HTK.out.mono ?_
      rintro e w1 ⟨rfl, hb1'⟩
      have HBLD1 := Lib.hid (HBLD.out.kept hb1')
      have HBEL1 := Lib.hid (below_seq HBEL.out hb1' (by have := HSZ.out; omega))
      have HOWN1 := Lib.hid (own_below HOWN.out hb1')
      have HSZ1 : Hid (B + 1 ≤ w1.heap.size) := Lib.hid (by have := hb1'.size; have := HSZ.out; omega)
      clear hb1' HBLD HBEL HOWN HSZ HTK HENK
      have HENK1 := Lib.hid (HENT.out w1 k HBEL1.out hlt)
      have hsl := fun W => slice_ents W (some ⟨b0, off0 + k * 5, none⟩) (n - k) (cap - k) t (by omega)
      have hbd := build_any (some ⟨b0, off0 + k * 5, none⟩) t (cap - k) ((l.drop k).take t) 16 w1 HBLn.out (by omega) (HENK1.out.take t) (by omega)
      rw [HBO.out] at hbd
      have HBD := Lib.hid hbd
      clear hbd
      obtain ⟨P, hP⟩ : ∃ P, BK.buildB ((l.drop k).take t) 16 = P := ⟨_, rfl⟩
      rw [hP] at HFT HBD
      have HP := Lib.hid hP
      clear hP
      obtain ⟨m, hm⟩ : ∃ m, t = m + 1 := ⟨t - 1, by omega⟩
      have hml : m < (l.drop k).length := by rw [List.length_drop, HN.out]; omega
      obtain ⟨y, hy⟩ : ∃ y, (l.drop k)[m]'hml = y := ⟨_, rfl⟩
      have HY := Lib.hid hy
      have hyg := good_zero (HFI.out y (by rw [← hy]; exact List.mem_of_mem_drop (List.getElem_mem hml))).2.1
      have HKEY : Hid (∀ W, Below B w W → W.cell? ⟨b0, off0 + k * 5 + m * 5, none⟩ = some (.string y.key)) := Lib.hid fun W hW => by
        obtain ⟨b', off', hA, -, hc⟩ := (HENT.out W k hW hlt).at_ (by omega)
        simp only [Option.some.injEq, Addr.mk.injEq] at hA
        obtain ⟨rfl, rfl, -⟩ := hA
        have := (hc m hml).1
        rw [hy] at this
        exact this
      have HLK : Hid (BK.lastKey ((l.drop k).take t) = y.key) := Lib.hid (by
        unfold BK.lastKey
        rw [hm, List.take_succ_eq_append_getElem hml, hy]
        simp)
      obtain ⟨ky, hky⟩ : ∃ ky, y.key = ky := ⟨_, rfl⟩
      rw [hky] at HKEY HLK hyg
      obtain ⟨-, hks, -⟩ := hyg
      have hPl := HFT.out
      have hBl : (TB.body D).length ≤ k * 718 := HDB.out
      have hwm : IntKind.i64.wrap ((t : Int) - 1) = (m : Int) := by rw [IntWalk.i64_in _ ⟨by omega, by omega⟩]; omega
      have g0 : (0 : Int) ≤ (m : Int) := by omega
      have g1 : (m : Int) < ((n - k : Nat) : Int) := by omega
      have HM := Lib.hid hm
      clear hy hky hm
      go_wp2_with fail
      refine HBD.out.mono ?_
      rintro e w2 ⟨rfl, hb2'⟩
      have HBLD2 := Lib.hid (HBLD1.out.kept hb2')
      have HBEL2 := Lib.hid (below_seq HBEL1.out hb2' (by have := HSZ1.out; omega))
      have HOWN2 := Lib.hid (own_below HOWN1.out hb2')
      have HSZ2 : Hid (B + 1 ≤ w2.heap.size) := Lib.hid (by have := hb2'.size; have := HSZ1.out; omega)
      clear hb2' HBLD1 HBEL1 HOWN1 HSZ1 HBD HENK1
      go_wp2_with fail
      refine (HPUT.out (TB.body D) P w2 HBLD2.out (by omega) (by have := HSZ2.out; omega)).mono ?_
      rintro e w3 ⟨hb3', hx⟩
      rw [if_neg (by simp), if_neg (by omega)] at hx
      obtain ⟨rfl, hbl3, ha3⟩ := hx
      have HBEL3 := Lib.hid (HBEL2.out.trans hb3')
      have HOWN3 := Lib.hid (own_apartB HOWN2.out ha3 (by decide) (by decide))
      have HSZ3 : Hid (B + 1 ≤ w3.heap.size) := Lib.hid (by have := hb3'.size; have := HSZ2.out; omega)
      have HBLD3 := Lib.hid hbl3
      clear hb3' ha3 hbl3 HBLD2 HBEL2 HOWN2 HSZ2
      obtain ⟨z, hz⟩ : ∃ z, w3.heap.size = z := ⟨_, rfl⟩
      have hz0' : (w3.alloc (.cells #[.string ⟨#[]⟩, .int .i64 (TB.body D).length, .int .i64 (8 + (P.length : Int))] 81)).cell? ⟨b0, off0 + k * 5 + m * 5, none⟩ = some (.string ky) := HKEY.out _ (HBEL3.out.alloc (by have := HSZ3.out; omega) _)
      have HZB : Hid (B + 1 ≤ z) := Lib.hid (by have := HSZ3.out; omega)
      have HOWN5 : Hid ((w3.alloc (.cells #[.string ky, .int .i64 (TB.body D).length, .int .i64 (8 + (P.length : Int))] 81)).ownsRow (B + 1) 81 3 (.slice V D.length vc) D.length (scs (TB.sps 0 D))) := Lib.hid (HOWN3.out.alloc _)
      have HBEL5 : Hid (Below B w (w3.alloc (.cells #[.string ky, .int .i64 (TB.body D).length, .int .i64 (8 + (P.length : Int))] 81))) := Lib.hid (HBEL3.out.alloc (by have := HSZ3.out; omega) _)
      have HBLD5 : Hid (Bld B B (TB.body D ++ TB.fr P) (w3.alloc (.cells #[.string ky, .int .i64 (TB.body D).length, .int .i64 (8 + (P.length : Int))] 81))) := Lib.hid (HBLD3.out.kept ((Below.refl _ _).alloc (Nat.le_refl _) _))
      have HS5 : Hid ((w3.alloc (.cells #[.string ky, .int .i64 (TB.body D).length, .int .i64 (8 + (P.length : Int))] 81)).heap.size = z + 1) := Lib.hid (by simp; omega)
      clear HBEL3 HOWN3 HBLD3 HSZ3
      obtain ⟨Y, hY⟩ : ∃ Y, scs (TB.sps 0 D) = Y := ⟨_, rfl⟩
      rw [hY] at HOWN5
      have hDlen : D.length ≤ 65536 := by have := HDL.out; omega
      obtain ⟨dn, hdn⟩ : ∃ dn, D.length = dn := ⟨_, rfl⟩
      rw [hdn] at HOWN5 hDlen ⊢
      have HYY := Lib.hid hY
      have HDN := Lib.hid hdn
      clear hY hdn
      go_wp2_with (at_builtin; refine wpList_append_own _ rfl _ _ 75 rfl (B + 1) 81 i0 _ 3 32 Tryz.underlying75 hi hz0 hz1 hz2 rfl (by decide) _ _ _ rfl (own_below HOWN5.out ((Below.refl _ _).alloc (Nat.le_refl _) _)) ⟨z + 1, 0, none⟩ 1 1 [.string ky, .int .i64 (TB.body D).length, .int .i64 (8 + (P.length : Int))] rfl ?c1 ?c2 ?c3 ?c4 ?c5 ?c6 ?_)
      case c1 => rfl
      case c2 =>
        refine World.news_of_block (cs := #[.string ky, .int .i64 (TB.body D).length, .int .i64 (8 + (P.length : Int))]) (t := 81) (fr := (0, 0)) ?_
        rw [← HS5.out]
        exact heap_alloc_new _ _
      case c3 => simp [Value.oneCell']
      case c4 => unfold maxLen; omega
      case c5 => omega
      case c6 => have := HS5.out; have := HZB.out; simp; omega
      intro v' w6 hown6 hgrow6 hnil6
      have hob : ∀ g, (Value.slice V dn vc).ownBlock = some g → B + 1 ≤ g := fun g hg => (HOWN5.out.lt g hg).1
      have HD2 : Hid ((D ++ [(l.drop k).take t]).length = dn + 1) := Lib.hid (by rw [List.length_append, HDN.out]; rfl)
      have HSP : Hid (TB.sps 0 (D ++ [(l.drop k).take t]) = TB.sps 0 D ++ [⟨ky, (TB.body D).length, 8 + P.length⟩]) := Lib.hid (by rw [TB.sps_snoc, HLK.out, HP.out, TB.fr_len, Nat.zero_add])
      have HR6 : Hid (w6.ownsRow (B + 1) 81 3 v' (D ++ [(l.drop k).take t]).length (scs (TB.sps 0 (D ++ [(l.drop k).take t])))) := Lib.hid (by
        rw [HD2.out, HSP.out, scs_snoc, HYY.out]
        have : TB.Sp.cells ⟨ky, (TB.body D).length, 8 + P.length⟩ = [.string ky, .int .i64 (TB.body D).length, .int .i64 (8 + (P.length : Int))] := by simp [TB.Sp.cells]
        rw [this]
        exact hown6)
      have HBD6 : Hid (TB.body (D ++ [(l.drop k).take t]) = TB.body D ++ TB.fr P) := Lib.hid (by rw [TB.body_snoc, HP.out])
      have HBLD6 : Hid (Bld B B (TB.body (D ++ [(l.drop k).take t])) w6) := Lib.hid (by
        rw [HBD6.out]
        exact bld_grown (HBLD5.out.kept ((Below.refl _ _).alloc (Nat.le_refl _) _)) (own_below HOWN5.out ((Below.refl _ _).alloc (Nat.le_refl _) _)) hgrow6 (by decide) (by decide))
      have HBEL6 : Hid (Below B w w6) := Lib.hid ⟨hgrow6.os.trans HBEL5.out.os, hgrow6.tape.trans HBEL5.out.tape, hgrow6.output.trans HBEL5.out.output, by have := hgrow6.size; have := HBEL5.out.size; simp at *; omega, fun q hq =>
        (hgrow6.block q (by have := HS5.out; have := HZB.out; simp; omega) (by intro he; have := hob q he.symm; omega)).trans ((Below.heap_alloc _ _ _ (by have := HS5.out; have := HZB.out; omega)).trans (HBEL5.out.block q hq))⟩
      have HSZ6 : Hid (B + 1 ≤ w6.heap.size) := Lib.hid (by have := hgrow6.size; have := HS5.out; have := HZB.out; simp at *; omega)
      obtain ⟨A3, hst, hA3⟩ := tail_ents b0 (off0 + k * 5) (n - k) (cap - k) t (by omega) (by omega)
      have HA3 := Lib.hid hA3
      have hnk : n - k - t = n - (k + t) := by omega
      have hck : cap - k - t = cap - (k + t) := by omega
      rw [hnk, hck] at hst
      have HDB6 : Hid ((TB.body (D ++ [(l.drop k).take t])).length ≤ (k + t) * 718) := Lib.hid (by
        rw [HBD6.out, List.length_append, TB.fr_len, ← HP.out]
        have h1 := BK.bodyF_len 16 [] ((l.drop k).take t) fun e he => by
          have := HFI.out e (List.mem_of_mem_drop (List.mem_of_mem_take he))
          exact ⟨this.2.1, this.1, this.2.2⟩
        have h2 := (VM.enc_len (n := (((l.drop k).take t).length : Int)) (by omega) (by rw [HBLn.out]; omega)).2
        unfold BK.buildB
        rw [List.length_append]
        rw [HBLn.out] at h1 h2 ⊢
        have := HDB.out
        omega)
      have HWF6 : Hid (∀ y ∈ TB.sps 0 (D ++ [(l.drop k).take t]), y.wf ∧ y.last.size ≤ 64) := Lib.hid fun y hy => by
        rw [HSP.out] at hy
        rcases List.mem_append.1 hy with h | h
        · exact HWF.out y h
        · simp only [List.mem_singleton] at h
          rw [h]
          exact ⟨⟨by show ky.size ≤ _; omega, by show (TB.body D).length ≤ _; omega, by show 8 + P.length ≤ _; omega⟩, hks⟩
      have HCUT6 : Hid ((D ++ [(l.drop k).take t]) ++ TB.cuts S (l.drop (k + t)) = TB.cuts S l) := Lib.hid (by
        rw [List.append_assoc, ← HCUT.out, HCS.out, List.drop_drop]
        rfl)
      clear hown6 hgrow6 hnil6 hob hA3 hnk hck HBLD5 HBEL5 HOWN5
      go_wp2
      go_roundw
      case rel => exact ⟨k + t, D ++ [(l.drop k).take t], A3, by omega, rfl, fun h => by rw [HA3.out (by omega), Nat.add_mul, Nat.add_assoc], HCUT6.out, by rw [HD2.out]; have := HDL.out; have := HDN.out; omega, HDB6.out, HR6.out, HBLD6.out, HBEL6.out, HSZ6.out, HWF6.out⟩
      case measure => simp [sliceLen]; omega
    · have hkn : k = n := by omega
      have hD : D = TB.cuts S l := by
        have h := HCUT.out
        rw [List.drop_eq_nil_of_le (by rw [HN.out]; omega), TB.cuts_nil, List.append_nil] at h
        exact h
      obtain ⟨V', vc', hsl', hspin, -, -⟩ := own_sps (fun y hy => (HWF.out y hy).1) (TB.sps_len 0 D) HOWN.out
      obtain ⟨rfl, rfl⟩ : V' = V ∧ vc' = vc := by simp only [Value.slice.injEq] at hsl'; exact ⟨hsl'.1.symm, hsl'.2.2.symm⟩
      have hix : TB.idx (TB.sps 0 D) = TB.ixOf S l := by rw [hD]; rfl
      have HIX := indexOf_any V' D.length vc' (TB.sps 0 D) wr (TB.sps_len 0 D) hspin (fun y hy => (HWF.out y hy).2) (by have := HDL.out; omega)
      rw [hix] at HIX
      have HIXX := Lib.hid HIX
      have hixb : (TB.ixOf S l).length ≤ 6200000 := by
        rw [← hix]
        unfold TB.idx
        have h1 := flat_len (TB.sps 0 D) HWF.out
        have h2 := (VM.enc_len (n := ((TB.sps 0 D).length : Int)) (by omega) (by rw [TB.sps_len]; have := HDL.out; omega)).2
        rw [List.length_append]
        rw [TB.sps_len] at h1 h2 ⊢
        have := HDL.out
        omega
      obtain ⟨ix, hixx⟩ : ∃ ix, TB.ixOf S l = ix := ⟨_, rfl⟩
      rw [hixx] at hixb
      have HIXB := Lib.hid hixb
      obtain ⟨fl, hfl⟩ : ∃ fl, TB.flOf b l = fl := ⟨_, rfl⟩
      have hkl : (TB.keys l).length ≤ n := Nat.le_trans (dedF_len _ _) (by rw [List.length_map, HN.out]; exact Nat.le_refl _)
      have hkm : ∀ q ∈ TB.keys l, q.size ≤ 64 := fun q hq => by
        obtain ⟨e, he, rfl⟩ := List.mem_map.1 (dedF_mem _ _ _ hq)
        exact (good_zero (HFI.out e he).2.1).2.1
      have hflen : fl.length ≤ 131073 := by
        rw [← hfl]
        unfold TB.flOf
        rw [B9.BL.filter_len]
        have := (B9.BL.bytes_lt (b := b) (n := (B9.keysOf (TB.keys l)).length) hb2 (by unfold B9.keysOf; rw [List.length_map]; omega)).2
        omega
      have HNEW : Hid (∀ W A3 c3, B9.StrsIn W W.heap.size A3 (TB.keys l) → Calls Tryz.prog 56 #[.int .i64 b, .slice A3 (TB.keys l).length c3] W fun e w' => e = .returned (.tuple #[.string ⟨fl.toArray⟩, .int .i64 0]) ∧ Below W.heap.size W w') := Lib.hid fun W A3 c3 h3 => by
        have h := B9.new_any b A3 (TB.keys l).length c3 (TB.keys l) W (by omega) (by omega) rfl h3 (by unfold reachBytes; omega) (fun q hq => by have := hkm q hq; omega)
        unfold B9.NewOut B9.BL.new at h
        rw [if_neg (by omega), if_neg (by unfold B9.keysOf; rw [List.length_map]; omega), Int.toNat_natCast] at h
        rw [← hfl]
        exact h
      have HKEYS := Lib.hid fun W (hW : Below B w W) => keysOf_any A n cap l W HN.out (HIN.out.below (by rw [hBB]; exact hW)) hb
      have HBY : Hid (TB.bytes S b l = TB.body D ++ (TB.fr ix ++ (TB.fr fl ++ TB.fr (TB.ftOf (TB.body D).length ((TB.body D).length + (TB.fr ix).length))))) := Lib.hid (by unfold TB.bytes; rw [← hD, hixx, hfl])
      rw [hixx] at HIXX
      have HIXL := Lib.hid hixx
      have HFLL := Lib.hid hfl
      obtain ⟨R, hR⟩ : ∃ R, TB.bytes S b l = R := ⟨_, rfl⟩
      rw [hR] at HBY
      have HRR := Lib.hid hR
      have hBl : (TB.body D).length ≤ 65536 * 718 := by have := HDB.out; omega
      obtain ⟨G, hG⟩ : ∃ G, TB.body D = G := ⟨_, rfl⟩
      rw [hG] at HBY HBLD hBl
      have HGB := Lib.hid hBl
      have HFL := Lib.hid hflen
      clear hixb hsl' hspin hix HIX hixx hfl hkl hkm hflen hR hG hBl hD hkn
      go_wp2_with fail
      refine HIXX.out.mono ?_
      rintro e w1 ⟨rfl, hb1'⟩
      have HBLD1 := Lib.hid (HBLD.out.kept hb1')
      have HBEL1 := Lib.hid (below_seq HBEL.out hb1' (by have := HSZ.out; omega))
      have HSZ1 : Hid (B + 1 ≤ w1.heap.size) := Lib.hid (by have := hb1'.size; have := HSZ.out; omega)
      clear hb1' HIXX HBLD HBEL HSZ HOWN
      by_cases hixl : 65535 < ix.length
      · go_wp2_with fail
        refine (tput_any B B G ix 0 w1 HBLD1.out (by have := HIXB.out; have := HGB.out; omega) (by have := HSZ1.out; omega)).mono ?_
        rintro e w2 ⟨hb2', hx⟩
        rw [if_neg (by simp), if_pos hixl] at hx
        subst hx
        exact ⟨rfl, HBEL1.out.trans hb2', by rw [if_pos (Or.inl (by rw [HIXL.out]; exact hixl))]⟩
      · go_wp2_with fail
        refine (HPUT.out G ix w1 HBLD1.out (by have := HGB.out; omega) (by have := HSZ1.out; omega)).mono ?_
        rintro e w2 ⟨hb2', hx⟩
        rw [if_neg (by simp), if_neg hixl] at hx
        obtain ⟨rfl, hbl2, ha2⟩ := hx
        obtain ⟨z1, hz1'⟩ : ∃ z1, w2.heap.size = z1 := ⟨_, rfl⟩
        have HBLD2 := Lib.hid hbl2
        have HBEL2 := Lib.hid (HBEL1.out.trans hb2')
        have HSZ2 : Hid (B + 1 ≤ w2.heap.size) := Lib.hid (by have := hb2'.size; have := HSZ1.out; omega)
        clear hb2' hbl2 ha2 HBLD1 HBEL1 HSZ1
        have HR3 : Hid ((w2.alloc (.cells #[.string ⟨#[]⟩, .int .i64 G.length, .int .i64 (8 + (ix.length : Int))] 81)).heap[z1]? = some (.cells #[.string ⟨#[]⟩, .int .i64 G.length, .int .i64 (8 + (ix.length : Int))] 81 (0, 0))) := Lib.hid (by rw [← hz1']; exact heap_alloc_new w2 _)
        have HBLD3 := Lib.hid (HBLD2.out.kept ((Below.refl _ _).alloc (Nat.le_refl _) (.cells #[.string ⟨#[]⟩, .int .i64 G.length, .int .i64 (8 + (ix.length : Int))] 81)))
        have HBEL3 := Lib.hid (HBEL2.out.alloc (by have := HSZ2.out; omega) (.cells #[.string ⟨#[]⟩, .int .i64 G.length, .int .i64 (8 + (ix.length : Int))] 81))
        have HSZ3 : Hid ((w2.alloc (.cells #[.string ⟨#[]⟩, .int .i64 G.length, .int .i64 (8 + (ix.length : Int))] 81)).heap.size = z1 + 1) := Lib.hid (by simp; omega)
        have HZ1 : Hid (B + 1 ≤ z1) := Lib.hid (by have := HSZ2.out; omega)
        go_wp2_with fail
        generalize w2.alloc (.cells #[.string ⟨#[]⟩, .int .i64 G.length, .int .i64 (8 + (ix.length : Int))] 81) = w3 at HR3 HBLD3 HBEL3 HSZ3 ⊢
        refine (HKEYS.out w3 HBEL3.out).mono ?_
        rintro e w4 ⟨A3, c3, rfl, hst, hb4⟩
        have HBLD4 := Lib.hid (HBLD3.out.kept hb4)
        have HBEL4 := Lib.hid (below_seq HBEL3.out hb4 (by have := HSZ3.out; have := HZ1.out; omega))
        have HR4 := Lib.hid ((hb4.block z1 (by have := HSZ3.out; omega)).trans HR3.out)
        have HSZ4 : Hid (z1 + 1 ≤ w4.heap.size) := Lib.hid (by have := hb4.size; have := HSZ3.out; omega)
        have HST := Lib.hid hst
        clear hb4 hst HBLD2 HBEL2 HSZ2 HBLD3 HBEL3 HR3 HSZ3
        go_wp2_with fail
        refine (HNEW.out w4 A3 c3 HST.out).mono ?_
        rintro e w5 ⟨rfl, hb5⟩
        have HBLD5 := Lib.hid (HBLD4.out.kept hb5)
        have HBEL5 := Lib.hid (below_seq HBEL4.out hb5 (by have := HSZ4.out; have := HZ1.out; omega))
        have HR5 := Lib.hid ((hb5.block z1 (by have := HSZ4.out; omega)).trans HR4.out)
        have HSZ5 : Hid (z1 + 1 ≤ w5.heap.size) := Lib.hid (by have := hb5.size; have := HSZ4.out; omega)
        clear hb5 HST HBLD4 HBEL4 HR4 HSZ4
        have hGl : (G ++ TB.fr ix).length + (8 + fl.length) ≤ 100000000 := by rw [List.length_append, TB.fr_len]; have := HGB.out; have := HFL.out; omega
        have HGM : Hid ((G ++ TB.fr ix).length ≤ 60000000) := Lib.hid (by rw [List.length_append, TB.fr_len]; have := HGB.out; omega)
        go_wp2_with fail
        by_cases hfll : 65535 < fl.length
        · refine (HPUT.out (G ++ TB.fr ix) fl w5 HBLD5.out hGl (by have := HSZ5.out; have := HZ1.out; omega)).mono ?_
          rintro e w6 ⟨hb6, hx⟩
          rw [if_neg (by simp), if_pos hfll] at hx
          subst hx
          exact ⟨rfl, HBEL5.out.trans hb6, by rw [if_pos (Or.inr (by rw [HFLL.out]; exact hfll))]⟩
        · refine (HPUT.out (G ++ TB.fr ix) fl w5 HBLD5.out hGl (by have := HSZ5.out; have := HZ1.out; omega)).mono ?_
          rintro e w6 ⟨hb6, hx⟩
          rw [if_neg (by simp), if_neg hfll] at hx
          obtain ⟨rfl, hbl6, ha6⟩ := hx
          obtain ⟨z2, hz2'⟩ : ∃ z2, w6.heap.size = z2 := ⟨_, rfl⟩
          obtain ⟨p2, hp2⟩ : ∃ p2, (G ++ TB.fr ix).length = p2 := ⟨_, rfl⟩
          obtain ⟨p1, hp1⟩ : ∃ p1, G.length = p1 := ⟨_, rfl⟩
          rw [hp2, hp1]
          have HP1 := Lib.hid hp1
          have HP2 := Lib.hid hp2
          have hfc : ((8 + fl.length : Nat) : Int) = 8 + (fl.length : Int) := by omega
          rw [hfc]
          have HBLD6 := Lib.hid hbl6
          have HBEL6 := Lib.hid (HBEL5.out.trans hb6)
          have HR6 := Lib.hid (ha6 z1 _ _ _ HR5.out (by decide) (by decide))
          have HSZ6 : Hid (z1 + 1 ≤ w6.heap.size) := Lib.hid (by have := hb6.size; have := HSZ5.out; omega)
          have HR7 : Hid ((w6.alloc (.cells #[.string ⟨#[]⟩, .int .i64 p2, .int .i64 (8 + (fl.length : Int))] 81)).heap[z2]? = some (.cells #[.string ⟨#[]⟩, .int .i64 p2, .int .i64 (8 + (fl.length : Int))] 81 (0, 0))) := Lib.hid (by rw [← hz2']; exact heap_alloc_new w6 _)
          have HR7' : Hid ((w6.alloc (.cells #[.string ⟨#[]⟩, .int .i64 p2, .int .i64 (8 + (fl.length : Int))] 81)).heap[z1]? = some (.cells #[.string ⟨#[]⟩, .int .i64 G.length, .int .i64 (8 + (ix.length : Int))] 81 (0, 0))) := Lib.hid ((Below.heap_alloc _ _ _ (by have := HSZ6.out; omega)).trans HR6.out)
          have HBLD7 := Lib.hid (HBLD6.out.kept ((Below.refl _ _).alloc (Nat.le_refl _) (.cells #[.string ⟨#[]⟩, .int .i64 p2, .int .i64 (8 + (fl.length : Int))] 81)))
          have HBEL7 := Lib.hid (HBEL6.out.alloc (by have := HSZ6.out; have := HZ1.out; omega) (.cells #[.string ⟨#[]⟩, .int .i64 p2, .int .i64 (8 + (fl.length : Int))] 81))
          have HSZ7 : Hid ((w6.alloc (.cells #[.string ⟨#[]⟩, .int .i64 p2, .int .i64 (8 + (fl.length : Int))] 81)).heap.size = z2 + 1) := Lib.hid (by simp; omega)
          have HZ2 : Hid (B + 1 ≤ z2) := Lib.hid (by have := HSZ6.out; have := HZ1.out; omega)
          have hp1b : p1 ≤ 281474976710656 := by rw [← hp1]; have := HGB.out; omega
          have hp2b : p2 ≤ 281474976710656 := by rw [← hp2]; omega
          have HPB1 := Lib.hid (fun W => placeBytes_any p1 W hp1b)
          have HPB2 := Lib.hid (fun W => placeBytes_any p2 W hp2b)
          have hfoot : (⟨(TB.be 8 p1).toArray⟩ : ByteArray) ++ ⟨(TB.be 8 p2).toArray⟩ = ⟨(TB.be 8 p1 ++ TB.be 8 p2).toArray⟩ := by apply str_ext; simp
          have HPUTF : Hid (∀ W, Bld B B ((G ++ TB.fr ix) ++ TB.fr fl) W → B ≤ W.heap.size → Calls Tryz.prog 48 #[.string (⟨(TB.be 8 p1).toArray⟩ ++ ⟨(TB.be 8 p2).toArray⟩), .int .i64 0, .pointer (some ⟨B, 0, none⟩)] W fun e w' => (∃ q, e = .returned (.agg #[.string ⟨#[]⟩, .int .i64 q, .int .i64 24])) ∧ Bld B B (((G ++ TB.fr ix) ++ TB.fr fl) ++ TB.fr (TB.be 8 p1 ++ TB.be 8 p2)) w' ∧ Below B W w' ∧ ApartB W w') := Lib.hid fun W h1 h2 => by
            rw [hfoot]
            have hl2 : (TB.be 8 p1 ++ TB.be 8 p2).length = 16 := by rw [List.length_append, TB.be_len, TB.be_len]
            refine (HPUT.out _ (TB.be 8 p1 ++ TB.be 8 p2) W h1 (by rw [List.length_append, TB.fr_len, hl2]; have := HGM.out; omega) h2).mono ?_
            rintro e w' ⟨hbb, hx⟩
            rw [if_neg (by simp), if_neg (by rw [hl2]; omega), hl2] at hx
            exact ⟨⟨_, hx.1⟩, hx.2.1, hbb, hx.2.2⟩
          obtain ⟨SA, hSA⟩ : ∃ SA : ByteArray, (⟨(TB.be 8 p1).toArray⟩ : ByteArray) = SA := ⟨_, rfl⟩
          obtain ⟨SB, hSB⟩ : ∃ SB : ByteArray, (⟨(TB.be 8 p2).toArray⟩ : ByteArray) = SB := ⟨_, rfl⟩
          have hsa : SA.size = 8 := by rw [← hSA, mk_size, TB.be_len]
          have hsb : SB.size = 8 := by rw [← hSB, mk_size, TB.be_len]
          have k1 : ¬ 9223372036854775807 < SA.size + SB.size := by omega
          rw [hSA] at HPB1
          rw [hSB] at HPB2
          rw [hSA, hSB] at HPUTF
          have HSA := Lib.hid hsa
          have HSB := Lib.hid hsb
          clear hsa hsb hSA hSB hfoot hbl6 hb6 ha6 hp1 hfc HBLD5 HBEL5 HR5 HSZ5 HBLD6 HBEL6 HR6 HSZ6 hGl
          go_wp2_with fail
          rw [HP1.out] at HR7'
          generalize w6.alloc (.cells #[.string ⟨#[]⟩, .int .i64 p2, .int .i64 (8 + (fl.length : Int))] 81) = w7 at HR7 HR7' HBLD7 HBEL7 HSZ7 ⊢
          have e1 : w7.cell? ⟨z1, 1, none⟩ = some (.int .i64 p1) := cell_of_row _ _ _ _ _ _ HR7'.out
          have e2 : w7.cell? ⟨z2, 1, none⟩ = some (.int .i64 p2) := cell_of_row _ _ _ _ _ _ HR7.out
          have HSC : Hid (∀ W, Below w7.heap.size w7 W → (W.cell? ⟨z1, 1, none⟩ = some (.int .i64 p1) ∧ W.cell? ⟨z2, 1, none⟩ = some (.int .i64 p2)) ∧ Bld B B ((G ++ TB.fr ix) ++ TB.fr fl) W ∧ B ≤ W.heap.size) := Lib.hid fun W hW =>
            ⟨⟨cell_of_row _ _ _ _ _ _ ((hW.block z1 (Array.getElem?_eq_some_iff.1 HR7'.out).1).trans HR7'.out), cell_of_row _ _ _ _ _ _ ((hW.block z2 (Array.getElem?_eq_some_iff.1 HR7.out).1).trans HR7.out)⟩, HBLD7.out.kept hW, by have := hW.size; have := HSZ7.out; have := HZ2.out; omega⟩
          have HRC : Hid (∀ W, Below w7.heap.size w7 W → W.heap[z1]? = some (.cells #[.string ⟨#[]⟩, .int .i64 p1, .int .i64 (8 + (ix.length : Int))] 81 (0, 0)) ∧ W.heap[z2]? = some (.cells #[.string ⟨#[]⟩, .int .i64 p2, .int .i64 (8 + (fl.length : Int))] 81 (0, 0))) := Lib.hid fun W hW =>
            ⟨(hW.block z1 (Array.getElem?_eq_some_iff.1 HR7'.out).1).trans HR7'.out, (hW.block z2 (Array.getElem?_eq_some_iff.1 HR7.out).1).trans HR7.out⟩
          go_region_held3 (fun W => W.cell? ⟨z1, 1, none⟩ = some (.int .i64 p1) ∧ W.cell? ⟨z2, 1, none⟩ = some (.int .i64 p2))
            (first | exact HS3.out | exact HS2.out | exact HS1.out | go_keep | fail)
            (first
              | (have hkb := HBb.out; go_at_call 48; refine (HPUTF.out _ (HSC.out _ hkb).2.1 (HSC.out _ hkb).2.2).mono ?_; rintro r wc ⟨⟨q, rfl⟩, hbl, hbc, hac⟩
                 have HBL := Lib.hid hbl
                 have HBC : Hid (Below B w7 wc) := Lib.hid ((hkb.mono (by have := HSZ7.out; have := HZ2.out; omega)).trans hbc)
                 have HS3 : Hid (wc.cell? ⟨z1, 1, none⟩ = some (.int .i64 p1) ∧ wc.cell? ⟨z2, 1, none⟩ = some (.int .i64 p2)) := Lib.hid ⟨cell_of_row _ _ _ _ _ _ (hac z1 _ _ _ (HRC.out _ hkb).1 (by decide) (by decide)), cell_of_row _ _ _ _ _ _ (hac z2 _ _ _ (HRC.out _ hkb).2 (by decide) (by decide))⟩
                 clear hbl hbc hac hkb)
              | (have hka := HBa.out; go_at_call 58; with_reducible refine (HPB2.out _).mono ?_; rintro r wb ⟨rfl, hbb⟩
                 have HBb : Hid (Below w7.heap.size w7 wb) := Lib.hid (below_seq hka hbb hka.size)
                 have HS2 := Lib.hid (HSC.out _ HBb.out).1
                 clear hbb hka)
              | (go_at_call 58; with_reducible refine (HPB1.out _).mono ?_; rintro r wa ⟨rfl, hba⟩
                 have HBa : Hid (Below w7.heap.size w7 wa) := Lib.hid (below_seq (below_drewN (Below.refl _ _) 1) hba (Nat.le_refl _))
                 have HS1 := Lib.hid (HSC.out _ HBa.out).1
                 clear hba)
              | fail)
          all_goals
            clear HS3
            have hfin : ((G ++ TB.fr ix) ++ TB.fr fl) ++ TB.fr (TB.be 8 p1 ++ TB.be 8 p2) = R := by
              rw [HBY.out, HP1.out, ← HP2.out, List.length_append, HP1.out]
              simp only [List.append_assoc]
              rfl
            have HST := Lib.hid (bstring_any B B R wc (by rw [← hfin]; exact HBL.out) (by
              rw [← hfin]
              intro h
              have := congrArg List.length h
              rw [List.length_append, TB.fr_len] at this
              simp at this))
            clear hfin
            go_wp2_with fail
            refine HST.out.mono ?_
            rintro e w9 ⟨rfl, hb9⟩
            have i1 : ¬ 65535 < (TB.ixOf S l).length := by rw [HIXL.out]; exact hixl
            have i2 : ¬ 65535 < (TB.flOf b l).length := by rw [HFLL.out]; exact hfll
            have HBF := Lib.hid ((HBEL7.out.trans HBC.out).trans hb9)
            clear hb9
            go_wp2
            all_goals first
              | (rename_i h; exact absurd h (by rw [HIXL.out, HFLL.out]; omega))
              | (go_ret; exact ⟨HBF.out, by rw [HRR.out]; rfl⟩)
end Go.Proofs.YtnglaolbfpdgoaaGreat

/- Plain mathematics: a table that was made is read back; with a byte turned it is read back, or not at all. -/
namespace Go.Proofs.YtnglaolbfpdgoaaGreat
open Go.RowKit
open SK
open TB (Bs Sp)
namespace TB

/-! ### frames in their place -/

theorem get_fr (p : Bs) (h : p.length ≤ 65535) : F3.FM.get (fr p) = (p, 8 + p.length, 0) := by
  have := F3.FM.get_frame p [] h
  rwa [List.append_nil] at this
theorem one_fr (p : Bs) (h : p.length ≤ 65535) : one (fr p) ((8 + p.length : Nat) : Int) = .ok p := by
  unfold one
  rw [vget0, get_fr p h]
  simp
theorem part_at (A M C : Bs) : part (A ++ (M ++ C)) (A.length : Int) (M.length : Int) = .ok M := by
  unfold part
  rw [if_neg (by simp; omega), Int.toNat_natCast, Int.toNat_natCast, List.drop_left, List.take_left]
theorem bodyOf_at (A p C : Bs) (h : p.length ≤ 65535) (a n : Int) (ha : a = A.length) (hn : n = (8 + p.length : Nat)) : bodyOf (A ++ (fr p ++ C)) a n = .ok p := by
  subst ha hn
  unfold bodyOf
  have := part_at A (fr p) C
  rw [fr_len] at this
  rw [this]
  exact one_fr p h

theorem part_other {s : Bs} {j : Nat} {y : UInt8} {a n : Int} (h : (j : Int) < a ∨ a + n ≤ j) : part (s.set j y) a n = part s a n := by
  unfold part
  rw [List.length_set]
  by_cases hc : a < 0 ∨ n < 0 ∨ (s.length : Int) < a ∨ (s.length : Int) - a < n
  · rw [if_pos hc, if_pos hc]
  · rw [if_neg hc, if_neg hc]
    congr 1
    rw [List.drop_set]
    split
    · rfl
    · rw [List.take_set_of_le (by omega)]
theorem bodyOf_other {s : Bs} {j : Nat} {y : UInt8} {a n : Int} (h : (j : Int) < a ∨ a + n ≤ j) : bodyOf (s.set j y) a n = bodyOf s a n := by
  unfold bodyOf; rw [part_other h]

theorem bodyOf_turned (A p C : Bs) (h : p.length ≤ 65535) (a n : Int) (ha : a = A.length) (hn : n = (8 + p.length : Nat)) (j : Nat) (y : UInt8) (h1 : A.length ≤ j) (h2 : j < A.length + (8 + p.length)) (hy : (A ++ (fr p ++ C)).getD j 0 ≠ y) :
    ∃ c, bodyOf ((A ++ (fr p ++ C)).set j y) a n = .error c := by
  subst ha hn
  have hset : (A ++ (fr p ++ C)).set j y = A ++ ((fr p).set (j - A.length) y ++ C) := by
    rw [List.set_append_right _ _ h1, List.set_append_left _ _ (by rw [fr_len]; omega)]
  have hg : (fr p ++ []).getD (j - A.length) 0 ≠ y := by
    intro he
    apply hy
    rw [← he, List.append_nil]
    simp only [List.getD_eq_getElem?_getD]
    rw [List.getElem?_append_right h1, List.getElem?_append_left (by rw [fr_len]; omega)]
  have ht := F3.FM.get_turned p [] h (j - A.length) (by omega) y hg
  have hf : F3.FM.frame p = fr p := rfl
  rw [List.append_nil, hf] at ht
  rw [hset]
  have hl : ((fr p).set (j - A.length) y).length = 8 + p.length := by rw [List.length_set, fr_len]
  have hp := part_at A ((fr p).set (j - A.length) y) C
  rw [hl] at hp
  unfold bodyOf
  rw [hp]
  show ∃ c, one ((fr p).set (j - A.length) y) _ = .error c
  unfold one
  rw [vget0, ht]
  by_cases h4 : j - A.length < 4
  · exact ⟨4, by simp [h4]⟩
  · exact ⟨6, by simp [h4]⟩

/-! ### a place -/

theorem big_be : ∀ (k n a : Nat), (be k n).foldl (fun a b => a * 256 + b.toNat) a = a * 256 ^ k + n % 256 ^ k
  | 0, n, a => by simp [be, Nat.mod_one]
  | k + 1, n, a => by
    have hb : ((n / 256 ^ k % 256).toUInt8).toNat = n / 256 ^ k % 256 := by
      have := byte_toNat (n / 256 ^ k % 256) (Nat.mod_lt _ (by decide))
      omega
    simp only [be, List.foldl_cons]
    have h1 : n % 256 ^ (k + 1) = n % 256 ^ k + 256 ^ k * (n / 256 ^ k % 256) := Nat.mod_pow_succ
    have h2 : a * 256 ^ (k + 1) = a * 256 * 256 ^ k := by rw [Nat.pow_succ', Nat.mul_assoc]
    rw [big_be k n, hb, h1, h2, Nat.add_mul, Nat.mul_comm (256 ^ k)]
    omega
theorem big_place (n : Nat) (h : n < 18446744073709551616) : big (be 8 n) = n := by
  unfold big
  rw [big_be 8 n 0, Nat.zero_mul, Nat.zero_add]
  exact Nat.mod_eq_of_lt (by simpa using h)

/-! ### cuts -/

theorem cutsF_flat {size : Nat} (hs : 1 ≤ size) : ∀ (f : Nat) (l : List E), l.length ≤ f → (cutsF size f l).flatten = l
  | 0, l, h => by
    have : l = [] := List.length_eq_zero_iff.1 (by omega)
    subst this; rfl
  | f + 1, [], _ => rfl
  | f + 1, e :: r, h => by
    have hb := taken_bounds hs (l := e :: r) (by simp)
    simp only [cutsF, List.flatten_cons]
    rw [cutsF_flat hs f _ (by rw [List.length_drop]; simp at h ⊢; omega), List.take_append_drop]
theorem cuts_flat {size : Nat} (hs : 1 ≤ size) (l : List E) : (cuts size l).flatten = l := cutsF_flat hs _ _ (Nat.le_refl _)

/-- a block that is in order, and fits -/
structure Blk (b : List E) : Prop where
  ne : b ≠ []
  len : b.length ≤ 2048
  ok : BK.OkF [] b
  wf : ∀ e ∈ b, e.wf
  fits : (BK.buildB b 16).length ≤ 65535

theorem cutsF_blk {size : Nat} (hs : 1 ≤ size) (hs2 : size ≤ 4096) : ∀ (f : Nat) (l : List E), BK.OkF [] l → Fine l → ∀ b ∈ cutsF size f l, Blk b
  | 0, _, _, _, b, h => by simp [cutsF] at h
  | _ + 1, [], _, _, b, h => by simp [cutsF] at h
  | f + 1, e :: r, hok, hf, b, h => by
    have hb := taken_bounds hs (l := e :: r) (by simp)
    simp only [cutsF, List.mem_cons] at h
    rcases h with rfl | h
    · refine ⟨fun h => ?_, by rw [List.length_take]; omega, okF_take _ _ _ hok, fun x hx => (hf x (List.mem_of_mem_take hx)).1, block_fits hs hs2 (by simp) hf⟩
      have := congrArg List.length h
      rw [List.length_take] at this
      simp only [List.length_nil] at this
      omega
    · exact cutsF_blk hs hs2 f _ (okF_drop _ _ _ hok) (hf.drop _) b h

/-! ### the index is read back -/

theorem rTri_enc (s : Sp) (hl : s.last.size ≤ 65535) (ha : s.at_ ≤ 9223372036854775807) (hn : s.n ≤ 9223372036854775807) (a r : Bs) : rTri (a ++ (spB s ++ r)) a.length = .ok ((s.last, (s.at_ : Int), (s.n : Int)), a.length + (spB s).length) := by
  have e1 := BK.text_enc s.last hl a (VM.enc s.at_ ++ (VM.enc s.n ++ r))
  have e2 := BK.num_enc (n := (s.at_ : Int)) (by omega) (by omega) (a ++ BK.textB s.last) (VM.enc s.n ++ r)
  have e3 := BK.num_enc (n := (s.n : Int)) (by omega) (by omega) (a ++ (BK.textB s.last ++ VM.enc s.at_)) r
  unfold rTri spB
  simp only [List.append_assoc, List.length_append] at e1 e2 e3 ⊢
  rw [e1]
  simp only
  rw [e2]
  simp only
  rw [show a.length + (BK.textB s.last).length + (VM.enc (s.at_ : Int)).length = a.length + ((BK.textB s.last).length + (VM.enc (s.at_ : Int)).length) by omega, e3]
  simp only [Except.ok.injEq, Prod.mk.injEq, true_and]
  omega

/-- last keys stand in order behind k -/
def Up : ByteArray → List (List E) → Prop
  | _, [] => True
  | k, b :: r => lt (BK.lastKey b) k = false ∧ Up (BK.lastKey b) r

theorem rSps_enc (place : Nat) (hp : place ≤ 9223372036854775807) : ∀ (D : List (List E)) (e : Nat) (acc : List Sp) (a r : Bs), (∀ b ∈ D, (BK.lastKey b).size ≤ 65535) → Up (lastSp acc) D → e + (body D).length ≤ place →
    rSps (a ++ ((sps e D).flatMap spB ++ r)) place D.length a.length e acc = .ok (acc ++ sps e D, a.length + ((sps e D).flatMap spB).length, e + (body D).length)
  | [], e, acc, a, r, _, _, _ => by simp [rSps, sps, body]
  | b :: D, e, acc, a, r, hk, hu, hpl => by
    have hbl : (body (b :: D)).length = (fr (BK.buildB b 16)).length + (body D).length := by simp [body]
    rw [hbl] at hpl
    have hfl := fr_len (BK.buildB b 16)
    have ht := rTri_enc ⟨BK.lastKey b, e, (fr (BK.buildB b 16)).length⟩ (hk b (by simp)) (by show e ≤ _; omega) (by show (fr _).length ≤ _; omega) a ((sps (e + (fr (BK.buildB b 16)).length) D).flatMap spB ++ r)
    have ih := rSps_enc place hp D (e + (fr (BK.buildB b 16)).length) (acc ++ [⟨BK.lastKey b, e, (fr (BK.buildB b 16)).length⟩]) (a ++ spB ⟨BK.lastKey b, e, (fr (BK.buildB b 16)).length⟩) r (fun x hx => hk x (by simp [hx])) (by simpa [lastSp] using hu.2) (by omega)
    simp only [sps, List.flatMap_cons, List.append_assoc, List.length_cons, rSps]
    rw [ht]
    simp only
    rw [if_pos ⟨rfl, by omega, by omega, hu.1⟩, Int.toNat_natCast]
    simp only [List.append_assoc, List.length_append] at ih
    rw [List.length_append] 
    rw [show a.length + (spB ⟨BK.lastKey b, e, (fr (BK.buildB b 16)).length⟩).length = (a.length + (spB ⟨BK.lastKey b, e, (fr (BK.buildB b 16)).length⟩).length) from rfl, ih, hbl]
    simp only [List.cons_append, List.nil_append, Except.ok.injEq, Prod.mk.injEq, true_and]
    omega

theorem spansOf_enc (D : List (List E)) (hk : ∀ b ∈ D, (BK.lastKey b).size ≤ 65535) (hu : Up ⟨#[]⟩ D) (hp : (body D).length ≤ 9223372036854775807) (hl : D.length ≤ 9223372036854775807) : spansOf (idx (sps 0 D)) (body D).length = .ok (sps 0 D) := by
  have e1 := BK.num_enc (n := ((sps 0 D).length : Int)) (by omega) (by rw [sps_len]; omega) [] ((sps 0 D).flatMap spB)
  have e2 := rSps_enc (body D).length hp D 0 [] (VM.enc ((sps 0 D).length : Int)) [] hk hu (by omega)
  simp only [List.nil_append, List.length_nil, Nat.zero_add, List.append_nil] at e1 e2
  unfold spansOf idx
  rw [e1]
  simp only
  rw [if_neg (by omega), Int.toNat_natCast, sps_len] at *
  rw [e2]
  simp only [rSpEnd]
  rw [if_pos (by simp)]
end TB
end Go.Proofs.YtnglaolbfpdgoaaGreat

/- Plain mathematics: a table that was made is opened, and read whole; with a byte turned likewise, or not at all. -/
namespace Go.Proofs.YtnglaolbfpdgoaaGreat
open Go.RowKit
open SK
open TB (Bs Sp)
namespace TB

/-- what a table that is made is made of -/
structure Made (S b : Nat) (l : List E) : Prop where
  s1 : 1 ≤ S
  s2 : S ≤ 4096
  ok : BK.OkF [] l
  fine : Fine l
  n : l.length ≤ 65536
  ix : (ixOf S l).length ≤ 65535
  fl : (flOf b l).length ≤ 65535

theorem made_of {l : List E} {size bits : Int} (hn : l.length ≤ 65536) (hw : ∀ e ∈ l, e.wf) (h : (tabOut l size bits).2 = 0) : Made size.toNat bits.toNat l ∧ tabOut l size bits = (bytes size.toNat bits.toNat l, 0) := by
  unfold tabOut at h ⊢
  split at h
  · simp at h
  · rename_i h1
    rw [if_neg h1]
    split at h
    · simp at h
    · rename_i h2
      rw [if_neg h2]
      split at h
      · rename_i h3; exact absurd h h3
      · rename_i h3
        rw [if_neg h3]
        split at h
        · simp at h
        · rename_i h4
          rw [if_neg h4]
          have hok : BK.OkF [] l := BK.okF_ord _ _ (by simpa [BK.ord] using h3)
          exact ⟨⟨by omega, by omega, hok, fun e he => ⟨hw e he, BK.okF_all _ _ hok e he⟩, hn, by omega, by omega⟩, rfl⟩

theorem less_le {a b : E} (h : less a b = true) : lt b.key a.key = false := by
  unfold less at h
  by_cases hk : a.key = b.key
  · rw [hk]; exact lt_irrefl _
  · rw [if_neg hk] at h
    cases h2 : lt b.key a.key with
    | false => rfl
    | true => have := lt_trans h h2; rw [lt_irrefl] at this; cases this

theorem last_mem {b : List E} (h : b ≠ []) : ∃ x ∈ b, BK.lastKey b = x.key ∧ ∃ r, b = r ++ [x] := by
  rcases List.eq_nil_or_concat b with rfl | ⟨r, x, rfl⟩
  · exact absurd rfl h
  · exact ⟨x, by simp, by simp [BK.lastKey], r, by simp⟩

theorem up_of : ∀ (D : List (List E)) (k : ByteArray), (∀ b ∈ D, b ≠ []) → Sorted D.flatten → (∀ e ∈ D.flatten, lt e.key k = false) → Up k D
  | [], _, _, _, _ => trivial
  | b :: r, k, hne, hs, hk => by
    rw [List.flatten_cons] at hs hk
    obtain ⟨x, hx, hxk, -⟩ := last_mem (hne b (by simp))
    obtain ⟨h1, h2, h3⟩ := List.pairwise_append.1 hs
    refine ⟨by rw [hxk]; exact hk x (List.mem_append_left _ hx), up_of r _ (fun c hc => hne c (by simp [hc])) h2 fun e he => ?_⟩
    rw [hxk]
    exact less_le (h3 x hx e he)

theorem lt_empty (k : ByteArray) : lt k ⟨#[]⟩ = false := by
  unfold lt
  cases k.data.toList with
  | nil => rfl
  | cons a r => rfl

theorem body_cons (b : List E) (r : List (List E)) : body (b :: r) = fr (BK.buildB b 16) ++ body r := by simp [body]
theorem body_app (D1 D2 : List (List E)) : body (D1 ++ D2) = body D1 ++ body D2 := by simp [body]
theorem body_le : ∀ (D : List (List E)), (∀ b ∈ D, Blk b) → (body D).length ≤ D.length * 65543
  | [], _ => by simp [body]
  | b :: r, h => by
    have h1 := (h b (by simp)).fits
    have h2 := body_le r fun x hx => h x (by simp [hx])
    rw [body_cons, List.length_append, fr_len, List.length_cons]
    omega
theorem blocks_le : ∀ (D : List (List E)), (∀ b ∈ D, b ≠ []) → D.length ≤ D.flatten.length
  | [], _ => by simp
  | b :: r, h => by
    have h1 := List.length_pos_iff.2 (h b (by simp))
    have h2 := blocks_le r fun x hx => h x (by simp [hx])
    rw [List.flatten_cons, List.length_append, List.length_cons]
    omega

theorem Made.len {S b : Nat} {l : List E} (_ : Made S b l) : (bytes S b l).length = (TB.body (cuts S l)).length + (fr (ixOf S l)).length + (fr (flOf b l)).length + 24 := by
  unfold bytes ftOf
  simp only [List.length_append, fr_len, be_len]
  omega
theorem Made.foot {S b : Nat} {l : List E} (_ : Made S b l) : (ftOf (TB.body (cuts S l)).length ((TB.body (cuts S l)).length + (fr (ixOf S l)).length)).length = 16 := by unfold ftOf; rw [List.length_append, be_len, be_len]
section
variable {S b : Nat} {l : List E} (h : Made S b l)
include h
theorem Made.blk : ∀ c ∈ cuts S l, Blk c := cutsF_blk h.s1 h.s2 _ _ h.ok h.fine
theorem Made.flat : (cuts S l).flatten = l := cuts_flat h.s1 l
theorem Made.sorted : Sorted (cuts S l).flatten := by rw [h.flat]; exact BK.ok_sorted h.ok
theorem Made.blocks : (cuts S l).length ≤ 65536 := by
  have := blocks_le (cuts S l) fun c hc => (h.blk c hc).ne
  rw [h.flat] at this
  have := h.n
  omega
theorem Made.body : (body (cuts S l)).length ≤ 65536 * 65543 := Nat.le_trans (body_le _ h.blk) (Nat.mul_le_mul_right _ h.blocks)
theorem Made.index : spansOf (ixOf S l) (TB.body (cuts S l)).length = .ok (sps 0 (cuts S l)) := by
  have hb := h.body
  refine spansOf_enc (cuts S l) (fun c hc => ?_) (up_of _ _ (fun c hc => (h.blk c hc).ne) h.sorted fun e _ => lt_empty _) (by omega) (by have := h.blocks; omega)
  obtain ⟨x, hx, hxk, -⟩ := last_mem (h.blk c hc).ne
  rw [hxk]
  have := (good_zero (BK.okF_all _ _ (h.blk c hc).ok x hx).1).2.1
  omega
end

/-- what is read of any bytes in which foot, index and filter stand as they were put -/
theorem open_as {S b : Nat} {l : List E} (h : Made S b l) {T : Bs} (hT : T.length = (bytes S b l).length)
    (h0 : bodyOf T ((T.length : Int) - 24) 24 = .ok (ftOf (body (cuts S l)).length ((body (cuts S l)).length + (fr (ixOf S l)).length)))
    (h1 : bodyOf T (body (cuts S l)).length (8 + (ixOf S l).length : Nat) = .ok (ixOf S l))
    (h2 : bodyOf T ((body (cuts S l)).length + (fr (ixOf S l)).length : Nat) (8 + (flOf b l).length : Nat) = .ok (flOf b l)) : openS T T.length = .ok (sps 0 (cuts S l), flOf b l) := by
  have hlen := h.len
  have hb := h.body
  have hix := h.ix
  have hi := fr_len (ixOf S l)
  have hf := fr_len (flOf b l)
  have hz : ((T.length : Int) - 24).toNat = (body (cuts S l)).length + (fr (ixOf S l)).length + (fr (flOf b l)).length := by omega
  have hzi : (T.length : Int) - 24 = ((body (cuts S l)).length + (fr (ixOf S l)).length + (fr (flOf b l)).length : Nat) := by omega
  unfold openS
  rw [if_neg (by omega), hz]
  unfold readS
  rw [hzi] at h0
  rw [h0]
  simp only [rest0]
  have t1 : (ftOf (body (cuts S l)).length ((body (cuts S l)).length + (fr (ixOf S l)).length)).take 8 = be 8 (body (cuts S l)).length := by
    unfold ftOf; rw [List.take_append_of_le_length (by rw [be_len]; exact Nat.le_refl _), List.take_of_length_le (by rw [be_len]; exact Nat.le_refl _)]
  have t2 : (ftOf (body (cuts S l)).length ((body (cuts S l)).length + (fr (ixOf S l)).length)).drop 8 = be 8 ((body (cuts S l)).length + (fr (ixOf S l)).length) := by
    unfold ftOf; rw [List.drop_append_of_le_length (by rw [be_len]; exact Nat.le_refl _), List.drop_of_length_le (by rw [be_len]; exact Nat.le_refl _), List.nil_append]
  rw [t1, t2, big_place _ (by omega), big_place _ (by omega), if_pos ⟨by omega, by omega⟩]
  rw [show (((body (cuts S l)).length + (fr (ixOf S l)).length : Nat) : Int) - ((body (cuts S l)).length : Nat) = (8 + (ixOf S l).length : Nat) by omega, h1]
  simp only [rest1]
  rw [show (((body (cuts S l)).length + (fr (ixOf S l)).length + (fr (flOf b l)).length : Nat) : Int) - ((body (cuts S l)).length + (fr (ixOf S l)).length : Nat) = (8 + (flOf b l).length : Nat) by omega, h2]
  simp only [rest2]
  rw [h.index]
  rfl

section
variable {S b : Nat} {l : List E} (h : Made S b l)
include h
theorem Made.foot_at : bodyOf (bytes S b l) (((bytes S b l).length : Int) - 24) 24 = .ok (ftOf (TB.body (cuts S l)).length ((TB.body (cuts S l)).length + (fr (ixOf S l)).length)) := by
  have hl := h.len
  have hb : bytes S b l = (TB.body (cuts S l) ++ (fr (ixOf S l) ++ fr (flOf b l))) ++ (fr (ftOf (TB.body (cuts S l)).length ((TB.body (cuts S l)).length + (fr (ixOf S l)).length)) ++ []) := by unfold bytes; simp only [List.append_assoc, List.append_nil]
  have hf := h.foot
  have := bodyOf_at (TB.body (cuts S l) ++ (fr (ixOf S l) ++ fr (flOf b l))) (ftOf (TB.body (cuts S l)).length ((TB.body (cuts S l)).length + (fr (ixOf S l)).length)) [] (by rw [hf]; omega) (((bytes S b l).length : Int) - 24) 24 (by simp only [List.length_append]; omega) (by rw [hf]; rfl)
  rw [← hb] at this
  exact this
theorem Made.index_at : bodyOf (bytes S b l) (TB.body (cuts S l)).length (8 + (ixOf S l).length : Nat) = .ok (ixOf S l) := bodyOf_at (TB.body (cuts S l)) (ixOf S l) _ h.ix _ _ rfl rfl
theorem Made.filter_at : bodyOf (bytes S b l) ((TB.body (cuts S l)).length + (fr (ixOf S l)).length : Nat) (8 + (flOf b l).length : Nat) = .ok (flOf b l) := by
  have hb : bytes S b l = (TB.body (cuts S l) ++ fr (ixOf S l)) ++ (fr (flOf b l) ++ fr (ftOf (TB.body (cuts S l)).length ((TB.body (cuts S l)).length + (fr (ixOf S l)).length))) := by unfold bytes; simp only [List.append_assoc]
  have := bodyOf_at (TB.body (cuts S l) ++ fr (ixOf S l)) (flOf b l) (fr (ftOf (TB.body (cuts S l)).length ((TB.body (cuts S l)).length + (fr (ixOf S l)).length))) h.fl ((TB.body (cuts S l)).length + (fr (ixOf S l)).length : Nat) (8 + (flOf b l).length : Nat) (by rw [List.length_append]) rfl
  rw [← hb] at this
  exact this
/-- a table that was made is opened -/
theorem Made.open_ : openS (bytes S b l) (bytes S b l).length = .ok (sps 0 (cuts S l), flOf b l) := open_as h rfl h.foot_at h.index_at h.filter_at
end

/-! ### reading all -/

theorem rd_at (A C : Bs) (b : List E) (h : Blk b) (a n : Nat) (ha : a = A.length) (hn : n = (fr (BK.buildB b 16)).length) : rd (A ++ (fr (BK.buildB b 16) ++ C)) ⟨BK.lastKey b, a, n⟩ = .ok b := by
  unfold rd
  rw [bodyOf_at A (BK.buildB b 16) C h.fits _ _ (by rw [ha]) (by rw [hn, fr_len])]
  simp only [rd1]
  rw [BK.get_build (by have := h.len; omega) h.ok h.wf]
  simp only [rd2]
  rw [if_neg (fun h' => h'.elim h.ne fun h' => h' rfl)]

theorem fits_of {a b : List E} {r : List E} (hs : Sorted (a ++ (b ++ r))) : fits a b = true := by
  unfold fits
  cases ha : a.getLast? with
  | none => rfl
  | some x =>
    cases hb : b.head? with
    | none => rfl
    | some y =>
      exact (List.pairwise_append.1 hs).2.2 x (List.mem_of_getLast? ha) y (List.mem_append_left _ (List.mem_of_head? hb))

theorem fromS_enc (key : ByteArray) : ∀ (D : List (List E)) (A C : Bs) (a acc : List E), (∀ b ∈ D, Blk b) → Sorted (a ++ D.flatten) → fromS (A ++ (body D ++ C)) key (sps A.length D) a acc = .ok (acc ++ from_ D.flatten key)
  | [], A, C, a, acc, _, _ => by simp [fromS, sps, from_]
  | b :: r, A, C, a, acc, hb, hs => by
    rw [List.flatten_cons] at hs
    have hrd := rd_at A (body r ++ C) b (hb b (by simp)) A.length (fr (BK.buildB b 16)).length rfl rfl
    have ih := fromS_enc key r (A ++ fr (BK.buildB b 16)) C b (acc ++ from_ b key) (fun x hx => hb x (by simp [hx])) (List.pairwise_append.1 hs).2.1
    rw [body_cons, List.append_assoc]
    simp only [sps, fromS]
    rw [hrd]
    simp only [fits_of hs, if_true]
    rw [List.length_append, List.append_assoc] at ih
    rw [ih, List.flatten_cons, List.append_assoc]
    congr 2
    unfold from_
    rw [List.filter_append]

theorem sps_drop : ∀ (k p : Nat) (D : List (List E)), (sps p D).drop k = sps (p + (body (D.take k)).length) (D.drop k)
  | 0, p, D => by simp [body]
  | k + 1, p, [] => by simp [sps]
  | k + 1, p, b :: r => by
    simp only [sps, List.drop_succ_cons, List.take_succ_cons]
    rw [sps_drop k _ r, body_cons, List.length_append, Nat.add_assoc]
theorem sps_last : ∀ (p : Nat) (D : List (List E)), (sps p D).map Sp.last = D.map BK.lastKey
  | _, [] => rfl
  | p, b :: r => by simp [sps, sps_last _ r]

theorem all_as {S b : Nat} {l : List E} (h : Made S b l) (key : ByteArray) {T : Bs} (hT : fromS T key ((sps 0 (cuts S l)).drop (which (sps 0 (cuts S l)) key)) [] [] = fromS (bytes S b l) key ((sps 0 (cuts S l)).drop (which (sps 0 (cuts S l)) key)) [] []) : allS T (sps 0 (cuts S l)) key = .ok (from_ l key) := by
  unfold allS
  rw [hT]
  generalize hw : which (sps 0 (cuts S l)) key = w
  have hsp : cuts S l = (cuts S l).take w ++ (cuts S l).drop w := (List.take_append_drop _ _).symm
  have hb : bytes S b l = body ((cuts S l).take w) ++ (body ((cuts S l).drop w) ++ (fr (ixOf S l) ++ (fr (flOf b l) ++ fr (ftOf (body (cuts S l)).length ((body (cuts S l)).length + (fr (ixOf S l)).length))))) := by
    unfold bytes
    rw [← List.append_assoc (body (List.take w _)), ← body_app, List.take_append_drop]
  have hs := h.sorted
  rw [sps_drop, Nat.zero_add, hb, fromS_enc key _ _ _ [] [] (fun c hc => h.blk c (List.mem_of_mem_drop hc)) (by
    rw [hsp, List.flatten_append] at hs
    exact (List.pairwise_append.1 hs).2.1)]
  rw [List.nil_append]
  congr 1
  have hl : l = ((cuts S l).take w).flatten ++ ((cuts S l).drop w).flatten := by rw [← List.flatten_append, List.take_append_drop, h.flat]
  conv => rhs; rw [hl]
  unfold from_
  rw [List.filter_append]
  have hnil : ((cuts S l).take w).flatten.filter (fun x => !(Go.bytesBefore x.key.data.toList key.data.toList)) = [] := by
    rw [List.filter_eq_nil_iff]
    intro e he
    obtain ⟨c, hc, hec⟩ := List.mem_flatten.1 he
    obtain ⟨i, hi, rfl⟩ := List.getElem_of_mem hc
    rw [List.length_take] at hi
    rw [List.getElem_take] at hec
    have hic : i < (cuts S l).length := by omega
    have his : i < (sps 0 (cuts S l)).length := by rw [sps_len]; exact hic
    have hlt : lt ((sps 0 (cuts S l))[i].last) key = true := by
      have := List.not_of_lt_findIdx (p := fun x : Sp => !lt x.last key) (xs := sps 0 (cuts S l)) (i := i) (by unfold which at hw; omega)
      simpa using this
    have hlast : (sps 0 (cuts S l))[i].last = BK.lastKey (cuts S l)[i] := by
      have h1 : ((sps 0 (cuts S l)).map Sp.last)[i]? = ((cuts S l).map BK.lastKey)[i]? := by rw [sps_last]
      rw [List.getElem?_map, List.getElem?_map, List.getElem?_eq_getElem his, List.getElem?_eq_getElem hic] at h1
      simpa using h1
    rw [hlast] at hlt
    have hblk := h.blk _ (List.getElem_mem hic)
    obtain ⟨x, hx, hxk, r, hr⟩ := last_mem hblk.ne
    rw [hxk] at hlt
    have hel : lt x.key e.key = false := by
      rw [hr] at hec
      rcases List.mem_append.1 hec with he' | he'
      · have hs2 := BK.ok_sorted hblk.ok
        rw [hr] at hs2
        exact less_le ((List.pairwise_append.1 hs2).2.2 e he' x (by simp))
      · simp only [List.mem_singleton] at he'; rw [he']; exact lt_irrefl _
    simp only [Bool.not_eq_true, Bool.not_eq_false']
    cases hk : Go.bytesBefore e.key.data.toList key.data.toList with
    | true => rfl
    | false =>
      have := le_trans (a := key) (b := e.key) (c := x.key) hk hel
      rw [this] at hlt; cases hlt
  rw [hnil, List.nil_append]

theorem Made.all_ {S b : Nat} {l : List E} (h : Made S b l) (key : ByteArray) : allS (bytes S b l) (sps 0 (cuts S l)) key = .ok (from_ l key) := all_as h key rfl

/-! ### with a byte turned -/

theorem fromS_turned (T T' : Bs) (key : ByteArray) : ∀ (L : List Sp) (a acc : List E), (∀ sp ∈ L, (∃ c, rd T' sp = .error c) ∨ rd T' sp = rd T sp) → (∃ c, fromS T' key L a acc = .error c) ∨ fromS T' key L a acc = fromS T key L a acc
  | [], _, _, _ => .inr rfl
  | sp :: r, a, acc, h => by
    simp only [fromS]
    rcases h sp (by simp) with ⟨c, hc⟩ | he
    · left; exact ⟨c, by rw [hc]⟩
    · rw [he]
      cases rd T sp with
      | error c => right; rfl
      | ok es =>
        simp only
        split
        · exact fromS_turned T T' key r es _ fun x hx => h x (by simp [hx])
        · right; rfl

theorem sps_mem : ∀ (p : Nat) (D : List (List E)) (sp : Sp), sp ∈ sps p D → ∃ D1 b D2, D = D1 ++ b :: D2 ∧ sp = ⟨BK.lastKey b, p + (body D1).length, (fr (BK.buildB b 16)).length⟩
  | p, [], sp, h => by simp [sps] at h
  | p, b :: r, sp, h => by
    simp only [sps, List.mem_cons] at h
    rcases h with rfl | h
    · exact ⟨[], b, r, rfl, by simp [body]⟩
    · obtain ⟨D1, c, D2, rfl, rfl⟩ := sps_mem _ r sp h
      exact ⟨b :: D1, c, D2, rfl, by rw [body_cons, List.length_append, Nat.add_assoc]⟩

theorem err_open {T : Bs} {n : Int} (hn : 24 ≤ n) {c : Int} (h : bodyOf T (n - 24) 24 = .error c) : ∃ c, openS T n = .error c := by
  refine ⟨c, ?_⟩
  unfold openS readS
  rw [if_neg (by omega), show (((n - 24).toNat : Nat) : Int) = n - 24 by omega, h]
  rfl

/-- one byte turned: not opened, or read just so, or an error -/
theorem Made.turned {S b : Nat} {l : List E} (h : Made S b l) (j : Nat) (y : UInt8) (hj : j < (bytes S b l).length) (hy : (bytes S b l).getD j 0 ≠ y) :
    (∃ c, openS ((bytes S b l).set j y) (bytes S b l).length = .error c) ∨
    (openS ((bytes S b l).set j y) (bytes S b l).length = .ok (sps 0 (cuts S l), flOf b l) ∧ ∀ key, (∃ c, allS ((bytes S b l).set j y) (sps 0 (cuts S l)) key = .error c) ∨ allS ((bytes S b l).set j y) (sps 0 (cuts S l)) key = .ok (from_ l key)) := by
  have hlen := h.len
  have hft := h.foot
  have hix := fr_len (ixOf S l)
  have hfl := fr_len (flOf b l)
  obtain ⟨G, hG⟩ : ∃ G, TB.body (cuts S l) = G := ⟨_, rfl⟩
  have hT : bytes S b l = G ++ (fr (ixOf S l) ++ (fr (flOf b l) ++ fr (ftOf G.length (G.length + (fr (ixOf S l)).length)))) := by unfold bytes; rw [hG]
  rw [hG] at hlen hft
  have hsl : ((bytes S b l).set j y).length = (bytes S b l).length := List.length_set
  by_cases c1 : G.length + (fr (ixOf S l)).length + (fr (flOf b l)).length ≤ j
  · left
    have hb : bytes S b l = (G ++ (fr (ixOf S l) ++ fr (flOf b l))) ++ (fr (ftOf G.length (G.length + (fr (ixOf S l)).length)) ++ []) := by rw [hT]; simp only [List.append_assoc, List.append_nil]
    obtain ⟨c, hc⟩ := bodyOf_turned (G ++ (fr (ixOf S l) ++ fr (flOf b l))) (ftOf G.length (G.length + (fr (ixOf S l)).length)) [] (by rw [hft]; omega) (((bytes S b l).length : Int) - 24) 24 (by simp only [List.length_append]; omega) (by rw [hft]; rfl) j y (by simp only [List.length_append]; omega) (by simp only [List.length_append]; omega) (by rw [← hb]; exact hy)
    rw [← hb] at hc
    exact err_open (by omega) hc
  · have h0 := h.foot_at
    rw [hG, ← bodyOf_other (j := j) (y := y) (Or.inl (by omega))] at h0
    by_cases c2 : G.length + (fr (ixOf S l)).length ≤ j
    · left
      have hb : bytes S b l = (G ++ fr (ixOf S l)) ++ (fr (flOf b l) ++ fr (ftOf G.length (G.length + (fr (ixOf S l)).length))) := by rw [hT]; simp only [List.append_assoc]
      obtain ⟨c, hc⟩ := bodyOf_turned (G ++ fr (ixOf S l)) (flOf b l) (fr (ftOf G.length (G.length + (fr (ixOf S l)).length))) h.fl (G.length + (fr (ixOf S l)).length : Nat) (8 + (flOf b l).length : Nat) (by rw [List.length_append]) rfl j y (by rw [List.length_append]; omega) (by rw [List.length_append]; omega) (by rw [← hb]; exact hy)
      rw [← hb] at hc
      have h1 := h.index_at
      rw [hG, ← bodyOf_other (j := j) (y := y) (Or.inr (by omega))] at h1
      refine ⟨c, ?_⟩
      unfold openS readS
      rw [if_neg (by omega), show ((((bytes S b l).length : Int) - 24).toNat : Int) = ((bytes S b l).length : Int) - 24 by omega, h0]
      simp only [rest0]
      have t1 : (ftOf G.length (G.length + (fr (ixOf S l)).length)).take 8 = be 8 G.length := by
        unfold ftOf; rw [List.take_append_of_le_length (by rw [be_len]; exact Nat.le_refl _), List.take_of_length_le (by rw [be_len]; exact Nat.le_refl _)]
      have t2 : (ftOf G.length (G.length + (fr (ixOf S l)).length)).drop 8 = be 8 (G.length + (fr (ixOf S l)).length) := by
        unfold ftOf; rw [List.drop_append_of_le_length (by rw [be_len]; exact Nat.le_refl _), List.drop_of_length_le (by rw [be_len]; exact Nat.le_refl _), List.nil_append]
      have hbd := h.body
      rw [hG] at hbd
      have hix2 := h.ix
      rw [t1, t2, big_place _ (by omega), big_place _ (by omega), if_pos ⟨by omega, by omega⟩]
      rw [show ((G.length + (fr (ixOf S l)).length : Nat) : Int) - (G.length : Nat) = (8 + (ixOf S l).length : Nat) by omega, h1]
      simp only [rest1]
      rw [show ((((bytes S b l).length : Int) - 24).toNat : Int) - ((G.length + (fr (ixOf S l)).length : Nat) : Int) = (8 + (flOf b l).length : Nat) by omega, hc]
      rfl
    · by_cases c3 : G.length ≤ j
      · left
        obtain ⟨c, hc⟩ := bodyOf_turned G (ixOf S l) (fr (flOf b l) ++ fr (ftOf G.length (G.length + (fr (ixOf S l)).length))) h.ix G.length (8 + (ixOf S l).length : Nat) rfl rfl j y c3 (by omega) (by rw [← hT]; exact hy)
        rw [← hT] at hc
        refine ⟨c, ?_⟩
        unfold openS readS
        rw [if_neg (by omega), show ((((bytes S b l).length : Int) - 24).toNat : Int) = ((bytes S b l).length : Int) - 24 by omega, h0]
        simp only [rest0]
        have t1 : (ftOf G.length (G.length + (fr (ixOf S l)).length)).take 8 = be 8 G.length := by
          unfold ftOf; rw [List.take_append_of_le_length (by rw [be_len]; exact Nat.le_refl _), List.take_of_length_le (by rw [be_len]; exact Nat.le_refl _)]
        have t2 : (ftOf G.length (G.length + (fr (ixOf S l)).length)).drop 8 = be 8 (G.length + (fr (ixOf S l)).length) := by
          unfold ftOf; rw [List.drop_append_of_le_length (by rw [be_len]; exact Nat.le_refl _), List.drop_of_length_le (by rw [be_len]; exact Nat.le_refl _), List.nil_append]
        have hbd := h.body
        rw [hG] at hbd
        have hix2 := h.ix
        rw [t1, t2, big_place _ (by omega), big_place _ (by omega), if_pos ⟨by omega, by omega⟩]
        rw [show ((G.length + (fr (ixOf S l)).length : Nat) : Int) - (G.length : Nat) = (8 + (ixOf S l).length : Nat) by omega, hc]
        rfl
      · right
        have h1 := h.index_at
        have h2 := h.filter_at
        refine ⟨?_, fun key => ?_⟩
        · have := open_as h (T := (bytes S b l).set j y) hsl (by rw [hsl, hG]; exact h0) (by rw [bodyOf_other (Or.inl (by rw [hG]; omega))]; exact h1) (by rw [bodyOf_other (Or.inl (by rw [hG]; omega))]; exact h2)
          rw [hsl] at this
          exact this
        · have hrd : ∀ sp ∈ (sps 0 (cuts S l)).drop (which (sps 0 (cuts S l)) key), (∃ c, rd ((bytes S b l).set j y) sp = .error c) ∨ rd ((bytes S b l).set j y) sp = rd (bytes S b l) sp := by
            intro sp hsp
            obtain ⟨D1, c, D2, hD, rfl⟩ := sps_mem 0 _ sp (List.mem_of_mem_drop hsp)
            have hblk := h.blk c (by rw [hD]; simp)
            have hfc := fr_len (BK.buildB c 16)
            have hbb : bytes S b l = TB.body D1 ++ (fr (BK.buildB c 16) ++ (TB.body D2 ++ (fr (ixOf S l) ++ (fr (flOf b l) ++ fr (ftOf G.length (G.length + (fr (ixOf S l)).length)))))) := by
              rw [hT, ← hG, hD, body_app, body_cons]
              simp only [List.append_assoc]
            by_cases hin : (TB.body D1).length ≤ j ∧ j < (TB.body D1).length + (8 + (BK.buildB c 16).length)
            · left
              obtain ⟨c', hc'⟩ := bodyOf_turned (TB.body D1) (BK.buildB c 16) _ hblk.fits (TB.body D1).length (8 + (BK.buildB c 16).length : Nat) rfl rfl j y hin.1 hin.2 (by rw [← hbb]; exact hy)
              rw [← hbb] at hc'
              refine ⟨c', ?_⟩
              unfold rd
              simp only [Nat.zero_add]
              rw [hfc, hc']
              rfl
            · right
              unfold rd
              simp only [Nat.zero_add]
              rw [bodyOf_other]
              rw [hfc]
              omega
          rcases fromS_turned (bytes S b l) ((bytes S b l).set j y) key _ [] [] hrd with ⟨c, hc⟩ | he
          · left; exact ⟨c, hc⟩
          · right; exact all_as h key he

/-! ### every key may be there -/

theorem dedF_has : ∀ (l : List ByteArray) (p : Option ByteArray) (x : ByteArray), x ∈ l → x ∈ dedF p l ∨ p = some x
  | [], _, _, h => by simp at h
  | k :: r, p, x, h => by
    unfold dedF
    rcases List.mem_cons.1 h with rfl | h
    · by_cases hp : p = some x
      · exact .inr hp
      · left; rw [if_neg hp]; exact List.mem_cons_self ..
    · by_cases hp : p = some k
      · rw [if_pos hp]; exact dedF_has r p x h
      · rw [if_neg hp]
        rcases dedF_has r (some k) x h with h | h
        · exact .inl (List.mem_cons_of_mem _ h)
        · injection h with h; rw [h]; exact .inl (List.mem_cons_self ..)
theorem may_all (b : Nat) (l : List E) {e : E} (h : e ∈ l) : B9.BL.has (flOf b l) e.key.data.toList = true := by
  refine B9.BL.finds b _ _ ?_
  unfold B9.keysOf
  refine List.mem_map.2 ⟨e.key, ?_, rfl⟩
  rcases dedF_has (l.map E.key) none e.key (List.mem_map.2 ⟨e, h, rfl⟩) with h | h
  · exact h
  · cases h
end TB
end Go.Proofs.YtnglaolbfpdgoaaGreat

