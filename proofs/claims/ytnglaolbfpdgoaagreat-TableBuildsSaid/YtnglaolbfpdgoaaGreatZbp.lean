/- Texts joined by bundle.py: Uf, Ug, Uh. -/
import Derived.Test.YtnglaolbfpdgoaaGreatZbo
import Derived.Test.YtnglaolbfpdgoaaGreatZbl
import Derived.Test.YtnglaolbfpdgoaaGreatZaq
import Derived.Test.YtnglaolbfpdgoaaGreatZbh

/- A block's bytes fit into a frame; the keys of entries, each once. -/
namespace Go.Proofs.YtnglaolbfpdgoaaGreat
open Go.RowKit
open SK
open TB (Bs Sp)

theorem enc_two (n : Nat) (h : n ≤ 8191) : (VM.enc (n : Int)).length ≤ 2 := by
  unfold VM.enc
  have hz : Go.Lib.zigzag (n : Int) = 2 * n := by unfold Go.Lib.zigzag; rw [if_pos (by omega)]; omega
  rw [hz]
  by_cases hs : 2 * n < 128
  · rw [Go.Lib.uvarint_small hs]; simp
  · rw [Go.Lib.uvarint_big (by omega), Go.Lib.uvarint_small (by omega)]; simp

theorem textB_two (s : ByteArray) (h : s.size ≤ 8191) : (BK.textB s).length ≤ 2 + s.size := by
  have := enc_two s.size h
  unfold BK.textB
  rw [List.length_append, size_list]
  omega

theorem entB_len2 {e : E} {n : Nat} (hg : good e = 0) (hn : n ≤ e.key.size) (hw : e.wf) (ht : e.til ≠ 9223372036854775807) : (BK.entB e n).length ≤ 26 + (e.key.size + e.value.size) := by
  obtain ⟨h1, h2, h3, h4, h5⟩ := good_zero hg
  have hq := hw.seq
  have htl := hw.til
  have l1 := enc_two n (by omega)
  have l2 := textB_two (e.key.extract n e.key.size) (by rw [BK.tail_size]; omega)
  have l3 := (VM.enc_len (n := e.seq) (by omega) (by omega)).2
  rw [BK.tail_size] at l2
  unfold BK.entB
  rw [List.length_append, List.length_append, List.length_append]
  split
  · have := enc_two 0 (by omega)
    simp only [Int.natCast_zero] at this
    omega
  · have l4 := (VM.enc_len (n := e.til + 1) (by omega) (by omega)).2
    have l5 := textB_two e.value (by omega)
    rw [List.length_append]
    omega

theorem bodyF_len2 (v : Nat) : ∀ (a r : List E), Fine r → (BK.bodyF v a r).length ≤ r.length * 26 + TB.wt r
  | _, [], _ => by simp [BK.bodyF]
  | a, e :: r, h => by
    obtain ⟨h2, h1, h3⟩ := h e (List.mem_cons_self ..)
    have l1 := entB_len2 h1 (BK.sh_le v a e).2.1 h2 h3
    have l2 := bodyF_len2 v (a ++ [e]) r fun x hx => h x (List.mem_cons_of_mem _ hx)
    simp only [BK.bodyF, List.length_append, List.length_cons, TB.wt, List.map_cons, List.sum_cons] at *
    omega

theorem Fine.take {l : List E} (h : Fine l) (n : Nat) : Fine (l.take n) := fun e he => h e (List.mem_of_mem_take he)
theorem Fine.drop {l : List E} (h : Fine l) (n : Nat) : Fine (l.drop n) := fun e he => h e (List.mem_of_mem_drop he)

theorem block_fits {S : Nat} {l : List E} (hS : 1 ≤ S) (hS2 : S ≤ 4096) (hne : l ≠ []) (h : Fine l) : (BK.buildB (l.take (TB.taken S l)) 16).length ≤ 65535 := by
  obtain ⟨b1, b2, b3⟩ := TB.taken_bounds hS hne
  obtain ⟨m, hm⟩ : ∃ m, TB.taken S l = m + 1 := ⟨TB.taken S l - 1, by omega⟩
  have hheld := TB.tk_held S l 0 0 m (by unfold TB.taken at hm; omega)
  have hml : m < l.length := by omega
  have hw := TB.wt_take hml
  obtain ⟨g1, g2, g3, -⟩ := good_zero (h _ (List.getElem_mem hml)).2.1
  have hbl := bodyF_len2 16 [] (l.take (TB.taken S l)) (h.take _)
  have hel := (VM.enc_len (n := ((l.take (TB.taken S l)).length : Int)) (by omega) (by rw [List.length_take]; omega)).2
  have hll : (l.take (TB.taken S l)).length = TB.taken S l := by rw [List.length_take]; omega
  rw [hm] at hbl hel hll ⊢
  unfold BK.buildB
  rw [List.length_append]
  rw [hll] at hbl hel ⊢
  omega

/-! ### entries in order, parted -/

theorem okF_last : ∀ (a b r : List E), a.getLast? = b.getLast? → BK.OkF a r → BK.OkF b r
  | _, _, [], _, _ => trivial
  | a, b, e :: r, hl, h => by
    refine ⟨?_, okF_last (a ++ [e]) (b ++ [e]) r (by simp) h.2⟩
    have := h.1
    unfold BK.nb at this ⊢
    rw [← hl]
    exact this
theorem okF_nil : ∀ (a r : List E), BK.OkF a r → BK.OkF [] r
  | _, [], _ => trivial
  | a, e :: r, h => by
    obtain ⟨h1, h2, -⟩ := BK.nb_zero h.1
    refine ⟨by unfold BK.nb; simp [h1, h2], okF_last (a ++ [e]) ([] ++ [e]) r (by simp) h.2⟩
theorem okF_take : ∀ (n : Nat) (a r : List E), BK.OkF a r → BK.OkF a (r.take n)
  | 0, _, _, _ => by simp [BK.OkF]
  | n + 1, _, [], _ => trivial
  | n + 1, a, e :: r, h => ⟨h.1, okF_take n _ r h.2⟩
theorem okF_drop : ∀ (n : Nat) (a r : List E), BK.OkF a r → BK.OkF [] (r.drop n)
  | 0, a, r, h => by simpa using okF_nil a r h
  | n + 1, _, [], _ => trivial
  | n + 1, a, e :: r, h => okF_drop n _ r h.2

/-! ### keys -/

theorem info_strs : (Tryz.prog.info? 9).map (fun i => (i.zero, i.size, i.bytes)) = some (some (.string ⟨#[]⟩), 1, 16) := by kernel_rfl
theorem make_strs (w : World) (n : Nat) (h : n * 16 ≤ 281474976710656) : (Instr.makeSlice 66 (.int .i64 (n : Int)) (.int .i64 (n : Int))).run Tryz.prog w = .ok (.slice (some ⟨w.heap.size, 0, none⟩) n n) (w.alloc (.cells (strV (List.replicate n ⟨#[]⟩)).toArray 9)) := by
  obtain ⟨i0, hi, hz0, hz1, hz2⟩ := info_parts info_strs
  have h := run_make (P := Tryz.prog) w 66 9 i0 (.string ⟨#[]⟩) Tryz.underlying66 hi hz0 .i64 .i64 (n : Int) (n : Int) (by omega) (Int.le_refl _) (by rw [hz2]; omega) (by omega)
  rw [Int.toNat_natCast] at h
  have e : madeCells #[Value.string ⟨#[]⟩] n = (strV (List.replicate n ⟨#[]⟩)).toArray := by
    apply Array.toList_inj.1
    rw [toList_madeCells_one]
    simp [strV]
  rw [← e]
  simpa [hz1, Value.cells] using h

def keyRow (l : List E) (j : Nat) : List ByteArray := (l.take j).map E.key ++ List.replicate (l.length - j) ⟨#[]⟩
theorem keyRow_set (l : List E) (j : Nat) (h : j < l.length) : (keyRow l j).set j l[j].key = keyRow l (j + 1) := by
  unfold keyRow
  rw [List.take_succ_eq_append_getElem h, List.map_append, List.append_assoc, List.set_append_right _ _ (by simp; omega)]
  congr 1
  obtain ⟨m, hm⟩ : ∃ m, l.length - j = m + 1 := ⟨l.length - j - 1, by omega⟩
  rw [hm, List.replicate_succ, show l.length - (j + 1) = m by omega]
  have : j - ((l.take j).map E.key).length = 0 := by simp; omega
  rw [this]
  rfl

set_option maxRecDepth 100000 in
set_option maxHeartbeats 2000000 in
theorem keysOf_any (A : Option Addr) (n cap : Nat) (l : List E) (w : World) (hn : l.length = n) (hin : EntsIn w A l) (hb : n ≤ 65536) :
    Calls Tryz.prog 57 #[.slice A n cap] w fun e w' => ∃ A2 c2, e = .returned (.slice A2 (TB.keys l).length c2) ∧ B9.StrsIn w' w'.heap.size A2 (TB.keys l) ∧ Below w.heap.size w w' := by
  have hmk := fun W => make_strs W n (by omega)
  obtain ⟨B, hBB⟩ : ∃ B, w.heap.size = B := ⟨_, rfl⟩
  have HR0 : Hid (B9.Lies (w.alloc (.cells (strV (List.replicate n ⟨#[]⟩)).toArray 9)) B 9 (strV (keyRow l 0))) := Lib.hid (by
    rw [← hBB]
    unfold keyRow
    simp only [List.take_zero, List.map_nil, List.nil_append, Nat.sub_zero, hn]
    exact B9.Lies.new w _ _)
  have HW0 : Hid (Below B w (w.alloc (.cells (strV (List.replicate n ⟨#[]⟩)).toArray 9))) := Lib.hid ((Below.refl _ _).alloc (by omega) _)
  have HS0 : Hid ((w.alloc (.cells (strV (List.replicate n ⟨#[]⟩)).toArray 9)).heap.size = B + 1) := Lib.hid (by simp; omega)
  have HIN := Lib.hid hin
  have HN := Lib.hid hn
  simp only [hBB]
  clear hin hn
  go_enter Tryz.func57, Tryz.ntmps57
  go_wp2_with fail
  generalize w.alloc (.cells (strV (List.replicate n ⟨#[]⟩)).toArray 9) = w0 at HR0 HW0 HS0 ⊢
  go_loopw [11] (fun i wr => ∃ j : Nat, j ≤ n ∧ i = .int .i64 j ∧ B9.Lies wr B 9 (strV (keyRow l j)) ∧ Below B w wr ∧ B + 1 ≤ wr.heap.size) (fun i _ => n - (intOf i).toNat)
  case atStart => exact ⟨0, by omega, rfl, HR0.out, HW0.out, by have := HS0.out; omega⟩
  case round =>
    obtain ⟨j, hj, rfl, hrow, hbel, hsz⟩ := hrel
    by_cases hlt : j < n
    · have hjl : j < l.length := by rw [HN.out]; exact hlt
      obtain ⟨bb, off, hA, hbl, hc⟩ := (HIN.out.below (by rw [hBB]; exact hbel)).at_ (by omega)
      obtain ⟨z0, z1, z2, z3, z4⟩ := hc j hjl
      have HKS := Lib.hid (keyRow_set l j hjl)
      have HKL : Hid (j < (keyRow l j).length) := Lib.hid (by unfold keyRow; simp; omega)
      obtain ⟨y, hy⟩ : ∃ y, l[j] = y := ⟨_, rfl⟩
      rw [hy] at z0 z1 z2 z3 z4 HKS
      subst hA
      obtain ⟨k2, r2, g2, v2, t2⟩ := y
      simp only at z0 z1 z2 z3 z4 HKS
      have HROW : Hid (B9.Lies (wr.alloc (.cells #[.string k2, .int .i64 r2, .bool g2, .string v2, .int .i64 t2] 57)) B 9 (strV (keyRow l j))) := Lib.hid (hrow.all ((Below.refl _ _).alloc (Nat.le_refl _) _))
      have ck := HROW.out.cell (strV_at _ j HKL.out)
      have fk := HROW.out.frozen j
      have HSET : Hid (B9.Lies ((wr.alloc (.cells #[.string k2, .int .i64 r2, .bool g2, .string v2, .int .i64 t2] 57)).setCell ⟨B, j, none⟩ (.string k2)) B 9 (strV (keyRow l (j + 1)))) := Lib.hid (by
        have := HROW.out.set j (.string k2)
        unfold strV at this ⊢
        rw [strV_set, HKS.out] at this
        exact this)
      have HB2 : Hid (Below B w ((wr.alloc (.cells #[.string k2, .int .i64 r2, .bool g2, .string v2, .int .i64 t2] 57)).setCell ⟨B, j, none⟩ (.string k2))) := Lib.hid ((hbel.alloc (by omega) _).setCell (p := ⟨B, j, none⟩) (Nat.le_refl _) _)
      have g0 : (0 : Int) ≤ (j : Int) := by omega
      have g1 : (j : Int) < (n : Int) := by omega
      have HSZ := Lib.hid hsz
      clear hrow hbel hsz hc hbl hy
      go_wp2
      go_roundw
      case rel => exact ⟨j + 1, by omega, by go_num, HSET.out, HB2.out, by rw [setCell_size]; have := HSZ.out; simp; omega⟩
      case measure => simp [intOf]; omega
    · have hjn : j = n := by omega
      have hkr : keyRow l j = l.map E.key := by unfold keyRow; rw [hjn, HN.out, List.take_of_length_le (by rw [HN.out]; exact Nat.le_refl _)]; simp
      rw [hkr] at hrow
      have HC := Lib.hid (compact_any B n (l.map E.key) wr (by rw [List.length_map]; exact HN.out) hrow hb)
      have HBEL := Lib.hid hbel
      have HSZ := Lib.hid hsz
      clear hrow hbel hsz hkr
      go_wp2_with fail
      refine HC.out.mono ?_
      rintro e w2 ⟨rfl, hcl, hg⟩
      have HBR : Hid (Below B w w2) := Lib.hid (below_via HBEL.out hg (by have := HSZ.out; omega) (Nat.le_refl _))
      have HST : Hid (B9.StrsIn w2 w2.heap.size (some ⟨B, 0, none⟩) (TB.keys l)) := Lib.hid fun _ => ⟨B, 0, rfl, by have := hg.size; have := HSZ.out; omega, fun j hj => by rw [Nat.zero_add]; exact hcl j hj⟩
      clear hcl hg HC
      go_wp2
      go_ret
      exact ⟨some ⟨B, 0, none⟩, n, rfl, HST.out, HBR.out⟩
end Go.Proofs.YtnglaolbfpdgoaaGreat

/- bytesOf: a table's frames. -/
namespace Go.Proofs.YtnglaolbfpdgoaaGreat
open Go.RowKit
open SK
open TB (Bs Sp)
attribute [local go_sem ↓] Go.wp_at_zero Go.wp_at_succ

theorem ents_drop {W : World} {b off k : Nat} {l : List E} (h : EntsIn W (some ⟨b, off, none⟩) l) : EntsIn W (some ⟨b, off + k * 5, none⟩) (l.drop k) :=
  ⟨fun e he => h.wf e (List.mem_of_mem_drop he), fun hn => by
    rw [List.length_drop] at hn
    obtain ⟨b', off', hA, hlt, hc⟩ := h.at_ (by omega)
    simp only [Option.some.injEq, Addr.mk.injEq] at hA
    obtain ⟨rfl, rfl, -⟩ := hA
    refine ⟨b, off + k * 5, rfl, hlt, fun j hj => ?_⟩
    rw [List.length_drop] at hj
    rw [List.getElem_drop]
    have := hc (k + j) (by omega)
    rw [show off + (k + j) * 5 = off + k * 5 + j * 5 by omega] at this
    exact this⟩

theorem tail_ents (b off n cap t : Nat) (h1 : t ≤ n) (h2 : n ≤ cap) : ∃ A', (∀ W, (Instr.slice 23 (.slice (some ⟨b, off, none⟩) n cap) (some (.int .i64 (t : Int))) none none).run Tryz.prog W = .ok (.slice A' (n - t) (cap - t)) W) ∧ (t < n → A' = some ⟨b, off + t * 5, none⟩) := by
  have hs : ∀ w, (sizeOf (Tryz.prog.elem 23)).run Tryz.prog w = .ok 5 w := fun w => by kernel_rfl
  by_cases hc : t < cap
  · refine ⟨some ⟨b, off + t * 5, none⟩, fun W => ?_, fun _ => rfl⟩
    rw [run_slice_l W 23 (some ⟨b, off, none⟩) n cap (by kernel_rfl) .i64 (t : Int) (by omega) (by omega), hs]
    simp only [Result.andThen, sliced, Int.toNat_natCast]
    split
    · omega
    · simp [add_off]
  · refine ⟨some ⟨b, off, none⟩, fun W => ?_, fun h => by omega⟩
    rw [run_slice_l W 23 (some ⟨b, off, none⟩) n cap (by kernel_rfl) .i64 (t : Int) (by omega) (by omega), hs]
    simp only [Result.andThen, sliced, Int.toNat_natCast]
    split
    · rfl
    · omega

def sliceLen : Value → Nat
  | .slice _ n _ => n
  | _ => 0

theorem build_ok {b : List E} (h1 : b.length ≤ 4096) (h : BK.OkF [] b) : BK.buildOut b 16 = (BK.buildB b 16, 0) := by
  unfold BK.buildOut
  rw [if_neg (by omega), if_neg (by omega), if_neg (by unfold BK.ord; rw [BK.ordF_ok _ _ h]; simp)]
  rfl

theorem dedF_len : ∀ (l : List ByteArray) (p : Option ByteArray), (TB.dedF p l).length ≤ l.length
  | [], _ => by simp [TB.dedF]
  | k :: r, p => by
    have h1 := dedF_len r p
    have h2 := dedF_len r (some k)
    unfold TB.dedF
    split
    · simp; omega
    · simp; omega
theorem dedF_mem : ∀ (l : List ByteArray) (p : Option ByteArray) (x : ByteArray), x ∈ TB.dedF p l → x ∈ l
  | [], _, _, h => by simp [TB.dedF] at h
  | k :: r, p, x, h => by
    unfold TB.dedF at h
    split at h
    · exact List.mem_cons_of_mem _ (dedF_mem r p x h)
    · rcases List.mem_cons.1 h with rfl | h
      · exact List.mem_cons_self ..
      · exact List.mem_cons_of_mem _ (dedF_mem r _ x h)

/-- what making a table comes to -/
def BytesOr (w : World) (S b : Nat) (l : List E) (e : Ending) (w' : World) : Prop :=
  Below w.heap.size w w' ∧ if 65535 < (TB.ixOf S l).length ∨ 65535 < (TB.flOf b l).length then e = .panicked (tfault 5) else e = .returned (.string ⟨(TB.bytes S b l).toArray⟩)

set_option maxRecDepth 100000 in
set_option maxHeartbeats 8000000 in
theorem tbytes_any (A : Option Addr) (n cap S b : Nat) (l : List E) (w : World) (hn : l.length = n) (hcap : n ≤ cap) (hin : EntsIn w A l) (hf : Fine l) (hok : BK.OkF [] l) (hb : n ≤ 65536) (hS : 1 ≤ S) (hS2 : S ≤ 4096) (hb1 : 1 ≤ b) (hb2 : b ≤ 16) :
    Calls Tryz.prog 23 #[.slice A n cap, .int .i64 S, .int .i64 b] w fun e w' => BytesOr w S b l e w' := by
  obtain ⟨i0, hi, hz0, hz1, hz2⟩ := info_parts info_span
  have hmf : ∀ (fn : Fn) (first cap : Array Value) (w : World), (Instr.makeFunc fn first cap).run Tryz.prog w = .ok (.func fn first cap) w := fun _ _ _ _ => rfl
  obtain ⟨B, hBB⟩ : ∃ B, w.heap.size = B := ⟨_, rfl⟩
  have HB0 : Hid (Bld B B [] (w.alloc (.cells #[.pointer none, .slice none 0 0] 100))) := Lib.hid (by rw [← hBB]; exact bld_new w)
  have HW0 : Hid (Below B w (w.alloc (.cells #[.pointer none, .slice none 0 0] 100))) := Lib.hid ((Below.refl _ _).alloc (by omega) _)
  have HS0 : Hid ((w.alloc (.cells #[.pointer none, .slice none 0 0] 100)).heap.size = B + 1) := Lib.hid (by simp; omega)
  obtain ⟨b0, off0, hA0⟩ : ∃ b0 off0, 0 < n → A = some ⟨b0, off0, none⟩ := by
    by_cases h0 : 0 < n
    · obtain ⟨b0, off0, hA, -⟩ := hin.at_ (by omega)
      exact ⟨b0, off0, fun _ => hA⟩
    · exact ⟨0, 0, fun h => absurd h h0⟩
  have HPUT : Hid (∀ G p W, Bld B B G W → G.length + (8 + p.length) ≤ 100000000 → B ≤ W.heap.size → Calls Tryz.prog 48 #[.string ⟨p.toArray⟩, .int .i64 0, .pointer (some ⟨B, 0, none⟩)] W fun e w' => PutT B B G p W 0 e w') := Lib.hid fun G p W h1 h2 h3 => tput_any B B G p 0 W h1 h2 h3
  have HENT : Hid (∀ W k, Below B w W → k < n → EntsIn W (some ⟨b0, off0 + k * 5, none⟩) (l.drop k)) := Lib.hid fun W k hW hk => ents_drop (by rw [← hA0 (by omega)]; exact hin.below (by rw [hBB]; exact hW))
  have HN := Lib.hid hn
  have HFI := Lib.hid hf
  have HOK := Lib.hid hok
  have HIN := Lib.hid hin
  have HA0 := Lib.hid hA0
  unfold BytesOr
  simp only [hBB]
  clear hn hf hok hin hA0
  go_enter Tryz.func23, Tryz.ntmps23
  go_wp2_with fail
  generalize w.alloc (.cells #[.pointer none, .slice none 0 0] 100) = w0 at HB0 HW0 HS0 ⊢
  go_loopw [9, 10] (fun v lf wr => ∃ (k : Nat) (D : List (List E)) (A2 : Option Addr), k ≤ n ∧ lf = .slice A2 (n - k) (cap - k) ∧ (k < n → A2 = some ⟨b0, off0 + k * 5, none⟩) ∧ D ++ TB.cuts S (l.drop k) = TB.cuts S l ∧ D.length ≤ k ∧ (TB.body D).length ≤ k * 718 ∧
      wr.ownsRow (B + 1) 81 3 v D.length (scs (TB.sps 0 D)) ∧ Bld B B (TB.body D) wr ∧ Below B w wr ∧ B + 1 ≤ wr.heap.size ∧ ∀ y ∈ TB.sps 0 D, y.wf ∧ y.last.size ≤ 64) (fun _ lf _ => sliceLen lf)
  case atStart => exact ⟨0, [], A, by omega, rfl, fun h => by rw [HA0.out (by omega)]; simp, by simp, by simp, by simp [TB.body], World.ownsRow_nil _ _ _ _, HB0.out, HW0.out, by have := HS0.out; omega, by simp [TB.sps]⟩
  case round =>
    obtain ⟨k, D, A2, hk, rfl, hA2, hcut, hDl, hDb, hown, hbld, hbel, hsz, hwf⟩ := hrel
    obtain ⟨V, vc, rfl⟩ := B9.own_slice hown
    have HCUT := Lib.hid hcut
    have HDL := Lib.hid hDl
    have HDB := Lib.hid hDb
    have HOWN := Lib.hid hown
    have HBLD := Lib.hid hbld
    have HBEL := Lib.hid hbel
    have HSZ := Lib.hid hsz
    have HWF := Lib.hid hwf
    clear hcut hDl hDb hown hbld hbel hsz hwf
    by_cases hlt : k < n
    · obtain rfl := hA2 hlt
      have hLne : l.drop k ≠ [] := by intro h; have := congrArg List.length h; rw [List.length_drop, HN.out] at this; simp at this; omega
      have hLl : (l.drop k).length = n - k := by rw [List.length_drop, HN.out]
      obtain ⟨ht1, ht2, ht3⟩ := TB.taken_bounds hS hLne
      have HCS := Lib.hid (TB.cuts_step hS hLne)
      have HFT := Lib.hid (block_fits hS hS2 hLne (HFI.out.drop k))
      have HENK := Lib.hid (HENT.out wr k HBEL.out hlt)
      have HTK := Lib.hid (taken_any (some ⟨b0, off0 + k * 5, none⟩) (n - k) (cap - k) S (l.drop k) wr hLl HENK.out (HFI.out.drop k) hS hS2)
      obtain ⟨t, htt⟩ : ∃ t, TB.taken S (l.drop k) = t := ⟨_, rfl⟩
      rw [htt] at HCS HFT HTK ht1 ht2 ht3
      rw [hLl] at ht2
      have hBL : ((l.drop k).take t).length = t := by rw [List.length_take, hLl]; omega
      have HBO := Lib.hid (build_ok (b := (l.drop k).take t) (by omega) (okF_take t _ _ (okF_drop k _ _ HOK.out)))
      have HBLn := Lib.hid hBL
      clear hLne hLl htt hBL
      go_wp2_with fail
      refine HTK.out.mono ?_
      rintro e w1 ⟨rfl, hb1'⟩
      have HBLD1 := Lib.hid (HBLD.out.kept hb1')
      have HBEL1 := Lib.hid (below_seq HBEL.out hb1' (by have := HSZ.out; omega))
      have HOWN1 := Lib.hid (own_below HOWN.out hb1')
      have HSZ1 : Hid (B + 1 ≤ w1.heap.size) := Lib.hid (by have := hb1'.size; have := HSZ.out; omega)
      clear hb1' HBLD HBEL HOWN HSZ HTK HENK
      have HENK1 := Lib.hid (HENT.out w1 k HBEL1.out hlt)
      have hsl := fun W => slice_ents W (some ⟨b0, off0 + k * 5, none⟩) (n - k) (cap - k) t (by omega)
      have hbd := build_any (some ⟨b0, off0 + k * 5, none⟩) t (cap - k) ((l.drop k).take t) 16 w1 HBLn.out (by omega) (HENK1.out.take t) (by omega)
      rw [HBO.out] at hbd
      have HBD := Lib.hid hbd
      clear hbd
      obtain ⟨P, hP⟩ : ∃ P, BK.buildB ((l.drop k).take t) 16 = P := ⟨_, rfl⟩
      rw [hP] at HFT HBD
      have HP := Lib.hid hP
      clear hP
      obtain ⟨m, hm⟩ : ∃ m, t = m + 1 := ⟨t - 1, by omega⟩
      have hml : m < (l.drop k).length := by rw [List.length_drop, HN.out]; omega
      obtain ⟨y, hy⟩ : ∃ y, (l.drop k)[m]'hml = y := ⟨_, rfl⟩
      have HY := Lib.hid hy
      have hyg := good_zero (HFI.out y (by rw [← hy]; exact List.mem_of_mem_drop (List.getElem_mem hml))).2.1
      have HKEY : Hid (∀ W, Below B w W → W.cell? ⟨b0, off0 + k * 5 + m * 5, none⟩ = some (.string y.key)) := Lib.hid fun W hW => by
        obtain ⟨b', off', hA, -, hc⟩ := (HENT.out W k hW hlt).at_ (by omega)
        simp only [Option.some.injEq, Addr.mk.injEq] at hA
        obtain ⟨rfl, rfl, -⟩ := hA
        have := (hc m hml).1
        rw [hy] at this
        exact this
      have HLK : Hid (BK.lastKey ((l.drop k).take t) = y.key) := Lib.hid (by
        unfold BK.lastKey
        rw [hm, List.take_succ_eq_append_getElem hml, hy]
        simp)
      obtain ⟨ky, hky⟩ : ∃ ky, y.key = ky := ⟨_, rfl⟩
      rw [hky] at HKEY HLK hyg
      obtain ⟨-, hks, -⟩ := hyg
      have hPl := HFT.out
      have hBl : (TB.body D).length ≤ k * 718 := HDB.out
      have hwm : IntKind.i64.wrap ((t : Int) - 1) = (m : Int) := by rw [IntWalk.i64_in _ ⟨by omega, by omega⟩]; omega
      have g0 : (0 : Int) ≤ (m : Int) := by omega
      have g1 : (m : Int) < ((n - k : Nat) : Int) := by omega
      have HM := Lib.hid hm
      clear hy hky hm
      go_wp2_with fail
      refine HBD.out.mono ?_
      rintro e w2 ⟨rfl, hb2'⟩
      have HBLD2 := Lib.hid (HBLD1.out.kept hb2')
      have HBEL2 := Lib.hid (below_seq HBEL1.out hb2' (by have := HSZ1.out; omega))
      have HOWN2 := Lib.hid (own_below HOWN1.out hb2')
      have HSZ2 : Hid (B + 1 ≤ w2.heap.size) := Lib.hid (by have := hb2'.size; have := HSZ1.out; omega)
      clear hb2' HBLD1 HBEL1 HOWN1 HSZ1 HBD HENK1
      go_wp2_with fail
      refine (HPUT.out (TB.body D) P w2 HBLD2.out (by omega) (by have := HSZ2.out; omega)).mono ?_
      rintro e w3 ⟨hb3', hx⟩
      rw [if_neg (by simp), if_neg (by omega)] at hx
      obtain ⟨rfl, hbl3, ha3⟩ := hx
      have HBEL3 := Lib.hid (HBEL2.out.trans hb3')
      have HOWN3 := Lib.hid (own_apartB HOWN2.out ha3 (by decide) (by decide))
      have HSZ3 : Hid (B + 1 ≤ w3.heap.size) := Lib.hid (by have := hb3'.size; have := HSZ2.out; omega)
      have HBLD3 := Lib.hid hbl3
      clear hb3' ha3 hbl3 HBLD2 HBEL2 HOWN2 HSZ2
      obtain ⟨z, hz⟩ : ∃ z, w3.heap.size = z := ⟨_, rfl⟩
      have hz0' : (w3.alloc (.cells #[.string ⟨#[]⟩, .int .i64 (TB.body D).length, .int .i64 (8 + (P.length : Int))] 81)).cell? ⟨b0, off0 + k * 5 + m * 5, none⟩ = some (.string ky) := HKEY.out _ (HBEL3.out.alloc (by have := HSZ3.out; omega) _)
      have HZB : Hid (B + 1 ≤ z) := Lib.hid (by have := HSZ3.out; omega)
      have HOWN5 : Hid ((w3.alloc (.cells #[.string ky, .int .i64 (TB.body D).length, .int .i64 (8 + (P.length : Int))] 81)).ownsRow (B + 1) 81 3 (.slice V D.length vc) D.length (scs (TB.sps 0 D))) := Lib.hid (HOWN3.out.alloc _)
      have HBEL5 : Hid (Below B w (w3.alloc (.cells #[.string ky, .int .i64 (TB.body D).length, .int .i64 (8 + (P.length : Int))] 81))) := Lib.hid (HBEL3.out.alloc (by have := HSZ3.out; omega) _)
      have HBLD5 : Hid (Bld B B (TB.body D ++ TB.fr P) (w3.alloc (.cells #[.string ky, .int .i64 (TB.body D).length, .int .i64 (8 + (P.length : Int))] 81))) := Lib.hid (HBLD3.out.kept ((Below.refl _ _).alloc (Nat.le_refl _) _))
      have HS5 : Hid ((w3.alloc (.cells #[.string ky, .int .i64 (TB.body D).length, .int .i64 (8 + (P.length : Int))] 81)).heap.size = z + 1) := Lib.hid (by simp; omega)
      clear HBEL3 HOWN3 HBLD3 HSZ3
      obtain ⟨Y, hY⟩ : ∃ Y, scs (TB.sps 0 D) = Y := ⟨_, rfl⟩
      rw [hY] at HOWN5
      have hDlen : D.length ≤ 65536 := by have := HDL.out; omega
      obtain ⟨dn, hdn⟩ : ∃ dn, D.length = dn := ⟨_, rfl⟩
      rw [hdn] at HOWN5 hDlen ⊢
      have HYY := Lib.hid hY
      have HDN := Lib.hid hdn
      clear hY hdn
      go_wp2_with (at_builtin; refine wpList_append_own _ rfl _ _ 75 rfl (B + 1) 81 i0 _ 3 32 Tryz.underlying75 hi hz0 hz1 hz2 rfl (by decide) _ _ _ rfl (own_below HOWN5.out ((Below.refl _ _).alloc (Nat.le_refl _) _)) ⟨z + 1, 0, none⟩ 1 1 [.string ky, .int .i64 (TB.body D).length, .int .i64 (8 + (P.length : Int))] rfl ?c1 ?c2 ?c3 ?c4 ?c5 ?c6 ?_)
      case c1 => rfl
      case c2 =>
        refine World.news_of_block (cs := #[.string ky, .int .i64 (TB.body D).length, .int .i64 (8 + (P.length : Int))]) (t := 81) (fr := (0, 0)) ?_
        rw [← HS5.out]
        exact heap_alloc_new _ _
      case c3 => simp [Value.oneCell']
      case c4 => unfold maxLen; omega
      case c5 => omega
      case c6 => have := HS5.out; have := HZB.out; simp; omega
      intro v' w6 hown6 hgrow6 hnil6
      have hob : ∀ g, (Value.slice V dn vc).ownBlock = some g → B + 1 ≤ g := fun g hg => (HOWN5.out.lt g hg).1
      have HD2 : Hid ((D ++ [(l.drop k).take t]).length = dn + 1) := Lib.hid (by rw [List.length_append, HDN.out]; rfl)
      have HSP : Hid (TB.sps 0 (D ++ [(l.drop k).take t]) = TB.sps 0 D ++ [⟨ky, (TB.body D).length, 8 + P.length⟩]) := Lib.hid (by rw [TB.sps_snoc, HLK.out, HP.out, TB.fr_len, Nat.zero_add])
      have HR6 : Hid (w6.ownsRow (B + 1) 81 3 v' (D ++ [(l.drop k).take t]).length (scs (TB.sps 0 (D ++ [(l.drop k).take t])))) := Lib.hid (by
        rw [HD2.out, HSP.out, scs_snoc, HYY.out]
        have : TB.Sp.cells ⟨ky, (TB.body D).length, 8 + P.length⟩ = [.string ky, .int .i64 (TB.body D).length, .int .i64 (8 + (P.length : Int))] := by simp [TB.Sp.cells]
        rw [this]
        exact hown6)
      have HBD6 : Hid (TB.body (D ++ [(l.drop k).take t]) = TB.body D ++ TB.fr P) := Lib.hid (by rw [TB.body_snoc, HP.out])
      have HBLD6 : Hid (Bld B B (TB.body (D ++ [(l.drop k).take t])) w6) := Lib.hid (by
        rw [HBD6.out]
        exact bld_grown (HBLD5.out.kept ((Below.refl _ _).alloc (Nat.le_refl _) _)) (own_below HOWN5.out ((Below.refl _ _).alloc (Nat.le_refl _) _)) hgrow6 (by decide) (by decide))
      have HBEL6 : Hid (Below B w w6) := Lib.hid ⟨hgrow6.os.trans HBEL5.out.os, hgrow6.tape.trans HBEL5.out.tape, hgrow6.output.trans HBEL5.out.output, by have := hgrow6.size; have := HBEL5.out.size; simp at *; omega, fun q hq =>
        (hgrow6.block q (by have := HS5.out; have := HZB.out; simp; omega) (by intro he; have := hob q he.symm; omega)).trans ((Below.heap_alloc _ _ _ (by have := HS5.out; have := HZB.out; omega)).trans (HBEL5.out.block q hq))⟩
      have HSZ6 : Hid (B + 1 ≤ w6.heap.size) := Lib.hid (by have := hgrow6.size; have := HS5.out; have := HZB.out; simp at *; omega)
      obtain ⟨A3, hst, hA3⟩ := tail_ents b0 (off0 + k * 5) (n - k) (cap - k) t (by omega) (by omega)
      have HA3 := Lib.hid hA3
      have hnk : n - k - t = n - (k + t) := by omega
      have hck : cap - k - t = cap - (k + t) := by omega
      rw [hnk, hck] at hst
      have HDB6 : Hid ((TB.body (D ++ [(l.drop k).take t])).length ≤ (k + t) * 718) := Lib.hid (by
        rw [HBD6.out, List.length_append, TB.fr_len, ← HP.out]
        have h1 := BK.bodyF_len 16 [] ((l.drop k).take t) fun e he => by
          have := HFI.out e (List.mem_of_mem_drop (List.mem_of_mem_take he))
          exact ⟨this.2.1, this.1, this.2.2⟩
        have h2 := (VM.enc_len (n := (((l.drop k).take t).length : Int)) (by omega) (by rw [HBLn.out]; omega)).2
        unfold BK.buildB
        rw [List.length_append]
        rw [HBLn.out] at h1 h2 ⊢
        have := HDB.out
        omega)
      have HWF6 : Hid (∀ y ∈ TB.sps 0 (D ++ [(l.drop k).take t]), y.wf ∧ y.last.size ≤ 64) := Lib.hid fun y hy => by
        rw [HSP.out] at hy
        rcases List.mem_append.1 hy with h | h
        · exact HWF.out y h
        · simp only [List.mem_singleton] at h
          rw [h]
          exact ⟨⟨by show ky.size ≤ _; omega, by show (TB.body D).length ≤ _; omega, by show 8 + P.length ≤ _; omega⟩, hks⟩
      have HCUT6 : Hid ((D ++ [(l.drop k).take t]) ++ TB.cuts S (l.drop (k + t)) = TB.cuts S l) := Lib.hid (by
        rw [List.append_assoc, ← HCUT.out, HCS.out, List.drop_drop]
        rfl)
      clear hown6 hgrow6 hnil6 hob hA3 hnk hck HBLD5 HBEL5 HOWN5
      go_wp2
      go_roundw
      case rel => exact ⟨k + t, D ++ [(l.drop k).take t], A3, by omega, rfl, fun h => by rw [HA3.out (by omega), Nat.add_mul, Nat.add_assoc], HCUT6.out, by rw [HD2.out]; have := HDL.out; have := HDN.out; omega, HDB6.out, HR6.out, HBLD6.out, HBEL6.out, HSZ6.out, HWF6.out⟩
      case measure => simp [sliceLen]; omega
    · have hkn : k = n := by omega
      have hD : D = TB.cuts S l := by
        have h := HCUT.out
        rw [List.drop_eq_nil_of_le (by rw [HN.out]; omega), TB.cuts_nil, List.append_nil] at h
        exact h
      obtain ⟨V', vc', hsl', hspin, -, -⟩ := own_sps (fun y hy => (HWF.out y hy).1) (TB.sps_len 0 D) HOWN.out
      obtain ⟨rfl, rfl⟩ : V' = V ∧ vc' = vc := by simp only [Value.slice.injEq] at hsl'; exact ⟨hsl'.1.symm, hsl'.2.2.symm⟩
      have hix : TB.idx (TB.sps 0 D) = TB.ixOf S l := by rw [hD]; rfl
      have HIX := indexOf_any V' D.length vc' (TB.sps 0 D) wr (TB.sps_len 0 D) hspin (fun y hy => (HWF.out y hy).2) (by have := HDL.out; omega)
      rw [hix] at HIX
      have HIXX := Lib.hid HIX
      have hixb : (TB.ixOf S l).length ≤ 6200000 := by
        rw [← hix]
        unfold TB.idx
        have h1 := flat_len (TB.sps 0 D) HWF.out
        have h2 := (VM.enc_len (n := ((TB.sps 0 D).length : Int)) (by omega) (by rw [TB.sps_len]; have := HDL.out; omega)).2
        rw [List.length_append]
        rw [TB.sps_len] at h1 h2 ⊢
        have := HDL.out
        omega
      obtain ⟨ix, hixx⟩ : ∃ ix, TB.ixOf S l = ix := ⟨_, rfl⟩
      rw [hixx] at hixb
      have HIXB := Lib.hid hixb
      obtain ⟨fl, hfl⟩ : ∃ fl, TB.flOf b l = fl := ⟨_, rfl⟩
      have hkl : (TB.keys l).length ≤ n := Nat.le_trans (dedF_len _ _) (by rw [List.length_map, HN.out]; exact Nat.le_refl _)
      have hkm : ∀ q ∈ TB.keys l, q.size ≤ 64 := fun q hq => by
        obtain ⟨e, he, rfl⟩ := List.mem_map.1 (dedF_mem _ _ _ hq)
        exact (good_zero (HFI.out e he).2.1).2.1
      have hflen : fl.length ≤ 131073 := by
        rw [← hfl]
        unfold TB.flOf
        rw [B9.BL.filter_len]
        have := (B9.BL.bytes_lt (b := b) (n := (B9.keysOf (TB.keys l)).length) hb2 (by unfold B9.keysOf; rw [List.length_map]; omega)).2
        omega
      have HNEW : Hid (∀ W A3 c3, B9.StrsIn W W.heap.size A3 (TB.keys l) → Calls Tryz.prog 56 #[.int .i64 b, .slice A3 (TB.keys l).length c3] W fun e w' => e = .returned (.tuple #[.string ⟨fl.toArray⟩, .int .i64 0]) ∧ Below W.heap.size W w') := Lib.hid fun W A3 c3 h3 => by
        have h := B9.new_any b A3 (TB.keys l).length c3 (TB.keys l) W (by omega) (by omega) rfl h3 (by unfold reachBytes; omega) (fun q hq => by have := hkm q hq; omega)
        unfold B9.NewOut B9.BL.new at h
        rw [if_neg (by omega), if_neg (by unfold B9.keysOf; rw [List.length_map]; omega), Int.toNat_natCast] at h
        rw [← hfl]
        exact h
      have HKEYS := Lib.hid fun W (hW : Below B w W) => keysOf_any A n cap l W HN.out (HIN.out.below (by rw [hBB]; exact hW)) hb
      have HBY : Hid (TB.bytes S b l = TB.body D ++ (TB.fr ix ++ (TB.fr fl ++ TB.fr (TB.ftOf (TB.body D).length ((TB.body D).length + (TB.fr ix).length))))) := Lib.hid (by unfold TB.bytes; rw [← hD, hixx, hfl])
      rw [hixx] at HIXX
      have HIXL := Lib.hid hixx
      have HFLL := Lib.hid hfl
      obtain ⟨R, hR⟩ : ∃ R, TB.bytes S b l = R := ⟨_, rfl⟩
      rw [hR] at HBY
      have HRR := Lib.hid hR
      have hBl : (TB.body D).length ≤ 65536 * 718 := by have := HDB.out; omega
      obtain ⟨G, hG⟩ : ∃ G, TB.body D = G := ⟨_, rfl⟩
      rw [hG] at HBY HBLD hBl
      have HGB := Lib.hid hBl
      have HFL := Lib.hid hflen
      clear hixb hsl' hspin hix HIX hixx hfl hkl hkm hflen hR hG hBl hD hkn
      go_wp2_with fail
      refine HIXX.out.mono ?_
      rintro e w1 ⟨rfl, hb1'⟩
      have HBLD1 := Lib.hid (HBLD.out.kept hb1')
      have HBEL1 := Lib.hid (below_seq HBEL.out hb1' (by have := HSZ.out; omega))
      have HSZ1 : Hid (B + 1 ≤ w1.heap.size) := Lib.hid (by have := hb1'.size; have := HSZ.out; omega)
      clear hb1' HIXX HBLD HBEL HSZ HOWN
      by_cases hixl : 65535 < ix.length
      · go_wp2_with fail
        refine (tput_any B B G ix 0 w1 HBLD1.out (by have := HIXB.out; have := HGB.out; omega) (by have := HSZ1.out; omega)).mono ?_
        rintro e w2 ⟨hb2', hx⟩
        rw [if_neg (by simp), if_pos hixl] at hx
        subst hx
        exact ⟨rfl, HBEL1.out.trans hb2', by rw [if_pos (Or.inl (by rw [HIXL.out]; exact hixl))]⟩
      · go_wp2_with fail
        refine (HPUT.out G ix w1 HBLD1.out (by have := HGB.out; omega) (by have := HSZ1.out; omega)).mono ?_
        rintro e w2 ⟨hb2', hx⟩
        rw [if_neg (by simp), if_neg hixl] at hx
        obtain ⟨rfl, hbl2, ha2⟩ := hx
        obtain ⟨z1, hz1'⟩ : ∃ z1, w2.heap.size = z1 := ⟨_, rfl⟩
        have HBLD2 := Lib.hid hbl2
        have HBEL2 := Lib.hid (HBEL1.out.trans hb2')
        have HSZ2 : Hid (B + 1 ≤ w2.heap.size) := Lib.hid (by have := hb2'.size; have := HSZ1.out; omega)
        clear hb2' hbl2 ha2 HBLD1 HBEL1 HSZ1
        have HR3 : Hid ((w2.alloc (.cells #[.string ⟨#[]⟩, .int .i64 G.length, .int .i64 (8 + (ix.length : Int))] 81)).heap[z1]? = some (.cells #[.string ⟨#[]⟩, .int .i64 G.length, .int .i64 (8 + (ix.length : Int))] 81 (0, 0))) := Lib.hid (by rw [← hz1']; exact heap_alloc_new w2 _)
        have HBLD3 := Lib.hid (HBLD2.out.kept ((Below.refl _ _).alloc (Nat.le_refl _) (.cells #[.string ⟨#[]⟩, .int .i64 G.length, .int .i64 (8 + (ix.length : Int))] 81)))
        have HBEL3 := Lib.hid (HBEL2.out.alloc (by have := HSZ2.out; omega) (.cells #[.string ⟨#[]⟩, .int .i64 G.length, .int .i64 (8 + (ix.length : Int))] 81))
        have HSZ3 : Hid ((w2.alloc (.cells #[.string ⟨#[]⟩, .int .i64 G.length, .int .i64 (8 + (ix.length : Int))] 81)).heap.size = z1 + 1) := Lib.hid (by simp; omega)
        have HZ1 : Hid (B + 1 ≤ z1) := Lib.hid (by have := HSZ2.out; omega)
        go_wp2_with fail
        generalize w2.alloc (.cells #[.string ⟨#[]⟩, .int .i64 G.length, .int .i64 (8 + (ix.length : Int))] 81) = w3 at HR3 HBLD3 HBEL3 HSZ3 ⊢
        refine (HKEYS.out w3 HBEL3.out).mono ?_
        rintro e w4 ⟨A3, c3, rfl, hst, hb4⟩
        have HBLD4 := Lib.hid (HBLD3.out.kept hb4)
        have HBEL4 := Lib.hid (below_seq HBEL3.out hb4 (by have := HSZ3.out; have := HZ1.out; omega))
        have HR4 := Lib.hid ((hb4.block z1 (by have := HSZ3.out; omega)).trans HR3.out)
        have HSZ4 : Hid (z1 + 1 ≤ w4.heap.size) := Lib.hid (by have := hb4.size; have := HSZ3.out; omega)
        have HST := Lib.hid hst
        clear hb4 hst HBLD2 HBEL2 HSZ2 HBLD3 HBEL3 HR3 HSZ3
        go_wp2_with fail
        refine (HNEW.out w4 A3 c3 HST.out).mono ?_
        rintro e w5 ⟨rfl, hb5⟩
        have HBLD5 := Lib.hid (HBLD4.out.kept hb5)
        have HBEL5 := Lib.hid (below_seq HBEL4.out hb5 (by have := HSZ4.out; have := HZ1.out; omega))
        have HR5 := Lib.hid ((hb5.block z1 (by have := HSZ4.out; omega)).trans HR4.out)
        have HSZ5 : Hid (z1 + 1 ≤ w5.heap.size) := Lib.hid (by have := hb5.size; have := HSZ4.out; omega)
        clear hb5 HST HBLD4 HBEL4 HR4 HSZ4
        have hGl : (G ++ TB.fr ix).length + (8 + fl.length) ≤ 100000000 := by rw [List.length_append, TB.fr_len]; have := HGB.out; have := HFL.out; omega
        have HGM : Hid ((G ++ TB.fr ix).length ≤ 60000000) := Lib.hid (by rw [List.length_append, TB.fr_len]; have := HGB.out; omega)
        go_wp2_with fail
        by_cases hfll : 65535 < fl.length
        · refine (HPUT.out (G ++ TB.fr ix) fl w5 HBLD5.out hGl (by have := HSZ5.out; have := HZ1.out; omega)).mono ?_
          rintro e w6 ⟨hb6, hx⟩
          rw [if_neg (by simp), if_pos hfll] at hx
          subst hx
          exact ⟨rfl, HBEL5.out.trans hb6, by rw [if_pos (Or.inr (by rw [HFLL.out]; exact hfll))]⟩
        · refine (HPUT.out (G ++ TB.fr ix) fl w5 HBLD5.out hGl (by have := HSZ5.out; have := HZ1.out; omega)).mono ?_
          rintro e w6 ⟨hb6, hx⟩
          rw [if_neg (by simp), if_neg hfll] at hx
          obtain ⟨rfl, hbl6, ha6⟩ := hx
          obtain ⟨z2, hz2'⟩ : ∃ z2, w6.heap.size = z2 := ⟨_, rfl⟩
          obtain ⟨p2, hp2⟩ : ∃ p2, (G ++ TB.fr ix).length = p2 := ⟨_, rfl⟩
          obtain ⟨p1, hp1⟩ : ∃ p1, G.length = p1 := ⟨_, rfl⟩
          rw [hp2, hp1]
          have HP1 := Lib.hid hp1
          have HP2 := Lib.hid hp2
          have hfc : ((8 + fl.length : Nat) : Int) = 8 + (fl.length : Int) := by omega
          rw [hfc]
          have HBLD6 := Lib.hid hbl6
          have HBEL6 := Lib.hid (HBEL5.out.trans hb6)
          have HR6 := Lib.hid (ha6 z1 _ _ _ HR5.out (by decide) (by decide))
          have HSZ6 : Hid (z1 + 1 ≤ w6.heap.size) := Lib.hid (by have := hb6.size; have := HSZ5.out; omega)
          have HR7 : Hid ((w6.alloc (.cells #[.string ⟨#[]⟩, .int .i64 p2, .int .i64 (8 + (fl.length : Int))] 81)).heap[z2]? = some (.cells #[.string ⟨#[]⟩, .int .i64 p2, .int .i64 (8 + (fl.length : Int))] 81 (0, 0))) := Lib.hid (by rw [← hz2']; exact heap_alloc_new w6 _)
          have HR7' : Hid ((w6.alloc (.cells #[.string ⟨#[]⟩, .int .i64 p2, .int .i64 (8 + (fl.length : Int))] 81)).heap[z1]? = some (.cells #[.string ⟨#[]⟩, .int .i64 G.length, .int .i64 (8 + (ix.length : Int))] 81 (0, 0))) := Lib.hid ((Below.heap_alloc _ _ _ (by have := HSZ6.out; omega)).trans HR6.out)
          have HBLD7 := Lib.hid (HBLD6.out.kept ((Below.refl _ _).alloc (Nat.le_refl _) (.cells #[.string ⟨#[]⟩, .int .i64 p2, .int .i64 (8 + (fl.length : Int))] 81)))
          have HBEL7 := Lib.hid (HBEL6.out.alloc (by have := HSZ6.out; have := HZ1.out; omega) (.cells #[.string ⟨#[]⟩, .int .i64 p2, .int .i64 (8 + (fl.length : Int))] 81))
          have HSZ7 : Hid ((w6.alloc (.cells #[.string ⟨#[]⟩, .int .i64 p2, .int .i64 (8 + (fl.length : Int))] 81)).heap.size = z2 + 1) := Lib.hid (by simp; omega)
          have HZ2 : Hid (B + 1 ≤ z2) := Lib.hid (by have := HSZ6.out; have := HZ1.out; omega)
          have hp1b : p1 ≤ 281474976710656 := by rw [← hp1]; have := HGB.out; omega
          have hp2b : p2 ≤ 281474976710656 := by rw [← hp2]; omega
          have HPB1 := Lib.hid (fun W => placeBytes_any p1 W hp1b)
          have HPB2 := Lib.hid (fun W => placeBytes_any p2 W hp2b)
          have hfoot : (⟨(TB.be 8 p1).toArray⟩ : ByteArray) ++ ⟨(TB.be 8 p2).toArray⟩ = ⟨(TB.be 8 p1 ++ TB.be 8 p2).toArray⟩ := by apply str_ext; simp
          have HPUTF : Hid (∀ W, Bld B B ((G ++ TB.fr ix) ++ TB.fr fl) W → B ≤ W.heap.size → Calls Tryz.prog 48 #[.string (⟨(TB.be 8 p1).toArray⟩ ++ ⟨(TB.be 8 p2).toArray⟩), .int .i64 0, .pointer (some ⟨B, 0, none⟩)] W fun e w' => (∃ q, e = .returned (.agg #[.string ⟨#[]⟩, .int .i64 q, .int .i64 24])) ∧ Bld B B (((G ++ TB.fr ix) ++ TB.fr fl) ++ TB.fr (TB.be 8 p1 ++ TB.be 8 p2)) w' ∧ Below B W w' ∧ ApartB W w') := Lib.hid fun W h1 h2 => by
            rw [hfoot]
            have hl2 : (TB.be 8 p1 ++ TB.be 8 p2).length = 16 := by rw [List.length_append, TB.be_len, TB.be_len]
            refine (HPUT.out _ (TB.be 8 p1 ++ TB.be 8 p2) W h1 (by rw [List.length_append, TB.fr_len, hl2]; have := HGM.out; omega) h2).mono ?_
            rintro e w' ⟨hbb, hx⟩
            rw [if_neg (by simp), if_neg (by rw [hl2]; omega), hl2] at hx
            exact ⟨⟨_, hx.1⟩, hx.2.1, hbb, hx.2.2⟩
          obtain ⟨SA, hSA⟩ : ∃ SA : ByteArray, (⟨(TB.be 8 p1).toArray⟩ : ByteArray) = SA := ⟨_, rfl⟩
          obtain ⟨SB, hSB⟩ : ∃ SB : ByteArray, (⟨(TB.be 8 p2).toArray⟩ : ByteArray) = SB := ⟨_, rfl⟩
          have hsa : SA.size = 8 := by rw [← hSA, mk_size, TB.be_len]
          have hsb : SB.size = 8 := by rw [← hSB, mk_size, TB.be_len]
          have k1 : ¬ 9223372036854775807 < SA.size + SB.size := by omega
          rw [hSA] at HPB1
          rw [hSB] at HPB2
          rw [hSA, hSB] at HPUTF
          have HSA := Lib.hid hsa
          have HSB := Lib.hid hsb
          clear hsa hsb hSA hSB hfoot hbl6 hb6 ha6 hp1 hfc HBLD5 HBEL5 HR5 HSZ5 HBLD6 HBEL6 HR6 HSZ6 hGl
          go_wp2_with fail
          rw [HP1.out] at HR7'
          generalize w6.alloc (.cells #[.string ⟨#[]⟩, .int .i64 p2, .int .i64 (8 + (fl.length : Int))] 81) = w7 at HR7 HR7' HBLD7 HBEL7 HSZ7 ⊢
          have e1 : w7.cell? ⟨z1, 1, none⟩ = some (.int .i64 p1) := cell_of_row _ _ _ _ _ _ HR7'.out
          have e2 : w7.cell? ⟨z2, 1, none⟩ = some (.int .i64 p2) := cell_of_row _ _ _ _ _ _ HR7.out
          have HSC : Hid (∀ W, Below w7.heap.size w7 W → (W.cell? ⟨z1, 1, none⟩ = some (.int .i64 p1) ∧ W.cell? ⟨z2, 1, none⟩ = some (.int .i64 p2)) ∧ Bld B B ((G ++ TB.fr ix) ++ TB.fr fl) W ∧ B ≤ W.heap.size) := Lib.hid fun W hW =>
            ⟨⟨cell_of_row _ _ _ _ _ _ ((hW.block z1 (Array.getElem?_eq_some_iff.1 HR7'.out).1).trans HR7'.out), cell_of_row _ _ _ _ _ _ ((hW.block z2 (Array.getElem?_eq_some_iff.1 HR7.out).1).trans HR7.out)⟩, HBLD7.out.kept hW, by have := hW.size; have := HSZ7.out; have := HZ2.out; omega⟩
          have HRC : Hid (∀ W, Below w7.heap.size w7 W → W.heap[z1]? = some (.cells #[.string ⟨#[]⟩, .int .i64 p1, .int .i64 (8 + (ix.length : Int))] 81 (0, 0)) ∧ W.heap[z2]? = some (.cells #[.string ⟨#[]⟩, .int .i64 p2, .int .i64 (8 + (fl.length : Int))] 81 (0, 0))) := Lib.hid fun W hW =>
            ⟨(hW.block z1 (Array.getElem?_eq_some_iff.1 HR7'.out).1).trans HR7'.out, (hW.block z2 (Array.getElem?_eq_some_iff.1 HR7.out).1).trans HR7.out⟩
          go_region_held3 (fun W => W.cell? ⟨z1, 1, none⟩ = some (.int .i64 p1) ∧ W.cell? ⟨z2, 1, none⟩ = some (.int .i64 p2))
            (first | exact HS3.out | exact HS2.out | exact HS1.out | go_keep | fail)
            (first
              | (have hkb := HBb.out; go_at_call 48; refine (HPUTF.out _ (HSC.out _ hkb).2.1 (HSC.out _ hkb).2.2).mono ?_; rintro r wc ⟨⟨q, rfl⟩, hbl, hbc, hac⟩
                 have HBL := Lib.hid hbl
                 have HBC : Hid (Below B w7 wc) := Lib.hid ((hkb.mono (by have := HSZ7.out; have := HZ2.out; omega)).trans hbc)
                 have HS3 : Hid (wc.cell? ⟨z1, 1, none⟩ = some (.int .i64 p1) ∧ wc.cell? ⟨z2, 1, none⟩ = some (.int .i64 p2)) := Lib.hid ⟨cell_of_row _ _ _ _ _ _ (hac z1 _ _ _ (HRC.out _ hkb).1 (by decide) (by decide)), cell_of_row _ _ _ _ _ _ (hac z2 _ _ _ (HRC.out _ hkb).2 (by decide) (by decide))⟩
                 clear hbl hbc hac hkb)
              | (have hka := HBa.out; go_at_call 58; with_reducible refine (HPB2.out _).mono ?_; rintro r wb ⟨rfl, hbb⟩
                 have HBb : Hid (Below w7.heap.size w7 wb) := Lib.hid (below_seq hka hbb hka.size)
                 have HS2 := Lib.hid (HSC.out _ HBb.out).1
                 clear hbb hka)
              | (go_at_call 58; with_reducible refine (HPB1.out _).mono ?_; rintro r wa ⟨rfl, hba⟩
                 have HBa : Hid (Below w7.heap.size w7 wa) := Lib.hid (below_seq (below_drewN (Below.refl _ _) 1) hba (Nat.le_refl _))
                 have HS1 := Lib.hid (HSC.out _ HBa.out).1
                 clear hba)
              | fail)
          all_goals
            clear HS3
            have hfin : ((G ++ TB.fr ix) ++ TB.fr fl) ++ TB.fr (TB.be 8 p1 ++ TB.be 8 p2) = R := by
              rw [HBY.out, HP1.out, ← HP2.out, List.length_append, HP1.out]
              simp only [List.append_assoc]
              rfl
            have HST := Lib.hid (bstring_any B B R wc (by rw [← hfin]; exact HBL.out) (by
              rw [← hfin]
              intro h
              have := congrArg List.length h
              rw [List.length_append, TB.fr_len] at this
              simp at this))
            clear hfin
            go_wp2_with fail
            refine HST.out.mono ?_
            rintro e w9 ⟨rfl, hb9⟩
            have i1 : ¬ 65535 < (TB.ixOf S l).length := by rw [HIXL.out]; exact hixl
            have i2 : ¬ 65535 < (TB.flOf b l).length := by rw [HFLL.out]; exact hfll
            have HBF := Lib.hid ((HBEL7.out.trans HBC.out).trans hb9)
            clear hb9
            go_wp2
            all_goals first
              | (rename_i h; exact absurd h (by rw [HIXL.out, HFLL.out]; omega))
              | (go_ret; exact ⟨HBF.out, by rw [HRR.out]; rfl⟩)
end Go.Proofs.YtnglaolbfpdgoaaGreat

/- Build. -/
namespace Go.Proofs.YtnglaolbfpdgoaaGreat
open Go.RowKit
open SK
open TB (Bs Sp)

def BldIn (w : World) (x S b : Nat) (l : List E) (e : Ending) (w' : World) : Prop :=
  w.grownBy w' (some x) ∧ if 65535 < (TB.ixOf S l).length ∨ 65535 < (TB.flOf b l).length then e = .panicked (tfault 5) ∧ w'.heap[x]? = w.heap[x]? else e = .returned (.tuple #[]) ∧ w'.heap[x]? = some (.cells #[.string ⟨(TB.bytes S b l).toArray⟩] 9 (0, 0))

set_option maxRecDepth 100000 in
set_option maxHeartbeats 1000000 in
theorem tbuild1_any (w : World) (p q r x : Nat) (A : Option Addr) (n cap S b : Nat) (l : List E) (hp : w.heap[p]? = some (.cells #[.slice A n cap] 23 (0, 0))) (hq : w.heap[q]? = some (.cells #[.int .i64 S] 3 (0, 0))) (hr : w.heap[r]? = some (.cells #[.int .i64 b] 3 (0, 0))) (hx : w.heap[x]? = some (.cells #[.string ⟨#[]⟩] 9 (0, 0)))
    (hn : l.length = n) (hcap : n ≤ cap) (hin : EntsIn w A l) (hf : Fine l) (hok : BK.OkF [] l) (hb : n ≤ 65536) (hS : 1 ≤ S) (hS2 : S ≤ 4096) (hb1 : 1 ≤ b) (hb2 : b ≤ 16) :
    Calls Tryz.prog 22 #[.pointer (some ⟨p, 0, none⟩), .pointer (some ⟨q, 0, none⟩), .pointer (some ⟨r, 0, none⟩), .pointer (some ⟨x, 0, none⟩)] w fun e w' => BldIn w x S b l e w' := by
  have cp : w.cell? ⟨p, 0, none⟩ = some (.slice A n cap) := cell_of_row _ _ _ _ _ _ hp
  have cq : w.cell? ⟨q, 0, none⟩ = some (.int .i64 S) := cell_of_row _ _ _ _ _ _ hq
  have cr : w.cell? ⟨r, 0, none⟩ = some (.int .i64 b) := cell_of_row _ _ _ _ _ _ hr
  have HX := Lib.hid hx
  have HXL := Lib.hid (Array.getElem?_eq_some_iff.1 hx).1
  have HC := Lib.hid (tbytes_any A n cap S b l w hn hcap hin hf hok hb hS hS2 hb1 hb2)
  obtain ⟨ix, hix⟩ : ∃ ix, TB.ixOf S l = ix := ⟨_, rfl⟩
  obtain ⟨fl, hfl⟩ : ∃ fl, TB.flOf b l = fl := ⟨_, rfl⟩
  obtain ⟨R, hR⟩ : ∃ R, TB.bytes S b l = R := ⟨_, rfl⟩
  unfold BytesOr at HC
  unfold BldIn
  simp only [hix, hfl, hR] at HC ⊢
  clear hix hfl hR hp hq hr hx hn hcap hin hf hok
  by_cases hbad : 65535 < ix.length ∨ 65535 < fl.length
  · simp only [if_pos hbad] at HC ⊢
    go_enter Tryz.func22, Tryz.ntmps22
    go_wp2_with fail
    refine HC.out.mono ?_
    rintro e w1 ⟨hb, rfl⟩
    exact ⟨rfl, grown_below hb, rfl, hb.block x HXL.out⟩
  · simp only [if_neg hbad] at HC ⊢
    go_enter Tryz.func22, Tryz.ntmps22
    go_wp2_with fail
    refine HC.out.mono ?_
    rintro e w1 ⟨hb, rfl⟩
    have hrow1 := (hb.block x HXL.out).trans HX.out
    have cb : w1.cell? ⟨x, 0, none⟩ = some (.string ⟨#[]⟩) := cell_of_row _ _ _ _ _ _ hrow1
    have fb' : w1.frozen? ⟨x, 0, none⟩ = false := frozen_of_row _ _ _ _ _ hrow1
    have HG : Hid (w.grownBy (w1.setCell ⟨x, 0, none⟩ (.string ⟨R.toArray⟩)) (some x)) := Lib.hid (grown_set (grown_below hb) 0 _)
    have HR : Hid ((w1.setCell ⟨x, 0, none⟩ (.string ⟨R.toArray⟩)).heap[x]? = some (.cells #[.string ⟨R.toArray⟩] 9 (0, 0))) := Lib.hid (heap_set_fr hrow1 0 _)
    clear hb hrow1 HC
    go_wp2
    go_end0
    exact ⟨HG.out, rfl, HR.out⟩

/-- what Build tells -/
def buildV (x : Bs × Int) : Value := .tuple #[.string ⟨x.1.toArray⟩, .int .i64 x.2]

set_option maxRecDepth 100000 in
set_option maxHeartbeats 4000000 in
theorem tbuild_any (A : Option Addr) (n cap : Nat) (l : List E) (size bits : Int) (w : World) (hn : l.length = n) (hcap : n ≤ cap) (hin : EntsIn w A l) (hb : n ≤ 65536) (s0 : -9223372036854775808 ≤ size) (s1 : size ≤ 9223372036854775807) (b0 : -9223372036854775808 ≤ bits) (b1 : bits ≤ 9223372036854775807) :
    Calls Tryz.prog 7 #[.slice A n cap, .int .i64 size, .int .i64 bits] w fun e w' => e = .returned (buildV (TB.tabOut l size bits)) ∧ Below w.heap.size w w' := by
  have hmf : ∀ (fn : Fn) (first cap : Array Value) (w : World), (Instr.makeFunc fn first cap).run Tryz.prog w = .ok (.func fn first cap) w := fun _ _ _ _ => rfl
  obtain ⟨a, haa⟩ : ∃ a, w.heap.size = a := ⟨_, rfl⟩
  have HB3 : Hid (Below a w (((w.alloc (.cells #[.slice A n cap] 23)).alloc (.cells #[.int .i64 size] 3)).alloc (.cells #[.int .i64 bits] 3))) := Lib.hid ((((Below.refl _ w).alloc (by omega) _).alloc (by simp; omega) _).alloc (by simp; omega) _)
  have hX : TB.tabOut l size bits = if size < 1 ∨ 4096 < size ∨ bits < 1 ∨ 16 < bits then ([], 2) else if (BK.ord l).2 ≠ 0 then ([], (BK.ord l).2) else if 65535 < (TB.ixOf size.toNat l).length ∨ 65535 < (TB.flOf bits.toNat l).length then ([], 5) else (TB.bytes size.toNat bits.toNat l, 0) := by
    unfold TB.tabOut
    rw [if_neg (c := 65536 < l.length) (by omega)]
  obtain ⟨X, hXX⟩ : ∃ X, TB.tabOut l size bits = X := ⟨_, rfl⟩
  rw [hXX] at hX ⊢
  have HX := Lib.hid hX
  simp only [haa]
  have HIN := Lib.hid hin
  have HN := Lib.hid hn
  clear hX hXX hin hn
  have bad : ∀ (_ : size < 1 ∨ 4096 < size ∨ bits < 1 ∨ 16 < bits), X = ([], 2) := fun h => by rw [HX.out, if_pos h]
  have BAD := Lib.hid bad
  clear bad
  by_cases c1 : size < 1
  · have hF := BAD.out (Or.inl c1)
    have d1 : decide (size < 1) = true := by simpa using c1
    clear HX BAD
    subst hF
    go_enter Tryz.func7, Tryz.ntmps7
    go_wp2
    go_ret2
    exact ⟨rfl, HB3.out⟩
  · have d1 : decide (size < 1) = false := by simpa using c1
    by_cases c2 : 4096 < size
    · have hF := BAD.out (Or.inr (Or.inl c2))
      have d2 : decide (4096 < size) = true := by simpa using c2
      clear HX BAD
      subst hF
      go_enter Tryz.func7, Tryz.ntmps7
      go_wp2
      go_ret2
      exact ⟨rfl, HB3.out⟩
    · have d2 : decide (4096 < size) = false := by simpa using c2
      by_cases c3 : bits < 1
      · have hF := BAD.out (Or.inr (Or.inr (Or.inl c3)))
        have d3 : decide (bits < 1) = true := by simpa using c3
        clear HX BAD
        subst hF
        go_enter Tryz.func7, Tryz.ntmps7
        go_wp2
        go_ret2
        exact ⟨rfl, HB3.out⟩
      · have d3 : decide (bits < 1) = false := by simpa using c3
        by_cases c4 : 16 < bits
        · have hF := BAD.out (Or.inr (Or.inr (Or.inr c4)))
          have d4 : decide (16 < bits) = true := by simpa using c4
          clear HX BAD
          subst hF
          go_enter Tryz.func7, Tryz.ntmps7
          go_wp2
          go_ret2
          exact ⟨rfl, HB3.out⟩
        · have d4 : decide (16 < bits) = false := by simpa using c4
          obtain ⟨S, rfl⟩ := Int.eq_ofNat_of_zero_le (show 0 ≤ size by omega)
          obtain ⟨b, rfl⟩ := Int.eq_ofNat_of_zero_le (show 0 ≤ bits by omega)
          have HX2 : Hid (X = if (BK.ord l).2 ≠ 0 then ([], (BK.ord l).2) else if 65535 < (TB.ixOf S l).length ∨ 65535 < (TB.flOf b l).length then ([], 5) else (TB.bytes S b l, 0)) := Lib.hid (by rw [HX.out, if_neg (by omega), Int.toNat_natCast, Int.toNat_natCast])
          have d5 : decide (65536 < (n : Int)) = false := by simp; omega
          have d5' : decide (65536 < n) = false := by simp; omega
          obtain ⟨O1, O2, hO⟩ : ∃ O1 O2, BK.ord l = (O1, O2) := ⟨_, _, rfl⟩
          have HORD : Hid (∀ W, Below a w W → Calls Tryz.prog 20 #[.slice A n cap] W fun r w' => r = .returned (.tuple #[.int .i64 O1, .int .i64 O2]) ∧ Below W.heap.size W w') := Lib.hid fun W hW => by
            have := bord_any A n cap l W HN.out hcap (HIN.out.below (by rw [haa]; exact hW)) (by omega)
            rw [hO] at this
            exact this
          have HOO := Lib.hid hO
          clear HX BAD hO
          obtain ⟨r0, r1, r2⟩ := heap_new3 w (.cells #[.slice A n cap] 23) (.cells #[.int .i64 S] 3) (.cells #[.int .i64 b] 3)
          rw [haa] at r0 r1 r2
          have HS3 : Hid ((((w.alloc (.cells #[.slice A n cap] 23)).alloc (.cells #[.int .i64 S] 3)).alloc (.cells #[.int .i64 b] 3)).heap.size = a + 3) := Lib.hid (by simp; omega)
          go_enter Tryz.func7, Tryz.ntmps7
          go_wp2_with fail
          generalize ((w.alloc (.cells #[.slice A n cap] 23)).alloc (.cells #[.int .i64 S] 3)).alloc (.cells #[.int .i64 b] 3) = w0 at r0 r1 r2 HB3 HS3 ⊢
          refine (HORD.out w0 HB3.out).mono ?_
          rintro e w1 ⟨rfl, hb1⟩
          have HB4 := Lib.hid (below_seq HB3.out hb1 (by have := HS3.out; omega))
          have HR0 := Lib.hid ((hb1.block a (by have := HS3.out; omega)).trans r0)
          have HR1 := Lib.hid ((hb1.block (a + 1) (by have := HS3.out; omega)).trans r1)
          have HR2 := Lib.hid ((hb1.block (a + 2) (by have := HS3.out; omega)).trans r2)
          have HS4 : Hid (a + 3 ≤ w1.heap.size) := Lib.hid (by have := hb1.size; have := HS3.out; omega)
          clear hb1 r0 r1 r2 HB3 HS3 HORD
          by_cases ho : O2 = 0
          · have hok : BK.OkF [] l := BK.okF_ord _ _ (by have := HOO.out; unfold BK.ord at this; rw [this]; exact ho)
            subst ho
            have HX3 : Hid (X = if 65535 < (TB.ixOf S l).length ∨ 65535 < (TB.flOf b l).length then ([], 5) else (TB.bytes S b l, 0)) := Lib.hid (by rw [HX2.out, HOO.out]; simp)
            have hfine : Fine l := fun e he => ⟨HIN.out.wf e he, BK.okF_all _ _ hok e he⟩
            have HFI := Lib.hid hfine
            have HOK := Lib.hid hok
            clear hfine hok HX2 HOO
            obtain ⟨x, hx⟩ : ∃ x, w1.heap.size = x := ⟨_, rfl⟩
            have hr3 : (w1.alloc (.cells #[.string ⟨#[]⟩] 9)).heap[x]? = some (.cells #[.string ⟨#[]⟩] 9 (0, 0)) := by rw [← hx]; exact heap_alloc_new w1 _
            have hbl : Below w1.heap.size w1 (w1.alloc (.cells #[.string ⟨#[]⟩] 9)) := (Below.refl _ _).alloc (Nat.le_refl _) _
            have hs5 : (w1.alloc (.cells #[.string ⟨#[]⟩] 9)).heap.size = x + 1 := by simp; omega
            go_wp2_with fail
            generalize w1.alloc (.cells #[.string ⟨#[]⟩] 9) = w2 at hr3 hbl hs5 ⊢
            have HS4' := HS4.out
            have hal : ∀ k, k < x + 1 → (w2.alloc (.cells #[.int .i64 0] 27)).heap[k]? = w2.heap[k]? := fun k hk => Below.heap_alloc _ _ _ (by omega)
            have hB2 : Below a w w2 := below_seq HB4.out hbl (by omega)
            have HC := tbuild1_any (w2.alloc (.cells #[.int .i64 0] 27)) a (a + 1) (a + 2) x A n cap S b l
              ((hal a (by omega)).trans ((hbl.block a (by omega)).trans HR0.out)) ((hal (a + 1) (by omega)).trans ((hbl.block (a + 1) (by omega)).trans HR1.out)) ((hal (a + 2) (by omega)).trans ((hbl.block (a + 2) (by omega)).trans HR2.out)) ((hal x (by omega)).trans hr3)
              HN.out hcap (HIN.out.below (by rw [haa]; exact hB2.alloc (by omega) _)) HFI.out HOK.out hb (by omega) (by omega) (by omega) (by omega)
            unfold BldIn at HC
            obtain ⟨ix, hix⟩ : ∃ ix, TB.ixOf S l = ix := ⟨_, rfl⟩
            obtain ⟨fl, hfl⟩ : ∃ fl, TB.flOf b l = fl := ⟨_, rfl⟩
            obtain ⟨R, hR⟩ : ∃ R, TB.bytes S b l = R := ⟨_, rfl⟩
            simp only [hix, hfl, hR] at HC
            rw [hix, hfl, hR] at HX3
            have hcf : ∀ W, (callFunc 22 #[.pointer (some ⟨a, 0, none⟩), .pointer (some ⟨a + 1, 0, none⟩), .pointer (some ⟨a + 2, 0, none⟩), .pointer (some ⟨x, 0, none⟩)]).run Tryz.prog W = .ok (.enter 22 #[.pointer (some ⟨a, 0, none⟩), .pointer (some ⟨a + 1, 0, none⟩), .pointer (some ⟨a + 2, 0, none⟩), .pointer (some ⟨x, 0, none⟩)]) W := fun W => cf_any (fn := Tryz.f22) (by kernel_rfl) (by kernel_rfl) (by kernel_rfl) _ W
            have HBW := Lib.hid hB2
            have HS2 := Lib.hid hs5
            have HAX : Hid (a + 3 ≤ x) := Lib.hid (by omega)
            have HAL2 : Hid ((w2.alloc (.cells #[.int .i64 0] 27)).heap[x]? = some (.cells #[.string ⟨#[]⟩] 9 (0, 0))) := Lib.hid ((hal x (by omega)).trans hr3)
            have HCF := Lib.hid hcf
            clear hr3 hbl hs5 hal hB2 hcf hix hfl hR hx HR0 HR1 HR2 HS4 HS4' HB4
            by_cases hbad : 65535 < ix.length ∨ 65535 < fl.length
            · simp only [if_pos hbad] at HC
              have hF : X = ([], 5) := by rw [HX3.out, if_pos hbad]
              have HHC := Lib.hid HC
              clear HC HX3
              subst hF
              refine (tcaught_bad w2 22 _ 5 (fun w' => Below a w w' ∧ w'.heap[x]? = some (.cells #[.string ⟨#[]⟩] 9 (0, 0))) HCF.out (HHC.out.mono ?_)).mono ?_
              · rintro e w' ⟨hg, rfl, hrb⟩
                refine ⟨rfl, noErr_grown hg (by have := HS2.out; omega), ?_, ?_⟩
                · refine below_via (y := w2.heap.size) (w1 := w') ?_ (grownBy_setCell _ _ _) (by have := hg.size; simp at this; have := HS2.out; have := HAX.out; omega) (by have := HS2.out; have := HAX.out; omega)
                  exact below_via (y := x) (HBW.out.alloc (by have := HS2.out; have := HAX.out; omega) _) hg (by have := HS2.out; have := HAX.out; simp; omega) (by have := HAX.out; omega)
                · exact (Below.heap_setCell _ _ _ _ (by have := HS2.out; simp; omega)).trans (hrb.trans HAL2.out)
              · rintro e w4 ⟨rfl, hB, hr⟩
                have cx : w4.cell? ⟨x, 0, none⟩ = some (.string ⟨#[]⟩) := cell_of_row _ _ _ _ _ _ hr
                have HB := Lib.hid hB
                clear hB HHC hr
                go_wp2
                go_ret2
                exact ⟨rfl, HB.out⟩
            · simp only [if_neg hbad] at HC
              have hF : X = (R, 0) := by rw [HX3.out, if_neg hbad]
              have HHC := Lib.hid HC
              clear HC HX3
              subst hF
              refine (tcaught_ok w2 22 _ (fun w' => Below a w w' ∧ w'.heap[x]? = some (.cells #[.string ⟨R.toArray⟩] 9 (0, 0))) HCF.out (HHC.out.mono ?_)).mono ?_
              · rintro e w' ⟨hg, rfl, hrb⟩
                exact ⟨rfl, noErr_grown hg (by have := HS2.out; omega), below_via (y := x) (HBW.out.alloc (by have := HS2.out; have := HAX.out; omega) _) hg (by have := HS2.out; have := HAX.out; simp; omega) (by have := HAX.out; omega), hrb⟩
              · rintro e w4 ⟨rfl, hB, hr⟩
                have cx : w4.cell? ⟨x, 0, none⟩ = some (.string ⟨R.toArray⟩) := cell_of_row _ _ _ _ _ _ hr
                have HB := Lib.hid hB
                clear hB HHC hr
                go_wp2
                go_ret2
                exact ⟨rfl, HB.out⟩
          · have hF : X = ([], O2) := by rw [HX2.out, HOO.out, if_pos ho]
            have e1 : (O2 == 0) = false := by simpa using ho
            have e2 : (O2 != 0) = true := by simpa using ho
            clear HX2
            subst hF
            go_wp2
            go_ret2
            exact ⟨rfl, HB4.out⟩
end Go.Proofs.YtnglaolbfpdgoaaGreat

