/- changed: what stays and what comes, in order. -/
import Derived.Test.YtfodbblcflolgaaVj
namespace Go.Proofs.Ytfodbblcflolgaa
open Go.RowKit
open VS
attribute [local go_sem ↓] Go.wp_at_zero Go.wp_at_succ

set_option maxRecDepth 100000 in
set_option maxHeartbeats 8000000 in
theorem changed_any (A : Nat → Option Addr) (N C : Nat → Nat) (L : List M) (lg nx sq : Int) (A2 : Option Addr) (n2 c2 : Nat) (add : List M) (T1 : Value) (el en es : Int) (b nf : Nat) (st : Int → Int) (drop : List Int) (w : World)
    (h : VerIn w A N C L) (hL : L.length ≤ 2000000) (hin : In5 w A2 add) (hn2 : add.length = n2) (hb2 : n2 ≤ 2000000) (hlv : ∀ m ∈ add, 0 ≤ m.lvl ∧ m.lvl < 4) (hf : Fm w b nf st) (hst : ∀ m ∈ L, (st m.file = 1 ↔ keepB drop m = true)) :
    Calls Try.prog 30 #[.agg #[.slice (A 0) (N 0) (C 0), .slice (A 1) (N 1) (C 1), .slice (A 2) (N 2) (C 2), .slice (A 3) (N 3) (C 3), .int .i64 lg, .int .i64 nx, .int .i64 sq], .agg #[.slice A2 n2 c2, T1, .int .i64 el, .int .i64 en, .int .i64 es], .map (some b)] w fun r w' =>
      ∃ (A' : Nat → Option Addr) (N' C' : Nat → Nat) (S : Nat → List M), r = .returned (.agg #[.slice (A' 0) (N' 0) (C' 0), .slice (A' 1) (N' 1) (C' 1), .slice (A' 2) (N' 2) (C' 2), .slice (A' 3) (N' 3) (C' 3), .int .i64 el, .int .i64 en, .int .i64 es]) ∧
        (∀ i, i < 4 → (S i).Perm (qk L drop add add.length i) ∧ weak (S i)) ∧ VerIn w' A' N' C' (S 0 ++ S 1 ++ S 2 ++ S 3) ∧ (∀ k, k < 4 → ∀ a, A' k = some a → w.heap.size ≤ a.block) ∧ Below w.heap.size w w' := by
  have HIX := Lib.hid (fun (k : Nat) (hk : k < 4) W => arr_index A N C hk W)
  have HV := Lib.hid h
  have HLL := Lib.hid hL
  have HIN := Lib.hid hin
  have HN2 := Lib.hid hn2
  have HLV := Lib.hid hlv
  have HF := Lib.hid hf
  have HST := Lib.hid hst
  have HMEM : Hid (∀ k : Nat, ∀ m ∈ lev k L, m ∈ L) := Lib.hid fun k m hm => (lev_mem hm).2
  obtain ⟨S0, hS0⟩ : ∃ S0, Value.slice (A 0) (N 0) (C 0) = S0 := ⟨_, rfl⟩
  obtain ⟨S1, hS1⟩ : ∃ S1, Value.slice (A 1) (N 1) (C 1) = S1 := ⟨_, rfl⟩
  obtain ⟨S2, hS2⟩ : ∃ S2, Value.slice (A 2) (N 2) (C 2) = S2 := ⟨_, rfl⟩
  obtain ⟨S3, hS3⟩ : ∃ S3, Value.slice (A 3) (N 3) (C 3) = S3 := ⟨_, rfl⟩
  rw [hS0, hS1, hS2, hS3] at HIX
  rw [hS0, hS1, hS2, hS3]
  have HQL : Hid (∀ i, (qk L drop add add.length i).length ≤ 4000000) := Lib.hid fun i => Nat.le_trans (qk_len _ _ _ _ _) (by have := HLL.out; have := HN2.out; omega)
  have HQV : Hid (∀ i, ∀ m ∈ qk L drop add add.length i, m.lvl = (i : Int)) := Lib.hid fun i => qk_lvl
  have HQQ0 : Hid (qk L drop add add.length = qk L drop add add.length) := Lib.hid rfl
  obtain ⟨Q, hQ⟩ : ∃ Q, qk L drop add add.length = Q := ⟨_, rfl⟩
  have HQQ : Hid (qk L drop add add.length = Q) := Lib.hid hQ
  rw [hQ] at HQL HQV
  simp only [hQ]
  clear hS0 hS1 hS2 hS3 h hin hn2 hlv hf hst hQ HQQ0
  go_enter Try.func30, Try.ntmps30
  go_wp2
  have hb0 : Below w.heap.size w ((((w.alloc (.cells #[S0, S1, S2, S3, .int .i64 lg, .int .i64 nx, .int .i64 sq] 26)).alloc (.cells #[.slice A2 n2 c2, T1, .int .i64 el, .int .i64 en, .int .i64 es] 36)).alloc (.cells #[.slice none 0 0, .slice none 0 0, .slice none 0 0, .slice none 0 0, .int .i64 0, .int .i64 0, .int .i64 0] 26)).alloc (.cells #[.slice none 0 0, .slice none 0 0, .slice none 0 0, .slice none 0 0, .int .i64 el, .int .i64 en, .int .i64 es] 26)) := ((((Below.refl _ w).alloc (Nat.le_refl _) _).alloc (by simp) _).alloc (by simp; omega) _).alloc (by simp; omega) _
  have hs0 : ((((w.alloc (.cells #[S0, S1, S2, S3, .int .i64 lg, .int .i64 nx, .int .i64 sq] 26)).alloc (.cells #[.slice A2 n2 c2, T1, .int .i64 el, .int .i64 en, .int .i64 es] 36)).alloc (.cells #[.slice none 0 0, .slice none 0 0, .slice none 0 0, .slice none 0 0, .int .i64 0, .int .i64 0, .int .i64 0] 26)).alloc (.cells #[.slice none 0 0, .slice none 0 0, .slice none 0 0, .slice none 0 0, .int .i64 el, .int .i64 en, .int .i64 es] 26)).heap.size = w.heap.size + 4 := by simp
  have hr1 : ((((w.alloc (.cells #[S0, S1, S2, S3, .int .i64 lg, .int .i64 nx, .int .i64 sq] 26)).alloc (.cells #[.slice A2 n2 c2, T1, .int .i64 el, .int .i64 en, .int .i64 es] 36)).alloc (.cells #[.slice none 0 0, .slice none 0 0, .slice none 0 0, .slice none 0 0, .int .i64 0, .int .i64 0, .int .i64 0] 26)).alloc (.cells #[.slice none 0 0, .slice none 0 0, .slice none 0 0, .slice none 0 0, .int .i64 el, .int .i64 en, .int .i64 es] 26)).heap[w.heap.size + 1]? = some (.cells #[.slice A2 n2 c2, T1, .int .i64 el, .int .i64 en, .int .i64 es] 36 (0, 0)) := by
    rw [Below.heap_alloc _ _ _ (by simp <;> omega), Below.heap_alloc _ _ _ (by simp <;> omega)]
    have := heap_alloc_new (w.alloc (.cells #[S0, S1, S2, S3, .int .i64 lg, .int .i64 nx, .int .i64 sq] 26)) (.cells #[.slice A2 n2 c2, T1, .int .i64 el, .int .i64 en, .int .i64 es] 36)
    simpa using this
  have hr2 : ((((w.alloc (.cells #[S0, S1, S2, S3, .int .i64 lg, .int .i64 nx, .int .i64 sq] 26)).alloc (.cells #[.slice A2 n2 c2, T1, .int .i64 el, .int .i64 en, .int .i64 es] 36)).alloc (.cells #[.slice none 0 0, .slice none 0 0, .slice none 0 0, .slice none 0 0, .int .i64 0, .int .i64 0, .int .i64 0] 26)).alloc (.cells #[.slice none 0 0, .slice none 0 0, .slice none 0 0, .slice none 0 0, .int .i64 el, .int .i64 en, .int .i64 es] 26)).heap[w.heap.size + 2]? = some (.cells #[.slice none 0 0, .slice none 0 0, .slice none 0 0, .slice none 0 0, .int .i64 0, .int .i64 0, .int .i64 0] 26 (0, 0)) := by
    rw [Below.heap_alloc _ _ _ (by simp)]
    have := heap_alloc_new ((w.alloc (.cells #[S0, S1, S2, S3, .int .i64 lg, .int .i64 nx, .int .i64 sq] 26)).alloc (.cells #[.slice A2 n2 c2, T1, .int .i64 el, .int .i64 en, .int .i64 es] 36)) (.cells #[.slice none 0 0, .slice none 0 0, .slice none 0 0, .slice none 0 0, .int .i64 0, .int .i64 0, .int .i64 0] 26)
    simpa using this
  have hr3 : ((((w.alloc (.cells #[S0, S1, S2, S3, .int .i64 lg, .int .i64 nx, .int .i64 sq] 26)).alloc (.cells #[.slice A2 n2 c2, T1, .int .i64 el, .int .i64 en, .int .i64 es] 36)).alloc (.cells #[.slice none 0 0, .slice none 0 0, .slice none 0 0, .slice none 0 0, .int .i64 0, .int .i64 0, .int .i64 0] 26)).alloc (.cells #[.slice none 0 0, .slice none 0 0, .slice none 0 0, .slice none 0 0, .int .i64 el, .int .i64 en, .int .i64 es] 26)).heap[w.heap.size + 3]? = some (.cells #[.slice none 0 0, .slice none 0 0, .slice none 0 0, .slice none 0 0, .int .i64 el, .int .i64 en, .int .i64 es] 26 (0, 0)) := by
    have := heap_alloc_new (((w.alloc (.cells #[S0, S1, S2, S3, .int .i64 lg, .int .i64 nx, .int .i64 sq] 26)).alloc (.cells #[.slice A2 n2 c2, T1, .int .i64 el, .int .i64 en, .int .i64 es] 36)).alloc (.cells #[.slice none 0 0, .slice none 0 0, .slice none 0 0, .slice none 0 0, .int .i64 0, .int .i64 0, .int .i64 0] 26)) (.cells #[.slice none 0 0, .slice none 0 0, .slice none 0 0, .slice none 0 0, .int .i64 el, .int .i64 en, .int .i64 es] 26)
    simpa using this
  generalize ((((w.alloc (.cells #[S0, S1, S2, S3, .int .i64 lg, .int .i64 nx, .int .i64 sq] 26)).alloc (.cells #[.slice A2 n2 c2, T1, .int .i64 el, .int .i64 en, .int .i64 es] 36)).alloc (.cells #[.slice none 0 0, .slice none 0 0, .slice none 0 0, .slice none 0 0, .int .i64 0, .int .i64 0, .int .i64 0] 26)).alloc (.cells #[.slice none 0 0, .slice none 0 0, .slice none 0 0, .slice none 0 0, .int .i64 el, .int .i64 en, .int .i64 es] 26)) = w0 at hb0 hs0 hr1 hr2 hr3 ⊢
  obtain ⟨x0, hx0⟩ : ∃ x0, w.heap.size = x0 := ⟨_, rfl⟩
  have HX0 := Lib.hid hx0
  obtain ⟨y, hy⟩ : ∃ y, x0 + 3 = y := ⟨_, rfl⟩
  have HY := Lib.hid hy
  obtain ⟨x1, hx1⟩ : ∃ x1, x0 + 1 = x1 := ⟨_, rfl⟩
  obtain ⟨x2, hx2⟩ : ∃ x2, x0 + 2 = x2 := ⟨_, rfl⟩
  have HX12 : Hid (x0 + 1 = x1 ∧ x0 + 2 = x2) := Lib.hid ⟨hx1, hx2⟩
  rw [hx0] at hr1 hr2 hr3 hb0 hs0
  rw [hx1] at hr1
  rw [hx2] at hr2
  rw [hy] at hr3
  rw [hx0]
  rw [show x0 + 1 + 1 + 1 = y by omega, show x0 + 1 + 1 = x2 by omega, hx1]
  have hn0 : Nxt y w0 (fun _ => .slice none 0 0) (pk L drop 0 0) el en es := by
    rw [pk_zero]
    exact ⟨hr3, fun k hk => by simpa [cs4] using World.ownsRow_nil _ _ _ _, fun i j _ _ _ g hg => by simp [Value.ownBlock] at hg, fun k hk m hm => by simp at hm⟩
  have HN0 := Lib.hid hn0
  have HB0 := Lib.hid hb0
  have HR1 := Lib.hid hr1
  have HR2 := Lib.hid hr2
  have HFW : Hid (∀ wr, Below y w0 wr → Fm wr b nf st ∧ Below w.heap.size w wr) := Lib.hid fun wr h => by
    have hb : Below w.heap.size w wr := by
      rw [HX0.out]
      exact HB0.out.trans (h.mono (by have := HY.out; omega))
    exact ⟨HF.out.below hb, hb⟩
  clear hn0 hb0 hr1 hr2 hr3 hs0 hx0 hy hx1 hx2
  go_loopw [25] (fun i wr => ∃ (k : Nat) (v : Nat → Value), k ≤ 4 ∧ i = .int .i64 k ∧ Nxt y wr v (pk L drop k 0) el en es ∧ Below y w0 wr) (fun i _ => 4 - (intOf i).toNat)
  case atStart => exact ⟨0, _, by omega, rfl, HN0.out, Below.refl _ _⟩
  case round =>
    obtain ⟨k, v, hk, rfl, hnx, hbw⟩ := hrel
    have HNX := Lib.hid hnx
    have HBW := Lib.hid hbw
    clear hnx hbw
    by_cases hk4 : k < 4
    · have hix := HIX.out k hk4
      have hlen := HV.out.len k hk4
      have HI4 := Lib.hid (HV.out.at_ k hk4)
      have hll : (lev k L).length ≤ 2000000 := Nat.le_trans (lev_len _ _) HLL.out
      have HPN : Hid (∀ j, (lev k L).length ≤ j → pk L drop k j = pk L drop (k + 1) 0) := Lib.hid fun j h => pk_next h
      have HSTK : Hid (∀ m ∈ lev k L, (st m.file = 1 ↔ keepB drop m = true)) := Lib.hid fun m hm => HST.out m (HMEM.out k m hm)
      obtain ⟨l, hl⟩ : ∃ l, lev k L = l := ⟨_, rfl⟩
      have HPK : Hid (∀ j (h : j < l.length), keepB drop l[j] = true → upd (pk L drop k j) k (pk L drop k j k ++ [l[j]]) = pk L drop k (j + 1)) := by
        subst hl; exact Lib.hid fun j h => pk_keep h
      have HPD : Hid (∀ j (h : j < l.length), keepB drop l[j] = false → pk L drop k j = pk L drop k (j + 1)) := by
        subst hl; exact Lib.hid fun j h => pk_drop h
      rw [hl] at hlen HI4 hll HPN HSTK
      obtain ⟨ak, hak⟩ : ∃ x, A k = x := ⟨_, rfl⟩
      obtain ⟨nk, hnk⟩ : ∃ x, N k = x := ⟨_, rfl⟩
      obtain ⟨ck, hck⟩ : ∃ x, C k = x := ⟨_, rfl⟩
      rw [hak, hnk, hck] at hix
      rw [hak] at HI4
      rw [hnk] at hlen
      have HLEN := Lib.hid hlen
      have hnb : nk ≤ 2000000 := by omega
      have hdk : decide ((k : Int) < 4) = true := by simp; omega
      clear hlen hl hak hnk hck hll
      go_wp2_with fail
      clear hdk
      go_loopw [31] (fun i wr => ∃ (j : Nat) (v : Nat → Value), j ≤ nk ∧ i = .int .i64 j ∧ Nxt y wr v (pk L drop k j) el en es ∧ Below y w0 wr) (fun i _ => nk - (intOf i).toNat)
      case atStart => exact ⟨0, _, by omega, rfl, HNX.out, HBW.out⟩
      case round =>
        obtain ⟨j, v2, hj, rfl, hnx, hbw⟩ := hrel
        by_cases hlt : j < nk
        · have hjl : j < l.length := by rw [← HLEN.out]; exact hlt
          obtain ⟨hfw, hbww⟩ := HFW.out wr hbw
          obtain ⟨c, off, hA, hbl, hc⟩ := (HI4.out.below hbww).at_ (by omega)
          obtain ⟨c0, c1, c2', c3⟩ := hc j hjl
          have HWF := Lib.hid (HI4.out.wf l[j] (List.getElem_mem hjl))
          have HS1 := Lib.hid (HSTK.out l[j] (List.getElem_mem hjl))
          have HPK1 := Lib.hid (HPK.out j hjl)
          have HPD1 := Lib.hid (HPD.out j hjl)
          obtain ⟨e, he⟩ : ∃ e, l[j] = e := ⟨_, rfl⟩
          rw [he] at c0 c1 c2' c3 HWF HS1 HPK1 HPD1
          have hal := (Below.refl wr.heap.size wr).alloc (Nat.le_refl _) (.cells #[.int .i64 e.file, .int .i64 e.size, .string e.lo, .string e.hi] 64)
          have HNA := Lib.hid (hnx.below hal)
          have HBA : Hid (Below y w0 (wr.alloc (.cells #[.int .i64 e.file, .int .i64 e.size, .string e.lo, .string e.hi] 64))) := Lib.hid (hbw.trans (hal.mono (Nat.le_of_lt hnx.lt)))
          have hlk := (hfw.below hal).look HWF.out.file
          have HTK : Hid (∀ W, Nxt y W v2 (pk L drop k j) el en es → Calls Try.prog 54 #[.pointer (some ⟨y, 0, none⟩), .int .i64 k, .agg #[.int .i64 e.file, .int .i64 e.size, .string e.lo, .string e.hi]] W fun r w' => r = .returned (.tuple #[]) ∧ Below y W w' ∧ ∃ x, Nxt y w' (upd v2 k x) (upd (pk L drop k j) k (pk L drop k j k ++ [e])) el en es) := Lib.hid fun W h => take_any h hk4 (Nat.le_trans (pk_len _ _ _ _ _) (by have := HLL.out; omega)) e HWF.out
          have hylt := hnx.lt
          obtain ⟨lv, q, g, s, t⟩ := e
          simp only at c0 c1 c2' c3 hlk HNA HBA HTK HS1
          obtain ⟨f, hf⟩ : ∃ f, st q = f := ⟨_, rfl⟩
          rw [hf] at hlk HS1
          subst hA
          clear hc he hf hal hnx hbw hfw hbww
          by_cases hf1 : f = 1
          · have hkb := HS1.out.1 hf1
            have HPK2 := Lib.hid (HPK1.out hkb)
            have e1 : (f == 1) = true := by simpa using hf1
            clear hkb hf1
            go_wp2_with fail
            refine (HTK.out _ HNA.out).mono ?_
            rintro r w3 ⟨rfl, hb3, x, hn3⟩
            have HN3 : Hid (Nxt y w3 (upd v2 k x) (pk L drop k (j + 1)) el en es) := Lib.hid (by rw [← HPK2.out]; exact hn3)
            have HB3 : Hid (Below y w0 w3) := Lib.hid (HBA.out.trans hb3)
            clear hb3 hn3
            go_wp2
            go_roundw
            case rel => exact ⟨j + 1, _, by omega, by go_num, HN3.out, HB3.out⟩
            case measure => simp [intOf]; omega
          · have hkb : keepB drop (⟨lv, q, g, s, t⟩ : M) = false := by
              cases h : keepB drop (⟨lv, q, g, s, t⟩ : M) with
              | false => rfl
              | true => exact absurd (HS1.out.2 h) hf1
            have HPD2 := Lib.hid (HPD1.out hkb)
            have e1 : (f == 1) = false := by simpa using hf1
            have HN3 : Hid (Nxt y (wr.alloc (.cells #[.int .i64 q, .int .i64 g, .string s, .string t] 64)) v2 (pk L drop k (j + 1)) el en es) := Lib.hid (by rw [← HPD2.out]; exact HNA.out)
            clear hkb hf1
            go_wp2
            go_roundw
            case rel => exact ⟨j + 1, _, by omega, by go_num, HN3.out, HBA.out⟩
            case measure => simp [intOf]; omega
        · obtain rfl : j = nk := by omega
          have hpn := HPN.out j (by rw [← HLEN.out]; exact Nat.le_refl _)
          rw [hpn] at hnx
          have HN3 := Lib.hid hnx
          have HB3 := Lib.hid hbw
          clear hnx hbw hpn
          go_wp2
          go_roundw
          case rel => exact ⟨k + 1, _, by omega, by go_num, HN3.out, HB3.out⟩
          case measure => simp [intOf]; omega
    · obtain rfl : k = 4 := by omega
      have HN1 : Hid (Nxt y wr v (qk L drop add 0) el en es) := Lib.hid (HNX.out.congr fun i hi => pk_four add hi)
      have e0 : wr.cell? ⟨x1, 0, none⟩ = some (.slice A2 n2 c2) := by
        have hlt : x1 < y := by have := HY.out; have := HX12.out.1; omega
        have := (HBW.out.block x1 hlt).trans HR1.out
        exact cell_of_row _ _ _ _ _ _ this
      have HBQ := HBW
      clear HNX hk4 hk HBW
      rw [show ((4 : Nat) : Int) = 4 from rfl]
      go_wp2_with fail
      go_loopw [48] (fun i wr => ∃ (j : Nat) (v : Nat → Value), j ≤ n2 ∧ i = .int .i64 j ∧ Nxt y wr v (qk L drop add j) el en es ∧ Below y w0 wr) (fun i _ => n2 - (intOf i).toNat)
      case atStart => exact ⟨0, _, by omega, rfl, HN1.out, HBQ.out⟩
      case round =>
        obtain ⟨j, v2, hj, rfl, hnx, hbw⟩ := hrel
        by_cases hlt : j < n2
        · have hjl : j < add.length := by rw [HN2.out]; exact hlt
          obtain ⟨hfw, hbww⟩ := HFW.out _ hbw
          obtain ⟨c, off, hA, hbl, hc⟩ := (HIN.out.below hbww).at_ (by omega)
          obtain ⟨c0, c1, c2', c3, c4⟩ := hc j hjl
          have HWF := Lib.hid (HIN.out.wf add[j] (List.getElem_mem hjl))
          have hlj := HLV.out add[j] (List.getElem_mem hjl)
          obtain ⟨k, hk⟩ := Int.eq_ofNat_of_zero_le hlj.1
          have hk4 : k < 4 := by omega
          have HQ := Lib.hid (qk_next (L := L) (drop := drop) hjl hk)
          obtain ⟨e, he⟩ : ∃ e, add[j] = e := ⟨_, rfl⟩
          rw [he] at c0 c1 c2' c3 c4 HWF HQ hk
          rw [hk] at c0
          have hal := (Below.refl wr.heap.size wr).alloc (Nat.le_refl _) (.cells #[.int .i64 k, .int .i64 e.file, .int .i64 e.size, .string e.lo, .string e.hi] 81)
          have HNA := Lib.hid (hnx.below hal)
          have HBA : Hid (Below y w0 (wr.alloc (.cells #[.int .i64 k, .int .i64 e.file, .int .i64 e.size, .string e.lo, .string e.hi] 81))) := Lib.hid (hbw.trans (hal.mono (Nat.le_of_lt hnx.lt)))
          have HTK : Hid (∀ W, Nxt y W v2 (qk L drop add j) el en es → Calls Try.prog 54 #[.pointer (some ⟨y, 0, none⟩), .int .i64 k, .agg #[.int .i64 e.file, .int .i64 e.size, .string e.lo, .string e.hi]] W fun r w' => r = .returned (.tuple #[]) ∧ Below y W w' ∧ ∃ x, Nxt y w' (upd v2 k x) (upd (qk L drop add j) k (qk L drop add j k ++ [e])) el en es) := Lib.hid fun W h => take_any h hk4 (Nat.le_trans (qk_len _ _ _ _ _) (by have := HLL.out; have := HN2.out; omega)) e HWF.out
          have hylt := hnx.lt
          obtain ⟨lv, q, g, s, t⟩ := e
          simp only at c0 c1 c2' c3 c4 HNA HBA HTK hk
          subst hA
          clear hc he hal hnx hbw hfw hbww hlj hk
          go_wp2_with fail
          refine (HTK.out _ HNA.out).mono ?_
          rintro r w3 ⟨rfl, hb3, x, hn3⟩
          have HN3 : Hid (Nxt y w3 (upd v2 k x) (qk L drop add (j + 1)) el en es) := Lib.hid (by rw [← HQ.out]; exact hn3)
          have HB3 : Hid (Below y w0 w3) := Lib.hid (HBA.out.trans hb3)
          clear hb3 hn3
          go_wp2
          go_roundw
          case rel => exact ⟨j + 1, _, by omega, by go_num, HN3.out, HB3.out⟩
          case measure => simp [intOf]; omega
        · obtain rfl : j = n2 := by omega
          have HQA : Hid (qk L drop add j = qk L drop add add.length) := Lib.hid (by rw [HN2.out])
          rw [HQA.out, HQQ.out] at hnx
          have HN3 := Lib.hid hnx
          have HB3 := Lib.hid hbw
          have y0 := hnx.cell (k := 0) (by omega)
          have y1 := hnx.cell (k := 1) (by omega)
          have y2 := hnx.cell (k := 2) (by omega)
          have y3 := hnx.cell (k := 3) (by omega)
          have HIV := Lib.hid (fun (k : Nat) (hk : k < 4) W => arr_indexV v2 hk W)
          clear hnx hbw HQA
          go_wp2_with fail
          go_loopw [60] (fun i wr => ∃ (k : Nat) (p : Nat → List M), k ≤ 4 ∧ i = .int .i64 k ∧ Nxt y wr v2 p el en es ∧ Hid (∀ i, i < 4 → (p i).Perm (Q i)) ∧ Hid (∀ i, i < k → weak (p i)) ∧ Below y w0 wr) (fun i _ => 4 - (intOf i).toNat)
          case atStart => exact ⟨0, _, by omega, rfl, HN3.out, Lib.hid (fun i _ => List.Perm.refl _), Lib.hid (fun i h => by omega), HB3.out⟩
          case round =>
            obtain ⟨k, p, hk, rfl, hnx, HPM, HWK, hbw⟩ := hrel
            by_cases hk4 : k < 4
            · have hiv := HIV.out k hk4
              have HOF := Lib.hid (fun W => orderOf_any k hk4 W)
              have hlp : (p k).length ≤ 4000000 := by have := (HPM.out k hk4).length_eq; have := HQL.out k; omega
              have HSF := Lib.hid (fun (W : World) h => sortlev_any k (y + 1) (v2 k) (p k).length (p k) W rfl (fun m hm => HQV.out k m ((HPM.out k hk4).subset hm)) h (by omega))
              have HNX2 := Lib.hid hnx
              have HB2 := Lib.hid hbw
              have hdk : decide ((k : Int) < 4) = true := by simp; omega
              have HK4 := Lib.hid hk4
              clear hnx hbw hlp
              go_wp2_with fail
              refine (HOF.out _).mono ?_
              rintro r w5 ⟨rfl, rfl⟩
              go_wp2_with fail
              refine (HSF.out _ (HNX2.out.own k HK4.out)).mono ?_
              rintro r w3 ⟨rfl, ⟨ts, hp, hw, ho⟩, hg⟩
              have HN4 : Hid (Nxt y w3 v2 (upd p k ts) el en es) := Lib.hid (HNX2.out.sorted HK4.out hp ho hg)
              have HB4 : Hid (Below y w0 w3) := Lib.hid (HB2.out.grown hg (by have := HB2.out.size; have := HNX2.out.lt; have := HN0.out.lt; omega) (fun r e => by have := ((HNX2.out.own k HK4.out).lt r e).1; omega))
              have HPM2 : Hid (∀ i, i < 4 → (upd p k ts i).Perm (Q i)) := Lib.hid fun i hi => by
                by_cases hik : i = k
                · subst hik; rw [upd_same]; exact hp.trans (HPM.out i hi)
                · rw [upd_other _ _ hik]; exact HPM.out i hi
              have HWK2 : Hid (∀ i, i < k + 1 → weak (upd p k ts i)) := Lib.hid fun i hi => by
                by_cases hik : i = k
                · subst hik; rw [upd_same]; exact hw
                · rw [upd_other _ _ hik]; exact HWK.out i (by omega)
              clear hp hw ho hg hdk
              go_wp2
              go_roundw
              case rel => exact ⟨k + 1, _, by omega, by go_num, HN4.out, HPM2, HWK2, HB4.out⟩
              case measure => simp [intOf]; omega
            · obtain rfl : k = 4 := by omega
              have HSL : Hid (∀ i, i < 4 → ∀ m ∈ p i, m.lvl = (i : Int)) := Lib.hid fun i hi m hm => HQV.out i m ((HPM.out i hi).subset hm)
              obtain ⟨A', N', C', hv, -, hnew⟩ := hnx.ver HSL.out
              have HNEW : Hid (∀ k, k < 4 → ∀ a, A' k = some a → w.heap.size ≤ a.block) := Lib.hid fun k hk a ha => by have := hnew k hk a ha; have := HX0.out; have := HY.out; omega
              have hrow := hnx.row
              rw [hv 0 (by omega), hv 1 (by omega), hv 2 (by omega), hv 3 (by omega)] at hrow
              have HVV : Hid (∀ W, Nxt y W v2 p el en es → VerIn W A' N' C' (p 0 ++ p 1 ++ p 2 ++ p 3)) := Lib.hid fun W h => h.ver2 HSL.out hv
              have hx2y : x2 < y := by have := HY.out; have := HX12.out.2; omega
              have hr2 := (hbw.block x2 hx2y).trans HR2.out
              have a0 : wr.cell? ⟨y, 0, none⟩ = some (.slice (A' 0) (N' 0) (C' 0)) := cell_of_row _ _ _ _ _ _ hrow
              have a1 : wr.cell? ⟨y, 1, none⟩ = some (.slice (A' 1) (N' 1) (C' 1)) := cell_of_row _ _ _ _ _ _ hrow
              have a2 : wr.cell? ⟨y, 2, none⟩ = some (.slice (A' 2) (N' 2) (C' 2)) := cell_of_row _ _ _ _ _ _ hrow
              have a3 : wr.cell? ⟨y, 3, none⟩ = some (.slice (A' 3) (N' 3) (C' 3)) := cell_of_row _ _ _ _ _ _ hrow
              have a4 : wr.cell? ⟨y, 4, none⟩ = some (.int .i64 el) := cell_of_row _ _ _ _ _ _ hrow
              have a5 : wr.cell? ⟨y, 5, none⟩ = some (.int .i64 en) := cell_of_row _ _ _ _ _ _ hrow
              have a6 : wr.cell? ⟨y, 6, none⟩ = some (.int .i64 es) := cell_of_row _ _ _ _ _ _ hrow
              have b0 : wr.cell? ⟨x2, 0, none⟩ = some (.slice none 0 0) := cell_of_row _ _ _ _ _ _ hr2
              have b1 : wr.cell? ⟨x2, 1, none⟩ = some (.slice none 0 0) := cell_of_row _ _ _ _ _ _ hr2
              have b2 : wr.cell? ⟨x2, 2, none⟩ = some (.slice none 0 0) := cell_of_row _ _ _ _ _ _ hr2
              have b3 : wr.cell? ⟨x2, 3, none⟩ = some (.slice none 0 0) := cell_of_row _ _ _ _ _ _ hr2
              have b4 : wr.cell? ⟨x2, 4, none⟩ = some (.int .i64 0) := cell_of_row _ _ _ _ _ _ hr2
              have b5 : wr.cell? ⟨x2, 5, none⟩ = some (.int .i64 0) := cell_of_row _ _ _ _ _ _ hr2
              have b6 : wr.cell? ⟨x2, 6, none⟩ = some (.int .i64 0) := cell_of_row _ _ _ _ _ _ hr2
              have f0 : wr.frozen? ⟨x2, 0, none⟩ = false := frozen_of_row _ _ _ _ _ hr2
              have f1 : wr.frozen? ⟨x2, 1, none⟩ = false := frozen_of_row _ _ _ _ _ hr2
              have f2 : wr.frozen? ⟨x2, 2, none⟩ = false := frozen_of_row _ _ _ _ _ hr2
              have f3 : wr.frozen? ⟨x2, 3, none⟩ = false := frozen_of_row _ _ _ _ _ hr2
              have f4 : wr.frozen? ⟨x2, 4, none⟩ = false := frozen_of_row _ _ _ _ _ hr2
              have f5 : wr.frozen? ⟨x2, 5, none⟩ = false := frozen_of_row _ _ _ _ _ hr2
              have f6 : wr.frozen? ⟨x2, 6, none⟩ = false := frozen_of_row _ _ _ _ _ hr2
              have HNS : Hid (∀ u0 u1 u2 u3 u4 u5 u6, Nxt y (((((((wr.setCell ⟨x2, 0, none⟩ u0).setCell ⟨x2, 1, none⟩ u1).setCell ⟨x2, 2, none⟩ u2).setCell ⟨x2, 3, none⟩ u3).setCell ⟨x2, 4, none⟩ u4).setCell ⟨x2, 5, none⟩ u5).setCell ⟨x2, 6, none⟩ u6) v2 p el en es) := Lib.hid fun u0 u1 u2 u3 u4 u5 u6 => ((((((hnx.set hx2y 0 u0).set hx2y 1 u1).set hx2y 2 u2).set hx2y 3 u3).set hx2y 4 u4).set hx2y 5 u5).set hx2y 6 u6
              have HBS : Hid (∀ u0 u1 u2 u3 u4 u5 u6, Below w.heap.size w (((((((wr.setCell ⟨x2, 0, none⟩ u0).setCell ⟨x2, 1, none⟩ u1).setCell ⟨x2, 2, none⟩ u2).setCell ⟨x2, 3, none⟩ u3).setCell ⟨x2, 4, none⟩ u4).setCell ⟨x2, 5, none⟩ u5).setCell ⟨x2, 6, none⟩ u6)) := Lib.hid fun u0 u1 u2 u3 u4 u5 u6 => by
                have hle : w.heap.size ≤ x2 := by have := HX0.out; have := HX12.out.2; omega
                exact ((((((((HFW.out wr hbw).2).setCell (p := ⟨x2, 0, none⟩) hle u0).setCell (p := ⟨x2, 1, none⟩) hle u1).setCell (p := ⟨x2, 2, none⟩) hle u2).setCell (p := ⟨x2, 3, none⟩) hle u3).setCell (p := ⟨x2, 4, none⟩) hle u4).setCell (p := ⟨x2, 5, none⟩) hle u5).setCell (p := ⟨x2, 6, none⟩) hle u6
              have HPW : Hid (∀ i, i < 4 → (p i).Perm (Q i) ∧ weak (p i)) := Lib.hid fun i hi => ⟨HPM.out i hi, HWK.out i hi⟩
              clear hnx hbw hv hrow hr2 hk hk4 hnew y0 y1 y2 y3 e0
              go_wp2
              exact bodyPost_ret (v := .agg #[.slice (A' 0) (N' 0) (C' 0), .slice (A' 1) (N' 1) (C' 1), .slice (A' 2) (N' 2) (C' 2), .slice (A' 3) (N' 3) (C' 3), .int .i64 el, .int .i64 en, .int .i64 es]) (by simp [results, Try.results30, go_sem, *]) rfl ⟨A', N', C', p, rfl, HPW.out, HVV.out _ (HNS.out _ _ _ _ _ _ _), HNEW.out, HBS.out _ _ _ _ _ _ _⟩
end Go.Proofs.Ytfodbblcflolgaa
