/- A cache's keys, as keys of a map. -/
import Derived.Test.YtlfhjbilnfkabaaCa
import Derived.Test.YtlfhjbilnfkabaaLaw
import Derived.Maps.OwnOps
import Derived.Maps.OwnSet
import Derived.Maps.Views
import Derived.DeepKeys4
namespace Go.Proofs.Ytlfhjbilnfkabaa
open Go.RowKit Go.Maps

def keyV (f b : Int) : Value := .agg #[.int .i64 f, .int .i64 b]
def kl (f b : Int) : Lit := .string (keyBytes [.int .i64 f, .int .i64 b])
/-- a number that an int64 can be -/
def i64 (n : Int) : Prop := -9223372036854775808 ≤ n ∧ n ≤ 9223372036854775807
theorem i64.wf {n : Int} (h : i64 n) : (Lit.int .i64 n).wf = true := by
  unfold i64 at h
  simp [Lit.wf, IntKind.min, IntKind.max, IntKind.signed, IntKind.bits]
  omega

theorem keyWide : (match Try.prog.underlying 42 with | some (.array _ _) | some (.struct _) => true | _ => false) = true := by rw [Try.underlying42]
theorem keyRow : (42 : TypeId) < Try.prog.types.size := of_decide_eq_true (by kernel_rfl)
set_option maxRecDepth 100000 in
theorem keyLaw : Keyed Try.prog 42 := Keyed.of_law (deep_law_laid Try.laidOut (m := 2) (by omega) keyRow (by kernel_rfl) keyWide)

theorem key_of {f b : Int} (hf : i64 f) (hb : i64 b) : keyOf Try.prog 42 (keyV f b) = some (kl f b) := by
  obtain ⟨m, hm⟩ : ∃ m, Try.prog.types.size = m + 1 := ⟨Try.prog.types.size - 1, by kernel_rfl⟩
  have h1 : Try.prog.keyType 42 = true := by kernel_rfl
  have hc : Try.prog.cellsOf 42 = 2 := by kernel_rfl
  have hi : Try.prog.cellsOf 2 = 1 := by kernel_rfl
  have hj : Try.prog.cellsOf 3 = 1 := by kernel_rfl
  have h2 : (keyV f b).formed Try.prog 42 = true := by simp [keyV, Value.formed, Try.underlying42, hc]
  have hl1 : Try.prog.keyLits (m + 1) 2 [.int .i64 f] = some [.int .i64 f] := by
    unfold Program.keyLits; rw [Try.underlying2]; simp [hf.wf]
  have hl2 : Try.prog.keyLits (m + 1) 3 [.int .i64 b] = some [.int .i64 b] := by
    unfold Program.keyLits; rw [Try.underlying3]; simp [hb.wf]
  have hl : Try.prog.keyLits (m + 1 + 1) 42 [.int .i64 f, .int .i64 b] = some [.int .i64 f, .int .i64 b] := by
    unfold Program.keyLits
    rw [Try.underlying42]
    simp [hc, hi, hj, hl1, hl2]
  unfold keyOf
  rw [Try.underlying42]
  simp only [h1, h2, Bool.and_self, if_true, hm]
  show (Try.prog.keyLits (m + 1 + 1) 42 [.int .i64 f, .int .i64 b]).map _ = _
  rw [hl]
  rfl

theorem kl_inj {f b f' b' : Int} (hf : i64 f) (hb : i64 b) (hf' : i64 f') (hb' : i64 b') (h : kl f b = kl f' b') : f = f' ∧ b = b' := by
  have h1 := key_of hf hb
  have h2 := key_of hf' hb'
  rw [← h] at h2
  have := keyLaw.inj h1 h2
  simpa [keyV] using this
theorem kl_key {f b : Int} (hf : i64 f) (hb : i64 b) : WideAt.IsKeyLit (kl f b) := keyLaw.key (key_of hf hb)

/-! ### a map's elements: pointers to blocks -/
def ptrElem : Value → Option (DataW Unit × List MemPlace)
  | .pointer (some ⟨b, 0, none⟩) => some (.lit (.int .i64 b), [])
  | .pointer none => some (.nil, [])
  | _ => none

theorem ptrElem_inv {v : Value} {y : DataW Unit × List MemPlace} (h : ptrElem v = some y) : (∃ b : Nat, v = .pointer (some ⟨b, 0, none⟩) ∧ y = (.lit (.int .i64 b), [])) ∨ (v = .pointer none ∧ y = (.nil, [])) := by
  unfold ptrElem at h
  split at h
  · exact .inl ⟨_, rfl, (Option.some.inj h).symm⟩
  · exact .inr ⟨rfl, (Option.some.inj h).symm⟩
  · cases h

theorem zeroPtr (w : World) : (zeroValue 74).run Try.prog w = .ok (.pointer none) w := by kernel_rfl
abbrev OwnM (w : World) (b n : Nat) (D : DataW Unit) : Prop := w.ownsMap Try.prog 42 ptrElem b n D
/-- a block's pointer, or nil -/
def pV : Option Nat → Value
  | some p => .pointer (some ⟨p, 0, none⟩)
  | none => .pointer none
def pD : Option Nat → DataW Unit
  | some p => .lit (.int .i64 p)
  | none => .nil

theorem look {w : World} {z n : Nat} {D : DataW Unit} (h : OwnM w z n D) {f b : Int} (hf : i64 f) (hb : i64 b) {r : Option Nat} (hr : D.atKey (kl f b) .nil = pD r) :
    (Instr.lookup 73 (.map (some z)) (keyV f b) false).run Try.prog w = .ok (pV r) w := by
  obtain ⟨v, ps, hrun, hv⟩ := h.lookup keyLaw Try.underlying73 (zeroPtr w) (zd := .nil) (zp := []) rfl (key_of hf hb)
  rw [hrun]
  rw [hr] at hv
  suffices he : v = pV r by rw [he]
  rcases ptrElem_inv hv with ⟨c, rfl, hc⟩ | ⟨rfl, hc⟩
  · cases r with
    | none => simp [pD] at hc
    | some m =>
      simp [pD] at hc
      have : c = m := by omega
      rw [this]; rfl
  · cases r with
    | none => rfl
    | some m => simp [pD] at hc
end Go.Proofs.Ytlfhjbilnfkabaa
