/- The walk of the document's Put: the bytes of a number. -/
import Derived.Test.YtfodbblcflolgaaVarA
namespace Go.Proofs.Ytfodbblcflolgaa
open Go.RowKit
open Go.Lib (zigzag zigzag_lt uvarint uvarint_small uvarint_big u8_or128_any)

/-- a new slice of one byte, as a text -/
theorem byte_string (W : World) (c : UInt8) (x : Int) (hx : (c.toNat : Int) = x) (cap : Nat) : (convert 102 9 (.slice (some ⟨W.heap.size, 0, none⟩) 1 cap)).run Try.prog (W.alloc (.cells #[.int .u8 x] 5)) = .ok (.string ⟨#[c]⟩) (W.alloc (.cells #[.int .u8 x] 5)) := by
  have h := Lib.run_convert_whole (P := Try.prog) (W.alloc (.cells #[.int .u8 x] 5)) 102 5 9 Try.underlying102 Try.underlying5 Try.underlying9 W.heap.size 0 ⟨#[c]⟩ ?_ cap
  · exact h
  · intro i hi
    have hi' : i = 0 := by simp [ByteArray.size] at hi; omega
    subst hi'
    rw [cell_of_row _ _ _ _ _ _ (heap_alloc_new W _)]
    subst hx
    rfl

theorem str_append (a b : List UInt8) : (⟨a.toArray⟩ : ByteArray) ++ ⟨b.toArray⟩ = ⟨(a ++ b).toArray⟩ := by
  apply ByteArray.ext
  simp

def RefPutRel (n : Int) (w : World) (u s : Value) (wr : World) : Prop :=
  ∃ (v : Nat) (done : List UInt8), v < 18446744073709551616 ∧ u = .int .u64 v ∧ s = .string ⟨done.toArray⟩ ∧ uvarint (zigzag n) = done ++ uvarint v ∧ Below w.heap.size w wr

theorem refPut_start {n : Int} {w : World} {u : Int} (h0 : -9223372036854775808 ≤ n) (h1 : n ≤ 9223372036854775807) (h : u = zigzag n) : RefPutRel n w (.int .u64 u) (.string ⟨#[]⟩) w :=
  ⟨zigzag n, [], zigzag_lt h0 h1, by rw [h], rfl, rfl, Below.refl _ _⟩

theorem refPut_step {n : Int} {w wr : World} {v : Nat} {done : List UInt8} {c : UInt8} (hc : c = (v % 128 + 128).toUInt8) (hlt : 127 < v) (hv : v < 18446744073709551616)
    (hu : uvarint (zigzag n) = done ++ uvarint v) (hB : Below w.heap.size w wr) (x : Value) (t : TypeId) : RefPutRel n w (.int .u64 ((v : Int) / 128)) (.string (⟨done.toArray⟩ ++ ⟨#[c]⟩)) (wr.alloc (.cells #[x] t)) := by
  refine ⟨v / 128, done ++ [c], by omega, by simp, by rw [← str_append], by rw [hu, uvarint_big (by omega), hc]; simp, hB.alloc hB.size _⟩

theorem refPut_end {n : Int} {v : Nat} {done : List UInt8} {c : UInt8} (hc : c = v.toUInt8) (hlt : ¬ 127 < v) (hu : uvarint (zigzag n) = done ++ uvarint v) :
    Ending.returned (.string (⟨done.toArray⟩ ++ ⟨#[c]⟩)) = Ending.returned (.string ⟨(VM.enc n).toArray⟩) := by
  have e : VM.enc n = done ++ [c] := by unfold VM.enc; rw [hu, uvarint_small (by omega), hc]
  rw [e, ← str_append]

set_option maxRecDepth 100000 in
theorem refPut_any (n : Int) (w : World) (h0 : -9223372036854775808 ≤ n) (h1 : n ≤ 9223372036854775807) :
    Calls Try.prog 44 #[.int .i64 n] w fun e w' => e = .returned (.string ⟨(VM.enc n).toArray⟩) ∧ Below w.heap.size w w' := by
  have hen := VM.enc_len h0 h1
  unfold VM.enc at hen
  by_cases hn : n < 0
  all_goals
    go_enter Try.func44, Try.ntmps44
    go_wp2
    go_loopw [3, 4] (fun u s wr => RefPutRel n w u s wr) (fun u _ _ => (intOf u).toNat)
    case atStart => exact refPut_start h0 h1 (by unfold zigzag; split <;> omega)
    case round =>
      obtain ⟨v, done, hv, rfl, rfl, hu, hB⟩ := hrel
      have hdl : done.length ≤ 10 := by
        have := hen.2; rw [hu] at this; simp at this; omega
      have HU := Lib.hid hu
      clear hu
      by_cases hlt : 127 < v
      · obtain ⟨c, hc⟩ : ∃ c : UInt8, c = (v % 128 + 128).toUInt8 := ⟨_, rfl⟩
        have hcv := byte_string wr c ((v : Int) % 128 + 128) (by rw [hc, byte_toNat _ (by omega)]; omega) 1
        have HR := Lib.hid (refPut_step hc hlt hv HU.out hB (.int .u8 ((v : Int) % 128 + 128)) 5)
        clear hc
        go_wp2
        go_roundw
        case rel => exact HR.out
        case measure => simp [intOf]; omega
      · obtain ⟨c, hc⟩ : ∃ c : UInt8, c = v.toUInt8 := ⟨_, rfl⟩
        have hcv := byte_string wr c v (by rw [hc, byte_toNat _ (by omega)]) 1
        have HR := Lib.hid (refPut_end hc hlt HU.out)
        clear hc
        go_wp2
        go_ret
        exact ⟨HR.out, hB.alloc hB.size _⟩
end Go.Proofs.Ytfodbblcflolgaa
