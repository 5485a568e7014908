/- Texts joined by bundle.py: VarB. -/
import Derived.Test.YtmiihbklneegbaaZad

/- The walk of the document's Put: the bytes of a number. -/
namespace Go.Proofs.Ytmiihbklneegbaa
open Go.RowKit
open Go.Lib (zigzag zigzag_lt uvarint uvarint_small uvarint_big u8_or128_any)

/-- a new slice of one byte, as a text -/
theorem byte_string (W : World) (c : UInt8) (x : Int) (hx : (c.toNat : Int) = x) (cap : Nat) : (convert 44 9 (.slice (some ⟨W.heap.size, 0, none⟩) 1 cap)).run Try.prog (W.alloc (.cells #[.int .u8 x] 5)) = .ok (.string ⟨#[c]⟩) (W.alloc (.cells #[.int .u8 x] 5)) := by
  have h := Lib.run_convert_whole (P := Try.prog) (W.alloc (.cells #[.int .u8 x] 5)) 44 5 9 Try.underlying44 Try.underlying5 Try.underlying9 W.heap.size 0 ⟨#[c]⟩ ?_ cap
  · exact h
  · intro i hi
    have hi' : i = 0 := by simp [ByteArray.size] at hi; omega
    subst hi'
    rw [cell_of_row _ _ _ _ _ _ (heap_alloc_new W _)]
    subst hx
    rfl

theorem str_append (a b : List UInt8) : (⟨a.toArray⟩ : ByteArray) ++ ⟨b.toArray⟩ = ⟨(a ++ b).toArray⟩ := by
  apply ByteArray.ext
  simp

def RefPutRel (n : Int) (w : World) (u s : Value) (wr : World) : Prop :=
  ∃ (v : Nat) (done : List UInt8), v < 18446744073709551616 ∧ u = .int .u64 v ∧ s = .string ⟨done.toArray⟩ ∧ uvarint (zigzag n) = done ++ uvarint v ∧ Below w.heap.size w wr

theorem refPut_start {n : Int} {w : World} {u : Int} (h0 : -9223372036854775808 ≤ n) (h1 : n ≤ 9223372036854775807) (h : u = zigzag n) : RefPutRel n w (.int .u64 u) (.string ⟨#[]⟩) w :=
  ⟨zigzag n, [], zigzag_lt h0 h1, by rw [h], rfl, rfl, Below.refl _ _⟩

theorem refPut_step {n : Int} {w wr : World} {v : Nat} {done : List UInt8} {c : UInt8} (hc : c = (v % 128 + 128).toUInt8) (hlt : 127 < v) (hv : v < 18446744073709551616)
    (hu : uvarint (zigzag n) = done ++ uvarint v) (hB : Below w.heap.size w wr) (x : Value) (t : TypeId) : RefPutRel n w (.int .u64 ((v : Int) / 128)) (.string (⟨done.toArray⟩ ++ ⟨#[c]⟩)) (wr.alloc (.cells #[x] t)) := by
  refine ⟨v / 128, done ++ [c], by omega, by simp, by rw [← str_append], by rw [hu, uvarint_big (by omega), hc]; simp, hB.alloc hB.size _⟩

theorem refPut_end {n : Int} {v : Nat} {done : List UInt8} {c : UInt8} (hc : c = v.toUInt8) (hlt : ¬ 127 < v) (hu : uvarint (zigzag n) = done ++ uvarint v) :
    Ending.returned (.string (⟨done.toArray⟩ ++ ⟨#[c]⟩)) = Ending.returned (.string ⟨(VM.enc n).toArray⟩) := by
  have e : VM.enc n = done ++ [c] := by unfold VM.enc; rw [hu, uvarint_small (by omega), hc]
  rw [e, ← str_append]

end Go.Proofs.Ytmiihbklneegbaa

