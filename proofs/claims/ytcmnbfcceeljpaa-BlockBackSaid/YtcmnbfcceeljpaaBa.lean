/- BlockEvery: how often keys are told whole makes no difference to what is read. For every entries and every two numbers. -/
import Derived.Test.YtcmnbfcceeljpaaWk
import Derived.Test.YtcmnbfcceeljpaaGg
import Derived.Test.YtcmnbfcceeljpaaEq
namespace Go.Proofs.Ytcmnbfcceeljpaa
open Go.ChangeShapes Go.WideShapes Go.ChangeAt Go.RowKit
open SK
namespace BK
/-- the error of Build, whatever the number (from 1 to 64) -/
def buildC (l : List E) : Int := if 4096 < l.length then 5 else (ord l).2
theorem build_all (l : List E) (v : Nat) (h1 : 1 ≤ v) (h2 : v ≤ 64) : (buildOut l v).2 = buildC l ∧ (buildC l = 0 → l.length ≤ 4096 ∧ OkF [] l ∧ buildOut l v = (buildB l v, 0)) := by
  unfold buildOut buildC
  rw [if_neg (by omega)]
  by_cases hl : 4096 < l.length
  · rw [if_pos hl, if_pos hl]; exact ⟨rfl, fun h => by simp at h⟩
  · rw [if_neg hl, if_neg hl]
    by_cases ho : (ord l).2 = 0
    · rw [if_neg (by simp [ho]), ho]
      exact ⟨rfl, fun _ => ⟨by omega, okF_ord _ _ ho, by rw [Int.toNat_natCast]⟩⟩
    · rw [if_pos ho]
      exact ⟨rfl, fun h => absurd h ho⟩
theorem buildB_len {l : List E} (h : OkF [] l) (hw : ∀ e ∈ l, e.wf) (hl : l.length ≤ 4096) (v : Nat) : (buildB l v).length ≤ 2867210 := by
  have h1 := body_len h hw v l.length
  rw [List.take_length] at h1
  have h2 := (VM.enc_len (n := (l.length : Int)) (by omega) (by omega)).2
  unfold buildB
  rw [List.length_append]
  omega
end BK

/-- what is built is read back -/
theorem back_any (l : List E) (v : Nat) (hl : l.length ≤ 4096) (h : BK.OkF [] l) (hw : ∀ e ∈ l, e.wf) (W : World) :
    Calls Try.prog 16 #[.string ⟨(BK.buildB l v).toArray⟩] W fun e w' => ∃ A c, e = .returned (.tuple #[.slice A l.length c, .int .i64 0]) ∧ EntsIn w' A l ∧ (∀ x ∈ fb A, W.heap.size ≤ x ∧ x < w'.heap.size) ∧ Below W.heap.size W w' := by
  have hlen := BK.buildB_len h hw hl v
  have hget := BK.get_build (v := v) hl h hw
  obtain ⟨h1, h2⟩ := BK.getC_ok hget
  have hp := parse_any (⟨(BK.buildB l v).toArray⟩ : ByteArray) W (by rw [mk_size]; omega)
  have hd : (⟨(BK.buildB l v).toArray⟩ : ByteArray).data.toList = BK.buildB l v := rfl
  rw [hd, h1, h2] at hp
  exact hp

theorem one64 (z : Int) : ∃ v : Nat, 1 ≤ v ∧ v ≤ 64 ∧ 1 + max 0 z % 64 = (v : Int) := ⟨(1 + max 0 z % 64).toNat, by omega, by omega, by omega⟩
end Go.Proofs.Ytcmnbfcceeljpaa
