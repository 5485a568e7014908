/- Texts joined by bundle.py: Rm. -/
import Derived.Test.YtnglaolbfpdgoaaGreatZar
import Derived.Test.YtnglaolbfpdgoaaGreatZai
import Derived.Test.YtnglaolbfpdgoaaGreatZas

/- The document's side: eight, frame. -/
namespace Go.Proofs.YtnglaolbfpdgoaaGreat
open Go.RowKit
open SK
open TB (Bs Sp)

theorem rframe_any (l : Bs) (w : World) (hs : l.length ≤ 65535) :
    Calls Tryz.prog 27 #[.string ⟨l.toArray⟩] w fun e w' => e = .returned (.string ⟨(TB.fr l).toArray⟩) ∧ Below w.heap.size w w' := by
  have hsz : (⟨l.toArray⟩ : ByteArray).size = l.length := by show l.toArray.size = _; rw [List.size_toArray]
  have hli : (⟨l.toArray⟩ : ByteArray).data.toList = l := by simp
  have hp := fun W => F3.rput_any ⟨l.toArray⟩ W (by omega)
  rw [F3.putOut_good (by omega), hli] at hp
  have HP := Lib.hid hp
  clear hp hsz hli
  unfold TB.fr
  go_enter Tryz.func27, Tryz.ntmps27
  go_wp2_with fail
  refine (HP.out _).mono ?_
  rintro e w1 ⟨rfl, hb⟩
  have HB := Lib.hid hb
  clear hb
  go_wp2
  go_ret
  exact ⟨rfl, HB.out⟩

theorem be_step (n j : Nat) : TB.be (j + 1) n = (n / 256 ^ j % 256).toUInt8 :: TB.be j n := rfl

set_option maxRecDepth 100000 in
theorem reight_any (n : Nat) (w : World) (hn : n ≤ 9223372036854775807) :
    Calls Tryz.prog 29 #[.int .i64 n] w fun e w' => e = .returned (.string ⟨(TB.be 8 n).toArray⟩) ∧ Below w.heap.size w w' := by
  have HNN := Lib.hid hn
  clear hn
  go_enter Tryz.func29, Tryz.ntmps29
  go_wp2
  go_loopw [0, 3, 4] (fun v s i wr => ∃ j V : Nat, j ≤ 8 ∧ i = .int .i64 j ∧ v = .int .i64 V ∧ Hid (V = n / 256 ^ j) ∧ s = .string ⟨(TB.be j n).toArray⟩ ∧ Below w.heap.size w wr ∧ w.heap.size ≤ wr.heap.size) (fun _ _ i _ => 8 - (intOf i).toNat)
  case atStart => exact ⟨0, n, by omega, rfl, rfl, Lib.hid (by simp), rfl, Below.refl _ _, Nat.le_refl _⟩
  case round =>
    obtain ⟨j, V, hj, rfl, rfl, HV, rfl, hb, hsz⟩ := hrel
    have HB := Lib.hid hb
    have HS := Lib.hid hsz
    clear hb hsz
    by_cases hlt : j < 8
    · have hVl : V ≤ 9223372036854775807 := by have := HNN.out; have := Nat.div_le_self n (256 ^ j); rw [HV.out]; omega
      obtain ⟨c, hc⟩ : ∃ c : UInt8, c = (V % 256).toUInt8 := ⟨_, rfl⟩
      have hcv := byte_string wr c ((V : Int) % 256) (by rw [hc, byte_toNat _ (by omega)]; omega) 1
      have hw8 : IntKind.u8.wrap ((V : Int) % 256) = (V : Int) % 256 := by rw [IntKind.wrap_u8]; omega
      have hw9 : IntKind.i64.wrap ((V : Int) / 256) = (V : Int) / 256 := IntWalk.i64_in _ ⟨by omega, by omega⟩
      have HN : Hid ((⟨#[c]⟩ : ByteArray) ++ ⟨(TB.be j n).toArray⟩ = ⟨(TB.be (j + 1) n).toArray⟩) := Lib.hid (by rw [be_step, hc, HV.out]; exact str_append [_] _)
      have HV2 : Hid (V / 256 = n / 256 ^ (j + 1)) := Lib.hid (by rw [HV.out, Nat.div_div_eq_div_mul, Nat.pow_succ])
      have hbl : (⟨(TB.be j n).toArray⟩ : ByteArray).size = j := by rw [show (⟨(TB.be j n).toArray⟩ : ByteArray).size = (TB.be j n).length from (by show (TB.be j n).toArray.size = _; rw [List.size_toArray]), TB.be_len]
      have HBL := Lib.hid hbl
      generalize (⟨(TB.be j n).toArray⟩ : ByteArray) = S at HN hbl HBL ⊢
      clear hc
      go_wp2
      go_roundw
      case rel => exact ⟨j + 1, V / 256, by omega, by go_num, by go_num, HV2, by rw [HN.out], HB.out.alloc HS.out _, by have := HS.out; simp; omega⟩
      case measure => simp [intOf]; omega
    · obtain rfl : j = 8 := by omega
      go_wp2
      go_ret
      exact ⟨rfl, HB.out⟩
end Go.Proofs.YtnglaolbfpdgoaaGreat

