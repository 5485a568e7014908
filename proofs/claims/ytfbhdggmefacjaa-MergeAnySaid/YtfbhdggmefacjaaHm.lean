/- The methods of *sources, called through an interface. -/
import Derived.Test.YtfbhdggmefacjaaMp
import Derived.Test.YtfbhdggmefacjaaLs
namespace Go.Proofs.Ytfbhdggmefacjaa
open Go.RowKit
open SK

theorem recv_at (w : World) (p : Nat) (v : Value) (s : String) (hc : w.cell? ⟨p, 0, none⟩ = some v) : (receiverAt 55 (.val (.pointer (some ⟨p, 0, none⟩))) false (some s)).run Try.prog w = .ok v w := by
  have ha : ∀ w, (isAgg 76).run Try.prog w = .ok false w := fun _ => by kernel_rfl
  have hs : ∀ w, (Builtin.ssaWrapNilChk_ #[55] 55 #[.pointer (some ⟨p, 0, none⟩), strVal "", strVal s]).run Try.prog w = .ok (.pointer (some ⟨p, 0, none⟩)) w := fun _ => by kernel_rfl
  unfold receiverAt
  simp only [Sem.run_bind, run_underlying Try.underlying55, Result.andThen_ok, Place.get, Sem.run_pure, hs, asAddr, loadVar, ha]
  simp [hc]

theorem m_len0 (w : World) (p : Nat) : (method 236 55 (.pointer (some ⟨p, 0, none⟩)) "Len").run Try.prog w = (receiverAt 55 (.val (.pointer (some ⟨p, 0, none⟩))) false (some "Len") >>= fun r => (pure (22, r) : Sem (FuncId × Value))).run Try.prog w := by
  kernel_rfl
theorem m_len (w : World) (p : Nat) (v : Value) (hc : w.cell? ⟨p, 0, none⟩ = some v) : (method 236 55 (.pointer (some ⟨p, 0, none⟩)) "Len").run Try.prog w = .ok (22, v) w := by
  rw [m_len0, Sem.run_bind, recv_at w p v _ hc]
  simp
theorem n_len (w : World) (p : Nat) : (nilAhead 236 55 (.pointer (some ⟨p, 0, none⟩)) "Len").run Try.prog w = .ok (some false) w := by kernel_rfl

theorem m_less0 (w : World) (p : Nat) : (method 236 55 (.pointer (some ⟨p, 0, none⟩)) "Less").run Try.prog w = (receiverAt 55 (.val (.pointer (some ⟨p, 0, none⟩))) false (some "Less") >>= fun r => (pure (81, r) : Sem (FuncId × Value))).run Try.prog w := by
  kernel_rfl
theorem m_less (w : World) (p : Nat) (v : Value) (hc : w.cell? ⟨p, 0, none⟩ = some v) : (method 236 55 (.pointer (some ⟨p, 0, none⟩)) "Less").run Try.prog w = .ok (81, v) w := by
  rw [m_less0, Sem.run_bind, recv_at w p v _ hc]
  simp
theorem n_less (w : World) (p : Nat) : (nilAhead 236 55 (.pointer (some ⟨p, 0, none⟩)) "Less").run Try.prog w = .ok (some false) w := by kernel_rfl

theorem m_swap0 (w : World) (p : Nat) : (method 236 55 (.pointer (some ⟨p, 0, none⟩)) "Swap").run Try.prog w = (receiverAt 55 (.val (.pointer (some ⟨p, 0, none⟩))) false (some "Swap") >>= fun r => (pure (84, r) : Sem (FuncId × Value))).run Try.prog w := by
  kernel_rfl
theorem m_swap (w : World) (p : Nat) (v : Value) (hc : w.cell? ⟨p, 0, none⟩ = some v) : (method 236 55 (.pointer (some ⟨p, 0, none⟩)) "Swap").run Try.prog w = .ok (84, v) w := by
  rw [m_swap0, Sem.run_bind, recv_at w p v _ hc]
  simp
theorem n_swap (w : World) (p : Nat) : (nilAhead 236 55 (.pointer (some ⟨p, 0, none⟩)) "Swap").run Try.prog w = .ok (some false) w := by kernel_rfl

theorem m_push (w : World) (p : Nat) : (method 236 55 (.pointer (some ⟨p, 0, none⟩)) "Push").run Try.prog w = .ok (83, .pointer (some ⟨p, 0, none⟩)) w := by kernel_rfl
theorem n_push (w : World) (p : Nat) : (nilAhead 236 55 (.pointer (some ⟨p, 0, none⟩)) "Push").run Try.prog w = .ok (some false) w := by kernel_rfl

theorem m_pop (w : World) (p : Nat) : (method 236 55 (.pointer (some ⟨p, 0, none⟩)) "Pop").run Try.prog w = .ok (82, .pointer (some ⟨p, 0, none⟩)) w := by kernel_rfl
theorem n_pop (w : World) (p : Nat) : (nilAhead 236 55 (.pointer (some ⟨p, 0, none⟩)) "Pop").run Try.prog w = .ok (some false) w := by kernel_rfl
end Go.Proofs.Ytfbhdggmefacjaa
