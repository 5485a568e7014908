/- A region that draws its order and only reads, within a round: the library's lexical walk serves it too. -/
import Derived.Sort.QuietIn
import Derived.Shelf.RegionOpen
import Derived.TacticsInMore
import Derived.Test.YtgbpnicijllmoaaIt
namespace Go.Proofs.Ytgbpnicijllmoaa
open Go.RowKit Go.Shelf
section
variable {F : Fence} {n : Nat} {P : Program} {ops : Array Oper} {md : Region.Mode} {C : World → Prop} {l : Nat}

/-- an operation that is no defer statement runs in a round as everywhere -/
def Plain (o : Oper) : Prop := ∀ c, o.op ≠ .defer c

theorem wpIn_of_quiet_r {o : Oper} {a : Act} {K : Act → Prop} {K' : Act → World → Prop} {Q' : Exit → Act → World → Prop} {w : World} (hro : Plain o) (hw : C w) (h : ∀ a w', C w' → K a → K' a w')
    (ha : o.askedIn (F.inRound l) P a C) (hh : o.quietIn (F.inRound l) n P a C K) : o.wpIn (F.inRound l) n P a w K' Q' := by
  obtain ⟨v, h1, h2⟩ := hh
  have h3 := h1 w hw
  unfold Oper.quietAtIn at h3
  unfold Oper.wpIn
  refine ⟨ha w hw, ?_⟩
  show o.uponIn (F.inRound l) n P a K' Q' ((o.semAt (some l) a.eval).run P w)
  rw [Oper.semAt_some l _ _ hro]
  generalize (execOp a.eval o).run P w = r at *
  cases r with
  | ok x w' =>
    cases x <;> simp only [Oper.quietUponIn] at h3 <;> simp only [Oper.uponIn]
    case value u =>
      obtain ⟨e1, e2⟩ := h3
      rw [e1, e2]
      exact h _ _ hw h2
    case skip =>
      obtain ⟨e1, e2⟩ := h3
      rw [e1, ← e2]
      exact h _ _ hw h2
    case enter f args =>
      obtain ⟨e1, hd, hc⟩ := h3
      rw [e1]
      exact ⟨hd, hc.mono fun e w'' ⟨he, hw''⟩ => by subst he; exact h _ _ hw'' h2⟩
  | halt x w' => simp only [Oper.quietUponIn] at h3

theorem wpOpIn_of_qOpIn_r {i : Nat} {a : Act} {K : Act → Prop} {K' : Act → World → Prop} {Q' : Exit → Act → World → Prop} {w : World} (hro : ∀ (j : Nat) (o : Oper), ops[j]? = some o → Plain o) (hC : C w) (h : ∀ a w', C w' → K a → K' a w')
    (hh : qOpIn (F.inRound l) n P ops C i K a) : wpOpIn (F.inRound l) n P ops Q' i K' a w := by
  unfold qOpIn at hh
  unfold wpOpIn
  split
  · rename_i ho; simp only [ho] at hh; exact h _ _ hC hh
  · rename_i o ho
    simp only [ho] at hh
    obtain ⟨ha, hh⟩ := hh
    split
    · rename_i hw; simp only [hw, if_true] at hh; exact wpIn_of_quiet_r (hro i o ho) hC h ha hh
    · rename_i hw; simp only [hw] at hh; exact ⟨ha w hC, h _ _ hC hh⟩

theorem wpAnyIn_of_quiet_r {Q : Act → Prop} {Q' : Exit → Act → World → Prop} (hro : ∀ (j : Nat) (o : Oper), ops[j]? = some o → Plain o) (hQ : ∀ a w, C w → Q a → Q' .normal a w) : ∀ (fuel : Nat) (listed : Array Bool) (a : Act) (w : World), C w →
    wpAnyQIn (F.inRound l) n P md ops C Q fuel listed a → wpAnyIn (F.inRound l) n P md ops Q' fuel listed a w
  | 0, _, _, _, hw, h => ⟨h.1, hQ _ _ hw h.2⟩
  | fuel + 1, _, _, _, hw, h => ⟨fun h0 => hQ _ _ hw (h.1 h0), fun i hi => wpOpIn_of_qOpIn_r hro hw (fun a' w' hw' => wpAnyIn_of_quiet_r hro hQ fuel _ a' w' hw') (h.2 i hi)⟩

theorem wpIn_region_quiet_r {id : Nat} {Q : Exit → Act → World → Prop} {a : Act} {w : World} {L : List Oper} (hro : ∀ o ∈ L, Plain o) (hm : P.follows .mixedOrders = true) (hB : Region.lexB .any L.toArray = true) (hC : C { w with drawn := w.drawn + 1 })
    (h : wpQuietIn (F.inRound l) n P L.toArray C (fun a' => ∀ w', C w' → Q .normal a' w') L a) : (Code.region id L.toArray true).wpIn (F.inRound l) n P Q a w := by
  simp only [Region.lexB, Bool.and_eq_true] at hB
  have hro' : ∀ (j : Nat) (o : Oper), L.toArray[j]? = some o → Plain o := fun j o hj => hro o (by
    have : L[j]? = some o := by simpa using hj
    exact List.mem_of_getElem? this)
  refine wpIn_region_any hm (wpAnyIn_of_quiet_r (Q := fun a' => ∀ w', C w' → Q .normal a' w') hro' (fun _ w' hw' h => h w' hw') _ _ _ _ hC ?_)
  have := wpAnyQIn_lex (F := F.inRound l) (n := n) (C := C) (md := .any) hB.1 L 0 (Array.replicate L.toArray.size false) a (by simp) (by simpa using hB.2) h
  simpa using this

theorem wpIn_region_quiet_lit_r {id : Nat} {Q : Exit → Act → World → Prop} {a : Act} {w : World} {L : List Oper} (hro : ∀ o ∈ L, Plain o) (hm : P.follows .mixedOrders = true) (hB : Region.lexB .any L.toArray = true)
    (h : wpQuietIn (F.inRound l) n P L.toArray (fun w' => ∃ n, w' = w.drewN n) (fun a' => ∀ w', (∃ n, w' = w.drewN n) → Q .normal a' w') L a) : (Code.region id L.toArray true).wpIn (F.inRound l) n P Q a w :=
  wpIn_region_quiet_r (C := fun w' => ∃ n, w' = w.drewN n) hro hm hB ⟨1, rfl⟩ h

/-- a world that has grown out of W -/
structure Bw (W : World) where
  w : World
  h : Below W.heap.size W w
instance (W : World) : Nonempty (Bw W) := ⟨⟨W, Below.refl _ _⟩⟩

theorem wpIn_region_quiet_bw {id : Nat} {Q : Exit → Act → World → Prop} {a : Act} {w : World} {L : List Oper} (hro : ∀ o ∈ L, Plain o) (hm : P.follows .mixedOrders = true) (hB : Region.lexB .any L.toArray = true)
    (h : wpQuietIn (F.inRound l) n P L.toArray (fun w' => ∃ s : Bw w, w' = s.w) (fun a' => ∀ w', (∃ s : Bw w, w' = s.w) → Q .normal a' w') L a) : (Code.region id L.toArray true).wpIn (F.inRound l) n P Q a w :=
  wpIn_region_quiet_r (C := fun w' => ∃ s : Bw w, w' = s.w) hro hm hB ⟨⟨w.drew, (Below.refl _ _).drew⟩, rfl⟩ h
end

def noDefer (o : Oper) : Bool := match o.op with | .defer _ => false | _ => true
theorem plain_all {L : List Oper} (h : L.all noDefer = true) : ∀ o ∈ L, Plain o := fun o ho c e => by
  have := List.all_eq_true.1 h o ho
  unfold noDefer at this
  rw [e] at this
  cases this

macro "gr_quiet " "(" tac:tactic ")" : tactic => `(tactic|
  (refine wpIn_region_quiet_lit_r (plain_all (by kernel_rfl)) (by assumption) (by kernel_rfl) ?_
   repeat (gi_big_quiet_step ($tac:tactic))
   refine wpQuietIn_nil ?_
   intro _ hw'
   obtain ⟨$(Lean.mkIdent `nq):ident, hw''⟩ := hw'
   subst hw''))
macro "gr_quiet_bw " "(" tac:tactic ")" : tactic => `(tactic|
  (refine wpIn_region_quiet_bw (plain_all (by kernel_rfl)) (by assumption) (by kernel_rfl) ?_
   repeat (gi_big_quiet_step ($tac:tactic))
   refine wpQuietIn_nil ?_
   intro _ hw'
   obtain ⟨$(Lean.mkIdent `sq):ident, hw''⟩ := hw'
   subst hw''))
end Go.Proofs.Ytgbpnicijllmoaa
