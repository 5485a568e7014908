/- A region that draws its order and only reads, within a round: the library's lexical walk, which is stated outside of rounds, serves it too. -/
import Derived.Sort.QuietIn
import Derived.Shelf.RegionOpen
import Derived.TacticsInMore
import Derived.Test.YtfbhdggmefacjaaVk
namespace Go.Proofs.Ytfbhdggmefacjaa
open Go.RowKit Go.Shelf
section
variable {F : Fence} {n : Nat} {P : Program} {ops : Array Oper} {md : Region.Mode} {C : World → Prop} {l : Nat}

/-- an operation that is no defer statement runs in a round as everywhere -/
def Plain (o : Oper) : Prop := ∀ c, o.op ≠ .defer c

/-- what the walk outside of a round shows, it shows within one -/
theorem op_round {o : Oper} {a : Act} {K K' : Act → World → Prop} {Q : Exit → Act → World → Prop} {w : World} (hro : F.round = none) (hp : Plain o) (hK : ∀ a w, K a w → K' a w) (h : o.wpIn F n P a w K Q) : o.wpIn (F.inRound l) n P a w K' Q := by
  have h' := Oper.wpIn_mono hK h
  unfold Oper.wpIn at h' ⊢
  rw [hro, Oper.semAt_none] at h'
  refine ⟨h'.1, ?_⟩
  show o.uponIn (F.inRound l) n P a K' Q ((o.semAt (some l) a.eval).run P w)
  rw [Oper.semAt_some l _ _ hp]
  exact h'.2

theorem any_round {Q : Exit → Act → World → Prop} (hro : F.round = none) (hp : ∀ (j : Nat) (o : Oper), ops[j]? = some o → Plain o) : ∀ (fuel : Nat) (listed : Array Bool) (a : Act) (w : World),
    wpAnyIn F n P md ops Q fuel listed a w → wpAnyIn (F.inRound l) n P md ops Q fuel listed a w
  | 0, _, _, _, h => h
  | fuel + 1, listed, a, w, h => ⟨h.1, fun i hi => by
      have h1 := h.2 i hi
      unfold wpOpIn at h1 ⊢
      split at h1
      · exact any_round hro hp fuel _ _ _ h1
      · rename_i o ho
        split at h1
        · rename_i hw
          rw [if_pos hw]
          exact op_round hro (hp i o ho) (fun a w => any_round hro hp fuel _ a w) h1
        · rename_i hw
          rw [if_neg hw]
          exact ⟨h1.1, any_round hro hp fuel _ _ _ h1.2⟩⟩

theorem quiet_out {Q : Act → Prop} : ∀ (L : List Oper) (a : Act), wpQuietIn (F.inRound l) n P ops C Q L a → wpQuietIn F n P ops C Q L a
  | [], _, h => h
  | o :: rest, a, h => by
    refine ⟨h.1, ?_⟩
    have h2 := h.2
    split at h2
    · rename_i hw
      rw [if_pos hw]
      exact Oper.quietIn_mono (fun a => quiet_out rest a) h2
    · rename_i hw
      rw [if_neg hw]
      exact quiet_out rest _ h2

theorem wpIn_region_quiet_r {id : Nat} {Q : Exit → Act → World → Prop} {a : Act} {w : World} {L : List Oper} (h0 : F.round = none) (hro : ∀ o ∈ L, Plain o) (hm : P.follows .mixedOrders = true) (hB : Region.lexB .any L.toArray = true) (hC : C { w with drawn := w.drawn + 1 })
    (h : wpQuietIn (F.inRound l) n P L.toArray C (fun a' => ∀ w', C w' → Q .normal a' w') L a) : (Code.region id L.toArray true).wpIn (F.inRound l) n P Q a w := by
  have hp : ∀ (j : Nat) (o : Oper), L.toArray[j]? = some o → Plain o := fun j o hj => hro o (List.mem_of_getElem? (by simpa using hj))
  simp only [Region.lexB, Bool.and_eq_true] at hB
  have hl := wpAnyQIn_lex (F := F) (n := n) (C := C) (md := .any) hB.1 L 0 (Array.replicate L.toArray.size false) a (by simp) (by simpa using hB.2) (quiet_out L a h)
  refine wpIn_region_any hm (any_round h0 hp _ _ _ _ (wpAnyIn_of_quiet (Q := fun a' => ∀ w', C w' → Q .normal a' w') h0 (fun _ w' hw' h => h w' hw') _ _ _ _ hC ?_))
  simpa using hl

theorem wpIn_region_quiet_lit_r {id : Nat} {Q : Exit → Act → World → Prop} {a : Act} {w : World} {L : List Oper} (h0 : F.round = none) (hro : ∀ o ∈ L, Plain o) (hm : P.follows .mixedOrders = true) (hB : Region.lexB .any L.toArray = true)
    (h : wpQuietIn (F.inRound l) n P L.toArray (fun w' => ∃ n, w' = w.drewN n) (fun a' => ∀ w', (∃ n, w' = w.drewN n) → Q .normal a' w') L a) : (Code.region id L.toArray true).wpIn (F.inRound l) n P Q a w :=
  wpIn_region_quiet_r (C := fun w' => ∃ n, w' = w.drewN n) h0 hro hm hB ⟨1, rfl⟩ h

/-- a world that has grown out of W -/
structure Bw (W : World) where
  w : World
  h : Below W.heap.size W w
instance (W : World) : Nonempty (Bw W) := ⟨⟨W, Below.refl _ _⟩⟩

theorem wpIn_region_quiet_bw {id : Nat} {Q : Exit → Act → World → Prop} {a : Act} {w : World} {L : List Oper} (h0 : F.round = none) (hro : ∀ o ∈ L, Plain o) (hm : P.follows .mixedOrders = true) (hB : Region.lexB .any L.toArray = true)
    (h : wpQuietIn (F.inRound l) n P L.toArray (fun w' => ∃ s : Bw w, w' = s.w) (fun a' => ∀ w', (∃ s : Bw w, w' = s.w) → Q .normal a' w') L a) : (Code.region id L.toArray true).wpIn (F.inRound l) n P Q a w :=
  wpIn_region_quiet_r (C := fun w' => ∃ s : Bw w, w' = s.w) h0 hro hm hB ⟨⟨w.drew, (Below.refl _ _).drew⟩, rfl⟩ h
end

def noDefer (o : Oper) : Bool := match o.op with | .defer _ => false | _ => true
theorem plain_all {L : List Oper} (h : L.all noDefer = true) : ∀ o ∈ L, Plain o := fun o ho c e => by
  have := List.all_eq_true.1 h o ho
  unfold noDefer at this
  rw [e] at this
  cases this
end Go.Proofs.Ytfbhdggmefacjaa
