/-
  No cell of these rows narrows 'for every input' (looked for: loops, veiled, ifaces, maps, wideKeys, modest, calm, conditions, laid).
  DERIVED. THE GIVEN ROWS OF THIS SEAT. 2 by the template 'for every input the law returns true; each argument reads behind the call as it read before'; 0 by the template 'total and deterministic' (their statements: YtgnlhnfjanoahaaTotals.lean).
  GIVEN WITH THE SEED: the statements are not yours to turn. If you find one false, say at which input.
  Laid BY PROGRAM, IN A SANDBOX (cutbox-rows.mjs): the forced cells as the released guide's own fill.sh prints them over the translation 80d7f1cdf2a88267… (all of the seat's roots in one cut). By AI agents, Wed Nov 11 2026. No macro, syntax, notation, axiom, sorry.
-/
import Derived.Test.YtgnlhnfjanoahaaChecked
import GoSem.Claim
import GoSem.ClaimJoined
import GoSem.ClaimMapViews
import Derived.JoinedTies
import Derived.KernelRfl
namespace Go.Proofs.Ytgnlhnfjanoahaa
/- THE CELL 'sum', in the pinned program and in every row, IS THE sha256 OF THE DUMP (.gsa) THAT YtgnlhnfjanoahaaProg.lean LOADS. Nothing in Lean hashes anything: it is a label: what it is worth is what the hold of that sum in a sandbox is worth. -/
noncomputable def Try.pinned : Pinned := { name := "ytgnlhnfjanoahaa", sum := "80d7f1cdf2a882671fbb7d1f5b26db3b3e77c78fe982fbd52d6e01dd44810da1", checked := Try.checked }
namespace Rows
def none {H : Type} : Left H := { results := [], args := [] }

/-- 'oxbowlaw06.SkipFrom': WHATEVER THE INPUT: true; the input reads as it did. -/
def skipFromSpec : ChangeSpec := { name := "skipFrom", fn := fun _ => fun
  | [d1, d2, d3] => { results := [.lit (.bool true)], args := [d1, d2, d3] }
  | _ => none }
def skipFromRow : OpenClaim := { program := "ytgnlhnfjanoahaa", sum := "80d7f1cdf2a882671fbb7d1f5b26db3b3e77c78fe982fbd52d6e01dd44810da1", func := "oxbow/oxbowlaw06.SkipFrom", spec := "skipFrom", unfollowed := true, recurses := true, apart := false }
def SkipFromSaid : Prop := skipFromRow.holds Try.pinned (OpenSpec.ofChange skipFromSpec)

/-- ITS FALSE NEIGHBOUR: 'it returns false'. Refute it at one input. -/
def skipFromWrong : ChangeSpec := { name := "skipFrom", fn := fun _ => fun
  | [d1, d2, d3] => { results := [.lit (.bool false)], args := [d1, d2, d3] }
  | _ => none }
def SkipFromWrongFalsely : Prop := skipFromRow.holds Try.pinned (OpenSpec.ofChange skipFromWrong)

/-- 'oxbowlaw06.SkipCoins': WHATEVER THE INPUT: true; the input reads as it did. -/
def skipCoinsSpec : ChangeSpec := { name := "skipCoins", fn := fun _ => fun
  | [d1, d2, d3] => { results := [.lit (.bool true)], args := [d1, d2, d3] }
  | _ => none }
def skipCoinsRow : OpenClaim := { program := "ytgnlhnfjanoahaa", sum := "80d7f1cdf2a882671fbb7d1f5b26db3b3e77c78fe982fbd52d6e01dd44810da1", func := "oxbow/oxbowlaw06.SkipCoins", spec := "skipCoins", unfollowed := true, recurses := true, apart := false }
def SkipCoinsSaid : Prop := skipCoinsRow.holds Try.pinned (OpenSpec.ofChange skipCoinsSpec)

/-- ITS FALSE NEIGHBOUR: 'it returns false'. Refute it at one input. -/
def skipCoinsWrong : ChangeSpec := { name := "skipCoins", fn := fun _ => fun
  | [d1, d2, d3] => { results := [.lit (.bool false)], args := [d1, d2, d3] }
  | _ => none }
def SkipCoinsWrongFalsely : Prop := skipCoinsRow.holds Try.pinned (OpenSpec.ofChange skipCoinsWrong)

/- THE SECOND FORM. 'bulk': how many values and letters a reading holds, each counted each time it is reached (what is shared counts as often as it is met; a slice's spare places count too). A statement '..UptoSaid' is the law's where the arguments, and the package variables that the reading takes, are together of bulk at most 1048576: NARROWER than '..Said'. Prove '..Said' where nothing that the law and all that it calls make is longer than what came in: it says more and counts as full. Else prove '..UptoSaid'. A law counts once. -/
mutual
def uptoBulk {H : Type} : DataW H → Nat
  | .lit (.string bytes) => bytes.length + 1
  | .lit _ => 1
  | .nil => 1
  | .ptr d => uptoBulk d + 1
  | .slice elems spare => uptoBulkAll elems + uptoBulkAll spare + 1
  | .agg parts => uptoBulkAll parts + 1
  | .iface _ d => uptoBulk d + 1
  | .map entries => uptoBulkEntries entries + 1
  | .held _ => 1
def uptoBulkAll {H : Type} : List (DataW H) → Nat
  | [] => 0
  | d :: r => uptoBulk d + uptoBulkAll r
def uptoBulkEntries {H : Type} : List (Lit × DataW H) → Nat
  | [] => 0
  | x :: r => uptoBulkEntry x + uptoBulkEntries r
def uptoBulkEntry {H : Type} : Lit × DataW H → Nat
  | (.string bytes, d) => bytes.length + uptoBulk d + 1
  | (_, d) => uptoBulk d + 1
 end
def uptoSmall : (H : Type) → List (DataW H) → Bool := fun _ ds => decide (uptoBulkAll ds ≤ 1048576)
def OpenSpec.upto (s : _root_.Go.ChangeSpec) : _root_.Go.OpenSpec := { _root_.Go.OpenSpec.ofChange s with cond := some uptoSmall }

/-- 'oxbowlaw06.SkipFrom', WHERE WHAT IT READS IS OF BULK AT MOST 1048576: true; the input reads as it did. -/
def skipFromUptoRow : OpenClaim := { program := "ytgnlhnfjanoahaa", sum := "80d7f1cdf2a882671fbb7d1f5b26db3b3e77c78fe982fbd52d6e01dd44810da1", func := "oxbow/oxbowlaw06.SkipFrom", spec := "skipFrom", unfollowed := true, recurses := true, apart := false, narrowed := true }
def SkipFromUptoSaid : Prop := skipFromUptoRow.holds Try.pinned (OpenSpec.upto skipFromSpec)

/-- 'oxbowlaw06.SkipCoins', WHERE WHAT IT READS IS OF BULK AT MOST 1048576: true; the input reads as it did. -/
def skipCoinsUptoRow : OpenClaim := { program := "ytgnlhnfjanoahaa", sum := "80d7f1cdf2a882671fbb7d1f5b26db3b3e77c78fe982fbd52d6e01dd44810da1", func := "oxbow/oxbowlaw06.SkipCoins", spec := "skipCoins", unfollowed := true, recurses := true, apart := false, narrowed := true }
def SkipCoinsUptoSaid : Prop := skipCoinsUptoRow.holds Try.pinned (OpenSpec.upto skipCoinsSpec)

end Rows
end Go.Proofs.Ytgnlhnfjanoahaa
