/-
  No cell of these rows narrows 'for every input' (looked for: loops, veiled, ifaces, maps, wideKeys, modest, calm, conditions, laid).
  DERIVED. THE GIVEN ROWS OF THIS SEAT. 6 by the template 'for every input the law returns true; each argument reads behind the call as it read before'; 0 by the template 'total and deterministic' (their statements: YtgbpnicijllmoaaTotals.lean).
  GIVEN WITH THE SEED: the statements are not yours to turn. If you find one false, say at which input.
  Laid BY PROGRAM, IN A SANDBOX (cutbox-rows.mjs): the forced cells as the released guide's own fill.sh prints them over the translation 362a054ed13cca37… (all of the seat's roots in one cut). By AI agents, Wed Nov 11 2026. No macro, syntax, notation, axiom, sorry.
-/
import Derived.Test.YtgbpnicijllmoaaChecked
import GoSem.Claim
import GoSem.ClaimJoined
import GoSem.ClaimMapViews
import Derived.JoinedTies
import Derived.KernelRfl
namespace Go.Proofs.Ytgbpnicijllmoaa
/- THE CELL 'sum', in the pinned program and in every row, IS THE sha256 OF THE DUMP (.gsa) THAT YtgbpnicijllmoaaProg.lean LOADS. Nothing in Lean hashes anything: it is a label: what it is worth is what the hold of that sum in a sandbox is worth. -/
noncomputable def Try.pinned : Pinned := { name := "ytgbpnicijllmoaa", sum := "362a054ed13cca3792e741ead6cf964cc57f46583f3a04d5fe1f5332e91c2099", checked := Try.checked }
namespace Rows
def none {H : Type} : Left H := { results := [], args := [] }

/-- 'oxbowlaw06.SkipPuts': WHATEVER THE INPUT: true; the input reads as it did. -/
def skipPutsSpec : ChangeSpec := { name := "skipPuts", fn := fun _ => fun
  | [d1, d2] => { results := [.lit (.bool true)], args := [d1, d2] }
  | _ => none }
def skipPutsRow : OpenClaim := { program := "ytgbpnicijllmoaa", sum := "362a054ed13cca3792e741ead6cf964cc57f46583f3a04d5fe1f5332e91c2099", func := "oxbow/oxbowlaw06.SkipPuts", spec := "skipPuts", unfollowed := true, recurses := true, apart := false }
def SkipPutsSaid : Prop := skipPutsRow.holds Try.pinned (OpenSpec.ofChange skipPutsSpec)

/-- ITS FALSE NEIGHBOUR: 'it returns false'. Refute it at one input. -/
def skipPutsWrong : ChangeSpec := { name := "skipPuts", fn := fun _ => fun
  | [d1, d2] => { results := [.lit (.bool false)], args := [d1, d2] }
  | _ => none }
def SkipPutsWrongFalsely : Prop := skipPutsRow.holds Try.pinned (OpenSpec.ofChange skipPutsWrong)

/-- 'oxbowlaw06.SkipGets': WHATEVER THE INPUT: true; the input reads as it did. -/
def skipGetsSpec : ChangeSpec := { name := "skipGets", fn := fun _ => fun
  | [d1, d2, d3] => { results := [.lit (.bool true)], args := [d1, d2, d3] }
  | _ => none }
def skipGetsRow : OpenClaim := { program := "ytgbpnicijllmoaa", sum := "362a054ed13cca3792e741ead6cf964cc57f46583f3a04d5fe1f5332e91c2099", func := "oxbow/oxbowlaw06.SkipGets", spec := "skipGets", unfollowed := true, recurses := true, apart := false }
def SkipGetsSaid : Prop := skipGetsRow.holds Try.pinned (OpenSpec.ofChange skipGetsSpec)

/-- ITS FALSE NEIGHBOUR: 'it returns false'. Refute it at one input. -/
def skipGetsWrong : ChangeSpec := { name := "skipGets", fn := fun _ => fun
  | [d1, d2, d3] => { results := [.lit (.bool false)], args := [d1, d2, d3] }
  | _ => none }
def SkipGetsWrongFalsely : Prop := skipGetsRow.holds Try.pinned (OpenSpec.ofChange skipGetsWrong)

/-- 'oxbowlaw06.SkipFrom': WHATEVER THE INPUT: true; the input reads as it did. -/
def skipFromSpec : ChangeSpec := { name := "skipFrom", fn := fun _ => fun
  | [d1, d2, d3] => { results := [.lit (.bool true)], args := [d1, d2, d3] }
  | _ => none }
def skipFromRow : OpenClaim := { program := "ytgbpnicijllmoaa", sum := "362a054ed13cca3792e741ead6cf964cc57f46583f3a04d5fe1f5332e91c2099", func := "oxbow/oxbowlaw06.SkipFrom", spec := "skipFrom", unfollowed := true, recurses := true, apart := false }
def SkipFromSaid : Prop := skipFromRow.holds Try.pinned (OpenSpec.ofChange skipFromSpec)

/-- ITS FALSE NEIGHBOUR: 'it returns false'. Refute it at one input. -/
def skipFromWrong : ChangeSpec := { name := "skipFrom", fn := fun _ => fun
  | [d1, d2, d3] => { results := [.lit (.bool false)], args := [d1, d2, d3] }
  | _ => none }
def SkipFromWrongFalsely : Prop := skipFromRow.holds Try.pinned (OpenSpec.ofChange skipFromWrong)

/-- 'oxbowlaw06.SkipGood': WHATEVER THE INPUT: true; the input reads as it did. -/
def skipGoodSpec : ChangeSpec := { name := "skipGood", fn := fun _ => fun
  | [d1, d2] => { results := [.lit (.bool true)], args := [d1, d2] }
  | _ => none }
def skipGoodRow : OpenClaim := { program := "ytgbpnicijllmoaa", sum := "362a054ed13cca3792e741ead6cf964cc57f46583f3a04d5fe1f5332e91c2099", func := "oxbow/oxbowlaw06.SkipGood", spec := "skipGood", unfollowed := true, recurses := true, apart := false }
def SkipGoodSaid : Prop := skipGoodRow.holds Try.pinned (OpenSpec.ofChange skipGoodSpec)

/-- ITS FALSE NEIGHBOUR: 'it returns false'. Refute it at one input. -/
def skipGoodWrong : ChangeSpec := { name := "skipGood", fn := fun _ => fun
  | [d1, d2] => { results := [.lit (.bool false)], args := [d1, d2] }
  | _ => none }
def SkipGoodWrongFalsely : Prop := skipGoodRow.holds Try.pinned (OpenSpec.ofChange skipGoodWrong)

/-- 'oxbowlaw06.SkipCoins': WHATEVER THE INPUT: true; the input reads as it did. -/
def skipCoinsSpec : ChangeSpec := { name := "skipCoins", fn := fun _ => fun
  | [d1, d2, d3] => { results := [.lit (.bool true)], args := [d1, d2, d3] }
  | _ => none }
def skipCoinsRow : OpenClaim := { program := "ytgbpnicijllmoaa", sum := "362a054ed13cca3792e741ead6cf964cc57f46583f3a04d5fe1f5332e91c2099", func := "oxbow/oxbowlaw06.SkipCoins", spec := "skipCoins", unfollowed := true, recurses := true, apart := false }
def SkipCoinsSaid : Prop := skipCoinsRow.holds Try.pinned (OpenSpec.ofChange skipCoinsSpec)

/-- ITS FALSE NEIGHBOUR: 'it returns false'. Refute it at one input. -/
def skipCoinsWrong : ChangeSpec := { name := "skipCoins", fn := fun _ => fun
  | [d1, d2, d3] => { results := [.lit (.bool false)], args := [d1, d2, d3] }
  | _ => none }
def SkipCoinsWrongFalsely : Prop := skipCoinsRow.holds Try.pinned (OpenSpec.ofChange skipCoinsWrong)

/-- 'oxbowlaw06.SkipNil': WHATEVER THE INPUT: true; the input reads as it did. -/
def skipNilSpec : ChangeSpec := { name := "skipNil", fn := fun _ => fun
  | [d] => { results := [.lit (.bool true)], args := [d] }
  | _ => none }
def skipNilRow : OpenClaim := { program := "ytgbpnicijllmoaa", sum := "362a054ed13cca3792e741ead6cf964cc57f46583f3a04d5fe1f5332e91c2099", func := "oxbow/oxbowlaw06.SkipNil", spec := "skipNil", unfollowed := true, recurses := true, apart := false }
def SkipNilSaid : Prop := skipNilRow.holds Try.pinned (OpenSpec.ofChange skipNilSpec)

/-- ITS FALSE NEIGHBOUR: 'it returns false'. Refute it at one input. -/
def skipNilWrong : ChangeSpec := { name := "skipNil", fn := fun _ => fun
  | [d] => { results := [.lit (.bool false)], args := [d] }
  | _ => none }
def SkipNilWrongFalsely : Prop := skipNilRow.holds Try.pinned (OpenSpec.ofChange skipNilWrong)

/- THE SECOND FORM. 'bulk': how many values and letters a reading holds, each counted each time it is reached (what is shared counts as often as it is met; a slice's spare places count too). A statement '..UptoSaid' is the law's where the arguments, and the package variables that the reading takes, are together of bulk at most 1048576: NARROWER than '..Said'. Prove '..Said' where nothing that the law and all that it calls make is longer than what came in: it says more and counts as full. Else prove '..UptoSaid'. A law counts once. -/
mutual
def uptoBulk {H : Type} : DataW H → Nat
  | .lit (.string bytes) => bytes.length + 1
  | .lit _ => 1
  | .nil => 1
  | .ptr d => uptoBulk d + 1
  | .slice elems spare => uptoBulkAll elems + uptoBulkAll spare + 1
  | .agg parts => uptoBulkAll parts + 1
  | .iface _ d => uptoBulk d + 1
  | .map entries => uptoBulkEntries entries + 1
  | .held _ => 1
def uptoBulkAll {H : Type} : List (DataW H) → Nat
  | [] => 0
  | d :: r => uptoBulk d + uptoBulkAll r
def uptoBulkEntries {H : Type} : List (Lit × DataW H) → Nat
  | [] => 0
  | x :: r => uptoBulkEntry x + uptoBulkEntries r
def uptoBulkEntry {H : Type} : Lit × DataW H → Nat
  | (.string bytes, d) => bytes.length + uptoBulk d + 1
  | (_, d) => uptoBulk d + 1
 end
def uptoSmall : (H : Type) → List (DataW H) → Bool := fun _ ds => decide (uptoBulkAll ds ≤ 1048576)
def OpenSpec.upto (s : _root_.Go.ChangeSpec) : _root_.Go.OpenSpec := { _root_.Go.OpenSpec.ofChange s with cond := some uptoSmall }

/-- 'oxbowlaw06.SkipPuts', WHERE WHAT IT READS IS OF BULK AT MOST 1048576: true; the input reads as it did. -/
def skipPutsUptoRow : OpenClaim := { program := "ytgbpnicijllmoaa", sum := "362a054ed13cca3792e741ead6cf964cc57f46583f3a04d5fe1f5332e91c2099", func := "oxbow/oxbowlaw06.SkipPuts", spec := "skipPuts", unfollowed := true, recurses := true, apart := false, narrowed := true }
def SkipPutsUptoSaid : Prop := skipPutsUptoRow.holds Try.pinned (OpenSpec.upto skipPutsSpec)

/-- 'oxbowlaw06.SkipGets', WHERE WHAT IT READS IS OF BULK AT MOST 1048576: true; the input reads as it did. -/
def skipGetsUptoRow : OpenClaim := { program := "ytgbpnicijllmoaa", sum := "362a054ed13cca3792e741ead6cf964cc57f46583f3a04d5fe1f5332e91c2099", func := "oxbow/oxbowlaw06.SkipGets", spec := "skipGets", unfollowed := true, recurses := true, apart := false, narrowed := true }
def SkipGetsUptoSaid : Prop := skipGetsUptoRow.holds Try.pinned (OpenSpec.upto skipGetsSpec)

/-- 'oxbowlaw06.SkipFrom', WHERE WHAT IT READS IS OF BULK AT MOST 1048576: true; the input reads as it did. -/
def skipFromUptoRow : OpenClaim := { program := "ytgbpnicijllmoaa", sum := "362a054ed13cca3792e741ead6cf964cc57f46583f3a04d5fe1f5332e91c2099", func := "oxbow/oxbowlaw06.SkipFrom", spec := "skipFrom", unfollowed := true, recurses := true, apart := false, narrowed := true }
def SkipFromUptoSaid : Prop := skipFromUptoRow.holds Try.pinned (OpenSpec.upto skipFromSpec)

/-- 'oxbowlaw06.SkipGood', WHERE WHAT IT READS IS OF BULK AT MOST 1048576: true; the input reads as it did. -/
def skipGoodUptoRow : OpenClaim := { program := "ytgbpnicijllmoaa", sum := "362a054ed13cca3792e741ead6cf964cc57f46583f3a04d5fe1f5332e91c2099", func := "oxbow/oxbowlaw06.SkipGood", spec := "skipGood", unfollowed := true, recurses := true, apart := false, narrowed := true }
def SkipGoodUptoSaid : Prop := skipGoodUptoRow.holds Try.pinned (OpenSpec.upto skipGoodSpec)

/-- 'oxbowlaw06.SkipCoins', WHERE WHAT IT READS IS OF BULK AT MOST 1048576: true; the input reads as it did. -/
def skipCoinsUptoRow : OpenClaim := { program := "ytgbpnicijllmoaa", sum := "362a054ed13cca3792e741ead6cf964cc57f46583f3a04d5fe1f5332e91c2099", func := "oxbow/oxbowlaw06.SkipCoins", spec := "skipCoins", unfollowed := true, recurses := true, apart := false, narrowed := true }
def SkipCoinsUptoSaid : Prop := skipCoinsUptoRow.holds Try.pinned (OpenSpec.upto skipCoinsSpec)

/-- 'oxbowlaw06.SkipNil', WHERE WHAT IT READS IS OF BULK AT MOST 1048576: true; the input reads as it did. -/
def skipNilUptoRow : OpenClaim := { program := "ytgbpnicijllmoaa", sum := "362a054ed13cca3792e741ead6cf964cc57f46583f3a04d5fe1f5332e91c2099", func := "oxbow/oxbowlaw06.SkipNil", spec := "skipNil", unfollowed := true, recurses := true, apart := false, narrowed := true }
def SkipNilUptoSaid : Prop := skipNilUptoRow.holds Try.pinned (OpenSpec.upto skipNilSpec)

end Rows
end Go.Proofs.Ytgbpnicijllmoaa
