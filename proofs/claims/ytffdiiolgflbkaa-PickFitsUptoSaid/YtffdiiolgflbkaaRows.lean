/-
  No cell of these rows narrows 'for every input' (looked for: loops, veiled, ifaces, maps, wideKeys, modest, calm, conditions, laid).
  DERIVED. THE GIVEN ROWS OF THIS SEAT. 6 by the template 'for every input the law returns true; each argument reads behind the call as it read before'; 0 by the template 'total and deterministic' (their statements: YtffdiiolgflbkaaTotals.lean).
  GIVEN WITH THE SEED: the statements are not yours to turn. If you find one false, say at which input.
  Laid BY PROGRAM, IN A SANDBOX (cutbox-rows.mjs): the forced cells as the released guide's own fill.sh prints them over the translation 8dfc55d8b09ad46e… (all of the seat's roots in one cut). By AI agents, Wed Nov 11 2026. No macro, syntax, notation, axiom, sorry.
-/
import Derived.Test.YtffdiiolgflbkaaChecked
import GoSem.Claim
import GoSem.ClaimJoined
import GoSem.ClaimMapViews
import Derived.JoinedTies
import Derived.KernelRfl
namespace Go.Proofs.Ytffdiiolgflbkaa
/- THE CELL 'sum', in the pinned program and in every row, IS THE sha256 OF THE DUMP (.gsa) THAT YtffdiiolgflbkaaProg.lean LOADS. Nothing in Lean hashes anything: it is a label: what it is worth is what the hold of that sum in a sandbox is worth. -/
noncomputable def Try.pinned : Pinned := { name := "ytffdiiolgflbkaa", sum := "8dfc55d8b09ad46e7c6cb2d531436481bcf67df6002daedda10cc57b20d052e8", checked := Try.checked }
namespace Rows
def none {H : Type} : Left H := { results := [], args := [] }

/-- 'oxbowlaw14.VersionApplies': WHATEVER THE INPUT: true; the input reads as it did. -/
def versionAppliesSpec : ChangeSpec := { name := "versionApplies", fn := fun _ => fun
  | [d] => { results := [.lit (.bool true)], args := [d] }
  | _ => none }
def versionAppliesRow : OpenClaim := { program := "ytffdiiolgflbkaa", sum := "8dfc55d8b09ad46e7c6cb2d531436481bcf67df6002daedda10cc57b20d052e8", func := "oxbow/oxbowlaw14.VersionApplies", spec := "versionApplies", inPlace := ["internal/bytealg.abigen_runtime_cmpstring"], unfollowed := true, recurses := true, apart := false }
def VersionAppliesSaid : Prop := versionAppliesRow.holds Try.pinned (OpenSpec.ofChange versionAppliesSpec)

/-- ITS FALSE NEIGHBOUR: 'it returns false'. Refute it at one input. -/
def versionAppliesWrong : ChangeSpec := { name := "versionApplies", fn := fun _ => fun
  | [d] => { results := [.lit (.bool false)], args := [d] }
  | _ => none }
def VersionAppliesWrongFalsely : Prop := versionAppliesRow.holds Try.pinned (OpenSpec.ofChange versionAppliesWrong)

/-- 'oxbowlaw14.VersionPuts': WHATEVER THE INPUT: true; the input reads as it did. -/
def versionPutsSpec : ChangeSpec := { name := "versionPuts", fn := fun _ => fun
  | [d1, d2] => { results := [.lit (.bool true)], args := [d1, d2] }
  | _ => none }
def versionPutsRow : OpenClaim := { program := "ytffdiiolgflbkaa", sum := "8dfc55d8b09ad46e7c6cb2d531436481bcf67df6002daedda10cc57b20d052e8", func := "oxbow/oxbowlaw14.VersionPuts", spec := "versionPuts", inPlace := ["internal/bytealg.abigen_runtime_cmpstring", "internal/abi.NoEscape"], unfollowed := true, recurses := true, apart := false }
def VersionPutsSaid : Prop := versionPutsRow.holds Try.pinned (OpenSpec.ofChange versionPutsSpec)

/-- ITS FALSE NEIGHBOUR: 'it returns false'. Refute it at one input. -/
def versionPutsWrong : ChangeSpec := { name := "versionPuts", fn := fun _ => fun
  | [d1, d2] => { results := [.lit (.bool false)], args := [d1, d2] }
  | _ => none }
def VersionPutsWrongFalsely : Prop := versionPutsRow.holds Try.pinned (OpenSpec.ofChange versionPutsWrong)

/-- 'oxbowlaw14.VersionWhole': WHATEVER THE INPUT: true; the input reads as it did. -/
def versionWholeSpec : ChangeSpec := { name := "versionWhole", fn := fun _ => fun
  | [d] => { results := [.lit (.bool true)], args := [d] }
  | _ => none }
def versionWholeRow : OpenClaim := { program := "ytffdiiolgflbkaa", sum := "8dfc55d8b09ad46e7c6cb2d531436481bcf67df6002daedda10cc57b20d052e8", func := "oxbow/oxbowlaw14.VersionWhole", spec := "versionWhole", inPlace := ["internal/bytealg.abigen_runtime_cmpstring"], unfollowed := true, recurses := true, apart := false }
def VersionWholeSaid : Prop := versionWholeRow.holds Try.pinned (OpenSpec.ofChange versionWholeSpec)

/-- ITS FALSE NEIGHBOUR: 'it returns false'. Refute it at one input. -/
def versionWholeWrong : ChangeSpec := { name := "versionWhole", fn := fun _ => fun
  | [d] => { results := [.lit (.bool false)], args := [d] }
  | _ => none }
def VersionWholeWrongFalsely : Prop := versionWholeRow.holds Try.pinned (OpenSpec.ofChange versionWholeWrong)

/-- 'oxbowlaw14.VersionOver': WHATEVER THE INPUT: true; the input reads as it did. -/
def versionOverSpec : ChangeSpec := { name := "versionOver", fn := fun _ => fun
  | [d1, d2, d3] => { results := [.lit (.bool true)], args := [d1, d2, d3] }
  | _ => none }
def versionOverRow : OpenClaim := { program := "ytffdiiolgflbkaa", sum := "8dfc55d8b09ad46e7c6cb2d531436481bcf67df6002daedda10cc57b20d052e8", func := "oxbow/oxbowlaw14.VersionOver", spec := "versionOver", inPlace := ["internal/bytealg.abigen_runtime_cmpstring"], unfollowed := true, recurses := true, apart := false }
def VersionOverSaid : Prop := versionOverRow.holds Try.pinned (OpenSpec.ofChange versionOverSpec)

/-- ITS FALSE NEIGHBOUR: 'it returns false'. Refute it at one input. -/
def versionOverWrong : ChangeSpec := { name := "versionOver", fn := fun _ => fun
  | [d1, d2, d3] => { results := [.lit (.bool false)], args := [d1, d2, d3] }
  | _ => none }
def VersionOverWrongFalsely : Prop := versionOverRow.holds Try.pinned (OpenSpec.ofChange versionOverWrong)

/-- 'oxbowlaw14.VersionLevels': WHATEVER THE INPUT: true; the input reads as it did. -/
def versionLevelsSpec : ChangeSpec := { name := "versionLevels", fn := fun _ => fun
  | [d] => { results := [.lit (.bool true)], args := [d] }
  | _ => none }
def versionLevelsRow : OpenClaim := { program := "ytffdiiolgflbkaa", sum := "8dfc55d8b09ad46e7c6cb2d531436481bcf67df6002daedda10cc57b20d052e8", func := "oxbow/oxbowlaw14.VersionLevels", spec := "versionLevels", inPlace := ["internal/bytealg.abigen_runtime_cmpstring"], unfollowed := true, recurses := true, apart := false }
def VersionLevelsSaid : Prop := versionLevelsRow.holds Try.pinned (OpenSpec.ofChange versionLevelsSpec)

/-- ITS FALSE NEIGHBOUR: 'it returns false'. Refute it at one input. -/
def versionLevelsWrong : ChangeSpec := { name := "versionLevels", fn := fun _ => fun
  | [d] => { results := [.lit (.bool false)], args := [d] }
  | _ => none }
def VersionLevelsWrongFalsely : Prop := versionLevelsRow.holds Try.pinned (OpenSpec.ofChange versionLevelsWrong)

/-- 'oxbowlaw15.PickFits': WHATEVER THE INPUT: true; the input reads as it did. -/
def pickFitsSpec : ChangeSpec := { name := "pickFits", fn := fun _ => fun
  | [d1, d2, d3] => { results := [.lit (.bool true)], args := [d1, d2, d3] }
  | _ => none }
def pickFitsRow : OpenClaim := { program := "ytffdiiolgflbkaa", sum := "8dfc55d8b09ad46e7c6cb2d531436481bcf67df6002daedda10cc57b20d052e8", func := "oxbow/oxbowlaw15.PickFits", spec := "pickFits", inPlace := ["internal/bytealg.abigen_runtime_cmpstring"], unfollowed := true, recurses := true, apart := false }
def PickFitsSaid : Prop := pickFitsRow.holds Try.pinned (OpenSpec.ofChange pickFitsSpec)

/-- ITS FALSE NEIGHBOUR: 'it returns false'. Refute it at one input. -/
def pickFitsWrong : ChangeSpec := { name := "pickFits", fn := fun _ => fun
  | [d1, d2, d3] => { results := [.lit (.bool false)], args := [d1, d2, d3] }
  | _ => none }
def PickFitsWrongFalsely : Prop := pickFitsRow.holds Try.pinned (OpenSpec.ofChange pickFitsWrong)

/- THE SECOND FORM. 'bulk': how many values and letters a reading holds, each counted each time it is reached (what is shared counts as often as it is met; a slice's spare places count too). A statement '..UptoSaid' is the law's where the arguments, and the package variables that the reading takes, are together of bulk at most 1048576: NARROWER than '..Said'. Prove '..Said' where nothing that the law and all that it calls make is longer than what came in: it says more and counts as full. Else prove '..UptoSaid'. A law counts once. -/
mutual
def uptoBulk {H : Type} : DataW H → Nat
  | .lit (.string bytes) => bytes.length + 1
  | .lit _ => 1
  | .nil => 1
  | .ptr d => uptoBulk d + 1
  | .slice elems spare => uptoBulkAll elems + uptoBulkAll spare + 1
  | .agg parts => uptoBulkAll parts + 1
  | .iface _ d => uptoBulk d + 1
  | .map entries => uptoBulkEntries entries + 1
  | .held _ => 1
def uptoBulkAll {H : Type} : List (DataW H) → Nat
  | [] => 0
  | d :: r => uptoBulk d + uptoBulkAll r
def uptoBulkEntries {H : Type} : List (Lit × DataW H) → Nat
  | [] => 0
  | x :: r => uptoBulkEntry x + uptoBulkEntries r
def uptoBulkEntry {H : Type} : Lit × DataW H → Nat
  | (.string bytes, d) => bytes.length + uptoBulk d + 1
  | (_, d) => uptoBulk d + 1
 end
def uptoSmall : (H : Type) → List (DataW H) → Bool := fun _ ds => decide (uptoBulkAll ds ≤ 1048576)
def OpenSpec.upto (s : _root_.Go.ChangeSpec) : _root_.Go.OpenSpec := { _root_.Go.OpenSpec.ofChange s with cond := some uptoSmall }

/-- 'oxbowlaw14.VersionApplies', WHERE WHAT IT READS IS OF BULK AT MOST 1048576: true; the input reads as it did. -/
def versionAppliesUptoRow : OpenClaim := { program := "ytffdiiolgflbkaa", sum := "8dfc55d8b09ad46e7c6cb2d531436481bcf67df6002daedda10cc57b20d052e8", func := "oxbow/oxbowlaw14.VersionApplies", spec := "versionApplies", inPlace := ["internal/bytealg.abigen_runtime_cmpstring"], unfollowed := true, recurses := true, apart := false, narrowed := true }
def VersionAppliesUptoSaid : Prop := versionAppliesUptoRow.holds Try.pinned (OpenSpec.upto versionAppliesSpec)

/-- 'oxbowlaw14.VersionPuts', WHERE WHAT IT READS IS OF BULK AT MOST 1048576: true; the input reads as it did. -/
def versionPutsUptoRow : OpenClaim := { program := "ytffdiiolgflbkaa", sum := "8dfc55d8b09ad46e7c6cb2d531436481bcf67df6002daedda10cc57b20d052e8", func := "oxbow/oxbowlaw14.VersionPuts", spec := "versionPuts", inPlace := ["internal/bytealg.abigen_runtime_cmpstring", "internal/abi.NoEscape"], unfollowed := true, recurses := true, apart := false, narrowed := true }
def VersionPutsUptoSaid : Prop := versionPutsUptoRow.holds Try.pinned (OpenSpec.upto versionPutsSpec)

/-- 'oxbowlaw14.VersionWhole', WHERE WHAT IT READS IS OF BULK AT MOST 1048576: true; the input reads as it did. -/
def versionWholeUptoRow : OpenClaim := { program := "ytffdiiolgflbkaa", sum := "8dfc55d8b09ad46e7c6cb2d531436481bcf67df6002daedda10cc57b20d052e8", func := "oxbow/oxbowlaw14.VersionWhole", spec := "versionWhole", inPlace := ["internal/bytealg.abigen_runtime_cmpstring"], unfollowed := true, recurses := true, apart := false, narrowed := true }
def VersionWholeUptoSaid : Prop := versionWholeUptoRow.holds Try.pinned (OpenSpec.upto versionWholeSpec)

/-- 'oxbowlaw14.VersionOver', WHERE WHAT IT READS IS OF BULK AT MOST 1048576: true; the input reads as it did. -/
def versionOverUptoRow : OpenClaim := { program := "ytffdiiolgflbkaa", sum := "8dfc55d8b09ad46e7c6cb2d531436481bcf67df6002daedda10cc57b20d052e8", func := "oxbow/oxbowlaw14.VersionOver", spec := "versionOver", inPlace := ["internal/bytealg.abigen_runtime_cmpstring"], unfollowed := true, recurses := true, apart := false, narrowed := true }
def VersionOverUptoSaid : Prop := versionOverUptoRow.holds Try.pinned (OpenSpec.upto versionOverSpec)

/-- 'oxbowlaw14.VersionLevels', WHERE WHAT IT READS IS OF BULK AT MOST 1048576: true; the input reads as it did. -/
def versionLevelsUptoRow : OpenClaim := { program := "ytffdiiolgflbkaa", sum := "8dfc55d8b09ad46e7c6cb2d531436481bcf67df6002daedda10cc57b20d052e8", func := "oxbow/oxbowlaw14.VersionLevels", spec := "versionLevels", inPlace := ["internal/bytealg.abigen_runtime_cmpstring"], unfollowed := true, recurses := true, apart := false, narrowed := true }
def VersionLevelsUptoSaid : Prop := versionLevelsUptoRow.holds Try.pinned (OpenSpec.upto versionLevelsSpec)

/-- 'oxbowlaw15.PickFits', WHERE WHAT IT READS IS OF BULK AT MOST 1048576: true; the input reads as it did. -/
def pickFitsUptoRow : OpenClaim := { program := "ytffdiiolgflbkaa", sum := "8dfc55d8b09ad46e7c6cb2d531436481bcf67df6002daedda10cc57b20d052e8", func := "oxbow/oxbowlaw15.PickFits", spec := "pickFits", inPlace := ["internal/bytealg.abigen_runtime_cmpstring"], unfollowed := true, recurses := true, apart := false, narrowed := true }
def PickFitsUptoSaid : Prop := pickFitsUptoRow.holds Try.pinned (OpenSpec.upto pickFitsSpec)

end Rows
end Go.Proofs.Ytffdiiolgflbkaa
