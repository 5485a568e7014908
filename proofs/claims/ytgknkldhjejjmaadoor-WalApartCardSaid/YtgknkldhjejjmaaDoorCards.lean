/-
  DERIVED. GIVEN WITH THE SEED: THE CARDS: each row of YtgknkldhjejjmaaDoorRows.lean that lists a variable, with what it lists TIED to the program's text (the seventh form; the later family's looks); each row that meets fmt, with fmt's text TOLD by the authors' own Lean function (tested against real Go, not proved from fmt's source: count such statements apart). THE CARD IS WHAT COUNTS. Prove the row's statement (the work); the ties are given (YtgknkldhjejjmaaDoorTie.lean); close each card by the builder's one call (the guide's Derived/Test/ToyasCard.lean, 'card_holds'). Laid BY PROGRAM, IN A SANDBOX (cutbox-door.mjs). By AI agents, Wed Nov 11 2026. No macro, syntax, notation, axiom, sorry.
-/
import Derived.Test.YtgknkldhjejjmaaDoorRows
import GoSem.ClaimSeven
namespace Go.Proofs.YtgknkldhjejjmaaDoor
namespace Rows

/-- THE TIED CARD OF 'oxbowlaw08.WalNames'. -/
def walNamesCard : Claim7 := { stood := { row := walNamesRow, standIns := [], harness := (true, "a50a40128b270af89f7a65a4fa785ca4d88119de8902719a933f29bc6ffe6541"), looks := true }, kinds := [], alts := [], laidByText := true, laidKinds := [.data, .data, .data, .sentinel, .sentinel], laidTests := true, laidLooks := .later }
def WalNamesCardSaid : Prop := Claim7.holds Tryd.pinned (.plain (OpenSpec.ofChange walNamesSpec)) walNamesCard

/-- THE TIED CARD OF 'oxbowlaw08.WalLasts'. -/
def walLastsCard : Claim7 := { stood := { row := walLastsRow, standIns := [], harness := (true, "a50a40128b270af89f7a65a4fa785ca4d88119de8902719a933f29bc6ffe6541"), looks := true }, kinds := [], alts := [], laidByText := true, laidKinds := [.data, .data, .data], laidTests := true, laidLooks := .later }
def WalLastsCardSaid : Prop := Claim7.holds Tryd.pinned (.plain (OpenSpec.ofChange walLastsSpec)) walLastsCard

/-- THE TIED CARD OF 'oxbowlaw08.WalBits'. -/
def walBitsCard : Claim7 := { stood := { row := walBitsRow, standIns := [], harness := (true, "a50a40128b270af89f7a65a4fa785ca4d88119de8902719a933f29bc6ffe6541"), looks := true }, kinds := [], alts := [], laidByText := true, laidKinds := [.data, .data, .data], laidTests := true, laidLooks := .later }
def WalBitsCardSaid : Prop := Claim7.holds Tryd.pinned (.plain (OpenSpec.ofChange walBitsSpec)) walBitsCard

/-- THE TIED CARD OF 'oxbowlaw08.WalApart'. -/
def walApartCard : Claim7 := { stood := { row := walApartRow, standIns := [], harness := (true, "a50a40128b270af89f7a65a4fa785ca4d88119de8902719a933f29bc6ffe6541"), looks := true }, kinds := [], alts := [], laidByText := true, laidKinds := [.data, .data, .data], laidTests := true, laidLooks := .later }
def WalApartCardSaid : Prop := Claim7.holds Tryd.pinned (.plain (OpenSpec.ofChange walApartSpec)) walApartCard

/-- THE SECOND FORM's CARD OF 'oxbowlaw08.WalNames'. -/
def walNamesUptoCard : Claim7 := { stood := { row := walNamesUptoRow, standIns := [], harness := (true, "a50a40128b270af89f7a65a4fa785ca4d88119de8902719a933f29bc6ffe6541"), looks := true }, kinds := [], alts := [], laidByText := true, laidKinds := [.data, .data, .data, .sentinel, .sentinel], laidTests := true, laidLooks := .later }
def WalNamesUptoCardSaid : Prop := Claim7.holds Tryd.pinned (.plain (OpenSpec.upto walNamesSpec)) walNamesUptoCard

/-- THE SECOND FORM's CARD OF 'oxbowlaw08.WalLasts'. -/
def walLastsUptoCard : Claim7 := { stood := { row := walLastsUptoRow, standIns := [], harness := (true, "a50a40128b270af89f7a65a4fa785ca4d88119de8902719a933f29bc6ffe6541"), looks := true }, kinds := [], alts := [], laidByText := true, laidKinds := [.data, .data, .data], laidTests := true, laidLooks := .later }
def WalLastsUptoCardSaid : Prop := Claim7.holds Tryd.pinned (.plain (OpenSpec.upto walLastsSpec)) walLastsUptoCard

/-- THE SECOND FORM's CARD OF 'oxbowlaw08.WalBits'. -/
def walBitsUptoCard : Claim7 := { stood := { row := walBitsUptoRow, standIns := [], harness := (true, "a50a40128b270af89f7a65a4fa785ca4d88119de8902719a933f29bc6ffe6541"), looks := true }, kinds := [], alts := [], laidByText := true, laidKinds := [.data, .data, .data], laidTests := true, laidLooks := .later }
def WalBitsUptoCardSaid : Prop := Claim7.holds Tryd.pinned (.plain (OpenSpec.upto walBitsSpec)) walBitsUptoCard

/-- THE SECOND FORM's CARD OF 'oxbowlaw08.WalApart'. -/
def walApartUptoCard : Claim7 := { stood := { row := walApartUptoRow, standIns := [], harness := (true, "a50a40128b270af89f7a65a4fa785ca4d88119de8902719a933f29bc6ffe6541"), looks := true }, kinds := [], alts := [], laidByText := true, laidKinds := [.data, .data, .data], laidTests := true, laidLooks := .later }
def WalApartUptoCardSaid : Prop := Claim7.holds Tryd.pinned (.plain (OpenSpec.upto walApartSpec)) walApartUptoCard
end Rows
end Go.Proofs.YtgknkldhjejjmaaDoor
