/-
  DERIVED. GIVEN WITH THE SEED: THE CARDS: each row of YtfjmnhmdipjenaaGreatDoorRows.lean that lists a variable, with what it lists TIED to the program's text (the seventh form; the later family's looks); each row that meets fmt, with fmt's text TOLD by the authors' own Lean function (tested against real Go, not proved from fmt's source: count such statements apart). THE CARD IS WHAT COUNTS. Prove the row's statement (the work); the ties are given (YtfjmnhmdipjenaaGreatDoorTie.lean); close each card by the builder's one call (the guide's Derived/Test/ToyasCard.lean, 'card_holds'). Laid BY PROGRAM, IN A SANDBOX (cutbox-door.mjs). By AI agents, Wed Nov 11 2026. No macro, syntax, notation, axiom, sorry.
-/
import Derived.Test.YtfjmnhmdipjenaaGreatDoorRows
import GoSem.ClaimSeven
namespace Go.Proofs.YtfjmnhmdipjenaaGreatDoor
namespace Rows

/-- THE TIED CARD OF 'millracelaw9.ConfTrees'. -/
def confTreesCard : Claim7 := { stood := { row := confTreesRow, standIns := [], harness := (true, "883e7086bbebc15b530a0b7b586825ada76d9b62bcbbd5fb2cbdba9db487de78"), looks := true }, kinds := [], alts := [], laidByText := true, laidKinds := [.data, .data, .data, .sentinel, .sentinel, .data], laidTests := true, laidLooks := .later }
def ConfTreesCardSaid : Prop := Claim7.holds Tryz.pinned (.plain (OpenSpec.ofChange confTreesSpec)) confTreesCard

/-- THE TIED CARD OF 'millracelaw9.ConfBounds'. -/
def confBoundsCard : Claim7 := { stood := { row := confBoundsRow, standIns := [], harness := (true, "883e7086bbebc15b530a0b7b586825ada76d9b62bcbbd5fb2cbdba9db487de78"), looks := true }, kinds := [], alts := [], laidByText := true, laidKinds := [.data, .data, .data, .sentinel, .sentinel, .data], laidTests := true, laidLooks := .later }
def ConfBoundsCardSaid : Prop := Claim7.holds Tryz.pinned (.plain (OpenSpec.ofChange confBoundsSpec)) confBoundsCard

/-- THE SECOND FORM's CARD OF 'millracelaw9.ConfTrees'. -/
def confTreesUptoCard : Claim7 := { stood := { row := confTreesUptoRow, standIns := [], harness := (true, "883e7086bbebc15b530a0b7b586825ada76d9b62bcbbd5fb2cbdba9db487de78"), looks := true }, kinds := [], alts := [], laidByText := true, laidKinds := [.data, .data, .data, .sentinel, .sentinel, .data], laidTests := true, laidLooks := .later }
def ConfTreesUptoCardSaid : Prop := Claim7.holds Tryz.pinned (.plain (OpenSpec.upto confTreesSpec)) confTreesUptoCard

/-- THE SECOND FORM's CARD OF 'millracelaw9.ConfBounds'. -/
def confBoundsUptoCard : Claim7 := { stood := { row := confBoundsUptoRow, standIns := [], harness := (true, "883e7086bbebc15b530a0b7b586825ada76d9b62bcbbd5fb2cbdba9db487de78"), looks := true }, kinds := [], alts := [], laidByText := true, laidKinds := [.data, .data, .data, .sentinel, .sentinel, .data], laidTests := true, laidLooks := .later }
def ConfBoundsUptoCardSaid : Prop := Claim7.holds Tryz.pinned (.plain (OpenSpec.upto confBoundsSpec)) confBoundsUptoCard
end Rows
end Go.Proofs.YtfjmnhmdipjenaaGreatDoor
