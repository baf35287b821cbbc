/-
  DERIVED. GIVEN WITH THE SEED: THE CARDS: each row of YtbnbgikhdfbpcaaDoorRows.lean that lists a variable, with what it lists TIED to the program's text (the seventh form; the later family's looks); each row that meets fmt, with fmt's text TOLD by the authors' own Lean function (tested against real Go, not proved from fmt's source: count such statements apart). THE CARD IS WHAT COUNTS. Prove the row's statement (the work); the ties are given (YtbnbgikhdfbpcaaDoorTie.lean); close each card by the builder's one call (the guide's Derived/Test/ToyasCard.lean, 'card_holds'). Laid BY PROGRAM, IN A SANDBOX (cutbox-door.mjs). By AI agents, Wed Nov 11 2026. No macro, syntax, notation, axiom, sorry.
-/
import Derived.Test.YtbnbgikhdfbpcaaDoorRows
import GoSem.ClaimSeven
namespace Go.Proofs.YtbnbgikhdfbpcaaDoor
namespace Rows

/-- THE TIED CARD OF 'millracelaw6.SlotsPlays'. -/
def slotsPlaysCard : Claim7 := { stood := { row := slotsPlaysRow, standIns := [], harness := (true, "1643d37370b3c3122f1d80d41f2d9a0136ffbf994f3e16659ef46593b19ad4dc"), looks := false }, kinds := [], alts := [], laidByText := true, laidKinds := [.data], laidTests := true, laidLooks := .later }
def SlotsPlaysCardSaid : Prop := Claim7.holds Tryd.pinned (.plain (OpenSpec.ofChange slotsPlaysSpec)) slotsPlaysCard

/-- THE TIED CARD OF 'millracelaw6.SlotsAges'. -/
def slotsAgesCard : Claim7 := { stood := { row := slotsAgesRow, standIns := [], harness := (true, "1643d37370b3c3122f1d80d41f2d9a0136ffbf994f3e16659ef46593b19ad4dc"), looks := false }, kinds := [], alts := [], laidByText := true, laidKinds := [.data], laidTests := true, laidLooks := .later }
def SlotsAgesCardSaid : Prop := Claim7.holds Tryd.pinned (.plain (OpenSpec.ofChange slotsAgesSpec)) slotsAgesCard

/-- THE TIED CARD OF 'millracelaw6.SlotsTexts'. -/
def slotsTextsCard : Claim7 := { stood := { row := slotsTextsRow, standIns := [], harness := (true, "1643d37370b3c3122f1d80d41f2d9a0136ffbf994f3e16659ef46593b19ad4dc"), looks := false }, kinds := [], alts := [], laidByText := true, laidKinds := [.data], laidTests := true, laidLooks := .later }
def SlotsTextsCardSaid : Prop := Claim7.holds Tryd.pinned (.plain (OpenSpec.ofChange slotsTextsSpec)) slotsTextsCard

/-- THE SECOND FORM's CARD OF 'millracelaw6.SlotsPlays'. -/
def slotsPlaysUptoCard : Claim7 := { stood := { row := slotsPlaysUptoRow, standIns := [], harness := (true, "1643d37370b3c3122f1d80d41f2d9a0136ffbf994f3e16659ef46593b19ad4dc"), looks := false }, kinds := [], alts := [], laidByText := true, laidKinds := [.data], laidTests := true, laidLooks := .later }
def SlotsPlaysUptoCardSaid : Prop := Claim7.holds Tryd.pinned (.plain (OpenSpec.upto slotsPlaysSpec)) slotsPlaysUptoCard

/-- THE SECOND FORM's CARD OF 'millracelaw6.SlotsAges'. -/
def slotsAgesUptoCard : Claim7 := { stood := { row := slotsAgesUptoRow, standIns := [], harness := (true, "1643d37370b3c3122f1d80d41f2d9a0136ffbf994f3e16659ef46593b19ad4dc"), looks := false }, kinds := [], alts := [], laidByText := true, laidKinds := [.data], laidTests := true, laidLooks := .later }
def SlotsAgesUptoCardSaid : Prop := Claim7.holds Tryd.pinned (.plain (OpenSpec.upto slotsAgesSpec)) slotsAgesUptoCard

/-- THE SECOND FORM's CARD OF 'millracelaw6.SlotsTexts'. -/
def slotsTextsUptoCard : Claim7 := { stood := { row := slotsTextsUptoRow, standIns := [], harness := (true, "1643d37370b3c3122f1d80d41f2d9a0136ffbf994f3e16659ef46593b19ad4dc"), looks := false }, kinds := [], alts := [], laidByText := true, laidKinds := [.data], laidTests := true, laidLooks := .later }
def SlotsTextsUptoCardSaid : Prop := Claim7.holds Tryd.pinned (.plain (OpenSpec.upto slotsTextsSpec)) slotsTextsUptoCard
end Rows
end Go.Proofs.YtbnbgikhdfbpcaaDoor
