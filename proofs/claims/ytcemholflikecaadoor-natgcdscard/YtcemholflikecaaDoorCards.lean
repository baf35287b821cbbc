/-
  DERIVED. GIVEN WITH THE SEED: THE CARDS: each row of YtcemholflikecaaDoorRows.lean that lists a variable, with what it lists TIED to the program's text (the seventh form; the later family's looks); each row that meets fmt, with fmt's text TOLD by the authors' own Lean function (tested against real Go, not proved from fmt's source: count such statements apart). THE CARD IS WHAT COUNTS. Prove the row's statement (the work); the ties are given (YtcemholflikecaaDoorTie.lean); close each card by the builder's one call (the guide's Derived/Test/ToyasCard.lean, 'card_holds'). Laid BY PROGRAM, IN A SANDBOX (cutbox-door.mjs). By AI agents, Wed Nov 11 2026. No macro, syntax, notation, axiom, sorry.
-/
import Derived.Test.YtcemholflikecaaDoorRows
import GoSem.ClaimSeven
namespace Go.Proofs.YtcemholflikecaaDoor
namespace Rows

/-- THE TIED CARD OF 'millracelaw1.NatReckons'. -/
def natReckonsCard : Claim7 := { stood := { row := natReckonsRow, standIns := [], harness := (true, "ecd163f7c6605418df488e9e90dbb6e0ca1a19279cb1b57c39a6c6e5d98eba71"), looks := false }, kinds := [], alts := [], laidByText := true, laidKinds := [.data], laidTests := true, laidLooks := .later }
def NatReckonsCardSaid : Prop := Claim7.holds Tryd.pinned (.plain (OpenSpec.ofChange natReckonsSpec)) natReckonsCard

/-- THE TIED CARD OF 'millracelaw1.NatPlays'. -/
def natPlaysCard : Claim7 := { stood := { row := natPlaysRow, standIns := [], harness := (true, "ecd163f7c6605418df488e9e90dbb6e0ca1a19279cb1b57c39a6c6e5d98eba71"), looks := false }, kinds := [], alts := [], laidByText := true, laidKinds := [.data], laidTests := true, laidLooks := .later }
def NatPlaysCardSaid : Prop := Claim7.holds Tryd.pinned (.plain (OpenSpec.ofChange natPlaysSpec)) natPlaysCard

/-- THE TIED CARD OF 'millracelaw1.NatGcds'. -/
def natGcdsCard : Claim7 := { stood := { row := natGcdsRow, standIns := [], harness := (true, "ecd163f7c6605418df488e9e90dbb6e0ca1a19279cb1b57c39a6c6e5d98eba71"), looks := false }, kinds := [], alts := [], laidByText := true, laidKinds := [.data], laidTests := true, laidLooks := .later }
def NatGcdsCardSaid : Prop := Claim7.holds Tryd.pinned (.plain (OpenSpec.ofChange natGcdsSpec)) natGcdsCard

/-- THE TIED CARD OF 'millracelaw1.NatGreat'. -/
def natGreatCard : Claim7 := { stood := { row := natGreatRow, standIns := [], harness := (true, "ecd163f7c6605418df488e9e90dbb6e0ca1a19279cb1b57c39a6c6e5d98eba71"), looks := false }, kinds := [], alts := [], laidByText := true, laidKinds := [.data], laidTests := true, laidLooks := .later }
def NatGreatCardSaid : Prop := Claim7.holds Tryd.pinned (.plain (OpenSpec.ofChange natGreatSpec)) natGreatCard

/-- THE SECOND FORM's CARD OF 'millracelaw1.NatReckons'. -/
def natReckonsUptoCard : Claim7 := { stood := { row := natReckonsUptoRow, standIns := [], harness := (true, "ecd163f7c6605418df488e9e90dbb6e0ca1a19279cb1b57c39a6c6e5d98eba71"), looks := false }, kinds := [], alts := [], laidByText := true, laidKinds := [.data], laidTests := true, laidLooks := .later }
def NatReckonsUptoCardSaid : Prop := Claim7.holds Tryd.pinned (.plain (OpenSpec.upto natReckonsSpec)) natReckonsUptoCard

/-- THE SECOND FORM's CARD OF 'millracelaw1.NatPlays'. -/
def natPlaysUptoCard : Claim7 := { stood := { row := natPlaysUptoRow, standIns := [], harness := (true, "ecd163f7c6605418df488e9e90dbb6e0ca1a19279cb1b57c39a6c6e5d98eba71"), looks := false }, kinds := [], alts := [], laidByText := true, laidKinds := [.data], laidTests := true, laidLooks := .later }
def NatPlaysUptoCardSaid : Prop := Claim7.holds Tryd.pinned (.plain (OpenSpec.upto natPlaysSpec)) natPlaysUptoCard

/-- THE SECOND FORM's CARD OF 'millracelaw1.NatGcds'. -/
def natGcdsUptoCard : Claim7 := { stood := { row := natGcdsUptoRow, standIns := [], harness := (true, "ecd163f7c6605418df488e9e90dbb6e0ca1a19279cb1b57c39a6c6e5d98eba71"), looks := false }, kinds := [], alts := [], laidByText := true, laidKinds := [.data], laidTests := true, laidLooks := .later }
def NatGcdsUptoCardSaid : Prop := Claim7.holds Tryd.pinned (.plain (OpenSpec.upto natGcdsSpec)) natGcdsUptoCard

/-- THE SECOND FORM's CARD OF 'millracelaw1.NatGreat'. -/
def natGreatUptoCard : Claim7 := { stood := { row := natGreatUptoRow, standIns := [], harness := (true, "ecd163f7c6605418df488e9e90dbb6e0ca1a19279cb1b57c39a6c6e5d98eba71"), looks := false }, kinds := [], alts := [], laidByText := true, laidKinds := [.data], laidTests := true, laidLooks := .later }
def NatGreatUptoCardSaid : Prop := Claim7.holds Tryd.pinned (.plain (OpenSpec.upto natGreatSpec)) natGreatUptoCard
end Rows
end Go.Proofs.YtcemholflikecaaDoor
