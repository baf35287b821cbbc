/-
  DERIVED. GIVEN WITH THE SEED: THE CARDS: each row of YtajkjfblpomdpaaDoorRows.lean that lists a variable, with what it lists TIED to the program's text (the seventh form; the later family's looks); each row that meets fmt, with fmt's text TOLD by the authors' own Lean function (tested against real Go, not proved from fmt's source: count such statements apart). THE CARD IS WHAT COUNTS. Prove the row's statement (the work); the ties are given (YtajkjfblpomdpaaDoorTie.lean); close each card by the builder's one call (the guide's Derived/Test/ToyasCard.lean, 'card_holds'). Laid BY PROGRAM, IN A SANDBOX (cutbox-door.mjs). By AI agents, Wed Nov 11 2026. No macro, syntax, notation, axiom, sorry.
-/
import Derived.Test.YtajkjfblpomdpaaDoorRows
import GoSem.ClaimSeven
namespace Go.Proofs.YtajkjfblpomdpaaDoor
namespace Rows

/-- THE TIED CARD OF 'millracelaw1.NatReckons'. -/
def natReckonsCard : Claim7 := { stood := { row := natReckonsRow, standIns := [], harness := (true, "23d05c8ff1ad1efda31c5f4851d882147ab34ef21ae507f3d9e5bacf05452d86"), looks := false }, kinds := [], alts := [], laidByText := true, laidKinds := [.data], laidTests := true, laidLooks := .later }
def NatReckonsCardSaid : Prop := Claim7.holds Tryd.pinned (.plain (OpenSpec.ofChange natReckonsSpec)) natReckonsCard

/-- THE TIED CARD OF 'millracelaw1.NatPlays'. -/
def natPlaysCard : Claim7 := { stood := { row := natPlaysRow, standIns := [], harness := (true, "23d05c8ff1ad1efda31c5f4851d882147ab34ef21ae507f3d9e5bacf05452d86"), looks := false }, kinds := [], alts := [], laidByText := true, laidKinds := [.data], laidTests := true, laidLooks := .later }
def NatPlaysCardSaid : Prop := Claim7.holds Tryd.pinned (.plain (OpenSpec.ofChange natPlaysSpec)) natPlaysCard

/-- THE TIED CARD OF 'millracelaw1.NatGreat'. -/
def natGreatCard : Claim7 := { stood := { row := natGreatRow, standIns := [], harness := (true, "23d05c8ff1ad1efda31c5f4851d882147ab34ef21ae507f3d9e5bacf05452d86"), looks := false }, kinds := [], alts := [], laidByText := true, laidKinds := [.data], laidTests := true, laidLooks := .later }
def NatGreatCardSaid : Prop := Claim7.holds Tryd.pinned (.plain (OpenSpec.ofChange natGreatSpec)) natGreatCard

/-- THE TIED CARD OF 'millracelaw2.RatMakes'. -/
def ratMakesCard : Claim7 := { stood := { row := ratMakesRow, standIns := [], harness := (true, "23d05c8ff1ad1efda31c5f4851d882147ab34ef21ae507f3d9e5bacf05452d86"), looks := false }, kinds := [], alts := [], laidByText := true, laidKinds := [.data], laidTests := true, laidLooks := .later }
def RatMakesCardSaid : Prop := Claim7.holds Tryd.pinned (.plain (OpenSpec.ofChange ratMakesSpec)) ratMakesCard

/-- THE SECOND FORM's CARD OF 'millracelaw1.NatReckons'. -/
def natReckonsUptoCard : Claim7 := { stood := { row := natReckonsUptoRow, standIns := [], harness := (true, "23d05c8ff1ad1efda31c5f4851d882147ab34ef21ae507f3d9e5bacf05452d86"), looks := false }, kinds := [], alts := [], laidByText := true, laidKinds := [.data], laidTests := true, laidLooks := .later }
def NatReckonsUptoCardSaid : Prop := Claim7.holds Tryd.pinned (.plain (OpenSpec.upto natReckonsSpec)) natReckonsUptoCard

/-- THE SECOND FORM's CARD OF 'millracelaw1.NatPlays'. -/
def natPlaysUptoCard : Claim7 := { stood := { row := natPlaysUptoRow, standIns := [], harness := (true, "23d05c8ff1ad1efda31c5f4851d882147ab34ef21ae507f3d9e5bacf05452d86"), looks := false }, kinds := [], alts := [], laidByText := true, laidKinds := [.data], laidTests := true, laidLooks := .later }
def NatPlaysUptoCardSaid : Prop := Claim7.holds Tryd.pinned (.plain (OpenSpec.upto natPlaysSpec)) natPlaysUptoCard

/-- THE SECOND FORM's CARD OF 'millracelaw1.NatGreat'. -/
def natGreatUptoCard : Claim7 := { stood := { row := natGreatUptoRow, standIns := [], harness := (true, "23d05c8ff1ad1efda31c5f4851d882147ab34ef21ae507f3d9e5bacf05452d86"), looks := false }, kinds := [], alts := [], laidByText := true, laidKinds := [.data], laidTests := true, laidLooks := .later }
def NatGreatUptoCardSaid : Prop := Claim7.holds Tryd.pinned (.plain (OpenSpec.upto natGreatSpec)) natGreatUptoCard

/-- THE SECOND FORM's CARD OF 'millracelaw2.RatMakes'. -/
def ratMakesUptoCard : Claim7 := { stood := { row := ratMakesUptoRow, standIns := [], harness := (true, "23d05c8ff1ad1efda31c5f4851d882147ab34ef21ae507f3d9e5bacf05452d86"), looks := false }, kinds := [], alts := [], laidByText := true, laidKinds := [.data], laidTests := true, laidLooks := .later }
def RatMakesUptoCardSaid : Prop := Claim7.holds Tryd.pinned (.plain (OpenSpec.upto ratMakesSpec)) ratMakesUptoCard
end Rows
end Go.Proofs.YtajkjfblpomdpaaDoor
