/-
  DERIVED. GIVEN WITH THE SEED: THE CARDS: each row of YtdmkneojhnhomaaGreatDoorRows.lean that lists a variable, with what it lists TIED to the program's text (the seventh form; the later family's looks); each row that meets fmt, with fmt's text TOLD by the authors' own Lean function (tested against real Go, not proved from fmt's source: count such statements apart). THE CARD IS WHAT COUNTS. Prove the row's statement (the work); the ties are given (YtdmkneojhnhomaaGreatDoorTie.lean); close each card by the builder's one call (the guide's Derived/Test/ToyasCard.lean, 'card_holds'). Laid BY PROGRAM, IN A SANDBOX (cutbox-door.mjs). By AI agents, Wed Nov 11 2026. No macro, syntax, notation, axiom, sorry.
-/
import Derived.Test.YtdmkneojhnhomaaGreatDoorRows
import GoSem.ClaimSeven
namespace Go.Proofs.YtdmkneojhnhomaaGreatDoor
namespace Rows

/-- THE TIED CARD OF 'millracelaw8.BucketPlays'. -/
def bucketPlaysCard : Claim7 := { stood := { row := bucketPlaysRow, standIns := [], harness := (true, "b8a1afb60c4c8db0e049a70c99b6548be7638b7e7dad3acfe443bc0fbf2fc1f2"), looks := false }, kinds := [], alts := [], laidByText := true, laidKinds := [.data], laidTests := true, laidLooks := .later }
def BucketPlaysCardSaid : Prop := Claim7.holds Tryz.pinned (.plain (OpenSpec.ofChange bucketPlaysSpec)) bucketPlaysCard

/-- THE TIED CARD OF 'millracelaw8.BucketCaps'. -/
def bucketCapsCard : Claim7 := { stood := { row := bucketCapsRow, standIns := [], harness := (true, "b8a1afb60c4c8db0e049a70c99b6548be7638b7e7dad3acfe443bc0fbf2fc1f2"), looks := false }, kinds := [], alts := [], laidByText := true, laidKinds := [.data], laidTests := true, laidLooks := .later }
def BucketCapsCardSaid : Prop := Claim7.holds Tryz.pinned (.plain (OpenSpec.ofChange bucketCapsSpec)) bucketCapsCard

/-- THE TIED CARD OF 'millracelaw8.BucketCuts'. -/
def bucketCutsCard : Claim7 := { stood := { row := bucketCutsRow, standIns := [], harness := (true, "b8a1afb60c4c8db0e049a70c99b6548be7638b7e7dad3acfe443bc0fbf2fc1f2"), looks := false }, kinds := [], alts := [], laidByText := true, laidKinds := [.data], laidTests := true, laidLooks := .later }
def BucketCutsCardSaid : Prop := Claim7.holds Tryz.pinned (.plain (OpenSpec.ofChange bucketCutsSpec)) bucketCutsCard

/-- THE TIED CARD OF 'millracelaw8.BucketWaits'. -/
def bucketWaitsCard : Claim7 := { stood := { row := bucketWaitsRow, standIns := [], harness := (true, "b8a1afb60c4c8db0e049a70c99b6548be7638b7e7dad3acfe443bc0fbf2fc1f2"), looks := false }, kinds := [], alts := [], laidByText := true, laidKinds := [.data], laidTests := true, laidLooks := .later }
def BucketWaitsCardSaid : Prop := Claim7.holds Tryz.pinned (.plain (OpenSpec.ofChange bucketWaitsSpec)) bucketWaitsCard

/-- THE TIED CARD OF 'millracelaw8.BucketRate'. -/
def bucketRateCard : Claim7 := { stood := { row := bucketRateRow, standIns := [], harness := (true, "b8a1afb60c4c8db0e049a70c99b6548be7638b7e7dad3acfe443bc0fbf2fc1f2"), looks := false }, kinds := [], alts := [], laidByText := true, laidKinds := [.data], laidTests := true, laidLooks := .later }
def BucketRateCardSaid : Prop := Claim7.holds Tryz.pinned (.plain (OpenSpec.ofChange bucketRateSpec)) bucketRateCard

/-- THE SECOND FORM's CARD OF 'millracelaw8.BucketPlays'. -/
def bucketPlaysUptoCard : Claim7 := { stood := { row := bucketPlaysUptoRow, standIns := [], harness := (true, "b8a1afb60c4c8db0e049a70c99b6548be7638b7e7dad3acfe443bc0fbf2fc1f2"), looks := false }, kinds := [], alts := [], laidByText := true, laidKinds := [.data], laidTests := true, laidLooks := .later }
def BucketPlaysUptoCardSaid : Prop := Claim7.holds Tryz.pinned (.plain (OpenSpec.upto bucketPlaysSpec)) bucketPlaysUptoCard

/-- THE SECOND FORM's CARD OF 'millracelaw8.BucketCaps'. -/
def bucketCapsUptoCard : Claim7 := { stood := { row := bucketCapsUptoRow, standIns := [], harness := (true, "b8a1afb60c4c8db0e049a70c99b6548be7638b7e7dad3acfe443bc0fbf2fc1f2"), looks := false }, kinds := [], alts := [], laidByText := true, laidKinds := [.data], laidTests := true, laidLooks := .later }
def BucketCapsUptoCardSaid : Prop := Claim7.holds Tryz.pinned (.plain (OpenSpec.upto bucketCapsSpec)) bucketCapsUptoCard

/-- THE SECOND FORM's CARD OF 'millracelaw8.BucketCuts'. -/
def bucketCutsUptoCard : Claim7 := { stood := { row := bucketCutsUptoRow, standIns := [], harness := (true, "b8a1afb60c4c8db0e049a70c99b6548be7638b7e7dad3acfe443bc0fbf2fc1f2"), looks := false }, kinds := [], alts := [], laidByText := true, laidKinds := [.data], laidTests := true, laidLooks := .later }
def BucketCutsUptoCardSaid : Prop := Claim7.holds Tryz.pinned (.plain (OpenSpec.upto bucketCutsSpec)) bucketCutsUptoCard

/-- THE SECOND FORM's CARD OF 'millracelaw8.BucketWaits'. -/
def bucketWaitsUptoCard : Claim7 := { stood := { row := bucketWaitsUptoRow, standIns := [], harness := (true, "b8a1afb60c4c8db0e049a70c99b6548be7638b7e7dad3acfe443bc0fbf2fc1f2"), looks := false }, kinds := [], alts := [], laidByText := true, laidKinds := [.data], laidTests := true, laidLooks := .later }
def BucketWaitsUptoCardSaid : Prop := Claim7.holds Tryz.pinned (.plain (OpenSpec.upto bucketWaitsSpec)) bucketWaitsUptoCard

/-- THE SECOND FORM's CARD OF 'millracelaw8.BucketRate'. -/
def bucketRateUptoCard : Claim7 := { stood := { row := bucketRateUptoRow, standIns := [], harness := (true, "b8a1afb60c4c8db0e049a70c99b6548be7638b7e7dad3acfe443bc0fbf2fc1f2"), looks := false }, kinds := [], alts := [], laidByText := true, laidKinds := [.data], laidTests := true, laidLooks := .later }
def BucketRateUptoCardSaid : Prop := Claim7.holds Tryz.pinned (.plain (OpenSpec.upto bucketRateSpec)) bucketRateUptoCard
end Rows
end Go.Proofs.YtdmkneojhnhomaaGreatDoor
