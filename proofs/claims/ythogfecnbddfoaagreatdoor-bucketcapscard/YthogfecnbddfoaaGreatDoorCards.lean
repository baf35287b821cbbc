/-
  DERIVED. GIVEN WITH THE SEED: THE CARDS: each row of YthogfecnbddfoaaGreatDoorRows.lean that lists a variable, with what it lists TIED to the program's text (the seventh form; the later family's looks); each row that meets fmt, with fmt's text TOLD by the authors' own Lean function (tested against real Go, not proved from fmt's source: count such statements apart). THE CARD IS WHAT COUNTS. Prove the row's statement (the work); the ties are given (YthogfecnbddfoaaGreatDoorTie.lean); close each card by the builder's one call (the guide's Derived/Test/ToyasCard.lean, 'card_holds'). Laid BY PROGRAM, IN A SANDBOX (cutbox-door.mjs). By AI agents, Wed Nov 11 2026. No macro, syntax, notation, axiom, sorry.
-/
import Derived.Test.YthogfecnbddfoaaGreatDoorRows
import GoSem.ClaimSeven
namespace Go.Proofs.YthogfecnbddfoaaGreatDoor
namespace Rows

/-- THE TIED CARD OF 'millracelaw8.BucketCaps'. -/
def bucketCapsCard : Claim7 := { stood := { row := bucketCapsRow, standIns := [], harness := (true, "55efce13e998650b5d6abb5144118260a9d8358d2b8fa6b2c8e5d239c1a4277a"), looks := false }, kinds := [], alts := [], laidByText := true, laidKinds := [.data], laidTests := true, laidLooks := .later }
def BucketCapsCardSaid : Prop := Claim7.holds Tryz.pinned (.plain (OpenSpec.ofChange bucketCapsSpec)) bucketCapsCard

/-- THE SECOND FORM's CARD OF 'millracelaw8.BucketCaps'. -/
def bucketCapsUptoCard : Claim7 := { stood := { row := bucketCapsUptoRow, standIns := [], harness := (true, "55efce13e998650b5d6abb5144118260a9d8358d2b8fa6b2c8e5d239c1a4277a"), looks := false }, kinds := [], alts := [], laidByText := true, laidKinds := [.data], laidTests := true, laidLooks := .later }
def BucketCapsUptoCardSaid : Prop := Claim7.holds Tryz.pinned (.plain (OpenSpec.upto bucketCapsSpec)) bucketCapsUptoCard
end Rows
end Go.Proofs.YthogfecnbddfoaaGreatDoor
