/-
  DERIVED. GIVEN WITH THE SEED: THE CARDS: each row of YtcbjkgphpnihiaaGreatDoorRows.lean that lists a variable, with what it lists TIED to the program's text (the seventh form; the later family's looks); each row that meets fmt, with fmt's text TOLD by the authors' own Lean function (tested against real Go, not proved from fmt's source: count such statements apart). THE CARD IS WHAT COUNTS. Prove the row's statement (the work); the ties are given (YtcbjkgphpnihiaaGreatDoorTie.lean); close each card by the builder's one call (the guide's Derived/Test/ToyasCard.lean, 'card_holds'). Laid BY PROGRAM, IN A SANDBOX (cutbox-door.mjs). By AI agents, Wed Nov 11 2026. No macro, syntax, notation, axiom, sorry.
-/
import Derived.Test.YtcbjkgphpnihiaaGreatDoorRows
import GoSem.ClaimSeven
namespace Go.Proofs.YtcbjkgphpnihiaaGreatDoor
namespace Rows

/-- THE TIED CARD OF 'millracelaw2.RatPlays'. -/
def ratPlaysCard : Claim7 := { stood := { row := ratPlaysRow, standIns := [], harness := (true, "e3f0c936a11036c44b24acbe45a459d76f25a2a17244a427eeba5a10e7660f09"), looks := false }, kinds := [], alts := [], laidByText := true, laidKinds := [.data], laidTests := true, laidLooks := .later }
def RatPlaysCardSaid : Prop := Claim7.holds Tryz.pinned (.plain (OpenSpec.ofChange ratPlaysSpec)) ratPlaysCard

/-- THE SECOND FORM's CARD OF 'millracelaw2.RatPlays'. -/
def ratPlaysUptoCard : Claim7 := { stood := { row := ratPlaysUptoRow, standIns := [], harness := (true, "e3f0c936a11036c44b24acbe45a459d76f25a2a17244a427eeba5a10e7660f09"), looks := false }, kinds := [], alts := [], laidByText := true, laidKinds := [.data], laidTests := true, laidLooks := .later }
def RatPlaysUptoCardSaid : Prop := Claim7.holds Tryz.pinned (.plain (OpenSpec.upto ratPlaysSpec)) ratPlaysUptoCard
end Rows
end Go.Proofs.YtcbjkgphpnihiaaGreatDoor
