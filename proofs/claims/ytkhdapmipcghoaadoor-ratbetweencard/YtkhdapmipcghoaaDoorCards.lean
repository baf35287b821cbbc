/-
  DERIVED. GIVEN WITH THE SEED: THE CARDS: each row of YtkhdapmipcghoaaDoorRows.lean that lists a variable, with what it lists TIED to the program's text (the seventh form; the later family's looks); each row that meets fmt, with fmt's text TOLD by the authors' own Lean function (tested against real Go, not proved from fmt's source: count such statements apart). THE CARD IS WHAT COUNTS. Prove the row's statement (the work); the ties are given (YtkhdapmipcghoaaDoorTie.lean); close each card by the builder's one call (the guide's Derived/Test/ToyasCard.lean, 'card_holds'). Laid BY PROGRAM, IN A SANDBOX (cutbox-door.mjs). By AI agents, Wed Nov 11 2026. No macro, syntax, notation, axiom, sorry.
-/
import Derived.Test.YtkhdapmipcghoaaDoorRows
import GoSem.ClaimSeven
namespace Go.Proofs.YtkhdapmipcghoaaDoor
namespace Rows

/-- THE TIED CARD OF 'millracelaw2.RatMakes'. -/
def ratMakesCard : Claim7 := { stood := { row := ratMakesRow, standIns := [], harness := (true, "7e90644d25f96ac2fe733af85ea0bd980fc719be2230011a94a6965e9132d5e5"), looks := false }, kinds := [], alts := [], laidByText := true, laidKinds := [.data], laidTests := true, laidLooks := .later }
def RatMakesCardSaid : Prop := Claim7.holds Tryd.pinned (.plain (OpenSpec.ofChange ratMakesSpec)) ratMakesCard

/-- THE TIED CARD OF 'millracelaw2.RatLaws'. -/
def ratLawsCard : Claim7 := { stood := { row := ratLawsRow, standIns := [], harness := (true, "7e90644d25f96ac2fe733af85ea0bd980fc719be2230011a94a6965e9132d5e5"), looks := false }, kinds := [], alts := [], laidByText := true, laidKinds := [.data], laidTests := true, laidLooks := .later }
def RatLawsCardSaid : Prop := Claim7.holds Tryd.pinned (.plain (OpenSpec.ofChange ratLawsSpec)) ratLawsCard

/-- THE TIED CARD OF 'millracelaw2.RatForm'. -/
def ratFormCard : Claim7 := { stood := { row := ratFormRow, standIns := [], harness := (true, "7e90644d25f96ac2fe733af85ea0bd980fc719be2230011a94a6965e9132d5e5"), looks := false }, kinds := [], alts := [], laidByText := true, laidKinds := [.data], laidTests := true, laidLooks := .later }
def RatFormCardSaid : Prop := Claim7.holds Tryd.pinned (.plain (OpenSpec.ofChange ratFormSpec)) ratFormCard

/-- THE TIED CARD OF 'millracelaw2.RatBetween'. -/
def ratBetweenCard : Claim7 := { stood := { row := ratBetweenRow, standIns := [], harness := (true, "7e90644d25f96ac2fe733af85ea0bd980fc719be2230011a94a6965e9132d5e5"), looks := false }, kinds := [], alts := [], laidByText := true, laidKinds := [.data], laidTests := true, laidLooks := .later }
def RatBetweenCardSaid : Prop := Claim7.holds Tryd.pinned (.plain (OpenSpec.ofChange ratBetweenSpec)) ratBetweenCard

/-- THE TIED CARD OF 'millracelaw2.RatKept'. -/
def ratKeptCard : Claim7 := { stood := { row := ratKeptRow, standIns := [], harness := (true, "7e90644d25f96ac2fe733af85ea0bd980fc719be2230011a94a6965e9132d5e5"), looks := false }, kinds := [], alts := [], laidByText := true, laidKinds := [.data], laidTests := true, laidLooks := .later }
def RatKeptCardSaid : Prop := Claim7.holds Tryd.pinned (.plain (OpenSpec.ofChange ratKeptSpec)) ratKeptCard

/-- THE SECOND FORM's CARD OF 'millracelaw2.RatMakes'. -/
def ratMakesUptoCard : Claim7 := { stood := { row := ratMakesUptoRow, standIns := [], harness := (true, "7e90644d25f96ac2fe733af85ea0bd980fc719be2230011a94a6965e9132d5e5"), looks := false }, kinds := [], alts := [], laidByText := true, laidKinds := [.data], laidTests := true, laidLooks := .later }
def RatMakesUptoCardSaid : Prop := Claim7.holds Tryd.pinned (.plain (OpenSpec.upto ratMakesSpec)) ratMakesUptoCard

/-- THE SECOND FORM's CARD OF 'millracelaw2.RatLaws'. -/
def ratLawsUptoCard : Claim7 := { stood := { row := ratLawsUptoRow, standIns := [], harness := (true, "7e90644d25f96ac2fe733af85ea0bd980fc719be2230011a94a6965e9132d5e5"), looks := false }, kinds := [], alts := [], laidByText := true, laidKinds := [.data], laidTests := true, laidLooks := .later }
def RatLawsUptoCardSaid : Prop := Claim7.holds Tryd.pinned (.plain (OpenSpec.upto ratLawsSpec)) ratLawsUptoCard

/-- THE SECOND FORM's CARD OF 'millracelaw2.RatForm'. -/
def ratFormUptoCard : Claim7 := { stood := { row := ratFormUptoRow, standIns := [], harness := (true, "7e90644d25f96ac2fe733af85ea0bd980fc719be2230011a94a6965e9132d5e5"), looks := false }, kinds := [], alts := [], laidByText := true, laidKinds := [.data], laidTests := true, laidLooks := .later }
def RatFormUptoCardSaid : Prop := Claim7.holds Tryd.pinned (.plain (OpenSpec.upto ratFormSpec)) ratFormUptoCard

/-- THE SECOND FORM's CARD OF 'millracelaw2.RatBetween'. -/
def ratBetweenUptoCard : Claim7 := { stood := { row := ratBetweenUptoRow, standIns := [], harness := (true, "7e90644d25f96ac2fe733af85ea0bd980fc719be2230011a94a6965e9132d5e5"), looks := false }, kinds := [], alts := [], laidByText := true, laidKinds := [.data], laidTests := true, laidLooks := .later }
def RatBetweenUptoCardSaid : Prop := Claim7.holds Tryd.pinned (.plain (OpenSpec.upto ratBetweenSpec)) ratBetweenUptoCard

/-- THE SECOND FORM's CARD OF 'millracelaw2.RatKept'. -/
def ratKeptUptoCard : Claim7 := { stood := { row := ratKeptUptoRow, standIns := [], harness := (true, "7e90644d25f96ac2fe733af85ea0bd980fc719be2230011a94a6965e9132d5e5"), looks := false }, kinds := [], alts := [], laidByText := true, laidKinds := [.data], laidTests := true, laidLooks := .later }
def RatKeptUptoCardSaid : Prop := Claim7.holds Tryd.pinned (.plain (OpenSpec.upto ratKeptSpec)) ratKeptUptoCard
end Rows
end Go.Proofs.YtkhdapmipcghoaaDoor
