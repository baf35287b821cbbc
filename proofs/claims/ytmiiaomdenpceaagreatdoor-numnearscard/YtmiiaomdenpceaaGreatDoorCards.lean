/-
  DERIVED. GIVEN WITH THE SEED: THE CARDS: each row of YtmiiaomdenpceaaGreatDoorRows.lean that lists a variable, with what it lists TIED to the program's text (the seventh form; the later family's looks); each row that meets fmt, with fmt's text TOLD by the authors' own Lean function (tested against real Go, not proved from fmt's source: count such statements apart). THE CARD IS WHAT COUNTS. Prove the row's statement (the work); the ties are given (YtmiiaomdenpceaaGreatDoorTie.lean); close each card by the builder's one call (the guide's Derived/Test/ToyasCard.lean, 'card_holds'). Laid BY PROGRAM, IN A SANDBOX (cutbox-door.mjs). By AI agents, Wed Nov 11 2026. No macro, syntax, notation, axiom, sorry.
-/
import Derived.Test.YtmiiaomdenpceaaGreatDoorRows
import GoSem.ClaimSeven
namespace Go.Proofs.YtmiiaomdenpceaaGreatDoor
namespace Rows

/-- THE TIED CARD OF 'millracelaw3.NumNears'. -/
def numNearsCard : Claim7 := { stood := { row := numNearsRow, standIns := [], harness := (true, "bf2d33fa5362ca8e8e74d483cdd7a1a7f3faf3e4ad770709b9da15caedd8652c"), looks := false }, kinds := [], alts := [], laidByText := true, laidKinds := [.data], laidTests := true, laidLooks := .later }
def NumNearsCardSaid : Prop := Claim7.holds Tryz.pinned (.plain (OpenSpec.ofChange numNearsSpec)) numNearsCard

/-- THE TIED CARD OF 'millracelaw3.NumTexts'. -/
def numTextsCard : Claim7 := { stood := { row := numTextsRow, standIns := [], harness := (true, "bf2d33fa5362ca8e8e74d483cdd7a1a7f3faf3e4ad770709b9da15caedd8652c"), looks := false }, kinds := [], alts := [], laidByText := true, laidKinds := [.data], laidTests := true, laidLooks := .later }
def NumTextsCardSaid : Prop := Claim7.holds Tryz.pinned (.plain (OpenSpec.ofChange numTextsSpec)) numTextsCard

/-- THE TIED CARD OF 'millracelaw3.NumNearest'. -/
def numNearestCard : Claim7 := { stood := { row := numNearestRow, standIns := [], harness := (true, "bf2d33fa5362ca8e8e74d483cdd7a1a7f3faf3e4ad770709b9da15caedd8652c"), looks := false }, kinds := [], alts := [], laidByText := true, laidKinds := [.data], laidTests := true, laidLooks := .later }
def NumNearestCardSaid : Prop := Claim7.holds Tryz.pinned (.plain (OpenSpec.ofChange numNearestSpec)) numNearestCard

/-- THE TIED CARD OF 'millracelaw3.NumBack'. -/
def numBackCard : Claim7 := { stood := { row := numBackRow, standIns := [], harness := (true, "bf2d33fa5362ca8e8e74d483cdd7a1a7f3faf3e4ad770709b9da15caedd8652c"), looks := false }, kinds := [], alts := [], laidByText := true, laidKinds := [.data], laidTests := true, laidLooks := .later }
def NumBackCardSaid : Prop := Claim7.holds Tryz.pinned (.plain (OpenSpec.ofChange numBackSpec)) numBackCard

/-- THE TIED CARD OF 'millracelaw3.NumRises'. -/
def numRisesCard : Claim7 := { stood := { row := numRisesRow, standIns := [], harness := (true, "bf2d33fa5362ca8e8e74d483cdd7a1a7f3faf3e4ad770709b9da15caedd8652c"), looks := false }, kinds := [], alts := [], laidByText := true, laidKinds := [.data], laidTests := true, laidLooks := .later }
def NumRisesCardSaid : Prop := Claim7.holds Tryz.pinned (.plain (OpenSpec.ofChange numRisesSpec)) numRisesCard

/-- THE SECOND FORM's CARD OF 'millracelaw3.NumNears'. -/
def numNearsUptoCard : Claim7 := { stood := { row := numNearsUptoRow, standIns := [], harness := (true, "bf2d33fa5362ca8e8e74d483cdd7a1a7f3faf3e4ad770709b9da15caedd8652c"), looks := false }, kinds := [], alts := [], laidByText := true, laidKinds := [.data], laidTests := true, laidLooks := .later }
def NumNearsUptoCardSaid : Prop := Claim7.holds Tryz.pinned (.plain (OpenSpec.upto numNearsSpec)) numNearsUptoCard

/-- THE SECOND FORM's CARD OF 'millracelaw3.NumTexts'. -/
def numTextsUptoCard : Claim7 := { stood := { row := numTextsUptoRow, standIns := [], harness := (true, "bf2d33fa5362ca8e8e74d483cdd7a1a7f3faf3e4ad770709b9da15caedd8652c"), looks := false }, kinds := [], alts := [], laidByText := true, laidKinds := [.data], laidTests := true, laidLooks := .later }
def NumTextsUptoCardSaid : Prop := Claim7.holds Tryz.pinned (.plain (OpenSpec.upto numTextsSpec)) numTextsUptoCard

/-- THE SECOND FORM's CARD OF 'millracelaw3.NumNearest'. -/
def numNearestUptoCard : Claim7 := { stood := { row := numNearestUptoRow, standIns := [], harness := (true, "bf2d33fa5362ca8e8e74d483cdd7a1a7f3faf3e4ad770709b9da15caedd8652c"), looks := false }, kinds := [], alts := [], laidByText := true, laidKinds := [.data], laidTests := true, laidLooks := .later }
def NumNearestUptoCardSaid : Prop := Claim7.holds Tryz.pinned (.plain (OpenSpec.upto numNearestSpec)) numNearestUptoCard

/-- THE SECOND FORM's CARD OF 'millracelaw3.NumBack'. -/
def numBackUptoCard : Claim7 := { stood := { row := numBackUptoRow, standIns := [], harness := (true, "bf2d33fa5362ca8e8e74d483cdd7a1a7f3faf3e4ad770709b9da15caedd8652c"), looks := false }, kinds := [], alts := [], laidByText := true, laidKinds := [.data], laidTests := true, laidLooks := .later }
def NumBackUptoCardSaid : Prop := Claim7.holds Tryz.pinned (.plain (OpenSpec.upto numBackSpec)) numBackUptoCard

/-- THE SECOND FORM's CARD OF 'millracelaw3.NumRises'. -/
def numRisesUptoCard : Claim7 := { stood := { row := numRisesUptoRow, standIns := [], harness := (true, "bf2d33fa5362ca8e8e74d483cdd7a1a7f3faf3e4ad770709b9da15caedd8652c"), looks := false }, kinds := [], alts := [], laidByText := true, laidKinds := [.data], laidTests := true, laidLooks := .later }
def NumRisesUptoCardSaid : Prop := Claim7.holds Tryz.pinned (.plain (OpenSpec.upto numRisesSpec)) numRisesUptoCard
end Rows
end Go.Proofs.YtmiiaomdenpceaaGreatDoor
