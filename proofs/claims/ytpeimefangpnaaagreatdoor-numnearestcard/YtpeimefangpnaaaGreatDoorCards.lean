/-
  DERIVED. GIVEN WITH THE SEED: THE CARDS: each row of YtpeimefangpnaaaGreatDoorRows.lean that lists a variable, with what it lists TIED to the program's text (the seventh form; the later family's looks); each row that meets fmt, with fmt's text TOLD by the authors' own Lean function (tested against real Go, not proved from fmt's source: count such statements apart). THE CARD IS WHAT COUNTS. Prove the row's statement (the work); the ties are given (YtpeimefangpnaaaGreatDoorTie.lean); close each card by the builder's one call (the guide's Derived/Test/ToyasCard.lean, 'card_holds'). Laid BY PROGRAM, IN A SANDBOX (cutbox-door.mjs). By AI agents, Wed Nov 11 2026. No macro, syntax, notation, axiom, sorry.
-/
import Derived.Test.YtpeimefangpnaaaGreatDoorRows
import GoSem.ClaimSeven
namespace Go.Proofs.YtpeimefangpnaaaGreatDoor
namespace Rows

/-- THE TIED CARD OF 'millracelaw3.NumFloats'. -/
def numFloatsCard : Claim7 := { stood := { row := numFloatsRow, standIns := [], harness := (true, "a62fe491b0b4db4098a3d4d8f94cf7492a7163db4426ee6e9fea710a18b0f4ee"), looks := false }, kinds := [], alts := [], laidByText := true, laidKinds := [.data], laidTests := true, laidLooks := .later }
def NumFloatsCardSaid : Prop := Claim7.holds Tryz.pinned (.plain (OpenSpec.ofChange numFloatsSpec)) numFloatsCard

/-- THE TIED CARD OF 'millracelaw3.NumNears'. -/
def numNearsCard : Claim7 := { stood := { row := numNearsRow, standIns := [], harness := (true, "a62fe491b0b4db4098a3d4d8f94cf7492a7163db4426ee6e9fea710a18b0f4ee"), looks := false }, kinds := [], alts := [], laidByText := true, laidKinds := [.data], laidTests := true, laidLooks := .later }
def NumNearsCardSaid : Prop := Claim7.holds Tryz.pinned (.plain (OpenSpec.ofChange numNearsSpec)) numNearsCard

/-- THE TIED CARD OF 'millracelaw3.NumParses'. -/
def numParsesCard : Claim7 := { stood := { row := numParsesRow, standIns := [], harness := (true, "a62fe491b0b4db4098a3d4d8f94cf7492a7163db4426ee6e9fea710a18b0f4ee"), looks := false }, kinds := [], alts := [], laidByText := true, laidKinds := [.data], laidTests := true, laidLooks := .later }
def NumParsesCardSaid : Prop := Claim7.holds Tryz.pinned (.plain (OpenSpec.ofChange numParsesSpec)) numParsesCard

/-- THE TIED CARD OF 'millracelaw3.NumTexts'. -/
def numTextsCard : Claim7 := { stood := { row := numTextsRow, standIns := [], harness := (true, "a62fe491b0b4db4098a3d4d8f94cf7492a7163db4426ee6e9fea710a18b0f4ee"), looks := false }, kinds := [], alts := [], laidByText := true, laidKinds := [.data], laidTests := true, laidLooks := .later }
def NumTextsCardSaid : Prop := Claim7.holds Tryz.pinned (.plain (OpenSpec.ofChange numTextsSpec)) numTextsCard

/-- THE TIED CARD OF 'millracelaw3.NumNearest'. -/
def numNearestCard : Claim7 := { stood := { row := numNearestRow, standIns := [], harness := (true, "a62fe491b0b4db4098a3d4d8f94cf7492a7163db4426ee6e9fea710a18b0f4ee"), looks := false }, kinds := [], alts := [], laidByText := true, laidKinds := [.data], laidTests := true, laidLooks := .later }
def NumNearestCardSaid : Prop := Claim7.holds Tryz.pinned (.plain (OpenSpec.ofChange numNearestSpec)) numNearestCard

/-- THE TIED CARD OF 'millracelaw3.NumBack'. -/
def numBackCard : Claim7 := { stood := { row := numBackRow, standIns := [], harness := (true, "a62fe491b0b4db4098a3d4d8f94cf7492a7163db4426ee6e9fea710a18b0f4ee"), looks := false }, kinds := [], alts := [], laidByText := true, laidKinds := [.data], laidTests := true, laidLooks := .later }
def NumBackCardSaid : Prop := Claim7.holds Tryz.pinned (.plain (OpenSpec.ofChange numBackSpec)) numBackCard

/-- THE SECOND FORM's CARD OF 'millracelaw3.NumFloats'. -/
def numFloatsUptoCard : Claim7 := { stood := { row := numFloatsUptoRow, standIns := [], harness := (true, "a62fe491b0b4db4098a3d4d8f94cf7492a7163db4426ee6e9fea710a18b0f4ee"), looks := false }, kinds := [], alts := [], laidByText := true, laidKinds := [.data], laidTests := true, laidLooks := .later }
def NumFloatsUptoCardSaid : Prop := Claim7.holds Tryz.pinned (.plain (OpenSpec.upto numFloatsSpec)) numFloatsUptoCard

/-- THE SECOND FORM's CARD OF 'millracelaw3.NumNears'. -/
def numNearsUptoCard : Claim7 := { stood := { row := numNearsUptoRow, standIns := [], harness := (true, "a62fe491b0b4db4098a3d4d8f94cf7492a7163db4426ee6e9fea710a18b0f4ee"), looks := false }, kinds := [], alts := [], laidByText := true, laidKinds := [.data], laidTests := true, laidLooks := .later }
def NumNearsUptoCardSaid : Prop := Claim7.holds Tryz.pinned (.plain (OpenSpec.upto numNearsSpec)) numNearsUptoCard

/-- THE SECOND FORM's CARD OF 'millracelaw3.NumParses'. -/
def numParsesUptoCard : Claim7 := { stood := { row := numParsesUptoRow, standIns := [], harness := (true, "a62fe491b0b4db4098a3d4d8f94cf7492a7163db4426ee6e9fea710a18b0f4ee"), looks := false }, kinds := [], alts := [], laidByText := true, laidKinds := [.data], laidTests := true, laidLooks := .later }
def NumParsesUptoCardSaid : Prop := Claim7.holds Tryz.pinned (.plain (OpenSpec.upto numParsesSpec)) numParsesUptoCard

/-- THE SECOND FORM's CARD OF 'millracelaw3.NumTexts'. -/
def numTextsUptoCard : Claim7 := { stood := { row := numTextsUptoRow, standIns := [], harness := (true, "a62fe491b0b4db4098a3d4d8f94cf7492a7163db4426ee6e9fea710a18b0f4ee"), looks := false }, kinds := [], alts := [], laidByText := true, laidKinds := [.data], laidTests := true, laidLooks := .later }
def NumTextsUptoCardSaid : Prop := Claim7.holds Tryz.pinned (.plain (OpenSpec.upto numTextsSpec)) numTextsUptoCard

/-- THE SECOND FORM's CARD OF 'millracelaw3.NumNearest'. -/
def numNearestUptoCard : Claim7 := { stood := { row := numNearestUptoRow, standIns := [], harness := (true, "a62fe491b0b4db4098a3d4d8f94cf7492a7163db4426ee6e9fea710a18b0f4ee"), looks := false }, kinds := [], alts := [], laidByText := true, laidKinds := [.data], laidTests := true, laidLooks := .later }
def NumNearestUptoCardSaid : Prop := Claim7.holds Tryz.pinned (.plain (OpenSpec.upto numNearestSpec)) numNearestUptoCard

/-- THE SECOND FORM's CARD OF 'millracelaw3.NumBack'. -/
def numBackUptoCard : Claim7 := { stood := { row := numBackUptoRow, standIns := [], harness := (true, "a62fe491b0b4db4098a3d4d8f94cf7492a7163db4426ee6e9fea710a18b0f4ee"), looks := false }, kinds := [], alts := [], laidByText := true, laidKinds := [.data], laidTests := true, laidLooks := .later }
def NumBackUptoCardSaid : Prop := Claim7.holds Tryz.pinned (.plain (OpenSpec.upto numBackSpec)) numBackUptoCard
end Rows
end Go.Proofs.YtpeimefangpnaaaGreatDoor
