/-
  DERIVED. GIVEN WITH THE SEED: THE CARDS: each row of YtfkkomppfghagaaGreatDoorRows.lean that lists a variable, with what it lists TIED to the program's text (the seventh form; the later family's looks); each row that meets fmt, with fmt's text TOLD by the authors' own Lean function (tested against real Go, not proved from fmt's source: count such statements apart). THE CARD IS WHAT COUNTS. Prove the row's statement (the work); the ties are given (YtfkkomppfghagaaGreatDoorTie.lean); close each card by the builder's one call (the guide's Derived/Test/ToyasCard.lean, 'card_holds'). Laid BY PROGRAM, IN A SANDBOX (cutbox-door.mjs). By AI agents, Wed Nov 11 2026. No macro, syntax, notation, axiom, sorry.
-/
import Derived.Test.YtfkkomppfghagaaGreatDoorRows
import GoSem.ClaimSeven
namespace Go.Proofs.YtfkkomppfghagaaGreatDoor
namespace Rows

/-- THE TIED CARD OF 'millracelaw18.GaugePlays'. -/
def gaugePlaysCard : Claim7 := { stood := { row := gaugePlaysRow, standIns := [], harness := (true, "534b7c37a36252ccbd63161cf70d3e8b8f86b5c3afca3d6dab0d08691a637cc0"), looks := false }, kinds := [], alts := [], laidByText := true, laidKinds := [.data], laidTests := true, laidLooks := .later }
def GaugePlaysCardSaid : Prop := Claim7.holds Tryz.pinned (.plain (OpenSpec.ofChange gaugePlaysSpec)) gaugePlaysCard

/-- THE TIED CARD OF 'millracelaw18.GaugeQuantiles'. -/
def gaugeQuantilesCard : Claim7 := { stood := { row := gaugeQuantilesRow, standIns := [], harness := (true, "534b7c37a36252ccbd63161cf70d3e8b8f86b5c3afca3d6dab0d08691a637cc0"), looks := false }, kinds := [], alts := [], laidByText := true, laidKinds := [.data], laidTests := true, laidLooks := .later }
def GaugeQuantilesCardSaid : Prop := Claim7.holds Tryz.pinned (.plain (OpenSpec.ofChange gaugeQuantilesSpec)) gaugeQuantilesCard

/-- THE TIED CARD OF 'millracelaw18.GaugeRoom'. -/
def gaugeRoomCard : Claim7 := { stood := { row := gaugeRoomRow, standIns := [], harness := (true, "534b7c37a36252ccbd63161cf70d3e8b8f86b5c3afca3d6dab0d08691a637cc0"), looks := false }, kinds := [], alts := [], laidByText := true, laidKinds := [.data], laidTests := true, laidLooks := .later }
def GaugeRoomCardSaid : Prop := Claim7.holds Tryz.pinned (.plain (OpenSpec.ofChange gaugeRoomSpec)) gaugeRoomCard

/-- THE TIED CARD OF 'millracelaw18.GaugeJain'. -/
def gaugeJainCard : Claim7 := { stood := { row := gaugeJainRow, standIns := [], harness := (true, "534b7c37a36252ccbd63161cf70d3e8b8f86b5c3afca3d6dab0d08691a637cc0"), looks := false }, kinds := [], alts := [], laidByText := true, laidKinds := [.data], laidTests := true, laidLooks := .later }
def GaugeJainCardSaid : Prop := Claim7.holds Tryz.pinned (.plain (OpenSpec.ofChange gaugeJainSpec)) gaugeJainCard

/-- THE SECOND FORM's CARD OF 'millracelaw18.GaugePlays'. -/
def gaugePlaysUptoCard : Claim7 := { stood := { row := gaugePlaysUptoRow, standIns := [], harness := (true, "534b7c37a36252ccbd63161cf70d3e8b8f86b5c3afca3d6dab0d08691a637cc0"), looks := false }, kinds := [], alts := [], laidByText := true, laidKinds := [.data], laidTests := true, laidLooks := .later }
def GaugePlaysUptoCardSaid : Prop := Claim7.holds Tryz.pinned (.plain (OpenSpec.upto gaugePlaysSpec)) gaugePlaysUptoCard

/-- THE SECOND FORM's CARD OF 'millracelaw18.GaugeQuantiles'. -/
def gaugeQuantilesUptoCard : Claim7 := { stood := { row := gaugeQuantilesUptoRow, standIns := [], harness := (true, "534b7c37a36252ccbd63161cf70d3e8b8f86b5c3afca3d6dab0d08691a637cc0"), looks := false }, kinds := [], alts := [], laidByText := true, laidKinds := [.data], laidTests := true, laidLooks := .later }
def GaugeQuantilesUptoCardSaid : Prop := Claim7.holds Tryz.pinned (.plain (OpenSpec.upto gaugeQuantilesSpec)) gaugeQuantilesUptoCard

/-- THE SECOND FORM's CARD OF 'millracelaw18.GaugeRoom'. -/
def gaugeRoomUptoCard : Claim7 := { stood := { row := gaugeRoomUptoRow, standIns := [], harness := (true, "534b7c37a36252ccbd63161cf70d3e8b8f86b5c3afca3d6dab0d08691a637cc0"), looks := false }, kinds := [], alts := [], laidByText := true, laidKinds := [.data], laidTests := true, laidLooks := .later }
def GaugeRoomUptoCardSaid : Prop := Claim7.holds Tryz.pinned (.plain (OpenSpec.upto gaugeRoomSpec)) gaugeRoomUptoCard

/-- THE SECOND FORM's CARD OF 'millracelaw18.GaugeJain'. -/
def gaugeJainUptoCard : Claim7 := { stood := { row := gaugeJainUptoRow, standIns := [], harness := (true, "534b7c37a36252ccbd63161cf70d3e8b8f86b5c3afca3d6dab0d08691a637cc0"), looks := false }, kinds := [], alts := [], laidByText := true, laidKinds := [.data], laidTests := true, laidLooks := .later }
def GaugeJainUptoCardSaid : Prop := Claim7.holds Tryz.pinned (.plain (OpenSpec.upto gaugeJainSpec)) gaugeJainUptoCard
end Rows
end Go.Proofs.YtfkkomppfghagaaGreatDoor
