/-
  DERIVED. GIVEN WITH THE SEED: THE CARDS: each row of YtfgddhabepllfaaDoorRows.lean that lists a variable, with what it lists TIED to the program's text (the seventh form; the later family's looks); each row that meets fmt, with fmt's text TOLD by the authors' own Lean function (tested against real Go, not proved from fmt's source: count such statements apart). THE CARD IS WHAT COUNTS. Prove the row's statement (the work); the ties are given (YtfgddhabepllfaaDoorTie.lean); close each card by the builder's one call (the guide's Derived/Test/ToyasCard.lean, 'card_holds'). Laid BY PROGRAM, IN A SANDBOX (cutbox-door.mjs). By AI agents, Wed Nov 11 2026. No macro, syntax, notation, axiom, sorry.
-/
import Derived.Test.YtfgddhabepllfaaDoorRows
import GoSem.ClaimSeven
namespace Go.Proofs.YtfgddhabepllfaaDoor
namespace Rows

/-- THE TIED CARD OF 'counterpanelaw09.ShapeMakes'. -/
def shapeMakesCard : Claim7 := { stood := { row := shapeMakesRow, standIns := [], harness := (true, "859043d13adf14d6b735aae92f8eb2f47181549a6cab9c7d49dff3b47832afc1"), looks := false }, kinds := [], alts := [], laidByText := true, laidKinds := [.data], laidTests := true, laidLooks := .later }
def ShapeMakesCardSaid : Prop := Claim7.holds Tryd.pinned (.plain (OpenSpec.ofChange shapeMakesSpec)) shapeMakesCard

/-- THE TIED CARD OF 'counterpanelaw09.ShapePlaces'. -/
def shapePlacesCard : Claim7 := { stood := { row := shapePlacesRow, standIns := [], harness := (true, "859043d13adf14d6b735aae92f8eb2f47181549a6cab9c7d49dff3b47832afc1"), looks := false }, kinds := [], alts := [], laidByText := true, laidKinds := [.data], laidTests := true, laidLooks := .later }
def ShapePlacesCardSaid : Prop := Claim7.holds Tryd.pinned (.plain (OpenSpec.ofChange shapePlacesSpec)) shapePlacesCard

/-- THE TIED CARD OF 'counterpanelaw09.ShapeJoins'. -/
def shapeJoinsCard : Claim7 := { stood := { row := shapeJoinsRow, standIns := [], harness := (true, "859043d13adf14d6b735aae92f8eb2f47181549a6cab9c7d49dff3b47832afc1"), looks := false }, kinds := [], alts := [], laidByText := true, laidKinds := [.data], laidTests := true, laidLooks := .later }
def ShapeJoinsCardSaid : Prop := Claim7.holds Tryd.pinned (.plain (OpenSpec.ofChange shapeJoinsSpec)) shapeJoinsCard

/-- THE TIED CARD OF 'counterpanelaw09.ShapeParts'. -/
def shapePartsCard : Claim7 := { stood := { row := shapePartsRow, standIns := [], harness := (true, "859043d13adf14d6b735aae92f8eb2f47181549a6cab9c7d49dff3b47832afc1"), looks := false }, kinds := [], alts := [], laidByText := true, laidKinds := [.data], laidTests := true, laidLooks := .later }
def ShapePartsCardSaid : Prop := Claim7.holds Tryd.pinned (.plain (OpenSpec.ofChange shapePartsSpec)) shapePartsCard

/-- THE TIED CARD OF 'counterpanelaw09.ShapeEach'. -/
def shapeEachCard : Claim7 := { stood := { row := shapeEachRow, standIns := [], harness := (true, "859043d13adf14d6b735aae92f8eb2f47181549a6cab9c7d49dff3b47832afc1"), looks := false }, kinds := [], alts := [], laidByText := true, laidKinds := [.data], laidTests := true, laidLooks := .later }
def ShapeEachCardSaid : Prop := Claim7.holds Tryd.pinned (.plain (OpenSpec.ofChange shapeEachSpec)) shapeEachCard

/-- THE TIED CARD OF 'counterpanelaw09.ShapeBoth'. -/
def shapeBothCard : Claim7 := { stood := { row := shapeBothRow, standIns := [], harness := (true, "859043d13adf14d6b735aae92f8eb2f47181549a6cab9c7d49dff3b47832afc1"), looks := false }, kinds := [], alts := [], laidByText := true, laidKinds := [.data], laidTests := true, laidLooks := .later }
def ShapeBothCardSaid : Prop := Claim7.holds Tryd.pinned (.plain (OpenSpec.ofChange shapeBothSpec)) shapeBothCard

/-- THE TIED CARD OF 'counterpanelaw09.ShapeNil'. -/
def shapeNilCard : Claim7 := { stood := { row := shapeNilRow, standIns := [], harness := (true, "859043d13adf14d6b735aae92f8eb2f47181549a6cab9c7d49dff3b47832afc1"), looks := false }, kinds := [], alts := [], laidByText := true, laidKinds := [.data], laidTests := true, laidLooks := .later }
def ShapeNilCardSaid : Prop := Claim7.holds Tryd.pinned (.plain (OpenSpec.ofChange shapeNilSpec)) shapeNilCard

/-- THE TIED CARD OF 'counterpanelaw09.ShapeThree'. -/
def shapeThreeCard : Claim7 := { stood := { row := shapeThreeRow, standIns := [], harness := (true, "859043d13adf14d6b735aae92f8eb2f47181549a6cab9c7d49dff3b47832afc1"), looks := false }, kinds := [], alts := [], laidByText := true, laidKinds := [.data], laidTests := true, laidLooks := .later }
def ShapeThreeCardSaid : Prop := Claim7.holds Tryd.pinned (.plain (OpenSpec.ofChange shapeThreeSpec)) shapeThreeCard

/-- THE TIED CARD OF 'counterpanelaw09.ShapeSwaps'. -/
def shapeSwapsCard : Claim7 := { stood := { row := shapeSwapsRow, standIns := [], harness := (true, "859043d13adf14d6b735aae92f8eb2f47181549a6cab9c7d49dff3b47832afc1"), looks := false }, kinds := [], alts := [], laidByText := true, laidKinds := [.data], laidTests := true, laidLooks := .later }
def ShapeSwapsCardSaid : Prop := Claim7.holds Tryd.pinned (.plain (OpenSpec.ofChange shapeSwapsSpec)) shapeSwapsCard

/-- THE SECOND FORM's CARD OF 'counterpanelaw09.ShapeMakes'. -/
def shapeMakesUptoCard : Claim7 := { stood := { row := shapeMakesUptoRow, standIns := [], harness := (true, "859043d13adf14d6b735aae92f8eb2f47181549a6cab9c7d49dff3b47832afc1"), looks := false }, kinds := [], alts := [], laidByText := true, laidKinds := [.data], laidTests := true, laidLooks := .later }
def ShapeMakesUptoCardSaid : Prop := Claim7.holds Tryd.pinned (.plain (OpenSpec.upto shapeMakesSpec)) shapeMakesUptoCard

/-- THE SECOND FORM's CARD OF 'counterpanelaw09.ShapePlaces'. -/
def shapePlacesUptoCard : Claim7 := { stood := { row := shapePlacesUptoRow, standIns := [], harness := (true, "859043d13adf14d6b735aae92f8eb2f47181549a6cab9c7d49dff3b47832afc1"), looks := false }, kinds := [], alts := [], laidByText := true, laidKinds := [.data], laidTests := true, laidLooks := .later }
def ShapePlacesUptoCardSaid : Prop := Claim7.holds Tryd.pinned (.plain (OpenSpec.upto shapePlacesSpec)) shapePlacesUptoCard

/-- THE SECOND FORM's CARD OF 'counterpanelaw09.ShapeJoins'. -/
def shapeJoinsUptoCard : Claim7 := { stood := { row := shapeJoinsUptoRow, standIns := [], harness := (true, "859043d13adf14d6b735aae92f8eb2f47181549a6cab9c7d49dff3b47832afc1"), looks := false }, kinds := [], alts := [], laidByText := true, laidKinds := [.data], laidTests := true, laidLooks := .later }
def ShapeJoinsUptoCardSaid : Prop := Claim7.holds Tryd.pinned (.plain (OpenSpec.upto shapeJoinsSpec)) shapeJoinsUptoCard

/-- THE SECOND FORM's CARD OF 'counterpanelaw09.ShapeParts'. -/
def shapePartsUptoCard : Claim7 := { stood := { row := shapePartsUptoRow, standIns := [], harness := (true, "859043d13adf14d6b735aae92f8eb2f47181549a6cab9c7d49dff3b47832afc1"), looks := false }, kinds := [], alts := [], laidByText := true, laidKinds := [.data], laidTests := true, laidLooks := .later }
def ShapePartsUptoCardSaid : Prop := Claim7.holds Tryd.pinned (.plain (OpenSpec.upto shapePartsSpec)) shapePartsUptoCard

/-- THE SECOND FORM's CARD OF 'counterpanelaw09.ShapeEach'. -/
def shapeEachUptoCard : Claim7 := { stood := { row := shapeEachUptoRow, standIns := [], harness := (true, "859043d13adf14d6b735aae92f8eb2f47181549a6cab9c7d49dff3b47832afc1"), looks := false }, kinds := [], alts := [], laidByText := true, laidKinds := [.data], laidTests := true, laidLooks := .later }
def ShapeEachUptoCardSaid : Prop := Claim7.holds Tryd.pinned (.plain (OpenSpec.upto shapeEachSpec)) shapeEachUptoCard

/-- THE SECOND FORM's CARD OF 'counterpanelaw09.ShapeBoth'. -/
def shapeBothUptoCard : Claim7 := { stood := { row := shapeBothUptoRow, standIns := [], harness := (true, "859043d13adf14d6b735aae92f8eb2f47181549a6cab9c7d49dff3b47832afc1"), looks := false }, kinds := [], alts := [], laidByText := true, laidKinds := [.data], laidTests := true, laidLooks := .later }
def ShapeBothUptoCardSaid : Prop := Claim7.holds Tryd.pinned (.plain (OpenSpec.upto shapeBothSpec)) shapeBothUptoCard

/-- THE SECOND FORM's CARD OF 'counterpanelaw09.ShapeNil'. -/
def shapeNilUptoCard : Claim7 := { stood := { row := shapeNilUptoRow, standIns := [], harness := (true, "859043d13adf14d6b735aae92f8eb2f47181549a6cab9c7d49dff3b47832afc1"), looks := false }, kinds := [], alts := [], laidByText := true, laidKinds := [.data], laidTests := true, laidLooks := .later }
def ShapeNilUptoCardSaid : Prop := Claim7.holds Tryd.pinned (.plain (OpenSpec.upto shapeNilSpec)) shapeNilUptoCard

/-- THE SECOND FORM's CARD OF 'counterpanelaw09.ShapeThree'. -/
def shapeThreeUptoCard : Claim7 := { stood := { row := shapeThreeUptoRow, standIns := [], harness := (true, "859043d13adf14d6b735aae92f8eb2f47181549a6cab9c7d49dff3b47832afc1"), looks := false }, kinds := [], alts := [], laidByText := true, laidKinds := [.data], laidTests := true, laidLooks := .later }
def ShapeThreeUptoCardSaid : Prop := Claim7.holds Tryd.pinned (.plain (OpenSpec.upto shapeThreeSpec)) shapeThreeUptoCard

/-- THE SECOND FORM's CARD OF 'counterpanelaw09.ShapeSwaps'. -/
def shapeSwapsUptoCard : Claim7 := { stood := { row := shapeSwapsUptoRow, standIns := [], harness := (true, "859043d13adf14d6b735aae92f8eb2f47181549a6cab9c7d49dff3b47832afc1"), looks := false }, kinds := [], alts := [], laidByText := true, laidKinds := [.data], laidTests := true, laidLooks := .later }
def ShapeSwapsUptoCardSaid : Prop := Claim7.holds Tryd.pinned (.plain (OpenSpec.upto shapeSwapsSpec)) shapeSwapsUptoCard
end Rows
end Go.Proofs.YtfgddhabepllfaaDoor
