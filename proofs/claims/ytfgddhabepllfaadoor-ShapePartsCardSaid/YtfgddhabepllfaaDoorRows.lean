/-
  NARROWER THAN 'FOR EVERY INPUT', by the rows' own cells (each row's printed sentence says how): ShapeMakes: laid · ShapePlaces: laid · ShapeJoins: laid · ShapeParts: laid · ShapeEach: laid · ShapeBoth: laid · ShapeNil: laid · ShapeThree: laid · ShapeSwaps: laid.
  DERIVED. THE GIVEN ROWS OF THIS SEAT. 9 by the template 'for every input the law returns true; each argument reads behind the call as it read before'; 0 by the template 'total and deterministic' (their statements: YtfgddhabepllfaaDoorTotals.lean).
  GIVEN WITH THE SEED: the statements are not yours to turn. If you find one false, say at which input.
  Laid BY PROGRAM, IN A SANDBOX (cutbox-rows.mjs): the forced cells as the released guide's own fill.sh prints them over the translation 60948ad0828d4fd9… (all of the seat's roots in one cut). By AI agents, Wed Nov 11 2026. No macro, syntax, notation, axiom, sorry.
-/
import Derived.Test.YtfgddhabepllfaaDoorChecked
import GoSem.Claim
import GoSem.ClaimJoined
import GoSem.ClaimMapViews
import Derived.JoinedTies
import Derived.KernelRfl
namespace Go.Proofs.YtfgddhabepllfaaDoor
/- THE CELL 'sum', in the pinned program and in every row, IS THE sha256 OF THE DUMP (.gsa) THAT YtfgddhabepllfaaDoorProg.lean LOADS. Nothing in Lean hashes anything: it is a label: what it is worth is what the hold of that sum in a sandbox is worth. -/
noncomputable def Tryd.pinned : Pinned := { name := "ytfgddhabepllfaadoor", sum := "60948ad0828d4fd95f12fa144d2145a92f442294b4ed06ff7a258f453c48366e", checked := Tryd.checked }
namespace Rows
def none {H : Type} : Left H := { results := [], args := [] }

/- WHAT THE LISTED PACKAGE-LEVEL VARIABLES READ AS WHEN THE CALL BEGINS. Each datum BY PROGRAM (the guide's laid-datum.mjs) off the statement by which the dump's own 'gosem.cut.vars' lays the variable. In a bare row this is a premise. The card (YtfgddhabepllfaaDoorCards.lean) ties it to the program's text. -/
def laid_counterpane_value_faultTexts {H : Type} : DataW H := .agg [.lit (.string []), .lit (.string [35, 68, 73, 86, 47, 48, 33]), .lit (.string [35, 86, 65, 76, 85, 69, 33]), .lit (.string [35, 82, 69, 70, 33]), .lit (.string [35, 78, 65, 77, 69, 63]), .lit (.string [35, 78, 85, 77, 33]), .lit (.string [35, 78, 47, 65]), .lit (.string [35, 83, 80, 73, 76, 76, 33]), .lit (.string [35, 67, 73, 82, 67, 33]), .lit (.string [35, 67, 65, 76, 67, 33])]

/-- 'counterpanelaw09.ShapeMakes': WHATEVER THE INPUT: true; the input reads as it did. -/
def shapeMakesSpec : ChangeSpec := { name := "shapeMakes", fn := fun _ => fun
  | [d1, d2, d3] => { results := [.lit (.bool true)], args := [d1, d2, d3] }
  | _ => none }
def shapeMakesRow : OpenClaim := { program := "ytfgddhabepllfaadoor", sum := "60948ad0828d4fd95f12fa144d2145a92f442294b4ed06ff7a258f453c48366e", func := "counterpane/counterpanelaw09.ShapeMakes", spec := "shapeMakes", unfollowed := true, recurses := true, named := ["counterpane/value.faultTexts"], apart := false, laid := [("counterpane/value.faultTexts", laid_counterpane_value_faultTexts)] }
def ShapeMakesSaid : Prop := shapeMakesRow.holds Tryd.pinned (OpenSpec.ofChange shapeMakesSpec)

/-- ITS FALSE NEIGHBOUR: 'it returns false'. Refute it at one input. -/
def shapeMakesWrong : ChangeSpec := { name := "shapeMakes", fn := fun _ => fun
  | [d1, d2, d3] => { results := [.lit (.bool false)], args := [d1, d2, d3] }
  | _ => none }
def ShapeMakesWrongFalsely : Prop := shapeMakesRow.holds Tryd.pinned (OpenSpec.ofChange shapeMakesWrong)

/-- 'counterpanelaw09.ShapePlaces': WHATEVER THE INPUT: true; the input reads as it did. -/
def shapePlacesSpec : ChangeSpec := { name := "shapePlaces", fn := fun _ => fun
  | [d1, d2, d3] => { results := [.lit (.bool true)], args := [d1, d2, d3] }
  | _ => none }
def shapePlacesRow : OpenClaim := { program := "ytfgddhabepllfaadoor", sum := "60948ad0828d4fd95f12fa144d2145a92f442294b4ed06ff7a258f453c48366e", func := "counterpane/counterpanelaw09.ShapePlaces", spec := "shapePlaces", unfollowed := true, recurses := true, named := ["counterpane/value.faultTexts"], apart := false, laid := [("counterpane/value.faultTexts", laid_counterpane_value_faultTexts)] }
def ShapePlacesSaid : Prop := shapePlacesRow.holds Tryd.pinned (OpenSpec.ofChange shapePlacesSpec)

/-- ITS FALSE NEIGHBOUR: 'it returns false'. Refute it at one input. -/
def shapePlacesWrong : ChangeSpec := { name := "shapePlaces", fn := fun _ => fun
  | [d1, d2, d3] => { results := [.lit (.bool false)], args := [d1, d2, d3] }
  | _ => none }
def ShapePlacesWrongFalsely : Prop := shapePlacesRow.holds Tryd.pinned (OpenSpec.ofChange shapePlacesWrong)

/-- 'counterpanelaw09.ShapeJoins': WHATEVER THE INPUT: true; the input reads as it did. -/
def shapeJoinsSpec : ChangeSpec := { name := "shapeJoins", fn := fun _ => fun
  | [d1, d2] => { results := [.lit (.bool true)], args := [d1, d2] }
  | _ => none }
def shapeJoinsRow : OpenClaim := { program := "ytfgddhabepllfaadoor", sum := "60948ad0828d4fd95f12fa144d2145a92f442294b4ed06ff7a258f453c48366e", func := "counterpane/counterpanelaw09.ShapeJoins", spec := "shapeJoins", unfollowed := true, recurses := true, named := ["counterpane/value.faultTexts"], apart := false, laid := [("counterpane/value.faultTexts", laid_counterpane_value_faultTexts)] }
def ShapeJoinsSaid : Prop := shapeJoinsRow.holds Tryd.pinned (OpenSpec.ofChange shapeJoinsSpec)

/-- ITS FALSE NEIGHBOUR: 'it returns false'. Refute it at one input. -/
def shapeJoinsWrong : ChangeSpec := { name := "shapeJoins", fn := fun _ => fun
  | [d1, d2] => { results := [.lit (.bool false)], args := [d1, d2] }
  | _ => none }
def ShapeJoinsWrongFalsely : Prop := shapeJoinsRow.holds Tryd.pinned (OpenSpec.ofChange shapeJoinsWrong)

/-- 'counterpanelaw09.ShapeParts': WHATEVER THE INPUT: true; the input reads as it did. -/
def shapePartsSpec : ChangeSpec := { name := "shapeParts", fn := fun _ => fun
  | [d1, d2] => { results := [.lit (.bool true)], args := [d1, d2] }
  | _ => none }
def shapePartsRow : OpenClaim := { program := "ytfgddhabepllfaadoor", sum := "60948ad0828d4fd95f12fa144d2145a92f442294b4ed06ff7a258f453c48366e", func := "counterpane/counterpanelaw09.ShapeParts", spec := "shapeParts", unfollowed := true, recurses := true, named := ["counterpane/value.faultTexts"], apart := false, laid := [("counterpane/value.faultTexts", laid_counterpane_value_faultTexts)] }
def ShapePartsSaid : Prop := shapePartsRow.holds Tryd.pinned (OpenSpec.ofChange shapePartsSpec)

/-- ITS FALSE NEIGHBOUR: 'it returns false'. Refute it at one input. -/
def shapePartsWrong : ChangeSpec := { name := "shapeParts", fn := fun _ => fun
  | [d1, d2] => { results := [.lit (.bool false)], args := [d1, d2] }
  | _ => none }
def ShapePartsWrongFalsely : Prop := shapePartsRow.holds Tryd.pinned (OpenSpec.ofChange shapePartsWrong)

/-- 'counterpanelaw09.ShapeEach': WHATEVER THE INPUT: true; the input reads as it did. -/
def shapeEachSpec : ChangeSpec := { name := "shapeEach", fn := fun _ => fun
  | [d1, d2] => { results := [.lit (.bool true)], args := [d1, d2] }
  | _ => none }
def shapeEachRow : OpenClaim := { program := "ytfgddhabepllfaadoor", sum := "60948ad0828d4fd95f12fa144d2145a92f442294b4ed06ff7a258f453c48366e", func := "counterpane/counterpanelaw09.ShapeEach", spec := "shapeEach", unfollowed := true, recurses := true, named := ["counterpane/value.faultTexts"], apart := false, laid := [("counterpane/value.faultTexts", laid_counterpane_value_faultTexts)] }
def ShapeEachSaid : Prop := shapeEachRow.holds Tryd.pinned (OpenSpec.ofChange shapeEachSpec)

/-- ITS FALSE NEIGHBOUR: 'it returns false'. Refute it at one input. -/
def shapeEachWrong : ChangeSpec := { name := "shapeEach", fn := fun _ => fun
  | [d1, d2] => { results := [.lit (.bool false)], args := [d1, d2] }
  | _ => none }
def ShapeEachWrongFalsely : Prop := shapeEachRow.holds Tryd.pinned (OpenSpec.ofChange shapeEachWrong)

/-- 'counterpanelaw09.ShapeBoth': WHATEVER THE INPUT: true; the input reads as it did. -/
def shapeBothSpec : ChangeSpec := { name := "shapeBoth", fn := fun _ => fun
  | [d1, d2, d3] => { results := [.lit (.bool true)], args := [d1, d2, d3] }
  | _ => none }
def shapeBothRow : OpenClaim := { program := "ytfgddhabepllfaadoor", sum := "60948ad0828d4fd95f12fa144d2145a92f442294b4ed06ff7a258f453c48366e", func := "counterpane/counterpanelaw09.ShapeBoth", spec := "shapeBoth", unfollowed := true, recurses := true, named := ["counterpane/value.faultTexts"], apart := false, laid := [("counterpane/value.faultTexts", laid_counterpane_value_faultTexts)] }
def ShapeBothSaid : Prop := shapeBothRow.holds Tryd.pinned (OpenSpec.ofChange shapeBothSpec)

/-- ITS FALSE NEIGHBOUR: 'it returns false'. Refute it at one input. -/
def shapeBothWrong : ChangeSpec := { name := "shapeBoth", fn := fun _ => fun
  | [d1, d2, d3] => { results := [.lit (.bool false)], args := [d1, d2, d3] }
  | _ => none }
def ShapeBothWrongFalsely : Prop := shapeBothRow.holds Tryd.pinned (OpenSpec.ofChange shapeBothWrong)

/-- 'counterpanelaw09.ShapeNil': WHATEVER THE INPUT: true; the input reads as it did. -/
def shapeNilSpec : ChangeSpec := { name := "shapeNil", fn := fun _ => fun
  | [d1, d2] => { results := [.lit (.bool true)], args := [d1, d2] }
  | _ => none }
def shapeNilRow : OpenClaim := { program := "ytfgddhabepllfaadoor", sum := "60948ad0828d4fd95f12fa144d2145a92f442294b4ed06ff7a258f453c48366e", func := "counterpane/counterpanelaw09.ShapeNil", spec := "shapeNil", unfollowed := true, recurses := true, named := ["counterpane/value.faultTexts"], apart := false, laid := [("counterpane/value.faultTexts", laid_counterpane_value_faultTexts)] }
def ShapeNilSaid : Prop := shapeNilRow.holds Tryd.pinned (OpenSpec.ofChange shapeNilSpec)

/-- ITS FALSE NEIGHBOUR: 'it returns false'. Refute it at one input. -/
def shapeNilWrong : ChangeSpec := { name := "shapeNil", fn := fun _ => fun
  | [d1, d2] => { results := [.lit (.bool false)], args := [d1, d2] }
  | _ => none }
def ShapeNilWrongFalsely : Prop := shapeNilRow.holds Tryd.pinned (OpenSpec.ofChange shapeNilWrong)

/-- 'counterpanelaw09.ShapeThree': WHATEVER THE INPUT: true; the input reads as it did. -/
def shapeThreeSpec : ChangeSpec := { name := "shapeThree", fn := fun _ => fun
  | [d1, d2, d3] => { results := [.lit (.bool true)], args := [d1, d2, d3] }
  | _ => none }
def shapeThreeRow : OpenClaim := { program := "ytfgddhabepllfaadoor", sum := "60948ad0828d4fd95f12fa144d2145a92f442294b4ed06ff7a258f453c48366e", func := "counterpane/counterpanelaw09.ShapeThree", spec := "shapeThree", unfollowed := true, recurses := true, named := ["counterpane/value.faultTexts"], apart := false, laid := [("counterpane/value.faultTexts", laid_counterpane_value_faultTexts)] }
def ShapeThreeSaid : Prop := shapeThreeRow.holds Tryd.pinned (OpenSpec.ofChange shapeThreeSpec)

/-- ITS FALSE NEIGHBOUR: 'it returns false'. Refute it at one input. -/
def shapeThreeWrong : ChangeSpec := { name := "shapeThree", fn := fun _ => fun
  | [d1, d2, d3] => { results := [.lit (.bool false)], args := [d1, d2, d3] }
  | _ => none }
def ShapeThreeWrongFalsely : Prop := shapeThreeRow.holds Tryd.pinned (OpenSpec.ofChange shapeThreeWrong)

/-- 'counterpanelaw09.ShapeSwaps': WHATEVER THE INPUT: true; the input reads as it did. -/
def shapeSwapsSpec : ChangeSpec := { name := "shapeSwaps", fn := fun _ => fun
  | [d1, d2, d3] => { results := [.lit (.bool true)], args := [d1, d2, d3] }
  | _ => none }
def shapeSwapsRow : OpenClaim := { program := "ytfgddhabepllfaadoor", sum := "60948ad0828d4fd95f12fa144d2145a92f442294b4ed06ff7a258f453c48366e", func := "counterpane/counterpanelaw09.ShapeSwaps", spec := "shapeSwaps", unfollowed := true, recurses := true, named := ["counterpane/value.faultTexts"], apart := false, laid := [("counterpane/value.faultTexts", laid_counterpane_value_faultTexts)] }
def ShapeSwapsSaid : Prop := shapeSwapsRow.holds Tryd.pinned (OpenSpec.ofChange shapeSwapsSpec)

/-- ITS FALSE NEIGHBOUR: 'it returns false'. Refute it at one input. -/
def shapeSwapsWrong : ChangeSpec := { name := "shapeSwaps", fn := fun _ => fun
  | [d1, d2, d3] => { results := [.lit (.bool false)], args := [d1, d2, d3] }
  | _ => none }
def ShapeSwapsWrongFalsely : Prop := shapeSwapsRow.holds Tryd.pinned (OpenSpec.ofChange shapeSwapsWrong)

/- THE SECOND FORM. 'bulk': how many values and letters a reading holds, each counted each time it is reached (what is shared counts as often as it is met; a slice's spare places count too). A statement '..UptoSaid' is the law's where the arguments, and the package variables that the reading takes, are together of bulk at most 1048576: NARROWER than '..Said'. Prove '..Said' where nothing that the law and all that it calls make is longer than what came in: it says more and counts as full. Else prove '..UptoSaid'. A law counts once. -/
mutual
def uptoBulk {H : Type} : DataW H → Nat
  | .lit (.string bytes) => bytes.length + 1
  | .lit _ => 1
  | .nil => 1
  | .ptr d => uptoBulk d + 1
  | .slice elems spare => uptoBulkAll elems + uptoBulkAll spare + 1
  | .agg parts => uptoBulkAll parts + 1
  | .iface _ d => uptoBulk d + 1
  | .map entries => uptoBulkEntries entries + 1
  | .held _ => 1
def uptoBulkAll {H : Type} : List (DataW H) → Nat
  | [] => 0
  | d :: r => uptoBulk d + uptoBulkAll r
def uptoBulkEntries {H : Type} : List (Lit × DataW H) → Nat
  | [] => 0
  | x :: r => uptoBulkEntry x + uptoBulkEntries r
def uptoBulkEntry {H : Type} : Lit × DataW H → Nat
  | (.string bytes, d) => bytes.length + uptoBulk d + 1
  | (_, d) => uptoBulk d + 1
 end
def uptoSmall : (H : Type) → List (DataW H) → Bool := fun _ ds => decide (uptoBulkAll ds ≤ 1048576)
def OpenSpec.upto (s : _root_.Go.ChangeSpec) : _root_.Go.OpenSpec := { _root_.Go.OpenSpec.ofChange s with cond := some uptoSmall }

/-- 'counterpanelaw09.ShapeMakes', WHERE WHAT IT READS IS OF BULK AT MOST 1048576: true; the input reads as it did. -/
def shapeMakesUptoRow : OpenClaim := { program := "ytfgddhabepllfaadoor", sum := "60948ad0828d4fd95f12fa144d2145a92f442294b4ed06ff7a258f453c48366e", func := "counterpane/counterpanelaw09.ShapeMakes", spec := "shapeMakes", unfollowed := true, recurses := true, named := ["counterpane/value.faultTexts"], apart := false, laid := [("counterpane/value.faultTexts", laid_counterpane_value_faultTexts)], narrowed := true }
def ShapeMakesUptoSaid : Prop := shapeMakesUptoRow.holds Tryd.pinned (OpenSpec.upto shapeMakesSpec)

/-- 'counterpanelaw09.ShapePlaces', WHERE WHAT IT READS IS OF BULK AT MOST 1048576: true; the input reads as it did. -/
def shapePlacesUptoRow : OpenClaim := { program := "ytfgddhabepllfaadoor", sum := "60948ad0828d4fd95f12fa144d2145a92f442294b4ed06ff7a258f453c48366e", func := "counterpane/counterpanelaw09.ShapePlaces", spec := "shapePlaces", unfollowed := true, recurses := true, named := ["counterpane/value.faultTexts"], apart := false, laid := [("counterpane/value.faultTexts", laid_counterpane_value_faultTexts)], narrowed := true }
def ShapePlacesUptoSaid : Prop := shapePlacesUptoRow.holds Tryd.pinned (OpenSpec.upto shapePlacesSpec)

/-- 'counterpanelaw09.ShapeJoins', WHERE WHAT IT READS IS OF BULK AT MOST 1048576: true; the input reads as it did. -/
def shapeJoinsUptoRow : OpenClaim := { program := "ytfgddhabepllfaadoor", sum := "60948ad0828d4fd95f12fa144d2145a92f442294b4ed06ff7a258f453c48366e", func := "counterpane/counterpanelaw09.ShapeJoins", spec := "shapeJoins", unfollowed := true, recurses := true, named := ["counterpane/value.faultTexts"], apart := false, laid := [("counterpane/value.faultTexts", laid_counterpane_value_faultTexts)], narrowed := true }
def ShapeJoinsUptoSaid : Prop := shapeJoinsUptoRow.holds Tryd.pinned (OpenSpec.upto shapeJoinsSpec)

/-- 'counterpanelaw09.ShapeParts', WHERE WHAT IT READS IS OF BULK AT MOST 1048576: true; the input reads as it did. -/
def shapePartsUptoRow : OpenClaim := { program := "ytfgddhabepllfaadoor", sum := "60948ad0828d4fd95f12fa144d2145a92f442294b4ed06ff7a258f453c48366e", func := "counterpane/counterpanelaw09.ShapeParts", spec := "shapeParts", unfollowed := true, recurses := true, named := ["counterpane/value.faultTexts"], apart := false, laid := [("counterpane/value.faultTexts", laid_counterpane_value_faultTexts)], narrowed := true }
def ShapePartsUptoSaid : Prop := shapePartsUptoRow.holds Tryd.pinned (OpenSpec.upto shapePartsSpec)

/-- 'counterpanelaw09.ShapeEach', WHERE WHAT IT READS IS OF BULK AT MOST 1048576: true; the input reads as it did. -/
def shapeEachUptoRow : OpenClaim := { program := "ytfgddhabepllfaadoor", sum := "60948ad0828d4fd95f12fa144d2145a92f442294b4ed06ff7a258f453c48366e", func := "counterpane/counterpanelaw09.ShapeEach", spec := "shapeEach", unfollowed := true, recurses := true, named := ["counterpane/value.faultTexts"], apart := false, laid := [("counterpane/value.faultTexts", laid_counterpane_value_faultTexts)], narrowed := true }
def ShapeEachUptoSaid : Prop := shapeEachUptoRow.holds Tryd.pinned (OpenSpec.upto shapeEachSpec)

/-- 'counterpanelaw09.ShapeBoth', WHERE WHAT IT READS IS OF BULK AT MOST 1048576: true; the input reads as it did. -/
def shapeBothUptoRow : OpenClaim := { program := "ytfgddhabepllfaadoor", sum := "60948ad0828d4fd95f12fa144d2145a92f442294b4ed06ff7a258f453c48366e", func := "counterpane/counterpanelaw09.ShapeBoth", spec := "shapeBoth", unfollowed := true, recurses := true, named := ["counterpane/value.faultTexts"], apart := false, laid := [("counterpane/value.faultTexts", laid_counterpane_value_faultTexts)], narrowed := true }
def ShapeBothUptoSaid : Prop := shapeBothUptoRow.holds Tryd.pinned (OpenSpec.upto shapeBothSpec)

/-- 'counterpanelaw09.ShapeNil', WHERE WHAT IT READS IS OF BULK AT MOST 1048576: true; the input reads as it did. -/
def shapeNilUptoRow : OpenClaim := { program := "ytfgddhabepllfaadoor", sum := "60948ad0828d4fd95f12fa144d2145a92f442294b4ed06ff7a258f453c48366e", func := "counterpane/counterpanelaw09.ShapeNil", spec := "shapeNil", unfollowed := true, recurses := true, named := ["counterpane/value.faultTexts"], apart := false, laid := [("counterpane/value.faultTexts", laid_counterpane_value_faultTexts)], narrowed := true }
def ShapeNilUptoSaid : Prop := shapeNilUptoRow.holds Tryd.pinned (OpenSpec.upto shapeNilSpec)

/-- 'counterpanelaw09.ShapeThree', WHERE WHAT IT READS IS OF BULK AT MOST 1048576: true; the input reads as it did. -/
def shapeThreeUptoRow : OpenClaim := { program := "ytfgddhabepllfaadoor", sum := "60948ad0828d4fd95f12fa144d2145a92f442294b4ed06ff7a258f453c48366e", func := "counterpane/counterpanelaw09.ShapeThree", spec := "shapeThree", unfollowed := true, recurses := true, named := ["counterpane/value.faultTexts"], apart := false, laid := [("counterpane/value.faultTexts", laid_counterpane_value_faultTexts)], narrowed := true }
def ShapeThreeUptoSaid : Prop := shapeThreeUptoRow.holds Tryd.pinned (OpenSpec.upto shapeThreeSpec)

/-- 'counterpanelaw09.ShapeSwaps', WHERE WHAT IT READS IS OF BULK AT MOST 1048576: true; the input reads as it did. -/
def shapeSwapsUptoRow : OpenClaim := { program := "ytfgddhabepllfaadoor", sum := "60948ad0828d4fd95f12fa144d2145a92f442294b4ed06ff7a258f453c48366e", func := "counterpane/counterpanelaw09.ShapeSwaps", spec := "shapeSwaps", unfollowed := true, recurses := true, named := ["counterpane/value.faultTexts"], apart := false, laid := [("counterpane/value.faultTexts", laid_counterpane_value_faultTexts)], narrowed := true }
def ShapeSwapsUptoSaid : Prop := shapeSwapsUptoRow.holds Tryd.pinned (OpenSpec.upto shapeSwapsSpec)

end Rows
end Go.Proofs.YtfgddhabepllfaaDoor
