/-
  No cell of these rows narrows 'for every input' (looked for: loops, veiled, ifaces, maps, wideKeys, modest, calm, conditions, laid).
  DERIVED. THE GIVEN ROWS OF THIS SEAT. 7 by the template 'for every input the law returns true; each argument reads behind the call as it read before'; 0 by the template 'total and deterministic' (their statements: YtngomgjhakgehaaTotals.lean).
  GIVEN WITH THE SEED: the statements are not yours to turn. If you find one false, say at which input.
  Laid BY PROGRAM, IN A SANDBOX (cutbox-rows.mjs): the forced cells as the released guide's own fill.sh prints them over the translation 225ab2242bd1a37c… (all of the seat's roots in one cut). By AI agents, Wed Nov 11 2026. No macro, syntax, notation, axiom, sorry.
-/
import Derived.Test.YtngomgjhakgehaaChecked
import GoSem.Claim
import GoSem.ClaimJoined
import GoSem.ClaimMapViews
import Derived.JoinedTies
import Derived.KernelRfl
namespace Go.Proofs.Ytngomgjhakgehaa
/- THE CELL 'sum', in the pinned program and in every row, IS THE sha256 OF THE DUMP (.gsa) THAT YtngomgjhakgehaaProg.lean LOADS. Nothing in Lean hashes anything: it is a label: what it is worth is what the hold of that sum in a sandbox is worth. -/
noncomputable def Try.pinned : Pinned := { name := "ytngomgjhakgehaa", sum := "225ab2242bd1a37c59e332de386fceafb0ebf7495a6b1f8c0e5bf8cec16bdeb1", checked := Try.checked }
namespace Rows
def none {H : Type} : Left H := { results := [], args := [] }

/-- 'counterpanelaw03.AxisPlays': WHATEVER THE INPUT: true; the input reads as it did. -/
def axisPlaysSpec : ChangeSpec := { name := "axisPlays", fn := fun _ => fun
  | [d1, d2, d3, d4] => { results := [.lit (.bool true)], args := [d1, d2, d3, d4] }
  | _ => none }
def axisPlaysRow : OpenClaim := { program := "ytngomgjhakgehaa", sum := "225ab2242bd1a37c59e332de386fceafb0ebf7495a6b1f8c0e5bf8cec16bdeb1", func := "counterpane/counterpanelaw03.AxisPlays", spec := "axisPlays", inPlace := ["slices.overlaps[counterpane/axis.entry]"], unfollowed := true, recurses := true, plainKeys := false, apart := false }
def AxisPlaysSaid : Prop := axisPlaysRow.holds Try.pinned (OpenSpec.ofChange axisPlaysSpec)

/-- ITS FALSE NEIGHBOUR: 'it returns false'. Refute it at one input. -/
def axisPlaysWrong : ChangeSpec := { name := "axisPlays", fn := fun _ => fun
  | [d1, d2, d3, d4] => { results := [.lit (.bool false)], args := [d1, d2, d3, d4] }
  | _ => none }
def AxisPlaysWrongFalsely : Prop := axisPlaysRow.holds Try.pinned (OpenSpec.ofChange axisPlaysWrong)

/-- 'counterpanelaw03.AxisBetween': WHATEVER THE INPUT: true; the input reads as it did. -/
def axisBetweenSpec : ChangeSpec := { name := "axisBetween", fn := fun _ => fun
  | [d1, d2, d3, d4] => { results := [.lit (.bool true)], args := [d1, d2, d3, d4] }
  | _ => none }
def axisBetweenRow : OpenClaim := { program := "ytngomgjhakgehaa", sum := "225ab2242bd1a37c59e332de386fceafb0ebf7495a6b1f8c0e5bf8cec16bdeb1", func := "counterpane/counterpanelaw03.AxisBetween", spec := "axisBetween", inPlace := ["slices.overlaps[counterpane/axis.entry]"], unfollowed := true, recurses := true, plainKeys := false, apart := false }
def AxisBetweenSaid : Prop := axisBetweenRow.holds Try.pinned (OpenSpec.ofChange axisBetweenSpec)

/-- ITS FALSE NEIGHBOUR: 'it returns false'. Refute it at one input. -/
def axisBetweenWrong : ChangeSpec := { name := "axisBetween", fn := fun _ => fun
  | [d1, d2, d3, d4] => { results := [.lit (.bool false)], args := [d1, d2, d3, d4] }
  | _ => none }
def AxisBetweenWrongFalsely : Prop := axisBetweenRow.holds Try.pinned (OpenSpec.ofChange axisBetweenWrong)

/-- 'counterpanelaw03.AxisBack': WHATEVER THE INPUT: true; the input reads as it did. -/
def axisBackSpec : ChangeSpec := { name := "axisBack", fn := fun _ => fun
  | [d1, d2] => { results := [.lit (.bool true)], args := [d1, d2] }
  | _ => none }
def axisBackRow : OpenClaim := { program := "ytngomgjhakgehaa", sum := "225ab2242bd1a37c59e332de386fceafb0ebf7495a6b1f8c0e5bf8cec16bdeb1", func := "counterpane/counterpanelaw03.AxisBack", spec := "axisBack", unfollowed := true, recurses := true, plainKeys := false, apart := false }
def AxisBackSaid : Prop := axisBackRow.holds Try.pinned (OpenSpec.ofChange axisBackSpec)

/-- ITS FALSE NEIGHBOUR: 'it returns false'. Refute it at one input. -/
def axisBackWrong : ChangeSpec := { name := "axisBack", fn := fun _ => fun
  | [d1, d2] => { results := [.lit (.bool false)], args := [d1, d2] }
  | _ => none }
def AxisBackWrongFalsely : Prop := axisBackRow.holds Try.pinned (OpenSpec.ofChange axisBackWrong)

/-- 'counterpanelaw03.AxisClone': WHATEVER THE INPUT: true; the input reads as it did. -/
def axisCloneSpec : ChangeSpec := { name := "axisClone", fn := fun _ => fun
  | [d1, d2, d3] => { results := [.lit (.bool true)], args := [d1, d2, d3] }
  | _ => none }
def axisCloneRow : OpenClaim := { program := "ytngomgjhakgehaa", sum := "225ab2242bd1a37c59e332de386fceafb0ebf7495a6b1f8c0e5bf8cec16bdeb1", func := "counterpane/counterpanelaw03.AxisClone", spec := "axisClone", inPlace := ["slices.overlaps[counterpane/axis.entry]"], unfollowed := true, recurses := true, plainKeys := false, apart := false }
def AxisCloneSaid : Prop := axisCloneRow.holds Try.pinned (OpenSpec.ofChange axisCloneSpec)

/-- ITS FALSE NEIGHBOUR: 'it returns false'. Refute it at one input. -/
def axisCloneWrong : ChangeSpec := { name := "axisClone", fn := fun _ => fun
  | [d1, d2, d3] => { results := [.lit (.bool false)], args := [d1, d2, d3] }
  | _ => none }
def AxisCloneWrongFalsely : Prop := axisCloneRow.holds Try.pinned (OpenSpec.ofChange axisCloneWrong)

/-- 'counterpanelaw03.AxisFull': WHATEVER THE INPUT: true; the input reads as it did. -/
def axisFullSpec : ChangeSpec := { name := "axisFull", fn := fun _ => fun
  | [d1, d2] => { results := [.lit (.bool true)], args := [d1, d2] }
  | _ => none }
def axisFullRow : OpenClaim := { program := "ytngomgjhakgehaa", sum := "225ab2242bd1a37c59e332de386fceafb0ebf7495a6b1f8c0e5bf8cec16bdeb1", func := "counterpane/counterpanelaw03.AxisFull", spec := "axisFull", inPlace := ["slices.overlaps[counterpane/axis.entry]"], unfollowed := true, recurses := true, plainKeys := false, apart := false }
def AxisFullSaid : Prop := axisFullRow.holds Try.pinned (OpenSpec.ofChange axisFullSpec)

/-- ITS FALSE NEIGHBOUR: 'it returns false'. Refute it at one input. -/
def axisFullWrong : ChangeSpec := { name := "axisFull", fn := fun _ => fun
  | [d1, d2] => { results := [.lit (.bool false)], args := [d1, d2] }
  | _ => none }
def AxisFullWrongFalsely : Prop := axisFullRow.holds Try.pinned (OpenSpec.ofChange axisFullWrong)

/-- 'counterpanelaw03.AxisPuts': WHATEVER THE INPUT: true; the input reads as it did. -/
def axisPutsSpec : ChangeSpec := { name := "axisPuts", fn := fun _ => fun
  | [d1, d2, d3] => { results := [.lit (.bool true)], args := [d1, d2, d3] }
  | _ => none }
def axisPutsRow : OpenClaim := { program := "ytngomgjhakgehaa", sum := "225ab2242bd1a37c59e332de386fceafb0ebf7495a6b1f8c0e5bf8cec16bdeb1", func := "counterpane/counterpanelaw03.AxisPuts", spec := "axisPuts", inPlace := ["slices.overlaps[counterpane/axis.entry]"], unfollowed := true, recurses := true, plainKeys := false, apart := false }
def AxisPutsSaid : Prop := axisPutsRow.holds Try.pinned (OpenSpec.ofChange axisPutsSpec)

/-- ITS FALSE NEIGHBOUR: 'it returns false'. Refute it at one input. -/
def axisPutsWrong : ChangeSpec := { name := "axisPuts", fn := fun _ => fun
  | [d1, d2, d3] => { results := [.lit (.bool false)], args := [d1, d2, d3] }
  | _ => none }
def AxisPutsWrongFalsely : Prop := axisPutsRow.holds Try.pinned (OpenSpec.ofChange axisPutsWrong)

/-- 'counterpanelaw03.AxisEnds': WHATEVER THE INPUT: true; the input reads as it did. -/
def axisEndsSpec : ChangeSpec := { name := "axisEnds", fn := fun _ => fun
  | [d1, d2, d3] => { results := [.lit (.bool true)], args := [d1, d2, d3] }
  | _ => none }
def axisEndsRow : OpenClaim := { program := "ytngomgjhakgehaa", sum := "225ab2242bd1a37c59e332de386fceafb0ebf7495a6b1f8c0e5bf8cec16bdeb1", func := "counterpane/counterpanelaw03.AxisEnds", spec := "axisEnds", inPlace := ["slices.overlaps[counterpane/axis.entry]"], unfollowed := true, recurses := true, plainKeys := false, apart := false }
def AxisEndsSaid : Prop := axisEndsRow.holds Try.pinned (OpenSpec.ofChange axisEndsSpec)

/-- ITS FALSE NEIGHBOUR: 'it returns false'. Refute it at one input. -/
def axisEndsWrong : ChangeSpec := { name := "axisEnds", fn := fun _ => fun
  | [d1, d2, d3] => { results := [.lit (.bool false)], args := [d1, d2, d3] }
  | _ => none }
def AxisEndsWrongFalsely : Prop := axisEndsRow.holds Try.pinned (OpenSpec.ofChange axisEndsWrong)

/- THE SECOND FORM. 'bulk': how many values and letters a reading holds, each counted each time it is reached (what is shared counts as often as it is met; a slice's spare places count too). A statement '..UptoSaid' is the law's where the arguments, and the package variables that the reading takes, are together of bulk at most 1048576: NARROWER than '..Said'. Prove '..Said' where nothing that the law and all that it calls make is longer than what came in: it says more and counts as full. Else prove '..UptoSaid'. A law counts once. -/
mutual
def uptoBulk {H : Type} : DataW H → Nat
  | .lit (.string bytes) => bytes.length + 1
  | .lit _ => 1
  | .nil => 1
  | .ptr d => uptoBulk d + 1
  | .slice elems spare => uptoBulkAll elems + uptoBulkAll spare + 1
  | .agg parts => uptoBulkAll parts + 1
  | .iface _ d => uptoBulk d + 1
  | .map entries => uptoBulkEntries entries + 1
  | .held _ => 1
def uptoBulkAll {H : Type} : List (DataW H) → Nat
  | [] => 0
  | d :: r => uptoBulk d + uptoBulkAll r
def uptoBulkEntries {H : Type} : List (Lit × DataW H) → Nat
  | [] => 0
  | x :: r => uptoBulkEntry x + uptoBulkEntries r
def uptoBulkEntry {H : Type} : Lit × DataW H → Nat
  | (.string bytes, d) => bytes.length + uptoBulk d + 1
  | (_, d) => uptoBulk d + 1
 end
def uptoSmall : (H : Type) → List (DataW H) → Bool := fun _ ds => decide (uptoBulkAll ds ≤ 1048576)
def OpenSpec.upto (s : _root_.Go.ChangeSpec) : _root_.Go.OpenSpec := { _root_.Go.OpenSpec.ofChange s with cond := some uptoSmall }

/-- 'counterpanelaw03.AxisPlays', WHERE WHAT IT READS IS OF BULK AT MOST 1048576: true; the input reads as it did. -/
def axisPlaysUptoRow : OpenClaim := { program := "ytngomgjhakgehaa", sum := "225ab2242bd1a37c59e332de386fceafb0ebf7495a6b1f8c0e5bf8cec16bdeb1", func := "counterpane/counterpanelaw03.AxisPlays", spec := "axisPlays", inPlace := ["slices.overlaps[counterpane/axis.entry]"], unfollowed := true, recurses := true, plainKeys := false, apart := false, narrowed := true }
def AxisPlaysUptoSaid : Prop := axisPlaysUptoRow.holds Try.pinned (OpenSpec.upto axisPlaysSpec)

/-- 'counterpanelaw03.AxisBetween', WHERE WHAT IT READS IS OF BULK AT MOST 1048576: true; the input reads as it did. -/
def axisBetweenUptoRow : OpenClaim := { program := "ytngomgjhakgehaa", sum := "225ab2242bd1a37c59e332de386fceafb0ebf7495a6b1f8c0e5bf8cec16bdeb1", func := "counterpane/counterpanelaw03.AxisBetween", spec := "axisBetween", inPlace := ["slices.overlaps[counterpane/axis.entry]"], unfollowed := true, recurses := true, plainKeys := false, apart := false, narrowed := true }
def AxisBetweenUptoSaid : Prop := axisBetweenUptoRow.holds Try.pinned (OpenSpec.upto axisBetweenSpec)

/-- 'counterpanelaw03.AxisBack', WHERE WHAT IT READS IS OF BULK AT MOST 1048576: true; the input reads as it did. -/
def axisBackUptoRow : OpenClaim := { program := "ytngomgjhakgehaa", sum := "225ab2242bd1a37c59e332de386fceafb0ebf7495a6b1f8c0e5bf8cec16bdeb1", func := "counterpane/counterpanelaw03.AxisBack", spec := "axisBack", unfollowed := true, recurses := true, plainKeys := false, apart := false, narrowed := true }
def AxisBackUptoSaid : Prop := axisBackUptoRow.holds Try.pinned (OpenSpec.upto axisBackSpec)

/-- 'counterpanelaw03.AxisClone', WHERE WHAT IT READS IS OF BULK AT MOST 1048576: true; the input reads as it did. -/
def axisCloneUptoRow : OpenClaim := { program := "ytngomgjhakgehaa", sum := "225ab2242bd1a37c59e332de386fceafb0ebf7495a6b1f8c0e5bf8cec16bdeb1", func := "counterpane/counterpanelaw03.AxisClone", spec := "axisClone", inPlace := ["slices.overlaps[counterpane/axis.entry]"], unfollowed := true, recurses := true, plainKeys := false, apart := false, narrowed := true }
def AxisCloneUptoSaid : Prop := axisCloneUptoRow.holds Try.pinned (OpenSpec.upto axisCloneSpec)

/-- 'counterpanelaw03.AxisFull', WHERE WHAT IT READS IS OF BULK AT MOST 1048576: true; the input reads as it did. -/
def axisFullUptoRow : OpenClaim := { program := "ytngomgjhakgehaa", sum := "225ab2242bd1a37c59e332de386fceafb0ebf7495a6b1f8c0e5bf8cec16bdeb1", func := "counterpane/counterpanelaw03.AxisFull", spec := "axisFull", inPlace := ["slices.overlaps[counterpane/axis.entry]"], unfollowed := true, recurses := true, plainKeys := false, apart := false, narrowed := true }
def AxisFullUptoSaid : Prop := axisFullUptoRow.holds Try.pinned (OpenSpec.upto axisFullSpec)

/-- 'counterpanelaw03.AxisPuts', WHERE WHAT IT READS IS OF BULK AT MOST 1048576: true; the input reads as it did. -/
def axisPutsUptoRow : OpenClaim := { program := "ytngomgjhakgehaa", sum := "225ab2242bd1a37c59e332de386fceafb0ebf7495a6b1f8c0e5bf8cec16bdeb1", func := "counterpane/counterpanelaw03.AxisPuts", spec := "axisPuts", inPlace := ["slices.overlaps[counterpane/axis.entry]"], unfollowed := true, recurses := true, plainKeys := false, apart := false, narrowed := true }
def AxisPutsUptoSaid : Prop := axisPutsUptoRow.holds Try.pinned (OpenSpec.upto axisPutsSpec)

/-- 'counterpanelaw03.AxisEnds', WHERE WHAT IT READS IS OF BULK AT MOST 1048576: true; the input reads as it did. -/
def axisEndsUptoRow : OpenClaim := { program := "ytngomgjhakgehaa", sum := "225ab2242bd1a37c59e332de386fceafb0ebf7495a6b1f8c0e5bf8cec16bdeb1", func := "counterpane/counterpanelaw03.AxisEnds", spec := "axisEnds", inPlace := ["slices.overlaps[counterpane/axis.entry]"], unfollowed := true, recurses := true, plainKeys := false, apart := false, narrowed := true }
def AxisEndsUptoSaid : Prop := axisEndsUptoRow.holds Try.pinned (OpenSpec.upto axisEndsSpec)

end Rows
end Go.Proofs.Ytngomgjhakgehaa
