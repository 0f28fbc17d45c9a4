/-
  No cell of these rows narrows 'for every input' (looked for: loops, veiled, ifaces, maps, wideKeys, modest, calm, conditions, laid).
  DERIVED. THE GIVEN ROWS OF THIS SEAT. 7 by the template 'for every input the law returns true; each argument reads behind the call as it read before'; 0 by the template 'total and deterministic' (their statements: YtggcnglnclpaeaaTotals.lean).
  GIVEN WITH THE SEED: the statements are not yours to turn. If you find one false, say at which input.
  Laid BY PROGRAM, IN A SANDBOX (cutbox-rows.mjs): the forced cells as the released guide's own fill.sh prints them over the translation fc1fde339168b889… (all of the seat's roots in one cut). By AI agents, Wed Nov 11 2026. No macro, syntax, notation, axiom, sorry.
-/
import Derived.Test.YtggcnglnclpaeaaChecked
import GoSem.Claim
import GoSem.ClaimJoined
import GoSem.ClaimMapViews
import Derived.JoinedTies
import Derived.KernelRfl
namespace Go.Proofs.Ytggcnglnclpaeaa
/- THE CELL 'sum', in the pinned program and in every row, IS THE sha256 OF THE DUMP (.gsa) THAT YtggcnglnclpaeaaProg.lean LOADS. Nothing in Lean hashes anything: it is a label: what it is worth is what the hold of that sum in a sandbox is worth. -/
noncomputable def Try.pinned : Pinned := { name := "ytggcnglnclpaeaa", sum := "fc1fde339168b889ac9007cf00f6b840ddb8a5092738d3340e1c7398affa41a2", checked := Try.checked }
namespace Rows
def none {H : Type} : Left H := { results := [], args := [] }

/-- 'counterpanelaw34.DotAdds': WHATEVER THE INPUT: true; the input reads as it did. -/
def dotAddsSpec : ChangeSpec := { name := "dotAdds", fn := fun _ => fun
  | [d1, d2, d3] => { results := [.lit (.bool true)], args := [d1, d2, d3] }
  | _ => none }
def dotAddsRow : OpenClaim := { program := "ytggcnglnclpaeaa", sum := "fc1fde339168b889ac9007cf00f6b840ddb8a5092738d3340e1c7398affa41a2", func := "counterpane/counterpanelaw34.DotAdds", spec := "dotAdds", unfollowed := true, recurses := true, apart := false }
def DotAddsSaid : Prop := dotAddsRow.holds Try.pinned (OpenSpec.ofChange dotAddsSpec)

/-- ITS FALSE NEIGHBOUR: 'it returns false'. Refute it at one input. -/
def dotAddsWrong : ChangeSpec := { name := "dotAdds", fn := fun _ => fun
  | [d1, d2, d3] => { results := [.lit (.bool false)], args := [d1, d2, d3] }
  | _ => none }
def DotAddsWrongFalsely : Prop := dotAddsRow.holds Try.pinned (OpenSpec.ofChange dotAddsWrong)

/-- 'counterpanelaw34.DotJoins': WHATEVER THE INPUT: true; the input reads as it did. -/
def dotJoinsSpec : ChangeSpec := { name := "dotJoins", fn := fun _ => fun
  | [d1, d2] => { results := [.lit (.bool true)], args := [d1, d2] }
  | _ => none }
def dotJoinsRow : OpenClaim := { program := "ytggcnglnclpaeaa", sum := "fc1fde339168b889ac9007cf00f6b840ddb8a5092738d3340e1c7398affa41a2", func := "counterpane/counterpanelaw34.DotJoins", spec := "dotJoins", unfollowed := true, recurses := true, apart := false }
def DotJoinsSaid : Prop := dotJoinsRow.holds Try.pinned (OpenSpec.ofChange dotJoinsSpec)

/-- ITS FALSE NEIGHBOUR: 'it returns false'. Refute it at one input. -/
def dotJoinsWrong : ChangeSpec := { name := "dotJoins", fn := fun _ => fun
  | [d1, d2] => { results := [.lit (.bool false)], args := [d1, d2] }
  | _ => none }
def DotJoinsWrongFalsely : Prop := dotJoinsRow.holds Try.pinned (OpenSpec.ofChange dotJoinsWrong)

/-- 'counterpanelaw34.DotLater': WHATEVER THE INPUT: true; the input reads as it did. -/
def dotLaterSpec : ChangeSpec := { name := "dotLater", fn := fun _ => fun
  | [d1, d2] => { results := [.lit (.bool true)], args := [d1, d2] }
  | _ => none }
def dotLaterRow : OpenClaim := { program := "ytggcnglnclpaeaa", sum := "fc1fde339168b889ac9007cf00f6b840ddb8a5092738d3340e1c7398affa41a2", func := "counterpane/counterpanelaw34.DotLater", spec := "dotLater", unfollowed := true, recurses := true, apart := false }
def DotLaterSaid : Prop := dotLaterRow.holds Try.pinned (OpenSpec.ofChange dotLaterSpec)

/-- ITS FALSE NEIGHBOUR: 'it returns false'. Refute it at one input. -/
def dotLaterWrong : ChangeSpec := { name := "dotLater", fn := fun _ => fun
  | [d1, d2] => { results := [.lit (.bool false)], args := [d1, d2] }
  | _ => none }
def DotLaterWrongFalsely : Prop := dotLaterRow.holds Try.pinned (OpenSpec.ofChange dotLaterWrong)

/-- 'counterpanelaw34.DotOrder': WHATEVER THE INPUT: true; the input reads as it did. -/
def dotOrderSpec : ChangeSpec := { name := "dotOrder", fn := fun _ => fun
  | [d1, d2, d3] => { results := [.lit (.bool true)], args := [d1, d2, d3] }
  | _ => none }
def dotOrderRow : OpenClaim := { program := "ytggcnglnclpaeaa", sum := "fc1fde339168b889ac9007cf00f6b840ddb8a5092738d3340e1c7398affa41a2", func := "counterpane/counterpanelaw34.DotOrder", spec := "dotOrder", unfollowed := true, recurses := true, apart := false }
def DotOrderSaid : Prop := dotOrderRow.holds Try.pinned (OpenSpec.ofChange dotOrderSpec)

/-- ITS FALSE NEIGHBOUR: 'it returns false'. Refute it at one input. -/
def dotOrderWrong : ChangeSpec := { name := "dotOrder", fn := fun _ => fun
  | [d1, d2, d3] => { results := [.lit (.bool false)], args := [d1, d2, d3] }
  | _ => none }
def DotOrderWrongFalsely : Prop := dotOrderRow.holds Try.pinned (OpenSpec.ofChange dotOrderWrong)

/-- 'counterpanelaw34.DotNone': WHATEVER THE INPUT: true; the input reads as it did. -/
def dotNoneSpec : ChangeSpec := { name := "dotNone", fn := fun _ => fun
  | [d1, d2, d3] => { results := [.lit (.bool true)], args := [d1, d2, d3] }
  | _ => none }
def dotNoneRow : OpenClaim := { program := "ytggcnglnclpaeaa", sum := "fc1fde339168b889ac9007cf00f6b840ddb8a5092738d3340e1c7398affa41a2", func := "counterpane/counterpanelaw34.DotNone", spec := "dotNone", unfollowed := true, recurses := true, apart := false }
def DotNoneSaid : Prop := dotNoneRow.holds Try.pinned (OpenSpec.ofChange dotNoneSpec)

/-- ITS FALSE NEIGHBOUR: 'it returns false'. Refute it at one input. -/
def dotNoneWrong : ChangeSpec := { name := "dotNone", fn := fun _ => fun
  | [d1, d2, d3] => { results := [.lit (.bool false)], args := [d1, d2, d3] }
  | _ => none }
def DotNoneWrongFalsely : Prop := dotNoneRow.holds Try.pinned (OpenSpec.ofChange dotNoneWrong)

/-- 'counterpanelaw34.DotTurned': WHATEVER THE INPUT: true; the input reads as it did. -/
def dotTurnedSpec : ChangeSpec := { name := "dotTurned", fn := fun _ => fun
  | [d] => { results := [.lit (.bool true)], args := [d] }
  | _ => none }
def dotTurnedRow : OpenClaim := { program := "ytggcnglnclpaeaa", sum := "fc1fde339168b889ac9007cf00f6b840ddb8a5092738d3340e1c7398affa41a2", func := "counterpane/counterpanelaw34.DotTurned", spec := "dotTurned", unfollowed := true, recurses := true, apart := false }
def DotTurnedSaid : Prop := dotTurnedRow.holds Try.pinned (OpenSpec.ofChange dotTurnedSpec)

/-- ITS FALSE NEIGHBOUR: 'it returns false'. Refute it at one input. -/
def dotTurnedWrong : ChangeSpec := { name := "dotTurned", fn := fun _ => fun
  | [d] => { results := [.lit (.bool false)], args := [d] }
  | _ => none }
def DotTurnedWrongFalsely : Prop := dotTurnedRow.holds Try.pinned (OpenSpec.ofChange dotTurnedWrong)

/-- 'counterpanelaw34.DotAbove': WHATEVER THE INPUT: true; the input reads as it did. -/
def dotAboveSpec : ChangeSpec := { name := "dotAbove", fn := fun _ => fun
  | [d1, d2, d3] => { results := [.lit (.bool true)], args := [d1, d2, d3] }
  | _ => none }
def dotAboveRow : OpenClaim := { program := "ytggcnglnclpaeaa", sum := "fc1fde339168b889ac9007cf00f6b840ddb8a5092738d3340e1c7398affa41a2", func := "counterpane/counterpanelaw34.DotAbove", spec := "dotAbove", unfollowed := true, recurses := true, apart := false }
def DotAboveSaid : Prop := dotAboveRow.holds Try.pinned (OpenSpec.ofChange dotAboveSpec)

/-- ITS FALSE NEIGHBOUR: 'it returns false'. Refute it at one input. -/
def dotAboveWrong : ChangeSpec := { name := "dotAbove", fn := fun _ => fun
  | [d1, d2, d3] => { results := [.lit (.bool false)], args := [d1, d2, d3] }
  | _ => none }
def DotAboveWrongFalsely : Prop := dotAboveRow.holds Try.pinned (OpenSpec.ofChange dotAboveWrong)

/- THE SECOND FORM. 'bulk': how many values and letters a reading holds, each counted each time it is reached (what is shared counts as often as it is met; a slice's spare places count too). A statement '..UptoSaid' is the law's where the arguments, and the package variables that the reading takes, are together of bulk at most 1048576: NARROWER than '..Said'. Prove '..Said' where nothing that the law and all that it calls make is longer than what came in: it says more and counts as full. Else prove '..UptoSaid'. A law counts once. -/
mutual
def uptoBulk {H : Type} : DataW H → Nat
  | .lit (.string bytes) => bytes.length + 1
  | .lit _ => 1
  | .nil => 1
  | .ptr d => uptoBulk d + 1
  | .slice elems spare => uptoBulkAll elems + uptoBulkAll spare + 1
  | .agg parts => uptoBulkAll parts + 1
  | .iface _ d => uptoBulk d + 1
  | .map entries => uptoBulkEntries entries + 1
  | .held _ => 1
def uptoBulkAll {H : Type} : List (DataW H) → Nat
  | [] => 0
  | d :: r => uptoBulk d + uptoBulkAll r
def uptoBulkEntries {H : Type} : List (Lit × DataW H) → Nat
  | [] => 0
  | x :: r => uptoBulkEntry x + uptoBulkEntries r
def uptoBulkEntry {H : Type} : Lit × DataW H → Nat
  | (.string bytes, d) => bytes.length + uptoBulk d + 1
  | (_, d) => uptoBulk d + 1
 end
def uptoSmall : (H : Type) → List (DataW H) → Bool := fun _ ds => decide (uptoBulkAll ds ≤ 1048576)
def OpenSpec.upto (s : _root_.Go.ChangeSpec) : _root_.Go.OpenSpec := { _root_.Go.OpenSpec.ofChange s with cond := some uptoSmall }

/-- 'counterpanelaw34.DotAdds', WHERE WHAT IT READS IS OF BULK AT MOST 1048576: true; the input reads as it did. -/
def dotAddsUptoRow : OpenClaim := { program := "ytggcnglnclpaeaa", sum := "fc1fde339168b889ac9007cf00f6b840ddb8a5092738d3340e1c7398affa41a2", func := "counterpane/counterpanelaw34.DotAdds", spec := "dotAdds", unfollowed := true, recurses := true, apart := false, narrowed := true }
def DotAddsUptoSaid : Prop := dotAddsUptoRow.holds Try.pinned (OpenSpec.upto dotAddsSpec)

/-- 'counterpanelaw34.DotJoins', WHERE WHAT IT READS IS OF BULK AT MOST 1048576: true; the input reads as it did. -/
def dotJoinsUptoRow : OpenClaim := { program := "ytggcnglnclpaeaa", sum := "fc1fde339168b889ac9007cf00f6b840ddb8a5092738d3340e1c7398affa41a2", func := "counterpane/counterpanelaw34.DotJoins", spec := "dotJoins", unfollowed := true, recurses := true, apart := false, narrowed := true }
def DotJoinsUptoSaid : Prop := dotJoinsUptoRow.holds Try.pinned (OpenSpec.upto dotJoinsSpec)

/-- 'counterpanelaw34.DotLater', WHERE WHAT IT READS IS OF BULK AT MOST 1048576: true; the input reads as it did. -/
def dotLaterUptoRow : OpenClaim := { program := "ytggcnglnclpaeaa", sum := "fc1fde339168b889ac9007cf00f6b840ddb8a5092738d3340e1c7398affa41a2", func := "counterpane/counterpanelaw34.DotLater", spec := "dotLater", unfollowed := true, recurses := true, apart := false, narrowed := true }
def DotLaterUptoSaid : Prop := dotLaterUptoRow.holds Try.pinned (OpenSpec.upto dotLaterSpec)

/-- 'counterpanelaw34.DotOrder', WHERE WHAT IT READS IS OF BULK AT MOST 1048576: true; the input reads as it did. -/
def dotOrderUptoRow : OpenClaim := { program := "ytggcnglnclpaeaa", sum := "fc1fde339168b889ac9007cf00f6b840ddb8a5092738d3340e1c7398affa41a2", func := "counterpane/counterpanelaw34.DotOrder", spec := "dotOrder", unfollowed := true, recurses := true, apart := false, narrowed := true }
def DotOrderUptoSaid : Prop := dotOrderUptoRow.holds Try.pinned (OpenSpec.upto dotOrderSpec)

/-- 'counterpanelaw34.DotNone', WHERE WHAT IT READS IS OF BULK AT MOST 1048576: true; the input reads as it did. -/
def dotNoneUptoRow : OpenClaim := { program := "ytggcnglnclpaeaa", sum := "fc1fde339168b889ac9007cf00f6b840ddb8a5092738d3340e1c7398affa41a2", func := "counterpane/counterpanelaw34.DotNone", spec := "dotNone", unfollowed := true, recurses := true, apart := false, narrowed := true }
def DotNoneUptoSaid : Prop := dotNoneUptoRow.holds Try.pinned (OpenSpec.upto dotNoneSpec)

/-- 'counterpanelaw34.DotTurned', WHERE WHAT IT READS IS OF BULK AT MOST 1048576: true; the input reads as it did. -/
def dotTurnedUptoRow : OpenClaim := { program := "ytggcnglnclpaeaa", sum := "fc1fde339168b889ac9007cf00f6b840ddb8a5092738d3340e1c7398affa41a2", func := "counterpane/counterpanelaw34.DotTurned", spec := "dotTurned", unfollowed := true, recurses := true, apart := false, narrowed := true }
def DotTurnedUptoSaid : Prop := dotTurnedUptoRow.holds Try.pinned (OpenSpec.upto dotTurnedSpec)

/-- 'counterpanelaw34.DotAbove', WHERE WHAT IT READS IS OF BULK AT MOST 1048576: true; the input reads as it did. -/
def dotAboveUptoRow : OpenClaim := { program := "ytggcnglnclpaeaa", sum := "fc1fde339168b889ac9007cf00f6b840ddb8a5092738d3340e1c7398affa41a2", func := "counterpane/counterpanelaw34.DotAbove", spec := "dotAbove", unfollowed := true, recurses := true, apart := false, narrowed := true }
def DotAboveUptoSaid : Prop := dotAboveUptoRow.holds Try.pinned (OpenSpec.upto dotAboveSpec)

end Rows
end Go.Proofs.Ytggcnglnclpaeaa
