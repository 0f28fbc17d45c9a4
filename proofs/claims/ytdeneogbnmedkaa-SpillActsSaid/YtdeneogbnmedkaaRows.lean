/-
  No cell of these rows narrows 'for every input' (looked for: loops, veiled, ifaces, maps, wideKeys, modest, calm, conditions, laid).
  DERIVED. THE GIVEN ROWS OF THIS SEAT. 6 by the template 'for every input the law returns true; each argument reads behind the call as it read before'; 0 by the template 'total and deterministic' (their statements: YtdeneogbnmedkaaTotals.lean).
  GIVEN WITH THE SEED: the statements are not yours to turn. If you find one false, say at which input.
  Laid BY PROGRAM, IN A SANDBOX (cutbox-rows.mjs): the forced cells as the released guide's own fill.sh prints them over the translation 06974685b21ef9fd… (all of the seat's roots in one cut). By AI agents, Wed Nov 11 2026. No macro, syntax, notation, axiom, sorry.
-/
import Derived.Test.YtdeneogbnmedkaaChecked
import GoSem.Claim
import GoSem.ClaimJoined
import GoSem.ClaimMapViews
import Derived.JoinedTies
import Derived.KernelRfl
namespace Go.Proofs.Ytdeneogbnmedkaa
/- THE CELL 'sum', in the pinned program and in every row, IS THE sha256 OF THE DUMP (.gsa) THAT YtdeneogbnmedkaaProg.lean LOADS. Nothing in Lean hashes anything: it is a label: what it is worth is what the hold of that sum in a sandbox is worth. -/
noncomputable def Try.pinned : Pinned := { name := "ytdeneogbnmedkaa", sum := "06974685b21ef9fdf47dba4ff5b796e86f0b4e7d3857a47d0ebd8849652108dd", checked := Try.checked }
namespace Rows
def none {H : Type} : Left H := { results := [], args := [] }

/-- 'counterpanelaw23.SpillActs': WHATEVER THE INPUT: true; the input reads as it did. -/
def spillActsSpec : ChangeSpec := { name := "spillActs", fn := fun _ => fun
  | [d1, d2, d3] => { results := [.lit (.bool true)], args := [d1, d2, d3] }
  | _ => none }
def spillActsRow : OpenClaim := { program := "ytdeneogbnmedkaa", sum := "06974685b21ef9fdf47dba4ff5b796e86f0b4e7d3857a47d0ebd8849652108dd", func := "counterpane/counterpanelaw23.SpillActs", spec := "spillActs", unfollowed := true, recurses := true, plainKeys := false, apart := false }
def SpillActsSaid : Prop := spillActsRow.holds Try.pinned (OpenSpec.ofChange spillActsSpec)

/-- ITS FALSE NEIGHBOUR: 'it returns false'. Refute it at one input. -/
def spillActsWrong : ChangeSpec := { name := "spillActs", fn := fun _ => fun
  | [d1, d2, d3] => { results := [.lit (.bool false)], args := [d1, d2, d3] }
  | _ => none }
def SpillActsWrongFalsely : Prop := spillActsRow.holds Try.pinned (OpenSpec.ofChange spillActsWrong)

/-- 'counterpanelaw23.SpillApart': WHATEVER THE INPUT: true; the input reads as it did. -/
def spillApartSpec : ChangeSpec := { name := "spillApart", fn := fun _ => fun
  | [d1, d2, d3] => { results := [.lit (.bool true)], args := [d1, d2, d3] }
  | _ => none }
def spillApartRow : OpenClaim := { program := "ytdeneogbnmedkaa", sum := "06974685b21ef9fdf47dba4ff5b796e86f0b4e7d3857a47d0ebd8849652108dd", func := "counterpane/counterpanelaw23.SpillApart", spec := "spillApart", unfollowed := true, recurses := true, plainKeys := false, apart := false }
def SpillApartSaid : Prop := spillApartRow.holds Try.pinned (OpenSpec.ofChange spillApartSpec)

/-- ITS FALSE NEIGHBOUR: 'it returns false'. Refute it at one input. -/
def spillApartWrong : ChangeSpec := { name := "spillApart", fn := fun _ => fun
  | [d1, d2, d3] => { results := [.lit (.bool false)], args := [d1, d2, d3] }
  | _ => none }
def SpillApartWrongFalsely : Prop := spillApartRow.holds Try.pinned (OpenSpec.ofChange spillApartWrong)

/-- 'counterpanelaw23.SpillContent': WHATEVER THE INPUT: true; the input reads as it did. -/
def spillContentSpec : ChangeSpec := { name := "spillContent", fn := fun _ => fun
  | [d1, d2, d3] => { results := [.lit (.bool true)], args := [d1, d2, d3] }
  | _ => none }
def spillContentRow : OpenClaim := { program := "ytdeneogbnmedkaa", sum := "06974685b21ef9fdf47dba4ff5b796e86f0b4e7d3857a47d0ebd8849652108dd", func := "counterpane/counterpanelaw23.SpillContent", spec := "spillContent", unfollowed := true, recurses := true, plainKeys := false, apart := false }
def SpillContentSaid : Prop := spillContentRow.holds Try.pinned (OpenSpec.ofChange spillContentSpec)

/-- ITS FALSE NEIGHBOUR: 'it returns false'. Refute it at one input. -/
def spillContentWrong : ChangeSpec := { name := "spillContent", fn := fun _ => fun
  | [d1, d2, d3] => { results := [.lit (.bool false)], args := [d1, d2, d3] }
  | _ => none }
def SpillContentWrongFalsely : Prop := spillContentRow.holds Try.pinned (OpenSpec.ofChange spillContentWrong)

/-- 'counterpanelaw23.SpillBars': WHATEVER THE INPUT: true; the input reads as it did. -/
def spillBarsSpec : ChangeSpec := { name := "spillBars", fn := fun _ => fun
  | [d1, d2, d3] => { results := [.lit (.bool true)], args := [d1, d2, d3] }
  | _ => none }
def spillBarsRow : OpenClaim := { program := "ytdeneogbnmedkaa", sum := "06974685b21ef9fdf47dba4ff5b796e86f0b4e7d3857a47d0ebd8849652108dd", func := "counterpane/counterpanelaw23.SpillBars", spec := "spillBars", unfollowed := true, recurses := true, plainKeys := false, apart := false }
def SpillBarsSaid : Prop := spillBarsRow.holds Try.pinned (OpenSpec.ofChange spillBarsSpec)

/-- ITS FALSE NEIGHBOUR: 'it returns false'. Refute it at one input. -/
def spillBarsWrong : ChangeSpec := { name := "spillBars", fn := fun _ => fun
  | [d1, d2, d3] => { results := [.lit (.bool false)], args := [d1, d2, d3] }
  | _ => none }
def SpillBarsWrongFalsely : Prop := spillBarsRow.holds Try.pinned (OpenSpec.ofChange spillBarsWrong)

/-- 'counterpanelaw23.SpillTurned': WHATEVER THE INPUT: true; the input reads as it did. -/
def spillTurnedSpec : ChangeSpec := { name := "spillTurned", fn := fun _ => fun
  | [d1, d2, d3] => { results := [.lit (.bool true)], args := [d1, d2, d3] }
  | _ => none }
def spillTurnedRow : OpenClaim := { program := "ytdeneogbnmedkaa", sum := "06974685b21ef9fdf47dba4ff5b796e86f0b4e7d3857a47d0ebd8849652108dd", func := "counterpane/counterpanelaw23.SpillTurned", spec := "spillTurned", unfollowed := true, recurses := true, plainKeys := false, apart := false }
def SpillTurnedSaid : Prop := spillTurnedRow.holds Try.pinned (OpenSpec.ofChange spillTurnedSpec)

/-- ITS FALSE NEIGHBOUR: 'it returns false'. Refute it at one input. -/
def spillTurnedWrong : ChangeSpec := { name := "spillTurned", fn := fun _ => fun
  | [d1, d2, d3] => { results := [.lit (.bool false)], args := [d1, d2, d3] }
  | _ => none }
def SpillTurnedWrongFalsely : Prop := spillTurnedRow.holds Try.pinned (OpenSpec.ofChange spillTurnedWrong)

/-- 'counterpanelaw23.SpillFree': WHATEVER THE INPUT: true; the input reads as it did. -/
def spillFreeSpec : ChangeSpec := { name := "spillFree", fn := fun _ => fun
  | [d1, d2, d3] => { results := [.lit (.bool true)], args := [d1, d2, d3] }
  | _ => none }
def spillFreeRow : OpenClaim := { program := "ytdeneogbnmedkaa", sum := "06974685b21ef9fdf47dba4ff5b796e86f0b4e7d3857a47d0ebd8849652108dd", func := "counterpane/counterpanelaw23.SpillFree", spec := "spillFree", unfollowed := true, recurses := true, plainKeys := false, apart := false }
def SpillFreeSaid : Prop := spillFreeRow.holds Try.pinned (OpenSpec.ofChange spillFreeSpec)

/-- ITS FALSE NEIGHBOUR: 'it returns false'. Refute it at one input. -/
def spillFreeWrong : ChangeSpec := { name := "spillFree", fn := fun _ => fun
  | [d1, d2, d3] => { results := [.lit (.bool false)], args := [d1, d2, d3] }
  | _ => none }
def SpillFreeWrongFalsely : Prop := spillFreeRow.holds Try.pinned (OpenSpec.ofChange spillFreeWrong)

/- THE SECOND FORM. 'bulk': how many values and letters a reading holds, each counted each time it is reached (what is shared counts as often as it is met; a slice's spare places count too). A statement '..UptoSaid' is the law's where the arguments, and the package variables that the reading takes, are together of bulk at most 1048576: NARROWER than '..Said'. Prove '..Said' where nothing that the law and all that it calls make is longer than what came in: it says more and counts as full. Else prove '..UptoSaid'. A law counts once. -/
mutual
def uptoBulk {H : Type} : DataW H → Nat
  | .lit (.string bytes) => bytes.length + 1
  | .lit _ => 1
  | .nil => 1
  | .ptr d => uptoBulk d + 1
  | .slice elems spare => uptoBulkAll elems + uptoBulkAll spare + 1
  | .agg parts => uptoBulkAll parts + 1
  | .iface _ d => uptoBulk d + 1
  | .map entries => uptoBulkEntries entries + 1
  | .held _ => 1
def uptoBulkAll {H : Type} : List (DataW H) → Nat
  | [] => 0
  | d :: r => uptoBulk d + uptoBulkAll r
def uptoBulkEntries {H : Type} : List (Lit × DataW H) → Nat
  | [] => 0
  | x :: r => uptoBulkEntry x + uptoBulkEntries r
def uptoBulkEntry {H : Type} : Lit × DataW H → Nat
  | (.string bytes, d) => bytes.length + uptoBulk d + 1
  | (_, d) => uptoBulk d + 1
 end
def uptoSmall : (H : Type) → List (DataW H) → Bool := fun _ ds => decide (uptoBulkAll ds ≤ 1048576)
def OpenSpec.upto (s : _root_.Go.ChangeSpec) : _root_.Go.OpenSpec := { _root_.Go.OpenSpec.ofChange s with cond := some uptoSmall }

/-- 'counterpanelaw23.SpillActs', WHERE WHAT IT READS IS OF BULK AT MOST 1048576: true; the input reads as it did. -/
def spillActsUptoRow : OpenClaim := { program := "ytdeneogbnmedkaa", sum := "06974685b21ef9fdf47dba4ff5b796e86f0b4e7d3857a47d0ebd8849652108dd", func := "counterpane/counterpanelaw23.SpillActs", spec := "spillActs", unfollowed := true, recurses := true, plainKeys := false, apart := false, narrowed := true }
def SpillActsUptoSaid : Prop := spillActsUptoRow.holds Try.pinned (OpenSpec.upto spillActsSpec)

/-- 'counterpanelaw23.SpillApart', WHERE WHAT IT READS IS OF BULK AT MOST 1048576: true; the input reads as it did. -/
def spillApartUptoRow : OpenClaim := { program := "ytdeneogbnmedkaa", sum := "06974685b21ef9fdf47dba4ff5b796e86f0b4e7d3857a47d0ebd8849652108dd", func := "counterpane/counterpanelaw23.SpillApart", spec := "spillApart", unfollowed := true, recurses := true, plainKeys := false, apart := false, narrowed := true }
def SpillApartUptoSaid : Prop := spillApartUptoRow.holds Try.pinned (OpenSpec.upto spillApartSpec)

/-- 'counterpanelaw23.SpillContent', WHERE WHAT IT READS IS OF BULK AT MOST 1048576: true; the input reads as it did. -/
def spillContentUptoRow : OpenClaim := { program := "ytdeneogbnmedkaa", sum := "06974685b21ef9fdf47dba4ff5b796e86f0b4e7d3857a47d0ebd8849652108dd", func := "counterpane/counterpanelaw23.SpillContent", spec := "spillContent", unfollowed := true, recurses := true, plainKeys := false, apart := false, narrowed := true }
def SpillContentUptoSaid : Prop := spillContentUptoRow.holds Try.pinned (OpenSpec.upto spillContentSpec)

/-- 'counterpanelaw23.SpillBars', WHERE WHAT IT READS IS OF BULK AT MOST 1048576: true; the input reads as it did. -/
def spillBarsUptoRow : OpenClaim := { program := "ytdeneogbnmedkaa", sum := "06974685b21ef9fdf47dba4ff5b796e86f0b4e7d3857a47d0ebd8849652108dd", func := "counterpane/counterpanelaw23.SpillBars", spec := "spillBars", unfollowed := true, recurses := true, plainKeys := false, apart := false, narrowed := true }
def SpillBarsUptoSaid : Prop := spillBarsUptoRow.holds Try.pinned (OpenSpec.upto spillBarsSpec)

/-- 'counterpanelaw23.SpillTurned', WHERE WHAT IT READS IS OF BULK AT MOST 1048576: true; the input reads as it did. -/
def spillTurnedUptoRow : OpenClaim := { program := "ytdeneogbnmedkaa", sum := "06974685b21ef9fdf47dba4ff5b796e86f0b4e7d3857a47d0ebd8849652108dd", func := "counterpane/counterpanelaw23.SpillTurned", spec := "spillTurned", unfollowed := true, recurses := true, plainKeys := false, apart := false, narrowed := true }
def SpillTurnedUptoSaid : Prop := spillTurnedUptoRow.holds Try.pinned (OpenSpec.upto spillTurnedSpec)

/-- 'counterpanelaw23.SpillFree', WHERE WHAT IT READS IS OF BULK AT MOST 1048576: true; the input reads as it did. -/
def spillFreeUptoRow : OpenClaim := { program := "ytdeneogbnmedkaa", sum := "06974685b21ef9fdf47dba4ff5b796e86f0b4e7d3857a47d0ebd8849652108dd", func := "counterpane/counterpanelaw23.SpillFree", spec := "spillFree", unfollowed := true, recurses := true, plainKeys := false, apart := false, narrowed := true }
def SpillFreeUptoSaid : Prop := spillFreeUptoRow.holds Try.pinned (OpenSpec.upto spillFreeSpec)

end Rows
end Go.Proofs.Ytdeneogbnmedkaa
