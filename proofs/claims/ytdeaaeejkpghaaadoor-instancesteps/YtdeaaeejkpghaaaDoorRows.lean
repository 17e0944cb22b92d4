/-
  NARROWER THAN 'FOR EVERY INPUT', by the rows' own cells (each row's printed sentence says how): InstanceSteps: laid · InstanceMay: laid.
  DERIVED. THE GIVEN ROWS OF THIS SEAT. 2 by the template 'for every input the law returns true; each argument reads behind the call as it read before'; 0 by the template 'total and deterministic' (their statements: YtdeaaeejkpghaaaDoorTotals.lean).
  GIVEN WITH THE SEED: the statements are not yours to turn. If you find one false, say at which input.
  Laid BY PROGRAM, IN A SANDBOX (cutbox-rows.mjs): the forced cells as the released guide's own fill.sh prints them over the translation 4c6e1a6955561b81… (all of the seat's roots in one cut). By AI agents, Wed Nov 11 2026. No macro, syntax, notation, axiom, sorry.
-/
import Derived.Test.YtdeaaeejkpghaaaDoorChecked
import GoSem.Claim
import GoSem.ClaimJoined
import GoSem.ClaimMapViews
import Derived.JoinedTies
import Derived.KernelRfl
namespace Go.Proofs.YtdeaaeejkpghaaaDoor
/- THE CELL 'sum', in the pinned program and in every row, IS THE sha256 OF THE DUMP (.gsa) THAT YtdeaaeejkpghaaaDoorProg.lean LOADS. Nothing in Lean hashes anything: it is a label: what it is worth is what the hold of that sum in a sandbox is worth. -/
noncomputable def Tryd.pinned : Pinned := { name := "ytdeaaeejkpghaaadoor", sum := "4c6e1a6955561b81ae2298cb35421b08b47396078cdbdd4d9cec4ec43634837e", checked := Tryd.checked }
namespace Rows
def none {H : Type} : Left H := { results := [], args := [] }

/- WHAT THE LISTED PACKAGE-LEVEL VARIABLES READ AS WHEN THE CALL BEGINS. Each datum BY PROGRAM (the guide's laid-datum.mjs) off the statement by which the dump's own 'gosem.cut.vars' lays the variable. In a bare row this is a premise. The card (YtdeaaeejkpghaaaDoorCards.lean) ties it to the program's text. -/
def laid_colloquy_command_needs {H : Type} : DataW H := .agg [.agg [.lit (.bool false), .lit (.bool false)], .agg [.lit (.bool false), .lit (.bool false)], .agg [.lit (.bool false), .lit (.bool false)], .agg [.lit (.bool false), .lit (.bool false)], .agg [.lit (.bool false), .lit (.bool true)], .agg [.lit (.bool true), .lit (.bool true)], .agg [.lit (.bool true), .lit (.bool false)], .agg [.lit (.bool true), .lit (.bool false)]]

/-- 'colloquylaw09.InstanceSteps': WHATEVER THE INPUT: true; the input reads as it did. -/
def instanceStepsSpec : ChangeSpec := { name := "instanceSteps", fn := fun _ => fun
  | [d1, d2, d3, d4] => { results := [.lit (.bool true)], args := [d1, d2, d3, d4] }
  | _ => none }
def instanceStepsRow : OpenClaim := { program := "ytdeaaeejkpghaaadoor", sum := "4c6e1a6955561b81ae2298cb35421b08b47396078cdbdd4d9cec4ec43634837e", func := "colloquy/colloquylaw09.InstanceSteps", spec := "instanceSteps", unfollowed := true, recurses := true, named := ["colloquy/command.needs"], apart := false, laid := [("colloquy/command.needs", laid_colloquy_command_needs)] }
def InstanceStepsSaid : Prop := instanceStepsRow.holds Tryd.pinned (OpenSpec.ofChange instanceStepsSpec)

/-- ITS FALSE NEIGHBOUR: 'it returns false'. Refute it at one input. -/
def instanceStepsWrong : ChangeSpec := { name := "instanceSteps", fn := fun _ => fun
  | [d1, d2, d3, d4] => { results := [.lit (.bool false)], args := [d1, d2, d3, d4] }
  | _ => none }
def InstanceStepsWrongFalsely : Prop := instanceStepsRow.holds Tryd.pinned (OpenSpec.ofChange instanceStepsWrong)

/-- 'colloquylaw09.InstanceMay': WHATEVER THE INPUT: true; the input reads as it did. -/
def instanceMaySpec : ChangeSpec := { name := "instanceMay", fn := fun _ => fun
  | [d1, d2, d3] => { results := [.lit (.bool true)], args := [d1, d2, d3] }
  | _ => none }
def instanceMayRow : OpenClaim := { program := "ytdeaaeejkpghaaadoor", sum := "4c6e1a6955561b81ae2298cb35421b08b47396078cdbdd4d9cec4ec43634837e", func := "colloquy/colloquylaw09.InstanceMay", spec := "instanceMay", unfollowed := true, recurses := true, named := ["colloquy/command.needs"], apart := false, laid := [("colloquy/command.needs", laid_colloquy_command_needs)] }
def InstanceMaySaid : Prop := instanceMayRow.holds Tryd.pinned (OpenSpec.ofChange instanceMaySpec)

/-- ITS FALSE NEIGHBOUR: 'it returns false'. Refute it at one input. -/
def instanceMayWrong : ChangeSpec := { name := "instanceMay", fn := fun _ => fun
  | [d1, d2, d3] => { results := [.lit (.bool false)], args := [d1, d2, d3] }
  | _ => none }
def InstanceMayWrongFalsely : Prop := instanceMayRow.holds Tryd.pinned (OpenSpec.ofChange instanceMayWrong)

/- THE SECOND FORM. 'bulk': how many values and letters a reading holds, each counted each time it is reached (what is shared counts as often as it is met; a slice's spare places count too). A statement '..UptoSaid' is the law's where the arguments, and the package variables that the reading takes, are together of bulk at most 1048576: NARROWER than '..Said'. Prove '..Said' where nothing that the law and all that it calls make is longer than what came in: it says more and counts as full. Else prove '..UptoSaid'. A law counts once. -/
mutual
def uptoBulk {H : Type} : DataW H → Nat
  | .lit (.string bytes) => bytes.length + 1
  | .lit _ => 1
  | .nil => 1
  | .ptr d => uptoBulk d + 1
  | .slice elems spare => uptoBulkAll elems + uptoBulkAll spare + 1
  | .agg parts => uptoBulkAll parts + 1
  | .iface _ d => uptoBulk d + 1
  | .map entries => uptoBulkEntries entries + 1
  | .held _ => 1
def uptoBulkAll {H : Type} : List (DataW H) → Nat
  | [] => 0
  | d :: r => uptoBulk d + uptoBulkAll r
def uptoBulkEntries {H : Type} : List (Lit × DataW H) → Nat
  | [] => 0
  | x :: r => uptoBulkEntry x + uptoBulkEntries r
def uptoBulkEntry {H : Type} : Lit × DataW H → Nat
  | (.string bytes, d) => bytes.length + uptoBulk d + 1
  | (_, d) => uptoBulk d + 1
 end
def uptoSmall : (H : Type) → List (DataW H) → Bool := fun _ ds => decide (uptoBulkAll ds ≤ 1048576)
def OpenSpec.upto (s : _root_.Go.ChangeSpec) : _root_.Go.OpenSpec := { _root_.Go.OpenSpec.ofChange s with cond := some uptoSmall }

/-- 'colloquylaw09.InstanceSteps', WHERE WHAT IT READS IS OF BULK AT MOST 1048576: true; the input reads as it did. -/
def instanceStepsUptoRow : OpenClaim := { program := "ytdeaaeejkpghaaadoor", sum := "4c6e1a6955561b81ae2298cb35421b08b47396078cdbdd4d9cec4ec43634837e", func := "colloquy/colloquylaw09.InstanceSteps", spec := "instanceSteps", unfollowed := true, recurses := true, named := ["colloquy/command.needs"], apart := false, laid := [("colloquy/command.needs", laid_colloquy_command_needs)], narrowed := true }
def InstanceStepsUptoSaid : Prop := instanceStepsUptoRow.holds Tryd.pinned (OpenSpec.upto instanceStepsSpec)

/-- 'colloquylaw09.InstanceMay', WHERE WHAT IT READS IS OF BULK AT MOST 1048576: true; the input reads as it did. -/
def instanceMayUptoRow : OpenClaim := { program := "ytdeaaeejkpghaaadoor", sum := "4c6e1a6955561b81ae2298cb35421b08b47396078cdbdd4d9cec4ec43634837e", func := "colloquy/colloquylaw09.InstanceMay", spec := "instanceMay", unfollowed := true, recurses := true, named := ["colloquy/command.needs"], apart := false, laid := [("colloquy/command.needs", laid_colloquy_command_needs)], narrowed := true }
def InstanceMayUptoSaid : Prop := instanceMayUptoRow.holds Tryd.pinned (OpenSpec.upto instanceMaySpec)

end Rows
end Go.Proofs.YtdeaaeejkpghaaaDoor
