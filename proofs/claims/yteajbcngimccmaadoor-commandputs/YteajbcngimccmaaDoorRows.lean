/-
  NARROWER THAN 'FOR EVERY INPUT', by the rows' own cells (each row's printed sentence says how): CommandPuts: laid · CommandGets: laid · CommandBack: laid · CommandOnce: laid · CommandNeeds: laid · CommandKinds: laid.
  DERIVED. THE GIVEN ROWS OF THIS SEAT. 6 by the template 'for every input the law returns true; each argument reads behind the call as it read before'; 0 by the template 'total and deterministic' (their statements: YteajbcngimccmaaDoorTotals.lean).
  GIVEN WITH THE SEED: the statements are not yours to turn. If you find one false, say at which input.
  Laid BY PROGRAM, IN A SANDBOX (cutbox-rows.mjs): the forced cells as the released guide's own fill.sh prints them over the translation 218e6fb80eef3beb… (all of the seat's roots in one cut). By AI agents, Wed Nov 11 2026. No macro, syntax, notation, axiom, sorry.
-/
import Derived.Test.YteajbcngimccmaaDoorChecked
import GoSem.Claim
import GoSem.ClaimJoined
import GoSem.ClaimMapViews
import Derived.JoinedTies
import Derived.KernelRfl
namespace Go.Proofs.YteajbcngimccmaaDoor
/- THE CELL 'sum', in the pinned program and in every row, IS THE sha256 OF THE DUMP (.gsa) THAT YteajbcngimccmaaDoorProg.lean LOADS. Nothing in Lean hashes anything: it is a label: what it is worth is what the hold of that sum in a sandbox is worth. -/
noncomputable def Tryd.pinned : Pinned := { name := "yteajbcngimccmaadoor", sum := "218e6fb80eef3beb73347974547fb5875932153c1b4fae6647b3363b1f3104b0", checked := Tryd.checked }
namespace Rows
def none {H : Type} : Left H := { results := [], args := [] }

/- WHAT THE LISTED PACKAGE-LEVEL VARIABLES READ AS WHEN THE CALL BEGINS. Each datum BY PROGRAM (the guide's laid-datum.mjs) off the statement by which the dump's own 'gosem.cut.vars' lays the variable. In a bare row this is a premise. The card (YteajbcngimccmaaDoorCards.lean) ties it to the program's text. -/
def laid_colloquy_command_needs {H : Type} : DataW H := .agg [.agg [.lit (.bool false), .lit (.bool false)], .agg [.lit (.bool false), .lit (.bool false)], .agg [.lit (.bool false), .lit (.bool false)], .agg [.lit (.bool false), .lit (.bool false)], .agg [.lit (.bool false), .lit (.bool true)], .agg [.lit (.bool true), .lit (.bool true)], .agg [.lit (.bool true), .lit (.bool false)], .agg [.lit (.bool true), .lit (.bool false)]]

/-- 'colloquylaw04.CommandPuts': WHATEVER THE INPUT: true; the input reads as it did. -/
def commandPutsSpec : ChangeSpec := { name := "commandPuts", fn := fun _ => fun
  | [d] => { results := [.lit (.bool true)], args := [d] }
  | _ => none }
def commandPutsRow : OpenClaim := { program := "yteajbcngimccmaadoor", sum := "218e6fb80eef3beb73347974547fb5875932153c1b4fae6647b3363b1f3104b0", func := "colloquy/colloquylaw04.CommandPuts", spec := "commandPuts", unfollowed := true, recurses := true, named := ["colloquy/command.needs"], apart := false, laid := [("colloquy/command.needs", laid_colloquy_command_needs)] }
def CommandPutsSaid : Prop := commandPutsRow.holds Tryd.pinned (OpenSpec.ofChange commandPutsSpec)

/-- ITS FALSE NEIGHBOUR: 'it returns false'. Refute it at one input. -/
def commandPutsWrong : ChangeSpec := { name := "commandPuts", fn := fun _ => fun
  | [d] => { results := [.lit (.bool false)], args := [d] }
  | _ => none }
def CommandPutsWrongFalsely : Prop := commandPutsRow.holds Tryd.pinned (OpenSpec.ofChange commandPutsWrong)

/-- 'colloquylaw04.CommandGets': WHATEVER THE INPUT: true; the input reads as it did. -/
def commandGetsSpec : ChangeSpec := { name := "commandGets", fn := fun _ => fun
  | [d] => { results := [.lit (.bool true)], args := [d] }
  | _ => none }
def commandGetsRow : OpenClaim := { program := "yteajbcngimccmaadoor", sum := "218e6fb80eef3beb73347974547fb5875932153c1b4fae6647b3363b1f3104b0", func := "colloquy/colloquylaw04.CommandGets", spec := "commandGets", unfollowed := true, recurses := true, named := ["colloquy/command.needs"], apart := false, laid := [("colloquy/command.needs", laid_colloquy_command_needs)] }
def CommandGetsSaid : Prop := commandGetsRow.holds Tryd.pinned (OpenSpec.ofChange commandGetsSpec)

/-- ITS FALSE NEIGHBOUR: 'it returns false'. Refute it at one input. -/
def commandGetsWrong : ChangeSpec := { name := "commandGets", fn := fun _ => fun
  | [d] => { results := [.lit (.bool false)], args := [d] }
  | _ => none }
def CommandGetsWrongFalsely : Prop := commandGetsRow.holds Tryd.pinned (OpenSpec.ofChange commandGetsWrong)

/-- 'colloquylaw04.CommandBack': WHATEVER THE INPUT: true; the input reads as it did. -/
def commandBackSpec : ChangeSpec := { name := "commandBack", fn := fun _ => fun
  | [d1, d2, d3] => { results := [.lit (.bool true)], args := [d1, d2, d3] }
  | _ => none }
def commandBackRow : OpenClaim := { program := "yteajbcngimccmaadoor", sum := "218e6fb80eef3beb73347974547fb5875932153c1b4fae6647b3363b1f3104b0", func := "colloquy/colloquylaw04.CommandBack", spec := "commandBack", unfollowed := true, recurses := true, named := ["colloquy/command.needs"], apart := false, laid := [("colloquy/command.needs", laid_colloquy_command_needs)] }
def CommandBackSaid : Prop := commandBackRow.holds Tryd.pinned (OpenSpec.ofChange commandBackSpec)

/-- ITS FALSE NEIGHBOUR: 'it returns false'. Refute it at one input. -/
def commandBackWrong : ChangeSpec := { name := "commandBack", fn := fun _ => fun
  | [d1, d2, d3] => { results := [.lit (.bool false)], args := [d1, d2, d3] }
  | _ => none }
def CommandBackWrongFalsely : Prop := commandBackRow.holds Tryd.pinned (OpenSpec.ofChange commandBackWrong)

/-- 'colloquylaw04.CommandOnce': WHATEVER THE INPUT: true; the input reads as it did. -/
def commandOnceSpec : ChangeSpec := { name := "commandOnce", fn := fun _ => fun
  | [d] => { results := [.lit (.bool true)], args := [d] }
  | _ => none }
def commandOnceRow : OpenClaim := { program := "yteajbcngimccmaadoor", sum := "218e6fb80eef3beb73347974547fb5875932153c1b4fae6647b3363b1f3104b0", func := "colloquy/colloquylaw04.CommandOnce", spec := "commandOnce", unfollowed := true, recurses := true, named := ["colloquy/command.needs"], apart := false, laid := [("colloquy/command.needs", laid_colloquy_command_needs)] }
def CommandOnceSaid : Prop := commandOnceRow.holds Tryd.pinned (OpenSpec.ofChange commandOnceSpec)

/-- ITS FALSE NEIGHBOUR: 'it returns false'. Refute it at one input. -/
def commandOnceWrong : ChangeSpec := { name := "commandOnce", fn := fun _ => fun
  | [d] => { results := [.lit (.bool false)], args := [d] }
  | _ => none }
def CommandOnceWrongFalsely : Prop := commandOnceRow.holds Tryd.pinned (OpenSpec.ofChange commandOnceWrong)

/-- 'colloquylaw04.CommandNeeds': WHATEVER THE INPUT: true; the input reads as it did. -/
def commandNeedsSpec : ChangeSpec := { name := "commandNeeds", fn := fun _ => fun
  | [d] => { results := [.lit (.bool true)], args := [d] }
  | _ => none }
def commandNeedsRow : OpenClaim := { program := "yteajbcngimccmaadoor", sum := "218e6fb80eef3beb73347974547fb5875932153c1b4fae6647b3363b1f3104b0", func := "colloquy/colloquylaw04.CommandNeeds", spec := "commandNeeds", unfollowed := true, recurses := true, named := ["colloquy/command.needs"], apart := false, laid := [("colloquy/command.needs", laid_colloquy_command_needs)] }
def CommandNeedsSaid : Prop := commandNeedsRow.holds Tryd.pinned (OpenSpec.ofChange commandNeedsSpec)

/-- ITS FALSE NEIGHBOUR: 'it returns false'. Refute it at one input. -/
def commandNeedsWrong : ChangeSpec := { name := "commandNeeds", fn := fun _ => fun
  | [d] => { results := [.lit (.bool false)], args := [d] }
  | _ => none }
def CommandNeedsWrongFalsely : Prop := commandNeedsRow.holds Tryd.pinned (OpenSpec.ofChange commandNeedsWrong)

/-- 'colloquylaw04.CommandKinds': WHATEVER THE INPUT: true; the input reads as it did. -/
def commandKindsSpec : ChangeSpec := { name := "commandKinds", fn := fun _ => fun
  | [d1, d2] => { results := [.lit (.bool true)], args := [d1, d2] }
  | _ => none }
def commandKindsRow : OpenClaim := { program := "yteajbcngimccmaadoor", sum := "218e6fb80eef3beb73347974547fb5875932153c1b4fae6647b3363b1f3104b0", func := "colloquy/colloquylaw04.CommandKinds", spec := "commandKinds", unfollowed := true, recurses := true, named := ["colloquy/command.needs"], apart := false, laid := [("colloquy/command.needs", laid_colloquy_command_needs)] }
def CommandKindsSaid : Prop := commandKindsRow.holds Tryd.pinned (OpenSpec.ofChange commandKindsSpec)

/-- ITS FALSE NEIGHBOUR: 'it returns false'. Refute it at one input. -/
def commandKindsWrong : ChangeSpec := { name := "commandKinds", fn := fun _ => fun
  | [d1, d2] => { results := [.lit (.bool false)], args := [d1, d2] }
  | _ => none }
def CommandKindsWrongFalsely : Prop := commandKindsRow.holds Tryd.pinned (OpenSpec.ofChange commandKindsWrong)

/- THE SECOND FORM. 'bulk': how many values and letters a reading holds, each counted each time it is reached (what is shared counts as often as it is met; a slice's spare places count too). A statement '..UptoSaid' is the law's where the arguments, and the package variables that the reading takes, are together of bulk at most 1048576: NARROWER than '..Said'. Prove '..Said' where nothing that the law and all that it calls make is longer than what came in: it says more and counts as full. Else prove '..UptoSaid'. A law counts once. -/
mutual
def uptoBulk {H : Type} : DataW H → Nat
  | .lit (.string bytes) => bytes.length + 1
  | .lit _ => 1
  | .nil => 1
  | .ptr d => uptoBulk d + 1
  | .slice elems spare => uptoBulkAll elems + uptoBulkAll spare + 1
  | .agg parts => uptoBulkAll parts + 1
  | .iface _ d => uptoBulk d + 1
  | .map entries => uptoBulkEntries entries + 1
  | .held _ => 1
def uptoBulkAll {H : Type} : List (DataW H) → Nat
  | [] => 0
  | d :: r => uptoBulk d + uptoBulkAll r
def uptoBulkEntries {H : Type} : List (Lit × DataW H) → Nat
  | [] => 0
  | x :: r => uptoBulkEntry x + uptoBulkEntries r
def uptoBulkEntry {H : Type} : Lit × DataW H → Nat
  | (.string bytes, d) => bytes.length + uptoBulk d + 1
  | (_, d) => uptoBulk d + 1
 end
def uptoSmall : (H : Type) → List (DataW H) → Bool := fun _ ds => decide (uptoBulkAll ds ≤ 1048576)
def OpenSpec.upto (s : _root_.Go.ChangeSpec) : _root_.Go.OpenSpec := { _root_.Go.OpenSpec.ofChange s with cond := some uptoSmall }

/-- 'colloquylaw04.CommandPuts', WHERE WHAT IT READS IS OF BULK AT MOST 1048576: true; the input reads as it did. -/
def commandPutsUptoRow : OpenClaim := { program := "yteajbcngimccmaadoor", sum := "218e6fb80eef3beb73347974547fb5875932153c1b4fae6647b3363b1f3104b0", func := "colloquy/colloquylaw04.CommandPuts", spec := "commandPuts", unfollowed := true, recurses := true, named := ["colloquy/command.needs"], apart := false, laid := [("colloquy/command.needs", laid_colloquy_command_needs)], narrowed := true }
def CommandPutsUptoSaid : Prop := commandPutsUptoRow.holds Tryd.pinned (OpenSpec.upto commandPutsSpec)

/-- 'colloquylaw04.CommandGets', WHERE WHAT IT READS IS OF BULK AT MOST 1048576: true; the input reads as it did. -/
def commandGetsUptoRow : OpenClaim := { program := "yteajbcngimccmaadoor", sum := "218e6fb80eef3beb73347974547fb5875932153c1b4fae6647b3363b1f3104b0", func := "colloquy/colloquylaw04.CommandGets", spec := "commandGets", unfollowed := true, recurses := true, named := ["colloquy/command.needs"], apart := false, laid := [("colloquy/command.needs", laid_colloquy_command_needs)], narrowed := true }
def CommandGetsUptoSaid : Prop := commandGetsUptoRow.holds Tryd.pinned (OpenSpec.upto commandGetsSpec)

/-- 'colloquylaw04.CommandBack', WHERE WHAT IT READS IS OF BULK AT MOST 1048576: true; the input reads as it did. -/
def commandBackUptoRow : OpenClaim := { program := "yteajbcngimccmaadoor", sum := "218e6fb80eef3beb73347974547fb5875932153c1b4fae6647b3363b1f3104b0", func := "colloquy/colloquylaw04.CommandBack", spec := "commandBack", unfollowed := true, recurses := true, named := ["colloquy/command.needs"], apart := false, laid := [("colloquy/command.needs", laid_colloquy_command_needs)], narrowed := true }
def CommandBackUptoSaid : Prop := commandBackUptoRow.holds Tryd.pinned (OpenSpec.upto commandBackSpec)

/-- 'colloquylaw04.CommandOnce', WHERE WHAT IT READS IS OF BULK AT MOST 1048576: true; the input reads as it did. -/
def commandOnceUptoRow : OpenClaim := { program := "yteajbcngimccmaadoor", sum := "218e6fb80eef3beb73347974547fb5875932153c1b4fae6647b3363b1f3104b0", func := "colloquy/colloquylaw04.CommandOnce", spec := "commandOnce", unfollowed := true, recurses := true, named := ["colloquy/command.needs"], apart := false, laid := [("colloquy/command.needs", laid_colloquy_command_needs)], narrowed := true }
def CommandOnceUptoSaid : Prop := commandOnceUptoRow.holds Tryd.pinned (OpenSpec.upto commandOnceSpec)

/-- 'colloquylaw04.CommandNeeds', WHERE WHAT IT READS IS OF BULK AT MOST 1048576: true; the input reads as it did. -/
def commandNeedsUptoRow : OpenClaim := { program := "yteajbcngimccmaadoor", sum := "218e6fb80eef3beb73347974547fb5875932153c1b4fae6647b3363b1f3104b0", func := "colloquy/colloquylaw04.CommandNeeds", spec := "commandNeeds", unfollowed := true, recurses := true, named := ["colloquy/command.needs"], apart := false, laid := [("colloquy/command.needs", laid_colloquy_command_needs)], narrowed := true }
def CommandNeedsUptoSaid : Prop := commandNeedsUptoRow.holds Tryd.pinned (OpenSpec.upto commandNeedsSpec)

/-- 'colloquylaw04.CommandKinds', WHERE WHAT IT READS IS OF BULK AT MOST 1048576: true; the input reads as it did. -/
def commandKindsUptoRow : OpenClaim := { program := "yteajbcngimccmaadoor", sum := "218e6fb80eef3beb73347974547fb5875932153c1b4fae6647b3363b1f3104b0", func := "colloquy/colloquylaw04.CommandKinds", spec := "commandKinds", unfollowed := true, recurses := true, named := ["colloquy/command.needs"], apart := false, laid := [("colloquy/command.needs", laid_colloquy_command_needs)], narrowed := true }
def CommandKindsUptoSaid : Prop := commandKindsUptoRow.holds Tryd.pinned (OpenSpec.upto commandKindsSpec)

end Rows
end Go.Proofs.YteajbcngimccmaaDoor
