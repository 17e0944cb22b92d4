/-
  DERIVED. GIVEN WITH THE SEED: THE CARDS: each row of YteajbcngimccmaaDoorRows.lean that lists a variable, with what it lists TIED to the program's text (the seventh form; the later family's looks); each row that meets fmt, with fmt's text TOLD by the authors' own Lean function (tested against real Go, not proved from fmt's source: count such statements apart). THE CARD IS WHAT COUNTS. Prove the row's statement (the work); the ties are given (YteajbcngimccmaaDoorTie.lean); close each card by the builder's one call (the guide's Derived/Test/ToyasCard.lean, 'card_holds'). Laid BY PROGRAM, IN A SANDBOX (cutbox-door.mjs). By AI agents, Wed Nov 11 2026. No macro, syntax, notation, axiom, sorry.
-/
import Derived.Test.YteajbcngimccmaaDoorRows
import GoSem.ClaimSeven
namespace Go.Proofs.YteajbcngimccmaaDoor
namespace Rows

/-- THE TIED CARD OF 'colloquylaw04.CommandPuts'. -/
def commandPutsCard : Claim7 := { stood := { row := commandPutsRow, standIns := [], harness := (true, "93fff19bce4a84e988bf6e2625e0608d0039abc37830b3507fd65811e11668e5"), looks := false }, kinds := [], alts := [], laidByText := true, laidKinds := [.data], laidTests := true, laidLooks := .later }
def CommandPutsCardSaid : Prop := Claim7.holds Tryd.pinned (.plain (OpenSpec.ofChange commandPutsSpec)) commandPutsCard

/-- THE TIED CARD OF 'colloquylaw04.CommandGets'. -/
def commandGetsCard : Claim7 := { stood := { row := commandGetsRow, standIns := [], harness := (true, "93fff19bce4a84e988bf6e2625e0608d0039abc37830b3507fd65811e11668e5"), looks := false }, kinds := [], alts := [], laidByText := true, laidKinds := [.data], laidTests := true, laidLooks := .later }
def CommandGetsCardSaid : Prop := Claim7.holds Tryd.pinned (.plain (OpenSpec.ofChange commandGetsSpec)) commandGetsCard

/-- THE TIED CARD OF 'colloquylaw04.CommandBack'. -/
def commandBackCard : Claim7 := { stood := { row := commandBackRow, standIns := [], harness := (true, "93fff19bce4a84e988bf6e2625e0608d0039abc37830b3507fd65811e11668e5"), looks := false }, kinds := [], alts := [], laidByText := true, laidKinds := [.data], laidTests := true, laidLooks := .later }
def CommandBackCardSaid : Prop := Claim7.holds Tryd.pinned (.plain (OpenSpec.ofChange commandBackSpec)) commandBackCard

/-- THE TIED CARD OF 'colloquylaw04.CommandOnce'. -/
def commandOnceCard : Claim7 := { stood := { row := commandOnceRow, standIns := [], harness := (true, "93fff19bce4a84e988bf6e2625e0608d0039abc37830b3507fd65811e11668e5"), looks := false }, kinds := [], alts := [], laidByText := true, laidKinds := [.data], laidTests := true, laidLooks := .later }
def CommandOnceCardSaid : Prop := Claim7.holds Tryd.pinned (.plain (OpenSpec.ofChange commandOnceSpec)) commandOnceCard

/-- THE TIED CARD OF 'colloquylaw04.CommandNeeds'. -/
def commandNeedsCard : Claim7 := { stood := { row := commandNeedsRow, standIns := [], harness := (true, "93fff19bce4a84e988bf6e2625e0608d0039abc37830b3507fd65811e11668e5"), looks := false }, kinds := [], alts := [], laidByText := true, laidKinds := [.data], laidTests := true, laidLooks := .later }
def CommandNeedsCardSaid : Prop := Claim7.holds Tryd.pinned (.plain (OpenSpec.ofChange commandNeedsSpec)) commandNeedsCard

/-- THE TIED CARD OF 'colloquylaw04.CommandKinds'. -/
def commandKindsCard : Claim7 := { stood := { row := commandKindsRow, standIns := [], harness := (true, "93fff19bce4a84e988bf6e2625e0608d0039abc37830b3507fd65811e11668e5"), looks := false }, kinds := [], alts := [], laidByText := true, laidKinds := [.data], laidTests := true, laidLooks := .later }
def CommandKindsCardSaid : Prop := Claim7.holds Tryd.pinned (.plain (OpenSpec.ofChange commandKindsSpec)) commandKindsCard

/-- THE SECOND FORM's CARD OF 'colloquylaw04.CommandPuts'. -/
def commandPutsUptoCard : Claim7 := { stood := { row := commandPutsUptoRow, standIns := [], harness := (true, "93fff19bce4a84e988bf6e2625e0608d0039abc37830b3507fd65811e11668e5"), looks := false }, kinds := [], alts := [], laidByText := true, laidKinds := [.data], laidTests := true, laidLooks := .later }
def CommandPutsUptoCardSaid : Prop := Claim7.holds Tryd.pinned (.plain (OpenSpec.upto commandPutsSpec)) commandPutsUptoCard

/-- THE SECOND FORM's CARD OF 'colloquylaw04.CommandGets'. -/
def commandGetsUptoCard : Claim7 := { stood := { row := commandGetsUptoRow, standIns := [], harness := (true, "93fff19bce4a84e988bf6e2625e0608d0039abc37830b3507fd65811e11668e5"), looks := false }, kinds := [], alts := [], laidByText := true, laidKinds := [.data], laidTests := true, laidLooks := .later }
def CommandGetsUptoCardSaid : Prop := Claim7.holds Tryd.pinned (.plain (OpenSpec.upto commandGetsSpec)) commandGetsUptoCard

/-- THE SECOND FORM's CARD OF 'colloquylaw04.CommandBack'. -/
def commandBackUptoCard : Claim7 := { stood := { row := commandBackUptoRow, standIns := [], harness := (true, "93fff19bce4a84e988bf6e2625e0608d0039abc37830b3507fd65811e11668e5"), looks := false }, kinds := [], alts := [], laidByText := true, laidKinds := [.data], laidTests := true, laidLooks := .later }
def CommandBackUptoCardSaid : Prop := Claim7.holds Tryd.pinned (.plain (OpenSpec.upto commandBackSpec)) commandBackUptoCard

/-- THE SECOND FORM's CARD OF 'colloquylaw04.CommandOnce'. -/
def commandOnceUptoCard : Claim7 := { stood := { row := commandOnceUptoRow, standIns := [], harness := (true, "93fff19bce4a84e988bf6e2625e0608d0039abc37830b3507fd65811e11668e5"), looks := false }, kinds := [], alts := [], laidByText := true, laidKinds := [.data], laidTests := true, laidLooks := .later }
def CommandOnceUptoCardSaid : Prop := Claim7.holds Tryd.pinned (.plain (OpenSpec.upto commandOnceSpec)) commandOnceUptoCard

/-- THE SECOND FORM's CARD OF 'colloquylaw04.CommandNeeds'. -/
def commandNeedsUptoCard : Claim7 := { stood := { row := commandNeedsUptoRow, standIns := [], harness := (true, "93fff19bce4a84e988bf6e2625e0608d0039abc37830b3507fd65811e11668e5"), looks := false }, kinds := [], alts := [], laidByText := true, laidKinds := [.data], laidTests := true, laidLooks := .later }
def CommandNeedsUptoCardSaid : Prop := Claim7.holds Tryd.pinned (.plain (OpenSpec.upto commandNeedsSpec)) commandNeedsUptoCard

/-- THE SECOND FORM's CARD OF 'colloquylaw04.CommandKinds'. -/
def commandKindsUptoCard : Claim7 := { stood := { row := commandKindsUptoRow, standIns := [], harness := (true, "93fff19bce4a84e988bf6e2625e0608d0039abc37830b3507fd65811e11668e5"), looks := false }, kinds := [], alts := [], laidByText := true, laidKinds := [.data], laidTests := true, laidLooks := .later }
def CommandKindsUptoCardSaid : Prop := Claim7.holds Tryd.pinned (.plain (OpenSpec.upto commandKindsSpec)) commandKindsUptoCard
end Rows
end Go.Proofs.YteajbcngimccmaaDoor
