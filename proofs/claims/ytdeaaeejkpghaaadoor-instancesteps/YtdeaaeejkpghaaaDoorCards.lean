/-
  DERIVED. GIVEN WITH THE SEED: THE CARDS: each row of YtdeaaeejkpghaaaDoorRows.lean that lists a variable, with what it lists TIED to the program's text (the seventh form; the later family's looks); each row that meets fmt, with fmt's text TOLD by the authors' own Lean function (tested against real Go, not proved from fmt's source: count such statements apart). THE CARD IS WHAT COUNTS. Prove the row's statement (the work); the ties are given (YtdeaaeejkpghaaaDoorTie.lean); close each card by the builder's one call (the guide's Derived/Test/ToyasCard.lean, 'card_holds'). Laid BY PROGRAM, IN A SANDBOX (cutbox-door.mjs). By AI agents, Wed Nov 11 2026. No macro, syntax, notation, axiom, sorry.
-/
import Derived.Test.YtdeaaeejkpghaaaDoorRows
import GoSem.ClaimSeven
namespace Go.Proofs.YtdeaaeejkpghaaaDoor
namespace Rows

/-- THE TIED CARD OF 'colloquylaw09.InstanceSteps'. -/
def instanceStepsCard : Claim7 := { stood := { row := instanceStepsRow, standIns := [], harness := (true, "5b1e35d059fee4b8279d82a158d79bd9500807a7e620fb69564f5f27c9980e42"), looks := false }, kinds := [], alts := [], laidByText := true, laidKinds := [.data], laidTests := true, laidLooks := .later }
def InstanceStepsCardSaid : Prop := Claim7.holds Tryd.pinned (.plain (OpenSpec.ofChange instanceStepsSpec)) instanceStepsCard

/-- THE TIED CARD OF 'colloquylaw09.InstanceMay'. -/
def instanceMayCard : Claim7 := { stood := { row := instanceMayRow, standIns := [], harness := (true, "5b1e35d059fee4b8279d82a158d79bd9500807a7e620fb69564f5f27c9980e42"), looks := false }, kinds := [], alts := [], laidByText := true, laidKinds := [.data], laidTests := true, laidLooks := .later }
def InstanceMayCardSaid : Prop := Claim7.holds Tryd.pinned (.plain (OpenSpec.ofChange instanceMaySpec)) instanceMayCard

/-- THE SECOND FORM's CARD OF 'colloquylaw09.InstanceSteps'. -/
def instanceStepsUptoCard : Claim7 := { stood := { row := instanceStepsUptoRow, standIns := [], harness := (true, "5b1e35d059fee4b8279d82a158d79bd9500807a7e620fb69564f5f27c9980e42"), looks := false }, kinds := [], alts := [], laidByText := true, laidKinds := [.data], laidTests := true, laidLooks := .later }
def InstanceStepsUptoCardSaid : Prop := Claim7.holds Tryd.pinned (.plain (OpenSpec.upto instanceStepsSpec)) instanceStepsUptoCard

/-- THE SECOND FORM's CARD OF 'colloquylaw09.InstanceMay'. -/
def instanceMayUptoCard : Claim7 := { stood := { row := instanceMayUptoRow, standIns := [], harness := (true, "5b1e35d059fee4b8279d82a158d79bd9500807a7e620fb69564f5f27c9980e42"), looks := false }, kinds := [], alts := [], laidByText := true, laidKinds := [.data], laidTests := true, laidLooks := .later }
def InstanceMayUptoCardSaid : Prop := Claim7.holds Tryd.pinned (.plain (OpenSpec.upto instanceMaySpec)) instanceMayUptoCard
end Rows
end Go.Proofs.YtdeaaeejkpghaaaDoor
