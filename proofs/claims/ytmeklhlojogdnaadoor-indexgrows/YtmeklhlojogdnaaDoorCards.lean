/-
  DERIVED. GIVEN WITH THE SEED: THE CARDS: each row of YtmeklhlojogdnaaDoorRows.lean that lists a variable, with what it lists TIED to the program's text (the seventh form; the later family's looks); each row that meets fmt, with fmt's text TOLD by the authors' own Lean function (tested against real Go, not proved from fmt's source: count such statements apart). THE CARD IS WHAT COUNTS. Prove the row's statement (the work); the ties are given (YtmeklhlojogdnaaDoorTie.lean); close each card by the builder's one call (the guide's Derived/Test/ToyasCard.lean, 'card_holds'). Laid BY PROGRAM, IN A SANDBOX (cutbox-door.mjs). By AI agents, Wed Nov 11 2026. No macro, syntax, notation, axiom, sorry.
-/
import Derived.Test.YtmeklhlojogdnaaDoorRows
import GoSem.ClaimSeven
namespace Go.Proofs.YtmeklhlojogdnaaDoor
namespace Rows

/-- THE TIED CARD OF 'colloquylaw08.IndexOf'. -/
def indexOfCard : Claim7 := { stood := { row := indexOfRow, standIns := [], harness := (true, "ff0bb4375bea55efa16266bd5e425099be6e5092c0e69cdcc6c311bd18fe096f"), looks := false }, kinds := [], alts := [], laidByText := true, laidKinds := [.data], laidTests := true, laidLooks := .later }
def IndexOfCardSaid : Prop := Claim7.holds Tryd.pinned (.plain (OpenSpec.ofChange indexOfSpec)) indexOfCard

/-- THE TIED CARD OF 'colloquylaw08.IndexRuns'. -/
def indexRunsCard : Claim7 := { stood := { row := indexRunsRow, standIns := [], harness := (true, "ff0bb4375bea55efa16266bd5e425099be6e5092c0e69cdcc6c311bd18fe096f"), looks := false }, kinds := [], alts := [], laidByText := true, laidKinds := [.data], laidTests := true, laidLooks := .later }
def IndexRunsCardSaid : Prop := Claim7.holds Tryd.pinned (.plain (OpenSpec.ofChange indexRunsSpec)) indexRunsCard

/-- THE TIED CARD OF 'colloquylaw08.IndexWaits'. -/
def indexWaitsCard : Claim7 := { stood := { row := indexWaitsRow, standIns := [], harness := (true, "ff0bb4375bea55efa16266bd5e425099be6e5092c0e69cdcc6c311bd18fe096f"), looks := false }, kinds := [], alts := [], laidByText := true, laidKinds := [.data], laidTests := true, laidLooks := .later }
def IndexWaitsCardSaid : Prop := Claim7.holds Tryd.pinned (.plain (OpenSpec.ofChange indexWaitsSpec)) indexWaitsCard

/-- THE TIED CARD OF 'colloquylaw08.IndexGrows'. -/
def indexGrowsCard : Claim7 := { stood := { row := indexGrowsRow, standIns := [], harness := (true, "ff0bb4375bea55efa16266bd5e425099be6e5092c0e69cdcc6c311bd18fe096f"), looks := false }, kinds := [], alts := [], laidByText := true, laidKinds := [.data], laidTests := true, laidLooks := .later }
def IndexGrowsCardSaid : Prop := Claim7.holds Tryd.pinned (.plain (OpenSpec.ofChange indexGrowsSpec)) indexGrowsCard

/-- THE TIED CARD OF 'colloquylaw08.IndexOwn'. -/
def indexOwnCard : Claim7 := { stood := { row := indexOwnRow, standIns := [], harness := (true, "ff0bb4375bea55efa16266bd5e425099be6e5092c0e69cdcc6c311bd18fe096f"), looks := false }, kinds := [], alts := [], laidByText := true, laidKinds := [.data], laidTests := true, laidLooks := .later }
def IndexOwnCardSaid : Prop := Claim7.holds Tryd.pinned (.plain (OpenSpec.ofChange indexOwnSpec)) indexOwnCard

/-- THE TIED CARD OF 'colloquylaw08.IndexPlace'. -/
def indexPlaceCard : Claim7 := { stood := { row := indexPlaceRow, standIns := [], harness := (true, "ff0bb4375bea55efa16266bd5e425099be6e5092c0e69cdcc6c311bd18fe096f"), looks := false }, kinds := [], alts := [], laidByText := true, laidKinds := [.data], laidTests := true, laidLooks := .later }
def IndexPlaceCardSaid : Prop := Claim7.holds Tryd.pinned (.plain (OpenSpec.ofChange indexPlaceSpec)) indexPlaceCard

/-- THE SECOND FORM's CARD OF 'colloquylaw08.IndexOf'. -/
def indexOfUptoCard : Claim7 := { stood := { row := indexOfUptoRow, standIns := [], harness := (true, "ff0bb4375bea55efa16266bd5e425099be6e5092c0e69cdcc6c311bd18fe096f"), looks := false }, kinds := [], alts := [], laidByText := true, laidKinds := [.data], laidTests := true, laidLooks := .later }
def IndexOfUptoCardSaid : Prop := Claim7.holds Tryd.pinned (.plain (OpenSpec.upto indexOfSpec)) indexOfUptoCard

/-- THE SECOND FORM's CARD OF 'colloquylaw08.IndexRuns'. -/
def indexRunsUptoCard : Claim7 := { stood := { row := indexRunsUptoRow, standIns := [], harness := (true, "ff0bb4375bea55efa16266bd5e425099be6e5092c0e69cdcc6c311bd18fe096f"), looks := false }, kinds := [], alts := [], laidByText := true, laidKinds := [.data], laidTests := true, laidLooks := .later }
def IndexRunsUptoCardSaid : Prop := Claim7.holds Tryd.pinned (.plain (OpenSpec.upto indexRunsSpec)) indexRunsUptoCard

/-- THE SECOND FORM's CARD OF 'colloquylaw08.IndexWaits'. -/
def indexWaitsUptoCard : Claim7 := { stood := { row := indexWaitsUptoRow, standIns := [], harness := (true, "ff0bb4375bea55efa16266bd5e425099be6e5092c0e69cdcc6c311bd18fe096f"), looks := false }, kinds := [], alts := [], laidByText := true, laidKinds := [.data], laidTests := true, laidLooks := .later }
def IndexWaitsUptoCardSaid : Prop := Claim7.holds Tryd.pinned (.plain (OpenSpec.upto indexWaitsSpec)) indexWaitsUptoCard

/-- THE SECOND FORM's CARD OF 'colloquylaw08.IndexGrows'. -/
def indexGrowsUptoCard : Claim7 := { stood := { row := indexGrowsUptoRow, standIns := [], harness := (true, "ff0bb4375bea55efa16266bd5e425099be6e5092c0e69cdcc6c311bd18fe096f"), looks := false }, kinds := [], alts := [], laidByText := true, laidKinds := [.data], laidTests := true, laidLooks := .later }
def IndexGrowsUptoCardSaid : Prop := Claim7.holds Tryd.pinned (.plain (OpenSpec.upto indexGrowsSpec)) indexGrowsUptoCard

/-- THE SECOND FORM's CARD OF 'colloquylaw08.IndexOwn'. -/
def indexOwnUptoCard : Claim7 := { stood := { row := indexOwnUptoRow, standIns := [], harness := (true, "ff0bb4375bea55efa16266bd5e425099be6e5092c0e69cdcc6c311bd18fe096f"), looks := false }, kinds := [], alts := [], laidByText := true, laidKinds := [.data], laidTests := true, laidLooks := .later }
def IndexOwnUptoCardSaid : Prop := Claim7.holds Tryd.pinned (.plain (OpenSpec.upto indexOwnSpec)) indexOwnUptoCard

/-- THE SECOND FORM's CARD OF 'colloquylaw08.IndexPlace'. -/
def indexPlaceUptoCard : Claim7 := { stood := { row := indexPlaceUptoRow, standIns := [], harness := (true, "ff0bb4375bea55efa16266bd5e425099be6e5092c0e69cdcc6c311bd18fe096f"), looks := false }, kinds := [], alts := [], laidByText := true, laidKinds := [.data], laidTests := true, laidLooks := .later }
def IndexPlaceUptoCardSaid : Prop := Claim7.holds Tryd.pinned (.plain (OpenSpec.upto indexPlaceSpec)) indexPlaceUptoCard
end Rows
end Go.Proofs.YtmeklhlojogdnaaDoor
