/-
  DERIVED. GIVEN WITH THE SEED: THE CARDS: each row of YtdpjkbhofebdiaaDoorRows.lean that lists a variable, with what it lists TIED to the program's text (the seventh form; the later family's looks); each row that meets fmt, with fmt's text TOLD by the authors' own Lean function (tested against real Go, not proved from fmt's source: count such statements apart). THE CARD IS WHAT COUNTS. Prove the row's statement (the work); the ties are given (YtdpjkbhofebdiaaDoorTie.lean); close each card by the builder's one call (the guide's Derived/Test/ToyasCard.lean, 'card_holds'). Laid BY PROGRAM, IN A SANDBOX (cutbox-door.mjs). By AI agents, Wed Nov 11 2026. No macro, syntax, notation, axiom, sorry.
-/
import Derived.Test.YtdpjkbhofebdiaaDoorRows
import GoSem.ClaimSeven
namespace Go.Proofs.YtdpjkbhofebdiaaDoor
namespace Rows

/-- THE TIED CARD OF 'colloquylaw05.KeysTell'. -/
def keysTellCard : Claim7 := { stood := { row := keysTellRow, standIns := [], harness := (true, "bf996c1659db8f8bd19cd74e829fb44e501c00b08f30b8180ae3fe74fe87094c"), looks := false }, kinds := [], alts := [], laidByText := true, laidKinds := [.data], laidTests := true, laidLooks := .later }
def KeysTellCardSaid : Prop := Claim7.holds Tryd.pinned (.plain (OpenSpec.ofChange keysTellSpec)) keysTellCard

/-- THE TIED CARD OF 'colloquylaw05.KeysOf'. -/
def keysOfCard : Claim7 := { stood := { row := keysOfRow, standIns := [], harness := (true, "bf996c1659db8f8bd19cd74e829fb44e501c00b08f30b8180ae3fe74fe87094c"), looks := false }, kinds := [], alts := [], laidByText := true, laidKinds := [.data], laidTests := true, laidLooks := .later }
def KeysOfCardSaid : Prop := Claim7.holds Tryd.pinned (.plain (OpenSpec.ofChange keysOfSpec)) keysOfCard

/-- THE TIED CARD OF 'colloquylaw05.KeysBoth'. -/
def keysBothCard : Claim7 := { stood := { row := keysBothRow, standIns := [], harness := (true, "bf996c1659db8f8bd19cd74e829fb44e501c00b08f30b8180ae3fe74fe87094c"), looks := false }, kinds := [], alts := [], laidByText := true, laidKinds := [.data], laidTests := true, laidLooks := .later }
def KeysBothCardSaid : Prop := Claim7.holds Tryd.pinned (.plain (OpenSpec.ofChange keysBothSpec)) keysBothCard

/-- THE TIED CARD OF 'colloquylaw05.KeysApart'. -/
def keysApartCard : Claim7 := { stood := { row := keysApartRow, standIns := [], harness := (true, "bf996c1659db8f8bd19cd74e829fb44e501c00b08f30b8180ae3fe74fe87094c"), looks := false }, kinds := [], alts := [], laidByText := true, laidKinds := [.data], laidTests := true, laidLooks := .later }
def KeysApartCardSaid : Prop := Claim7.holds Tryd.pinned (.plain (OpenSpec.ofChange keysApartSpec)) keysApartCard

/-- THE TIED CARD OF 'colloquylaw05.KeysAny'. -/
def keysAnyCard : Claim7 := { stood := { row := keysAnyRow, standIns := [], harness := (true, "bf996c1659db8f8bd19cd74e829fb44e501c00b08f30b8180ae3fe74fe87094c"), looks := false }, kinds := [], alts := [], laidByText := true, laidKinds := [.data], laidTests := true, laidLooks := .later }
def KeysAnyCardSaid : Prop := Claim7.holds Tryd.pinned (.plain (OpenSpec.ofChange keysAnySpec)) keysAnyCard

/-- THE TIED CARD OF 'colloquylaw05.KeysRead'. -/
def keysReadCard : Claim7 := { stood := { row := keysReadRow, standIns := [], harness := (true, "bf996c1659db8f8bd19cd74e829fb44e501c00b08f30b8180ae3fe74fe87094c"), looks := false }, kinds := [], alts := [], laidByText := true, laidKinds := [.data], laidTests := true, laidLooks := .later }
def KeysReadCardSaid : Prop := Claim7.holds Tryd.pinned (.plain (OpenSpec.ofChange keysReadSpec)) keysReadCard

/-- THE SECOND FORM's CARD OF 'colloquylaw05.KeysTell'. -/
def keysTellUptoCard : Claim7 := { stood := { row := keysTellUptoRow, standIns := [], harness := (true, "bf996c1659db8f8bd19cd74e829fb44e501c00b08f30b8180ae3fe74fe87094c"), looks := false }, kinds := [], alts := [], laidByText := true, laidKinds := [.data], laidTests := true, laidLooks := .later }
def KeysTellUptoCardSaid : Prop := Claim7.holds Tryd.pinned (.plain (OpenSpec.upto keysTellSpec)) keysTellUptoCard

/-- THE SECOND FORM's CARD OF 'colloquylaw05.KeysOf'. -/
def keysOfUptoCard : Claim7 := { stood := { row := keysOfUptoRow, standIns := [], harness := (true, "bf996c1659db8f8bd19cd74e829fb44e501c00b08f30b8180ae3fe74fe87094c"), looks := false }, kinds := [], alts := [], laidByText := true, laidKinds := [.data], laidTests := true, laidLooks := .later }
def KeysOfUptoCardSaid : Prop := Claim7.holds Tryd.pinned (.plain (OpenSpec.upto keysOfSpec)) keysOfUptoCard

/-- THE SECOND FORM's CARD OF 'colloquylaw05.KeysBoth'. -/
def keysBothUptoCard : Claim7 := { stood := { row := keysBothUptoRow, standIns := [], harness := (true, "bf996c1659db8f8bd19cd74e829fb44e501c00b08f30b8180ae3fe74fe87094c"), looks := false }, kinds := [], alts := [], laidByText := true, laidKinds := [.data], laidTests := true, laidLooks := .later }
def KeysBothUptoCardSaid : Prop := Claim7.holds Tryd.pinned (.plain (OpenSpec.upto keysBothSpec)) keysBothUptoCard

/-- THE SECOND FORM's CARD OF 'colloquylaw05.KeysApart'. -/
def keysApartUptoCard : Claim7 := { stood := { row := keysApartUptoRow, standIns := [], harness := (true, "bf996c1659db8f8bd19cd74e829fb44e501c00b08f30b8180ae3fe74fe87094c"), looks := false }, kinds := [], alts := [], laidByText := true, laidKinds := [.data], laidTests := true, laidLooks := .later }
def KeysApartUptoCardSaid : Prop := Claim7.holds Tryd.pinned (.plain (OpenSpec.upto keysApartSpec)) keysApartUptoCard

/-- THE SECOND FORM's CARD OF 'colloquylaw05.KeysAny'. -/
def keysAnyUptoCard : Claim7 := { stood := { row := keysAnyUptoRow, standIns := [], harness := (true, "bf996c1659db8f8bd19cd74e829fb44e501c00b08f30b8180ae3fe74fe87094c"), looks := false }, kinds := [], alts := [], laidByText := true, laidKinds := [.data], laidTests := true, laidLooks := .later }
def KeysAnyUptoCardSaid : Prop := Claim7.holds Tryd.pinned (.plain (OpenSpec.upto keysAnySpec)) keysAnyUptoCard

/-- THE SECOND FORM's CARD OF 'colloquylaw05.KeysRead'. -/
def keysReadUptoCard : Claim7 := { stood := { row := keysReadUptoRow, standIns := [], harness := (true, "bf996c1659db8f8bd19cd74e829fb44e501c00b08f30b8180ae3fe74fe87094c"), looks := false }, kinds := [], alts := [], laidByText := true, laidKinds := [.data], laidTests := true, laidLooks := .later }
def KeysReadUptoCardSaid : Prop := Claim7.holds Tryd.pinned (.plain (OpenSpec.upto keysReadSpec)) keysReadUptoCard
end Rows
end Go.Proofs.YtdpjkbhofebdiaaDoor
