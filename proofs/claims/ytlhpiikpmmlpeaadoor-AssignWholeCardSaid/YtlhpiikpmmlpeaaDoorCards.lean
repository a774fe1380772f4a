/-
  DERIVED. GIVEN WITH THE SEED: THE CARDS: each row of YtlhpiikpmmlpeaaDoorRows.lean that lists a variable, with what it lists TIED to the program's text (the seventh form; the later family's looks); each row that meets fmt, with fmt's text TOLD by the authors' own Lean function (tested against real Go, not proved from fmt's source: count such statements apart). THE CARD IS WHAT COUNTS. Prove the row's statement (the work); the ties are given (YtlhpiikpmmlpeaaDoorTie.lean); close each card by the builder's one call (the guide's Derived/Test/ToyasCard.lean, 'card_holds'). Laid BY PROGRAM, IN A SANDBOX (cutbox-door.mjs). By AI agents, Wed Nov 11 2026. No macro, syntax, notation, axiom, sorry.
-/
import Derived.Test.YtlhpiikpmmlpeaaDoorRows
import GoSem.ClaimSeven
namespace Go.Proofs.YtlhpiikpmmlpeaaDoor
namespace Rows

/-- THE TIED CARD OF 'kurganlaw12.AssignNews'. -/
def assignNewsCard : Claim7 := { stood := { row := assignNewsRow, standIns := [], harness := (true, "c3ce11de4c83aa32dce22ca20d64c61944e3ccf3efb5dc87945780edc5757772"), looks := false }, kinds := [], alts := [], laidByText := true, laidKinds := [.data], laidTests := true, laidLooks := .later }
def AssignNewsCardSaid : Prop := Claim7.holds Tryd.pinned (.plain (OpenSpec.ofChange assignNewsSpec)) assignNewsCard

/-- THE TIED CARD OF 'kurganlaw12.AssignKids'. -/
def assignKidsCard : Claim7 := { stood := { row := assignKidsRow, standIns := [], harness := (true, "c3ce11de4c83aa32dce22ca20d64c61944e3ccf3efb5dc87945780edc5757772"), looks := false }, kinds := [], alts := [], laidByText := true, laidKinds := [.data], laidTests := true, laidLooks := .later }
def AssignKidsCardSaid : Prop := Claim7.holds Tryd.pinned (.plain (OpenSpec.ofChange assignKidsSpec)) assignKidsCard

/-- THE TIED CARD OF 'kurganlaw12.AssignBounds'. -/
def assignBoundsCard : Claim7 := { stood := { row := assignBoundsRow, standIns := [], harness := (true, "c3ce11de4c83aa32dce22ca20d64c61944e3ccf3efb5dc87945780edc5757772"), looks := false }, kinds := [], alts := [], laidByText := true, laidKinds := [.data], laidTests := true, laidLooks := .later }
def AssignBoundsCardSaid : Prop := Claim7.holds Tryd.pinned (.plain (OpenSpec.ofChange assignBoundsSpec)) assignBoundsCard

/-- THE TIED CARD OF 'kurganlaw12.AssignBelow'. -/
def assignBelowCard : Claim7 := { stood := { row := assignBelowRow, standIns := [], harness := (true, "c3ce11de4c83aa32dce22ca20d64c61944e3ccf3efb5dc87945780edc5757772"), looks := false }, kinds := [], alts := [], laidByText := true, laidKinds := [.data], laidTests := true, laidLooks := .later }
def AssignBelowCardSaid : Prop := Claim7.holds Tryd.pinned (.plain (OpenSpec.ofChange assignBelowSpec)) assignBelowCard

/-- THE TIED CARD OF 'kurganlaw12.AssignWhole'. -/
def assignWholeCard : Claim7 := { stood := { row := assignWholeRow, standIns := [], harness := (true, "c3ce11de4c83aa32dce22ca20d64c61944e3ccf3efb5dc87945780edc5757772"), looks := false }, kinds := [], alts := [], laidByText := true, laidKinds := [.data], laidTests := true, laidLooks := .later }
def AssignWholeCardSaid : Prop := Claim7.holds Tryd.pinned (.plain (OpenSpec.ofChange assignWholeSpec)) assignWholeCard

/-- THE TIED CARD OF 'kurganlaw13.TourNews'. -/
def tourNewsCard : Claim7 := { stood := { row := tourNewsRow, standIns := [], harness := (true, "c3ce11de4c83aa32dce22ca20d64c61944e3ccf3efb5dc87945780edc5757772"), looks := false }, kinds := [], alts := [], laidByText := true, laidKinds := [.data], laidTests := true, laidLooks := .later }
def TourNewsCardSaid : Prop := Claim7.holds Tryd.pinned (.plain (OpenSpec.ofChange tourNewsSpec)) tourNewsCard

/-- THE TIED CARD OF 'kurganlaw13.TourKids'. -/
def tourKidsCard : Claim7 := { stood := { row := tourKidsRow, standIns := [], harness := (true, "c3ce11de4c83aa32dce22ca20d64c61944e3ccf3efb5dc87945780edc5757772"), looks := false }, kinds := [], alts := [], laidByText := true, laidKinds := [.data], laidTests := true, laidLooks := .later }
def TourKidsCardSaid : Prop := Claim7.holds Tryd.pinned (.plain (OpenSpec.ofChange tourKidsSpec)) tourKidsCard

/-- THE TIED CARD OF 'kurganlaw13.TourBounds'. -/
def tourBoundsCard : Claim7 := { stood := { row := tourBoundsRow, standIns := [], harness := (true, "c3ce11de4c83aa32dce22ca20d64c61944e3ccf3efb5dc87945780edc5757772"), looks := false }, kinds := [], alts := [], laidByText := true, laidKinds := [.data], laidTests := true, laidLooks := .later }
def TourBoundsCardSaid : Prop := Claim7.holds Tryd.pinned (.plain (OpenSpec.ofChange tourBoundsSpec)) tourBoundsCard

/-- THE TIED CARD OF 'kurganlaw13.TourBelow'. -/
def tourBelowCard : Claim7 := { stood := { row := tourBelowRow, standIns := [], harness := (true, "c3ce11de4c83aa32dce22ca20d64c61944e3ccf3efb5dc87945780edc5757772"), looks := false }, kinds := [], alts := [], laidByText := true, laidKinds := [.data], laidTests := true, laidLooks := .later }
def TourBelowCardSaid : Prop := Claim7.holds Tryd.pinned (.plain (OpenSpec.ofChange tourBelowSpec)) tourBelowCard

/-- THE TIED CARD OF 'kurganlaw13.TourWhole'. -/
def tourWholeCard : Claim7 := { stood := { row := tourWholeRow, standIns := [], harness := (true, "c3ce11de4c83aa32dce22ca20d64c61944e3ccf3efb5dc87945780edc5757772"), looks := false }, kinds := [], alts := [], laidByText := true, laidKinds := [.data], laidTests := true, laidLooks := .later }
def TourWholeCardSaid : Prop := Claim7.holds Tryd.pinned (.plain (OpenSpec.ofChange tourWholeSpec)) tourWholeCard

/-- THE SECOND FORM's CARD OF 'kurganlaw12.AssignNews'. -/
def assignNewsUptoCard : Claim7 := { stood := { row := assignNewsUptoRow, standIns := [], harness := (true, "c3ce11de4c83aa32dce22ca20d64c61944e3ccf3efb5dc87945780edc5757772"), looks := false }, kinds := [], alts := [], laidByText := true, laidKinds := [.data], laidTests := true, laidLooks := .later }
def AssignNewsUptoCardSaid : Prop := Claim7.holds Tryd.pinned (.plain (OpenSpec.upto assignNewsSpec)) assignNewsUptoCard

/-- THE SECOND FORM's CARD OF 'kurganlaw12.AssignKids'. -/
def assignKidsUptoCard : Claim7 := { stood := { row := assignKidsUptoRow, standIns := [], harness := (true, "c3ce11de4c83aa32dce22ca20d64c61944e3ccf3efb5dc87945780edc5757772"), looks := false }, kinds := [], alts := [], laidByText := true, laidKinds := [.data], laidTests := true, laidLooks := .later }
def AssignKidsUptoCardSaid : Prop := Claim7.holds Tryd.pinned (.plain (OpenSpec.upto assignKidsSpec)) assignKidsUptoCard

/-- THE SECOND FORM's CARD OF 'kurganlaw12.AssignBounds'. -/
def assignBoundsUptoCard : Claim7 := { stood := { row := assignBoundsUptoRow, standIns := [], harness := (true, "c3ce11de4c83aa32dce22ca20d64c61944e3ccf3efb5dc87945780edc5757772"), looks := false }, kinds := [], alts := [], laidByText := true, laidKinds := [.data], laidTests := true, laidLooks := .later }
def AssignBoundsUptoCardSaid : Prop := Claim7.holds Tryd.pinned (.plain (OpenSpec.upto assignBoundsSpec)) assignBoundsUptoCard

/-- THE SECOND FORM's CARD OF 'kurganlaw12.AssignBelow'. -/
def assignBelowUptoCard : Claim7 := { stood := { row := assignBelowUptoRow, standIns := [], harness := (true, "c3ce11de4c83aa32dce22ca20d64c61944e3ccf3efb5dc87945780edc5757772"), looks := false }, kinds := [], alts := [], laidByText := true, laidKinds := [.data], laidTests := true, laidLooks := .later }
def AssignBelowUptoCardSaid : Prop := Claim7.holds Tryd.pinned (.plain (OpenSpec.upto assignBelowSpec)) assignBelowUptoCard

/-- THE SECOND FORM's CARD OF 'kurganlaw12.AssignWhole'. -/
def assignWholeUptoCard : Claim7 := { stood := { row := assignWholeUptoRow, standIns := [], harness := (true, "c3ce11de4c83aa32dce22ca20d64c61944e3ccf3efb5dc87945780edc5757772"), looks := false }, kinds := [], alts := [], laidByText := true, laidKinds := [.data], laidTests := true, laidLooks := .later }
def AssignWholeUptoCardSaid : Prop := Claim7.holds Tryd.pinned (.plain (OpenSpec.upto assignWholeSpec)) assignWholeUptoCard

/-- THE SECOND FORM's CARD OF 'kurganlaw13.TourNews'. -/
def tourNewsUptoCard : Claim7 := { stood := { row := tourNewsUptoRow, standIns := [], harness := (true, "c3ce11de4c83aa32dce22ca20d64c61944e3ccf3efb5dc87945780edc5757772"), looks := false }, kinds := [], alts := [], laidByText := true, laidKinds := [.data], laidTests := true, laidLooks := .later }
def TourNewsUptoCardSaid : Prop := Claim7.holds Tryd.pinned (.plain (OpenSpec.upto tourNewsSpec)) tourNewsUptoCard

/-- THE SECOND FORM's CARD OF 'kurganlaw13.TourKids'. -/
def tourKidsUptoCard : Claim7 := { stood := { row := tourKidsUptoRow, standIns := [], harness := (true, "c3ce11de4c83aa32dce22ca20d64c61944e3ccf3efb5dc87945780edc5757772"), looks := false }, kinds := [], alts := [], laidByText := true, laidKinds := [.data], laidTests := true, laidLooks := .later }
def TourKidsUptoCardSaid : Prop := Claim7.holds Tryd.pinned (.plain (OpenSpec.upto tourKidsSpec)) tourKidsUptoCard

/-- THE SECOND FORM's CARD OF 'kurganlaw13.TourBounds'. -/
def tourBoundsUptoCard : Claim7 := { stood := { row := tourBoundsUptoRow, standIns := [], harness := (true, "c3ce11de4c83aa32dce22ca20d64c61944e3ccf3efb5dc87945780edc5757772"), looks := false }, kinds := [], alts := [], laidByText := true, laidKinds := [.data], laidTests := true, laidLooks := .later }
def TourBoundsUptoCardSaid : Prop := Claim7.holds Tryd.pinned (.plain (OpenSpec.upto tourBoundsSpec)) tourBoundsUptoCard

/-- THE SECOND FORM's CARD OF 'kurganlaw13.TourBelow'. -/
def tourBelowUptoCard : Claim7 := { stood := { row := tourBelowUptoRow, standIns := [], harness := (true, "c3ce11de4c83aa32dce22ca20d64c61944e3ccf3efb5dc87945780edc5757772"), looks := false }, kinds := [], alts := [], laidByText := true, laidKinds := [.data], laidTests := true, laidLooks := .later }
def TourBelowUptoCardSaid : Prop := Claim7.holds Tryd.pinned (.plain (OpenSpec.upto tourBelowSpec)) tourBelowUptoCard

/-- THE SECOND FORM's CARD OF 'kurganlaw13.TourWhole'. -/
def tourWholeUptoCard : Claim7 := { stood := { row := tourWholeUptoRow, standIns := [], harness := (true, "c3ce11de4c83aa32dce22ca20d64c61944e3ccf3efb5dc87945780edc5757772"), looks := false }, kinds := [], alts := [], laidByText := true, laidKinds := [.data], laidTests := true, laidLooks := .later }
def TourWholeUptoCardSaid : Prop := Claim7.holds Tryd.pinned (.plain (OpenSpec.upto tourWholeSpec)) tourWholeUptoCard
end Rows
end Go.Proofs.YtlhpiikpmmlpeaaDoor
