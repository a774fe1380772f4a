/-
  DERIVED. GIVEN WITH THE SEED: THE CARDS: each row of YtknpjeeclagmjaaDoorRows.lean that lists a variable, with what it lists TIED to the program's text (the seventh form; the later family's looks); each row that meets fmt, with fmt's text TOLD by the authors' own Lean function (tested against real Go, not proved from fmt's source: count such statements apart). THE CARD IS WHAT COUNTS. Prove the row's statement (the work); the ties are given (YtknpjeeclagmjaaDoorTie.lean); close each card by the builder's one call (the guide's Derived/Test/ToyasCard.lean, 'card_holds'). Laid BY PROGRAM, IN A SANDBOX (cutbox-door.mjs). By AI agents, Wed Nov 11 2026. No macro, syntax, notation, axiom, sorry.
-/
import Derived.Test.YtknpjeeclagmjaaDoorRows
import GoSem.ClaimSeven
namespace Go.Proofs.YtknpjeeclagmjaaDoor
namespace Rows

/-- THE TIED CARD OF 'kurganlaw05.InstChecks'. -/
def instChecksCard : Claim7 := { stood := { row := instChecksRow, standIns := [], harness := (true, "88ba7707dd547b6d9f875a42c5cc1f6d5a31ae11ac57a9bec54ade12d94bf02a"), looks := false }, kinds := [], alts := [], laidByText := true, laidKinds := [.data, .data, .data], laidTests := true, laidLooks := .later }
def InstChecksCardSaid : Prop := Claim7.holds Tryd.pinned (.plain (OpenSpec.ofChange instChecksSpec)) instChecksCard

/-- THE TIED CARD OF 'kurganlaw05.InstWrites'. -/
def instWritesCard : Claim7 := { stood := { row := instWritesRow, standIns := [], harness := (true, "88ba7707dd547b6d9f875a42c5cc1f6d5a31ae11ac57a9bec54ade12d94bf02a"), looks := false }, kinds := [], alts := [], laidByText := true, laidKinds := [.data, .data, .data], laidTests := true, laidLooks := .later }
def InstWritesCardSaid : Prop := Claim7.holds Tryd.pinned (.plain (OpenSpec.ofChange instWritesSpec)) instWritesCard

/-- THE TIED CARD OF 'kurganlaw05.InstCopies'. -/
def instCopiesCard : Claim7 := { stood := { row := instCopiesRow, standIns := [], harness := (true, "88ba7707dd547b6d9f875a42c5cc1f6d5a31ae11ac57a9bec54ade12d94bf02a"), looks := false }, kinds := [], alts := [], laidByText := true, laidKinds := [.data, .data, .data], laidTests := true, laidLooks := .later }
def InstCopiesCardSaid : Prop := Claim7.holds Tryd.pinned (.plain (OpenSpec.ofChange instCopiesSpec)) instCopiesCard

/-- THE TIED CARD OF 'kurganlaw05.InstMirrors'. -/
def instMirrorsCard : Claim7 := { stood := { row := instMirrorsRow, standIns := [], harness := (true, "88ba7707dd547b6d9f875a42c5cc1f6d5a31ae11ac57a9bec54ade12d94bf02a"), looks := false }, kinds := [], alts := [], laidByText := true, laidKinds := [.data, .data, .data], laidTests := true, laidLooks := .later }
def InstMirrorsCardSaid : Prop := Claim7.holds Tryd.pinned (.plain (OpenSpec.ofChange instMirrorsSpec)) instMirrorsCard

/-- THE TIED CARD OF 'kurganlaw05.InstNames'. -/
def instNamesCard : Claim7 := { stood := { row := instNamesRow, standIns := [], harness := (true, "88ba7707dd547b6d9f875a42c5cc1f6d5a31ae11ac57a9bec54ade12d94bf02a"), looks := false }, kinds := [], alts := [], laidByText := true, laidKinds := [.data, .data, .data], laidTests := true, laidLooks := .later }
def InstNamesCardSaid : Prop := Claim7.holds Tryd.pinned (.plain (OpenSpec.ofChange instNamesSpec)) instNamesCard

/-- THE SECOND FORM's CARD OF 'kurganlaw05.InstChecks'. -/
def instChecksUptoCard : Claim7 := { stood := { row := instChecksUptoRow, standIns := [], harness := (true, "88ba7707dd547b6d9f875a42c5cc1f6d5a31ae11ac57a9bec54ade12d94bf02a"), looks := false }, kinds := [], alts := [], laidByText := true, laidKinds := [.data, .data, .data], laidTests := true, laidLooks := .later }
def InstChecksUptoCardSaid : Prop := Claim7.holds Tryd.pinned (.plain (OpenSpec.upto instChecksSpec)) instChecksUptoCard

/-- THE SECOND FORM's CARD OF 'kurganlaw05.InstWrites'. -/
def instWritesUptoCard : Claim7 := { stood := { row := instWritesUptoRow, standIns := [], harness := (true, "88ba7707dd547b6d9f875a42c5cc1f6d5a31ae11ac57a9bec54ade12d94bf02a"), looks := false }, kinds := [], alts := [], laidByText := true, laidKinds := [.data, .data, .data], laidTests := true, laidLooks := .later }
def InstWritesUptoCardSaid : Prop := Claim7.holds Tryd.pinned (.plain (OpenSpec.upto instWritesSpec)) instWritesUptoCard

/-- THE SECOND FORM's CARD OF 'kurganlaw05.InstCopies'. -/
def instCopiesUptoCard : Claim7 := { stood := { row := instCopiesUptoRow, standIns := [], harness := (true, "88ba7707dd547b6d9f875a42c5cc1f6d5a31ae11ac57a9bec54ade12d94bf02a"), looks := false }, kinds := [], alts := [], laidByText := true, laidKinds := [.data, .data, .data], laidTests := true, laidLooks := .later }
def InstCopiesUptoCardSaid : Prop := Claim7.holds Tryd.pinned (.plain (OpenSpec.upto instCopiesSpec)) instCopiesUptoCard

/-- THE SECOND FORM's CARD OF 'kurganlaw05.InstMirrors'. -/
def instMirrorsUptoCard : Claim7 := { stood := { row := instMirrorsUptoRow, standIns := [], harness := (true, "88ba7707dd547b6d9f875a42c5cc1f6d5a31ae11ac57a9bec54ade12d94bf02a"), looks := false }, kinds := [], alts := [], laidByText := true, laidKinds := [.data, .data, .data], laidTests := true, laidLooks := .later }
def InstMirrorsUptoCardSaid : Prop := Claim7.holds Tryd.pinned (.plain (OpenSpec.upto instMirrorsSpec)) instMirrorsUptoCard

/-- THE SECOND FORM's CARD OF 'kurganlaw05.InstNames'. -/
def instNamesUptoCard : Claim7 := { stood := { row := instNamesUptoRow, standIns := [], harness := (true, "88ba7707dd547b6d9f875a42c5cc1f6d5a31ae11ac57a9bec54ade12d94bf02a"), looks := false }, kinds := [], alts := [], laidByText := true, laidKinds := [.data, .data, .data], laidTests := true, laidLooks := .later }
def InstNamesUptoCardSaid : Prop := Claim7.holds Tryd.pinned (.plain (OpenSpec.upto instNamesSpec)) instNamesUptoCard
end Rows
end Go.Proofs.YtknpjeeclagmjaaDoor
