/-
  DERIVED. GIVEN WITH THE SEED: THE CARDS: each row of YtjlaankgfpjeeaaDoorRows.lean that lists a variable, with what it lists TIED to the program's text (the seventh form; the later family's looks); each row that meets fmt, with fmt's text TOLD by the authors' own Lean function (tested against real Go, not proved from fmt's source: count such statements apart). THE CARD IS WHAT COUNTS. Prove the row's statement (the work); the ties are given (YtjlaankgfpjeeaaDoorTie.lean); close each card by the builder's one call (the guide's Derived/Test/ToyasCard.lean, 'card_holds'). Laid BY PROGRAM, IN A SANDBOX (cutbox-door.mjs). By AI agents, Wed Nov 11 2026. No macro, syntax, notation, axiom, sorry.
-/
import Derived.Test.YtjlaankgfpjeeaaDoorRows
import GoSem.ClaimSeven
namespace Go.Proofs.YtjlaankgfpjeeaaDoor
namespace Rows

/-- THE TIED CARD OF 'kurganlaw06.ParseBack'. -/
def parseBackCard : Claim7 := { stood := { row := parseBackRow, standIns := [], harness := (true, "d400d67987aa7252f3d6c37554e5b5da3cc4298efef4e0ac394b4cedc0e277de"), looks := false }, kinds := [], alts := [], laidByText := true, laidKinds := [.data, .data, .data], laidTests := true, laidLooks := .later }
def ParseBackCardSaid : Prop := Claim7.holds Tryd.pinned (.plain (OpenSpec.ofChange parseBackSpec)) parseBackCard

/-- THE TIED CARD OF 'kurganlaw06.ParseCuts'. -/
def parseCutsCard : Claim7 := { stood := { row := parseCutsRow, standIns := [], harness := (true, "d400d67987aa7252f3d6c37554e5b5da3cc4298efef4e0ac394b4cedc0e277de"), looks := false }, kinds := [], alts := [], laidByText := true, laidKinds := [.data, .data, .data], laidTests := true, laidLooks := .later }
def ParseCutsCardSaid : Prop := Claim7.holds Tryd.pinned (.plain (OpenSpec.ofChange parseCutsSpec)) parseCutsCard

/-- THE TIED CARD OF 'kurganlaw07.GenFine'. -/
def genFineCard : Claim7 := { stood := { row := genFineRow, standIns := [], harness := (true, "d400d67987aa7252f3d6c37554e5b5da3cc4298efef4e0ac394b4cedc0e277de"), looks := false }, kinds := [], alts := [], laidByText := true, laidKinds := [.data, .data, .data], laidTests := true, laidLooks := .later }
def GenFineCardSaid : Prop := Claim7.holds Tryd.pinned (.plain (OpenSpec.ofChange genFineSpec)) genFineCard

/-- THE TIED CARD OF 'kurgantop.KurganTexts'. -/
def kurganTextsCard : Claim7 := { stood := { row := kurganTextsRow, standIns := [], harness := (true, "d400d67987aa7252f3d6c37554e5b5da3cc4298efef4e0ac394b4cedc0e277de"), looks := false }, kinds := [], alts := [], laidByText := true, laidKinds := [.data, .data, .data], laidTests := true, laidLooks := .later }
def KurganTextsCardSaid : Prop := Claim7.holds Tryd.pinned (.plain (OpenSpec.ofChange kurganTextsSpec)) kurganTextsCard

/-- THE TIED CARD OF 'kurgantop.KurganDrawn'. -/
def kurganDrawnCard : Claim7 := { stood := { row := kurganDrawnRow, standIns := [], harness := (true, "d400d67987aa7252f3d6c37554e5b5da3cc4298efef4e0ac394b4cedc0e277de"), looks := false }, kinds := [], alts := [], laidByText := true, laidKinds := [.data, .data, .data], laidTests := true, laidLooks := .later }
def KurganDrawnCardSaid : Prop := Claim7.holds Tryd.pinned (.plain (OpenSpec.ofChange kurganDrawnSpec)) kurganDrawnCard

/-- THE SECOND FORM's CARD OF 'kurganlaw06.ParseBack'. -/
def parseBackUptoCard : Claim7 := { stood := { row := parseBackUptoRow, standIns := [], harness := (true, "d400d67987aa7252f3d6c37554e5b5da3cc4298efef4e0ac394b4cedc0e277de"), looks := false }, kinds := [], alts := [], laidByText := true, laidKinds := [.data, .data, .data], laidTests := true, laidLooks := .later }
def ParseBackUptoCardSaid : Prop := Claim7.holds Tryd.pinned (.plain (OpenSpec.upto parseBackSpec)) parseBackUptoCard

/-- THE SECOND FORM's CARD OF 'kurganlaw06.ParseCuts'. -/
def parseCutsUptoCard : Claim7 := { stood := { row := parseCutsUptoRow, standIns := [], harness := (true, "d400d67987aa7252f3d6c37554e5b5da3cc4298efef4e0ac394b4cedc0e277de"), looks := false }, kinds := [], alts := [], laidByText := true, laidKinds := [.data, .data, .data], laidTests := true, laidLooks := .later }
def ParseCutsUptoCardSaid : Prop := Claim7.holds Tryd.pinned (.plain (OpenSpec.upto parseCutsSpec)) parseCutsUptoCard

/-- THE SECOND FORM's CARD OF 'kurganlaw07.GenFine'. -/
def genFineUptoCard : Claim7 := { stood := { row := genFineUptoRow, standIns := [], harness := (true, "d400d67987aa7252f3d6c37554e5b5da3cc4298efef4e0ac394b4cedc0e277de"), looks := false }, kinds := [], alts := [], laidByText := true, laidKinds := [.data, .data, .data], laidTests := true, laidLooks := .later }
def GenFineUptoCardSaid : Prop := Claim7.holds Tryd.pinned (.plain (OpenSpec.upto genFineSpec)) genFineUptoCard

/-- THE SECOND FORM's CARD OF 'kurgantop.KurganTexts'. -/
def kurganTextsUptoCard : Claim7 := { stood := { row := kurganTextsUptoRow, standIns := [], harness := (true, "d400d67987aa7252f3d6c37554e5b5da3cc4298efef4e0ac394b4cedc0e277de"), looks := false }, kinds := [], alts := [], laidByText := true, laidKinds := [.data, .data, .data], laidTests := true, laidLooks := .later }
def KurganTextsUptoCardSaid : Prop := Claim7.holds Tryd.pinned (.plain (OpenSpec.upto kurganTextsSpec)) kurganTextsUptoCard

/-- THE SECOND FORM's CARD OF 'kurgantop.KurganDrawn'. -/
def kurganDrawnUptoCard : Claim7 := { stood := { row := kurganDrawnUptoRow, standIns := [], harness := (true, "d400d67987aa7252f3d6c37554e5b5da3cc4298efef4e0ac394b4cedc0e277de"), looks := false }, kinds := [], alts := [], laidByText := true, laidKinds := [.data, .data, .data], laidTests := true, laidLooks := .later }
def KurganDrawnUptoCardSaid : Prop := Claim7.holds Tryd.pinned (.plain (OpenSpec.upto kurganDrawnSpec)) kurganDrawnUptoCard
end Rows
end Go.Proofs.YtjlaankgfpjeeaaDoor
