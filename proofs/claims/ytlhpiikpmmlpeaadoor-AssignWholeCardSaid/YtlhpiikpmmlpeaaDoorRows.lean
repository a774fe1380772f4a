/-
  NARROWER THAN 'FOR EVERY INPUT', by the rows' own cells (each row's printed sentence says how): AssignNews: laid · AssignKids: laid · AssignBounds: laid · AssignBelow: laid · AssignWhole: laid · TourNews: laid · TourKids: laid · TourBounds: laid · TourBelow: laid · TourWhole: laid.
  DERIVED. THE GIVEN ROWS OF THIS SEAT. 10 by the template 'for every input the law returns true; each argument reads behind the call as it read before'; 0 by the template 'total and deterministic' (their statements: YtlhpiikpmmlpeaaDoorTotals.lean).
  GIVEN WITH THE SEED: the statements are not yours to turn. If you find one false, say at which input.
  Laid BY PROGRAM, IN A SANDBOX (cutbox-rows.mjs): the forced cells as the released guide's own fill.sh prints them over the translation dd574cd955d62d30… (all of the seat's roots in one cut). By AI agents, Wed Nov 11 2026. No macro, syntax, notation, axiom, sorry.
-/
import Derived.Test.YtlhpiikpmmlpeaaDoorChecked
import GoSem.Claim
import GoSem.ClaimJoined
import GoSem.ClaimMapViews
import Derived.JoinedTies
import Derived.KernelRfl
namespace Go.Proofs.YtlhpiikpmmlpeaaDoor
/- THE CELL 'sum', in the pinned program and in every row, IS THE sha256 OF THE DUMP (.gsa) THAT YtlhpiikpmmlpeaaDoorProg.lean LOADS. Nothing in Lean hashes anything: it is a label: what it is worth is what the hold of that sum in a sandbox is worth. -/
noncomputable def Tryd.pinned : Pinned := { name := "ytlhpiikpmmlpeaadoor", sum := "dd574cd955d62d301399e0e055275b59f256edb0ce7cf963bcdf9d1844d3df4c", checked := Tryd.checked }
namespace Rows
def none {H : Type} : Left H := { results := [], args := [] }

/- WHAT THE LISTED PACKAGE-LEVEL VARIABLES READ AS WHEN THE CALL BEGINS. Each datum BY PROGRAM (the guide's laid-datum.mjs) off the statement by which the dump's own 'gosem.cut.vars' lays the variable. In a bare row this is a premise. The card (YtlhpiikpmmlpeaaDoorCards.lean) ties it to the program's text. -/
def laid_math_bits_deBruijn64tab {H : Type} : DataW H := .agg [.lit (.int .u8 0), .lit (.int .u8 1), .lit (.int .u8 56), .lit (.int .u8 2), .lit (.int .u8 57), .lit (.int .u8 49), .lit (.int .u8 28), .lit (.int .u8 3), .lit (.int .u8 61), .lit (.int .u8 58), .lit (.int .u8 42), .lit (.int .u8 50), .lit (.int .u8 38), .lit (.int .u8 29), .lit (.int .u8 17), .lit (.int .u8 4), .lit (.int .u8 62), .lit (.int .u8 47), .lit (.int .u8 59), .lit (.int .u8 36), .lit (.int .u8 45), .lit (.int .u8 43), .lit (.int .u8 51), .lit (.int .u8 22), .lit (.int .u8 53), .lit (.int .u8 39), .lit (.int .u8 33), .lit (.int .u8 30), .lit (.int .u8 24), .lit (.int .u8 18), .lit (.int .u8 12), .lit (.int .u8 5), .lit (.int .u8 63), .lit (.int .u8 55), .lit (.int .u8 48), .lit (.int .u8 27), .lit (.int .u8 60), .lit (.int .u8 41), .lit (.int .u8 37), .lit (.int .u8 16), .lit (.int .u8 46), .lit (.int .u8 35), .lit (.int .u8 44), .lit (.int .u8 21), .lit (.int .u8 52), .lit (.int .u8 32), .lit (.int .u8 23), .lit (.int .u8 11), .lit (.int .u8 54), .lit (.int .u8 26), .lit (.int .u8 40), .lit (.int .u8 15), .lit (.int .u8 34), .lit (.int .u8 20), .lit (.int .u8 31), .lit (.int .u8 10), .lit (.int .u8 25), .lit (.int .u8 14), .lit (.int .u8 19), .lit (.int .u8 9), .lit (.int .u8 13), .lit (.int .u8 8), .lit (.int .u8 7), .lit (.int .u8 6)]

/-- 'kurganlaw12.AssignNews': WHATEVER THE INPUT: true; the input reads as it did. -/
def assignNewsSpec : ChangeSpec := { name := "assignNews", fn := fun _ => fun
  | [d] => { results := [.lit (.bool true)], args := [d] }
  | _ => none }
def assignNewsRow : OpenClaim := { program := "ytlhpiikpmmlpeaadoor", sum := "dd574cd955d62d301399e0e055275b59f256edb0ce7cf963bcdf9d1844d3df4c", func := "kurgan/kurganlaw12.AssignNews", spec := "assignNews", unfollowed := true, recurses := true, named := ["math/bits.deBruijn64tab"], apart := false, laid := [("math/bits.deBruijn64tab", laid_math_bits_deBruijn64tab)] }
def AssignNewsSaid : Prop := assignNewsRow.holds Tryd.pinned (OpenSpec.ofChange assignNewsSpec)

/-- ITS FALSE NEIGHBOUR: 'it returns false'. Refute it at one input. -/
def assignNewsWrong : ChangeSpec := { name := "assignNews", fn := fun _ => fun
  | [d] => { results := [.lit (.bool false)], args := [d] }
  | _ => none }
def AssignNewsWrongFalsely : Prop := assignNewsRow.holds Tryd.pinned (OpenSpec.ofChange assignNewsWrong)

/-- 'kurganlaw12.AssignKids': WHATEVER THE INPUT: true; the input reads as it did. -/
def assignKidsSpec : ChangeSpec := { name := "assignKids", fn := fun _ => fun
  | [d1, d2] => { results := [.lit (.bool true)], args := [d1, d2] }
  | _ => none }
def assignKidsRow : OpenClaim := { program := "ytlhpiikpmmlpeaadoor", sum := "dd574cd955d62d301399e0e055275b59f256edb0ce7cf963bcdf9d1844d3df4c", func := "kurgan/kurganlaw12.AssignKids", spec := "assignKids", unfollowed := true, recurses := true, named := ["math/bits.deBruijn64tab"], apart := false, laid := [("math/bits.deBruijn64tab", laid_math_bits_deBruijn64tab)] }
def AssignKidsSaid : Prop := assignKidsRow.holds Tryd.pinned (OpenSpec.ofChange assignKidsSpec)

/-- ITS FALSE NEIGHBOUR: 'it returns false'. Refute it at one input. -/
def assignKidsWrong : ChangeSpec := { name := "assignKids", fn := fun _ => fun
  | [d1, d2] => { results := [.lit (.bool false)], args := [d1, d2] }
  | _ => none }
def AssignKidsWrongFalsely : Prop := assignKidsRow.holds Tryd.pinned (OpenSpec.ofChange assignKidsWrong)

/-- 'kurganlaw12.AssignBounds': WHATEVER THE INPUT: true; the input reads as it did. -/
def assignBoundsSpec : ChangeSpec := { name := "assignBounds", fn := fun _ => fun
  | [d1, d2] => { results := [.lit (.bool true)], args := [d1, d2] }
  | _ => none }
def assignBoundsRow : OpenClaim := { program := "ytlhpiikpmmlpeaadoor", sum := "dd574cd955d62d301399e0e055275b59f256edb0ce7cf963bcdf9d1844d3df4c", func := "kurgan/kurganlaw12.AssignBounds", spec := "assignBounds", unfollowed := true, recurses := true, named := ["math/bits.deBruijn64tab"], apart := false, laid := [("math/bits.deBruijn64tab", laid_math_bits_deBruijn64tab)] }
def AssignBoundsSaid : Prop := assignBoundsRow.holds Tryd.pinned (OpenSpec.ofChange assignBoundsSpec)

/-- ITS FALSE NEIGHBOUR: 'it returns false'. Refute it at one input. -/
def assignBoundsWrong : ChangeSpec := { name := "assignBounds", fn := fun _ => fun
  | [d1, d2] => { results := [.lit (.bool false)], args := [d1, d2] }
  | _ => none }
def AssignBoundsWrongFalsely : Prop := assignBoundsRow.holds Tryd.pinned (OpenSpec.ofChange assignBoundsWrong)

/-- 'kurganlaw12.AssignBelow': WHATEVER THE INPUT: true; the input reads as it did. -/
def assignBelowSpec : ChangeSpec := { name := "assignBelow", fn := fun _ => fun
  | [d1, d2] => { results := [.lit (.bool true)], args := [d1, d2] }
  | _ => none }
def assignBelowRow : OpenClaim := { program := "ytlhpiikpmmlpeaadoor", sum := "dd574cd955d62d301399e0e055275b59f256edb0ce7cf963bcdf9d1844d3df4c", func := "kurgan/kurganlaw12.AssignBelow", spec := "assignBelow", unfollowed := true, recurses := true, named := ["math/bits.deBruijn64tab"], apart := false, laid := [("math/bits.deBruijn64tab", laid_math_bits_deBruijn64tab)] }
def AssignBelowSaid : Prop := assignBelowRow.holds Tryd.pinned (OpenSpec.ofChange assignBelowSpec)

/-- ITS FALSE NEIGHBOUR: 'it returns false'. Refute it at one input. -/
def assignBelowWrong : ChangeSpec := { name := "assignBelow", fn := fun _ => fun
  | [d1, d2] => { results := [.lit (.bool false)], args := [d1, d2] }
  | _ => none }
def AssignBelowWrongFalsely : Prop := assignBelowRow.holds Tryd.pinned (OpenSpec.ofChange assignBelowWrong)

/-- 'kurganlaw12.AssignWhole': WHATEVER THE INPUT: true; the input reads as it did. -/
def assignWholeSpec : ChangeSpec := { name := "assignWhole", fn := fun _ => fun
  | [d] => { results := [.lit (.bool true)], args := [d] }
  | _ => none }
def assignWholeRow : OpenClaim := { program := "ytlhpiikpmmlpeaadoor", sum := "dd574cd955d62d301399e0e055275b59f256edb0ce7cf963bcdf9d1844d3df4c", func := "kurgan/kurganlaw12.AssignWhole", spec := "assignWhole", unfollowed := true, recurses := true, named := ["math/bits.deBruijn64tab"], apart := false, laid := [("math/bits.deBruijn64tab", laid_math_bits_deBruijn64tab)] }
def AssignWholeSaid : Prop := assignWholeRow.holds Tryd.pinned (OpenSpec.ofChange assignWholeSpec)

/-- ITS FALSE NEIGHBOUR: 'it returns false'. Refute it at one input. -/
def assignWholeWrong : ChangeSpec := { name := "assignWhole", fn := fun _ => fun
  | [d] => { results := [.lit (.bool false)], args := [d] }
  | _ => none }
def AssignWholeWrongFalsely : Prop := assignWholeRow.holds Tryd.pinned (OpenSpec.ofChange assignWholeWrong)

/-- 'kurganlaw13.TourNews': WHATEVER THE INPUT: true; the input reads as it did. -/
def tourNewsSpec : ChangeSpec := { name := "tourNews", fn := fun _ => fun
  | [d] => { results := [.lit (.bool true)], args := [d] }
  | _ => none }
def tourNewsRow : OpenClaim := { program := "ytlhpiikpmmlpeaadoor", sum := "dd574cd955d62d301399e0e055275b59f256edb0ce7cf963bcdf9d1844d3df4c", func := "kurgan/kurganlaw13.TourNews", spec := "tourNews", unfollowed := true, recurses := true, named := ["math/bits.deBruijn64tab"], apart := false, laid := [("math/bits.deBruijn64tab", laid_math_bits_deBruijn64tab)] }
def TourNewsSaid : Prop := tourNewsRow.holds Tryd.pinned (OpenSpec.ofChange tourNewsSpec)

/-- ITS FALSE NEIGHBOUR: 'it returns false'. Refute it at one input. -/
def tourNewsWrong : ChangeSpec := { name := "tourNews", fn := fun _ => fun
  | [d] => { results := [.lit (.bool false)], args := [d] }
  | _ => none }
def TourNewsWrongFalsely : Prop := tourNewsRow.holds Tryd.pinned (OpenSpec.ofChange tourNewsWrong)

/-- 'kurganlaw13.TourKids': WHATEVER THE INPUT: true; the input reads as it did. -/
def tourKidsSpec : ChangeSpec := { name := "tourKids", fn := fun _ => fun
  | [d1, d2] => { results := [.lit (.bool true)], args := [d1, d2] }
  | _ => none }
def tourKidsRow : OpenClaim := { program := "ytlhpiikpmmlpeaadoor", sum := "dd574cd955d62d301399e0e055275b59f256edb0ce7cf963bcdf9d1844d3df4c", func := "kurgan/kurganlaw13.TourKids", spec := "tourKids", unfollowed := true, recurses := true, named := ["math/bits.deBruijn64tab"], apart := false, laid := [("math/bits.deBruijn64tab", laid_math_bits_deBruijn64tab)] }
def TourKidsSaid : Prop := tourKidsRow.holds Tryd.pinned (OpenSpec.ofChange tourKidsSpec)

/-- ITS FALSE NEIGHBOUR: 'it returns false'. Refute it at one input. -/
def tourKidsWrong : ChangeSpec := { name := "tourKids", fn := fun _ => fun
  | [d1, d2] => { results := [.lit (.bool false)], args := [d1, d2] }
  | _ => none }
def TourKidsWrongFalsely : Prop := tourKidsRow.holds Tryd.pinned (OpenSpec.ofChange tourKidsWrong)

/-- 'kurganlaw13.TourBounds': WHATEVER THE INPUT: true; the input reads as it did. -/
def tourBoundsSpec : ChangeSpec := { name := "tourBounds", fn := fun _ => fun
  | [d1, d2] => { results := [.lit (.bool true)], args := [d1, d2] }
  | _ => none }
def tourBoundsRow : OpenClaim := { program := "ytlhpiikpmmlpeaadoor", sum := "dd574cd955d62d301399e0e055275b59f256edb0ce7cf963bcdf9d1844d3df4c", func := "kurgan/kurganlaw13.TourBounds", spec := "tourBounds", unfollowed := true, recurses := true, named := ["math/bits.deBruijn64tab"], apart := false, laid := [("math/bits.deBruijn64tab", laid_math_bits_deBruijn64tab)] }
def TourBoundsSaid : Prop := tourBoundsRow.holds Tryd.pinned (OpenSpec.ofChange tourBoundsSpec)

/-- ITS FALSE NEIGHBOUR: 'it returns false'. Refute it at one input. -/
def tourBoundsWrong : ChangeSpec := { name := "tourBounds", fn := fun _ => fun
  | [d1, d2] => { results := [.lit (.bool false)], args := [d1, d2] }
  | _ => none }
def TourBoundsWrongFalsely : Prop := tourBoundsRow.holds Tryd.pinned (OpenSpec.ofChange tourBoundsWrong)

/-- 'kurganlaw13.TourBelow': WHATEVER THE INPUT: true; the input reads as it did. -/
def tourBelowSpec : ChangeSpec := { name := "tourBelow", fn := fun _ => fun
  | [d1, d2] => { results := [.lit (.bool true)], args := [d1, d2] }
  | _ => none }
def tourBelowRow : OpenClaim := { program := "ytlhpiikpmmlpeaadoor", sum := "dd574cd955d62d301399e0e055275b59f256edb0ce7cf963bcdf9d1844d3df4c", func := "kurgan/kurganlaw13.TourBelow", spec := "tourBelow", unfollowed := true, recurses := true, named := ["math/bits.deBruijn64tab"], apart := false, laid := [("math/bits.deBruijn64tab", laid_math_bits_deBruijn64tab)] }
def TourBelowSaid : Prop := tourBelowRow.holds Tryd.pinned (OpenSpec.ofChange tourBelowSpec)

/-- ITS FALSE NEIGHBOUR: 'it returns false'. Refute it at one input. -/
def tourBelowWrong : ChangeSpec := { name := "tourBelow", fn := fun _ => fun
  | [d1, d2] => { results := [.lit (.bool false)], args := [d1, d2] }
  | _ => none }
def TourBelowWrongFalsely : Prop := tourBelowRow.holds Tryd.pinned (OpenSpec.ofChange tourBelowWrong)

/-- 'kurganlaw13.TourWhole': WHATEVER THE INPUT: true; the input reads as it did. -/
def tourWholeSpec : ChangeSpec := { name := "tourWhole", fn := fun _ => fun
  | [d] => { results := [.lit (.bool true)], args := [d] }
  | _ => none }
def tourWholeRow : OpenClaim := { program := "ytlhpiikpmmlpeaadoor", sum := "dd574cd955d62d301399e0e055275b59f256edb0ce7cf963bcdf9d1844d3df4c", func := "kurgan/kurganlaw13.TourWhole", spec := "tourWhole", unfollowed := true, recurses := true, named := ["math/bits.deBruijn64tab"], apart := false, laid := [("math/bits.deBruijn64tab", laid_math_bits_deBruijn64tab)] }
def TourWholeSaid : Prop := tourWholeRow.holds Tryd.pinned (OpenSpec.ofChange tourWholeSpec)

/-- ITS FALSE NEIGHBOUR: 'it returns false'. Refute it at one input. -/
def tourWholeWrong : ChangeSpec := { name := "tourWhole", fn := fun _ => fun
  | [d] => { results := [.lit (.bool false)], args := [d] }
  | _ => none }
def TourWholeWrongFalsely : Prop := tourWholeRow.holds Tryd.pinned (OpenSpec.ofChange tourWholeWrong)

/- THE SECOND FORM. 'bulk': how many values and letters a reading holds, each counted each time it is reached (what is shared counts as often as it is met; a slice's spare places count too). A statement '..UptoSaid' is the law's where the arguments, and the package variables that the reading takes, are together of bulk at most 1048576: NARROWER than '..Said'. Prove '..Said' where nothing that the law and all that it calls make is longer than what came in: it says more and counts as full. Else prove '..UptoSaid'. A law counts once. -/
mutual
def uptoBulk {H : Type} : DataW H → Nat
  | .lit (.string bytes) => bytes.length + 1
  | .lit _ => 1
  | .nil => 1
  | .ptr d => uptoBulk d + 1
  | .slice elems spare => uptoBulkAll elems + uptoBulkAll spare + 1
  | .agg parts => uptoBulkAll parts + 1
  | .iface _ d => uptoBulk d + 1
  | .map entries => uptoBulkEntries entries + 1
  | .held _ => 1
def uptoBulkAll {H : Type} : List (DataW H) → Nat
  | [] => 0
  | d :: r => uptoBulk d + uptoBulkAll r
def uptoBulkEntries {H : Type} : List (Lit × DataW H) → Nat
  | [] => 0
  | x :: r => uptoBulkEntry x + uptoBulkEntries r
def uptoBulkEntry {H : Type} : Lit × DataW H → Nat
  | (.string bytes, d) => bytes.length + uptoBulk d + 1
  | (_, d) => uptoBulk d + 1
 end
def uptoSmall : (H : Type) → List (DataW H) → Bool := fun _ ds => decide (uptoBulkAll ds ≤ 1048576)
def OpenSpec.upto (s : _root_.Go.ChangeSpec) : _root_.Go.OpenSpec := { _root_.Go.OpenSpec.ofChange s with cond := some uptoSmall }

/-- 'kurganlaw12.AssignNews', WHERE WHAT IT READS IS OF BULK AT MOST 1048576: true; the input reads as it did. -/
def assignNewsUptoRow : OpenClaim := { program := "ytlhpiikpmmlpeaadoor", sum := "dd574cd955d62d301399e0e055275b59f256edb0ce7cf963bcdf9d1844d3df4c", func := "kurgan/kurganlaw12.AssignNews", spec := "assignNews", unfollowed := true, recurses := true, named := ["math/bits.deBruijn64tab"], apart := false, laid := [("math/bits.deBruijn64tab", laid_math_bits_deBruijn64tab)], narrowed := true }
def AssignNewsUptoSaid : Prop := assignNewsUptoRow.holds Tryd.pinned (OpenSpec.upto assignNewsSpec)

/-- 'kurganlaw12.AssignKids', WHERE WHAT IT READS IS OF BULK AT MOST 1048576: true; the input reads as it did. -/
def assignKidsUptoRow : OpenClaim := { program := "ytlhpiikpmmlpeaadoor", sum := "dd574cd955d62d301399e0e055275b59f256edb0ce7cf963bcdf9d1844d3df4c", func := "kurgan/kurganlaw12.AssignKids", spec := "assignKids", unfollowed := true, recurses := true, named := ["math/bits.deBruijn64tab"], apart := false, laid := [("math/bits.deBruijn64tab", laid_math_bits_deBruijn64tab)], narrowed := true }
def AssignKidsUptoSaid : Prop := assignKidsUptoRow.holds Tryd.pinned (OpenSpec.upto assignKidsSpec)

/-- 'kurganlaw12.AssignBounds', WHERE WHAT IT READS IS OF BULK AT MOST 1048576: true; the input reads as it did. -/
def assignBoundsUptoRow : OpenClaim := { program := "ytlhpiikpmmlpeaadoor", sum := "dd574cd955d62d301399e0e055275b59f256edb0ce7cf963bcdf9d1844d3df4c", func := "kurgan/kurganlaw12.AssignBounds", spec := "assignBounds", unfollowed := true, recurses := true, named := ["math/bits.deBruijn64tab"], apart := false, laid := [("math/bits.deBruijn64tab", laid_math_bits_deBruijn64tab)], narrowed := true }
def AssignBoundsUptoSaid : Prop := assignBoundsUptoRow.holds Tryd.pinned (OpenSpec.upto assignBoundsSpec)

/-- 'kurganlaw12.AssignBelow', WHERE WHAT IT READS IS OF BULK AT MOST 1048576: true; the input reads as it did. -/
def assignBelowUptoRow : OpenClaim := { program := "ytlhpiikpmmlpeaadoor", sum := "dd574cd955d62d301399e0e055275b59f256edb0ce7cf963bcdf9d1844d3df4c", func := "kurgan/kurganlaw12.AssignBelow", spec := "assignBelow", unfollowed := true, recurses := true, named := ["math/bits.deBruijn64tab"], apart := false, laid := [("math/bits.deBruijn64tab", laid_math_bits_deBruijn64tab)], narrowed := true }
def AssignBelowUptoSaid : Prop := assignBelowUptoRow.holds Tryd.pinned (OpenSpec.upto assignBelowSpec)

/-- 'kurganlaw12.AssignWhole', WHERE WHAT IT READS IS OF BULK AT MOST 1048576: true; the input reads as it did. -/
def assignWholeUptoRow : OpenClaim := { program := "ytlhpiikpmmlpeaadoor", sum := "dd574cd955d62d301399e0e055275b59f256edb0ce7cf963bcdf9d1844d3df4c", func := "kurgan/kurganlaw12.AssignWhole", spec := "assignWhole", unfollowed := true, recurses := true, named := ["math/bits.deBruijn64tab"], apart := false, laid := [("math/bits.deBruijn64tab", laid_math_bits_deBruijn64tab)], narrowed := true }
def AssignWholeUptoSaid : Prop := assignWholeUptoRow.holds Tryd.pinned (OpenSpec.upto assignWholeSpec)

/-- 'kurganlaw13.TourNews', WHERE WHAT IT READS IS OF BULK AT MOST 1048576: true; the input reads as it did. -/
def tourNewsUptoRow : OpenClaim := { program := "ytlhpiikpmmlpeaadoor", sum := "dd574cd955d62d301399e0e055275b59f256edb0ce7cf963bcdf9d1844d3df4c", func := "kurgan/kurganlaw13.TourNews", spec := "tourNews", unfollowed := true, recurses := true, named := ["math/bits.deBruijn64tab"], apart := false, laid := [("math/bits.deBruijn64tab", laid_math_bits_deBruijn64tab)], narrowed := true }
def TourNewsUptoSaid : Prop := tourNewsUptoRow.holds Tryd.pinned (OpenSpec.upto tourNewsSpec)

/-- 'kurganlaw13.TourKids', WHERE WHAT IT READS IS OF BULK AT MOST 1048576: true; the input reads as it did. -/
def tourKidsUptoRow : OpenClaim := { program := "ytlhpiikpmmlpeaadoor", sum := "dd574cd955d62d301399e0e055275b59f256edb0ce7cf963bcdf9d1844d3df4c", func := "kurgan/kurganlaw13.TourKids", spec := "tourKids", unfollowed := true, recurses := true, named := ["math/bits.deBruijn64tab"], apart := false, laid := [("math/bits.deBruijn64tab", laid_math_bits_deBruijn64tab)], narrowed := true }
def TourKidsUptoSaid : Prop := tourKidsUptoRow.holds Tryd.pinned (OpenSpec.upto tourKidsSpec)

/-- 'kurganlaw13.TourBounds', WHERE WHAT IT READS IS OF BULK AT MOST 1048576: true; the input reads as it did. -/
def tourBoundsUptoRow : OpenClaim := { program := "ytlhpiikpmmlpeaadoor", sum := "dd574cd955d62d301399e0e055275b59f256edb0ce7cf963bcdf9d1844d3df4c", func := "kurgan/kurganlaw13.TourBounds", spec := "tourBounds", unfollowed := true, recurses := true, named := ["math/bits.deBruijn64tab"], apart := false, laid := [("math/bits.deBruijn64tab", laid_math_bits_deBruijn64tab)], narrowed := true }
def TourBoundsUptoSaid : Prop := tourBoundsUptoRow.holds Tryd.pinned (OpenSpec.upto tourBoundsSpec)

/-- 'kurganlaw13.TourBelow', WHERE WHAT IT READS IS OF BULK AT MOST 1048576: true; the input reads as it did. -/
def tourBelowUptoRow : OpenClaim := { program := "ytlhpiikpmmlpeaadoor", sum := "dd574cd955d62d301399e0e055275b59f256edb0ce7cf963bcdf9d1844d3df4c", func := "kurgan/kurganlaw13.TourBelow", spec := "tourBelow", unfollowed := true, recurses := true, named := ["math/bits.deBruijn64tab"], apart := false, laid := [("math/bits.deBruijn64tab", laid_math_bits_deBruijn64tab)], narrowed := true }
def TourBelowUptoSaid : Prop := tourBelowUptoRow.holds Tryd.pinned (OpenSpec.upto tourBelowSpec)

/-- 'kurganlaw13.TourWhole', WHERE WHAT IT READS IS OF BULK AT MOST 1048576: true; the input reads as it did. -/
def tourWholeUptoRow : OpenClaim := { program := "ytlhpiikpmmlpeaadoor", sum := "dd574cd955d62d301399e0e055275b59f256edb0ce7cf963bcdf9d1844d3df4c", func := "kurgan/kurganlaw13.TourWhole", spec := "tourWhole", unfollowed := true, recurses := true, named := ["math/bits.deBruijn64tab"], apart := false, laid := [("math/bits.deBruijn64tab", laid_math_bits_deBruijn64tab)], narrowed := true }
def TourWholeUptoSaid : Prop := tourWholeUptoRow.holds Tryd.pinned (OpenSpec.upto tourWholeSpec)

end Rows
end Go.Proofs.YtlhpiikpmmlpeaaDoor
