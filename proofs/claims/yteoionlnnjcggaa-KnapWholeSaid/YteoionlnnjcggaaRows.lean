/-
  No cell of these rows narrows 'for every input' (looked for: loops, veiled, ifaces, maps, wideKeys, modest, calm, conditions, laid).
  DERIVED. THE GIVEN ROWS OF THIS SEAT. 5 by the template 'for every input the law returns true; each argument reads behind the call as it read before'; 0 by the template 'total and deterministic' (their statements: YteoionlnnjcggaaTotals.lean).
  GIVEN WITH THE SEED: the statements are not yours to turn. If you find one false, say at which input.
  Laid BY PROGRAM, IN A SANDBOX (cutbox-rows.mjs): the forced cells as the released guide's own fill.sh prints them over the translation bf2a12ca04b39638… (all of the seat's roots in one cut). By AI agents, Wed Nov 11 2026. No macro, syntax, notation, axiom, sorry.
-/
import Derived.Test.YteoionlnnjcggaaChecked
import GoSem.Claim
import GoSem.ClaimJoined
import GoSem.ClaimMapViews
import Derived.JoinedTies
import Derived.KernelRfl
namespace Go.Proofs.Yteoionlnnjcggaa
/- THE CELL 'sum', in the pinned program and in every row, IS THE sha256 OF THE DUMP (.gsa) THAT YteoionlnnjcggaaProg.lean LOADS. Nothing in Lean hashes anything: it is a label: what it is worth is what the hold of that sum in a sandbox is worth. -/
noncomputable def Try.pinned : Pinned := { name := "yteoionlnnjcggaa", sum := "bf2a12ca04b39638f650e1d583226c6f1506dc92383dd443d07fa625648c0273", checked := Try.checked }
namespace Rows
def none {H : Type} : Left H := { results := [], args := [] }

/-- 'kurganlaw11.KnapNews': WHATEVER THE INPUT: true; the input reads as it did. -/
def knapNewsSpec : ChangeSpec := { name := "knapNews", fn := fun _ => fun
  | [d] => { results := [.lit (.bool true)], args := [d] }
  | _ => none }
def knapNewsRow : OpenClaim := { program := "yteoionlnnjcggaa", sum := "bf2a12ca04b39638f650e1d583226c6f1506dc92383dd443d07fa625648c0273", func := "kurgan/kurganlaw11.KnapNews", spec := "knapNews", unfollowed := true, recurses := true, named := ["math/bits.divideError", "math/bits.overflowError"], apart := false }
def KnapNewsSaid : Prop := knapNewsRow.holds Try.pinned (OpenSpec.ofChange knapNewsSpec)

/-- ITS FALSE NEIGHBOUR: 'it returns false'. Refute it at one input. -/
def knapNewsWrong : ChangeSpec := { name := "knapNews", fn := fun _ => fun
  | [d] => { results := [.lit (.bool false)], args := [d] }
  | _ => none }
def KnapNewsWrongFalsely : Prop := knapNewsRow.holds Try.pinned (OpenSpec.ofChange knapNewsWrong)

/-- 'kurganlaw11.KnapKids': WHATEVER THE INPUT: true; the input reads as it did. -/
def knapKidsSpec : ChangeSpec := { name := "knapKids", fn := fun _ => fun
  | [d1, d2] => { results := [.lit (.bool true)], args := [d1, d2] }
  | _ => none }
def knapKidsRow : OpenClaim := { program := "yteoionlnnjcggaa", sum := "bf2a12ca04b39638f650e1d583226c6f1506dc92383dd443d07fa625648c0273", func := "kurgan/kurganlaw11.KnapKids", spec := "knapKids", unfollowed := true, recurses := true, named := ["math/bits.divideError", "math/bits.overflowError"], apart := false }
def KnapKidsSaid : Prop := knapKidsRow.holds Try.pinned (OpenSpec.ofChange knapKidsSpec)

/-- ITS FALSE NEIGHBOUR: 'it returns false'. Refute it at one input. -/
def knapKidsWrong : ChangeSpec := { name := "knapKids", fn := fun _ => fun
  | [d1, d2] => { results := [.lit (.bool false)], args := [d1, d2] }
  | _ => none }
def KnapKidsWrongFalsely : Prop := knapKidsRow.holds Try.pinned (OpenSpec.ofChange knapKidsWrong)

/-- 'kurganlaw11.KnapBounds': WHATEVER THE INPUT: true; the input reads as it did. -/
def knapBoundsSpec : ChangeSpec := { name := "knapBounds", fn := fun _ => fun
  | [d1, d2] => { results := [.lit (.bool true)], args := [d1, d2] }
  | _ => none }
def knapBoundsRow : OpenClaim := { program := "yteoionlnnjcggaa", sum := "bf2a12ca04b39638f650e1d583226c6f1506dc92383dd443d07fa625648c0273", func := "kurgan/kurganlaw11.KnapBounds", spec := "knapBounds", unfollowed := true, recurses := true, named := ["math/bits.divideError", "math/bits.overflowError"], apart := false }
def KnapBoundsSaid : Prop := knapBoundsRow.holds Try.pinned (OpenSpec.ofChange knapBoundsSpec)

/-- ITS FALSE NEIGHBOUR: 'it returns false'. Refute it at one input. -/
def knapBoundsWrong : ChangeSpec := { name := "knapBounds", fn := fun _ => fun
  | [d1, d2] => { results := [.lit (.bool false)], args := [d1, d2] }
  | _ => none }
def KnapBoundsWrongFalsely : Prop := knapBoundsRow.holds Try.pinned (OpenSpec.ofChange knapBoundsWrong)

/-- 'kurganlaw11.KnapBelow': WHATEVER THE INPUT: true; the input reads as it did. -/
def knapBelowSpec : ChangeSpec := { name := "knapBelow", fn := fun _ => fun
  | [d1, d2] => { results := [.lit (.bool true)], args := [d1, d2] }
  | _ => none }
def knapBelowRow : OpenClaim := { program := "yteoionlnnjcggaa", sum := "bf2a12ca04b39638f650e1d583226c6f1506dc92383dd443d07fa625648c0273", func := "kurgan/kurganlaw11.KnapBelow", spec := "knapBelow", unfollowed := true, recurses := true, named := ["math/bits.divideError", "math/bits.overflowError"], apart := false }
def KnapBelowSaid : Prop := knapBelowRow.holds Try.pinned (OpenSpec.ofChange knapBelowSpec)

/-- ITS FALSE NEIGHBOUR: 'it returns false'. Refute it at one input. -/
def knapBelowWrong : ChangeSpec := { name := "knapBelow", fn := fun _ => fun
  | [d1, d2] => { results := [.lit (.bool false)], args := [d1, d2] }
  | _ => none }
def KnapBelowWrongFalsely : Prop := knapBelowRow.holds Try.pinned (OpenSpec.ofChange knapBelowWrong)

/-- 'kurganlaw11.KnapWhole': WHATEVER THE INPUT: true; the input reads as it did. -/
def knapWholeSpec : ChangeSpec := { name := "knapWhole", fn := fun _ => fun
  | [d] => { results := [.lit (.bool true)], args := [d] }
  | _ => none }
def knapWholeRow : OpenClaim := { program := "yteoionlnnjcggaa", sum := "bf2a12ca04b39638f650e1d583226c6f1506dc92383dd443d07fa625648c0273", func := "kurgan/kurganlaw11.KnapWhole", spec := "knapWhole", unfollowed := true, recurses := true, named := ["math/bits.divideError", "math/bits.overflowError"], apart := false }
def KnapWholeSaid : Prop := knapWholeRow.holds Try.pinned (OpenSpec.ofChange knapWholeSpec)

/-- ITS FALSE NEIGHBOUR: 'it returns false'. Refute it at one input. -/
def knapWholeWrong : ChangeSpec := { name := "knapWhole", fn := fun _ => fun
  | [d] => { results := [.lit (.bool false)], args := [d] }
  | _ => none }
def KnapWholeWrongFalsely : Prop := knapWholeRow.holds Try.pinned (OpenSpec.ofChange knapWholeWrong)

/- THE SECOND FORM. 'bulk': how many values and letters a reading holds, each counted each time it is reached (what is shared counts as often as it is met; a slice's spare places count too). A statement '..UptoSaid' is the law's where the arguments, and the package variables that the reading takes, are together of bulk at most 1048576: NARROWER than '..Said'. Prove '..Said' where nothing that the law and all that it calls make is longer than what came in: it says more and counts as full. Else prove '..UptoSaid'. A law counts once. -/
mutual
def uptoBulk {H : Type} : DataW H → Nat
  | .lit (.string bytes) => bytes.length + 1
  | .lit _ => 1
  | .nil => 1
  | .ptr d => uptoBulk d + 1
  | .slice elems spare => uptoBulkAll elems + uptoBulkAll spare + 1
  | .agg parts => uptoBulkAll parts + 1
  | .iface _ d => uptoBulk d + 1
  | .map entries => uptoBulkEntries entries + 1
  | .held _ => 1
def uptoBulkAll {H : Type} : List (DataW H) → Nat
  | [] => 0
  | d :: r => uptoBulk d + uptoBulkAll r
def uptoBulkEntries {H : Type} : List (Lit × DataW H) → Nat
  | [] => 0
  | x :: r => uptoBulkEntry x + uptoBulkEntries r
def uptoBulkEntry {H : Type} : Lit × DataW H → Nat
  | (.string bytes, d) => bytes.length + uptoBulk d + 1
  | (_, d) => uptoBulk d + 1
 end
def uptoSmall : (H : Type) → List (DataW H) → Bool := fun _ ds => decide (uptoBulkAll ds ≤ 1048576)
def OpenSpec.upto (s : _root_.Go.ChangeSpec) : _root_.Go.OpenSpec := { _root_.Go.OpenSpec.ofChange s with cond := some uptoSmall }

/-- 'kurganlaw11.KnapNews', WHERE WHAT IT READS IS OF BULK AT MOST 1048576: true; the input reads as it did. -/
def knapNewsUptoRow : OpenClaim := { program := "yteoionlnnjcggaa", sum := "bf2a12ca04b39638f650e1d583226c6f1506dc92383dd443d07fa625648c0273", func := "kurgan/kurganlaw11.KnapNews", spec := "knapNews", unfollowed := true, recurses := true, named := ["math/bits.divideError", "math/bits.overflowError"], apart := false, narrowed := true }
def KnapNewsUptoSaid : Prop := knapNewsUptoRow.holds Try.pinned (OpenSpec.upto knapNewsSpec)

/-- 'kurganlaw11.KnapKids', WHERE WHAT IT READS IS OF BULK AT MOST 1048576: true; the input reads as it did. -/
def knapKidsUptoRow : OpenClaim := { program := "yteoionlnnjcggaa", sum := "bf2a12ca04b39638f650e1d583226c6f1506dc92383dd443d07fa625648c0273", func := "kurgan/kurganlaw11.KnapKids", spec := "knapKids", unfollowed := true, recurses := true, named := ["math/bits.divideError", "math/bits.overflowError"], apart := false, narrowed := true }
def KnapKidsUptoSaid : Prop := knapKidsUptoRow.holds Try.pinned (OpenSpec.upto knapKidsSpec)

/-- 'kurganlaw11.KnapBounds', WHERE WHAT IT READS IS OF BULK AT MOST 1048576: true; the input reads as it did. -/
def knapBoundsUptoRow : OpenClaim := { program := "yteoionlnnjcggaa", sum := "bf2a12ca04b39638f650e1d583226c6f1506dc92383dd443d07fa625648c0273", func := "kurgan/kurganlaw11.KnapBounds", spec := "knapBounds", unfollowed := true, recurses := true, named := ["math/bits.divideError", "math/bits.overflowError"], apart := false, narrowed := true }
def KnapBoundsUptoSaid : Prop := knapBoundsUptoRow.holds Try.pinned (OpenSpec.upto knapBoundsSpec)

/-- 'kurganlaw11.KnapBelow', WHERE WHAT IT READS IS OF BULK AT MOST 1048576: true; the input reads as it did. -/
def knapBelowUptoRow : OpenClaim := { program := "yteoionlnnjcggaa", sum := "bf2a12ca04b39638f650e1d583226c6f1506dc92383dd443d07fa625648c0273", func := "kurgan/kurganlaw11.KnapBelow", spec := "knapBelow", unfollowed := true, recurses := true, named := ["math/bits.divideError", "math/bits.overflowError"], apart := false, narrowed := true }
def KnapBelowUptoSaid : Prop := knapBelowUptoRow.holds Try.pinned (OpenSpec.upto knapBelowSpec)

/-- 'kurganlaw11.KnapWhole', WHERE WHAT IT READS IS OF BULK AT MOST 1048576: true; the input reads as it did. -/
def knapWholeUptoRow : OpenClaim := { program := "yteoionlnnjcggaa", sum := "bf2a12ca04b39638f650e1d583226c6f1506dc92383dd443d07fa625648c0273", func := "kurgan/kurganlaw11.KnapWhole", spec := "knapWhole", unfollowed := true, recurses := true, named := ["math/bits.divideError", "math/bits.overflowError"], apart := false, narrowed := true }
def KnapWholeUptoSaid : Prop := knapWholeUptoRow.holds Try.pinned (OpenSpec.upto knapWholeSpec)

end Rows
end Go.Proofs.Yteoionlnnjcggaa
