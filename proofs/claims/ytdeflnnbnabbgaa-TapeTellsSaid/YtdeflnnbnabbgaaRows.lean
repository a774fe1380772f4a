/-
  No cell of these rows narrows 'for every input' (looked for: loops, veiled, ifaces, maps, wideKeys, modest, calm, conditions, laid).
  DERIVED. THE GIVEN ROWS OF THIS SEAT. 3 by the template 'for every input the law returns true; each argument reads behind the call as it read before'; 0 by the template 'total and deterministic' (their statements: YtdeflnnbnabbgaaTotals.lean).
  GIVEN WITH THE SEED: the statements are not yours to turn. If you find one false, say at which input.
  Laid BY PROGRAM, IN A SANDBOX (cutbox-rows.mjs): the forced cells as the released guide's own fill.sh prints them over the translation 0309ab551b9a9ce6… (all of the seat's roots in one cut). By AI agents, Wed Nov 11 2026. No macro, syntax, notation, axiom, sorry.
-/
import Derived.Test.YtdeflnnbnabbgaaChecked
import GoSem.Claim
import GoSem.ClaimJoined
import GoSem.ClaimMapViews
import Derived.JoinedTies
import Derived.KernelRfl
namespace Go.Proofs.Ytdeflnnbnabbgaa
/- THE CELL 'sum', in the pinned program and in every row, IS THE sha256 OF THE DUMP (.gsa) THAT YtdeflnnbnabbgaaProg.lean LOADS. Nothing in Lean hashes anything: it is a label: what it is worth is what the hold of that sum in a sandbox is worth. -/
noncomputable def Try.pinned : Pinned := { name := "ytdeflnnbnabbgaa", sum := "0309ab551b9a9ce6dace984d52da036dd97b0009100eb38fbb1bfdffa64cf7ff", checked := Try.checked }
namespace Rows
def none {H : Type} : Left H := { results := [], args := [] }

/-- 'kurganlaw17.TapeTells': WHATEVER THE INPUT: true; the input reads as it did. -/
def tapeTellsSpec : ChangeSpec := { name := "tapeTells", fn := fun _ => fun
  | [d1, d2, d3] => { results := [.lit (.bool true)], args := [d1, d2, d3] }
  | _ => none }
def tapeTellsRow : OpenClaim := { program := "ytdeflnnbnabbgaa", sum := "0309ab551b9a9ce6dace984d52da036dd97b0009100eb38fbb1bfdffa64cf7ff", func := "kurgan/kurganlaw17.TapeTells", spec := "tapeTells", apart := false }
def TapeTellsSaid : Prop := tapeTellsRow.holds Try.pinned (OpenSpec.ofChange tapeTellsSpec)

/-- ITS FALSE NEIGHBOUR: 'it returns false'. Refute it at one input. -/
def tapeTellsWrong : ChangeSpec := { name := "tapeTells", fn := fun _ => fun
  | [d1, d2, d3] => { results := [.lit (.bool false)], args := [d1, d2, d3] }
  | _ => none }
def TapeTellsWrongFalsely : Prop := tapeTellsRow.holds Try.pinned (OpenSpec.ofChange tapeTellsWrong)

/-- 'kurganlaw17.TapeMakes': WHATEVER THE INPUT: true; the input reads as it did. -/
def tapeMakesSpec : ChangeSpec := { name := "tapeMakes", fn := fun _ => fun
  | [d1, d2, d3] => { results := [.lit (.bool true)], args := [d1, d2, d3] }
  | _ => none }
def tapeMakesRow : OpenClaim := { program := "ytdeflnnbnabbgaa", sum := "0309ab551b9a9ce6dace984d52da036dd97b0009100eb38fbb1bfdffa64cf7ff", func := "kurgan/kurganlaw17.TapeMakes", spec := "tapeMakes", apart := false }
def TapeMakesSaid : Prop := tapeMakesRow.holds Try.pinned (OpenSpec.ofChange tapeMakesSpec)

/-- ITS FALSE NEIGHBOUR: 'it returns false'. Refute it at one input. -/
def tapeMakesWrong : ChangeSpec := { name := "tapeMakes", fn := fun _ => fun
  | [d1, d2, d3] => { results := [.lit (.bool false)], args := [d1, d2, d3] }
  | _ => none }
def TapeMakesWrongFalsely : Prop := tapeMakesRow.holds Try.pinned (OpenSpec.ofChange tapeMakesWrong)

/-- 'kurganlaw17.TapeFair': WHATEVER THE INPUT: true; the input reads as it did. -/
def tapeFairSpec : ChangeSpec := { name := "tapeFair", fn := fun _ => fun
  | [d1, d2, d3] => { results := [.lit (.bool true)], args := [d1, d2, d3] }
  | _ => none }
def tapeFairRow : OpenClaim := { program := "ytdeflnnbnabbgaa", sum := "0309ab551b9a9ce6dace984d52da036dd97b0009100eb38fbb1bfdffa64cf7ff", func := "kurgan/kurganlaw17.TapeFair", spec := "tapeFair", apart := false }
def TapeFairSaid : Prop := tapeFairRow.holds Try.pinned (OpenSpec.ofChange tapeFairSpec)

/-- ITS FALSE NEIGHBOUR: 'it returns false'. Refute it at one input. -/
def tapeFairWrong : ChangeSpec := { name := "tapeFair", fn := fun _ => fun
  | [d1, d2, d3] => { results := [.lit (.bool false)], args := [d1, d2, d3] }
  | _ => none }
def TapeFairWrongFalsely : Prop := tapeFairRow.holds Try.pinned (OpenSpec.ofChange tapeFairWrong)

/- THE SECOND FORM. 'bulk': how many values and letters a reading holds, each counted each time it is reached (what is shared counts as often as it is met; a slice's spare places count too). A statement '..UptoSaid' is the law's where the arguments, and the package variables that the reading takes, are together of bulk at most 1048576: NARROWER than '..Said'. Prove '..Said' where nothing that the law and all that it calls make is longer than what came in: it says more and counts as full. Else prove '..UptoSaid'. A law counts once. -/
mutual
def uptoBulk {H : Type} : DataW H → Nat
  | .lit (.string bytes) => bytes.length + 1
  | .lit _ => 1
  | .nil => 1
  | .ptr d => uptoBulk d + 1
  | .slice elems spare => uptoBulkAll elems + uptoBulkAll spare + 1
  | .agg parts => uptoBulkAll parts + 1
  | .iface _ d => uptoBulk d + 1
  | .map entries => uptoBulkEntries entries + 1
  | .held _ => 1
def uptoBulkAll {H : Type} : List (DataW H) → Nat
  | [] => 0
  | d :: r => uptoBulk d + uptoBulkAll r
def uptoBulkEntries {H : Type} : List (Lit × DataW H) → Nat
  | [] => 0
  | x :: r => uptoBulkEntry x + uptoBulkEntries r
def uptoBulkEntry {H : Type} : Lit × DataW H → Nat
  | (.string bytes, d) => bytes.length + uptoBulk d + 1
  | (_, d) => uptoBulk d + 1
 end
def uptoSmall : (H : Type) → List (DataW H) → Bool := fun _ ds => decide (uptoBulkAll ds ≤ 1048576)
def OpenSpec.upto (s : _root_.Go.ChangeSpec) : _root_.Go.OpenSpec := { _root_.Go.OpenSpec.ofChange s with cond := some uptoSmall }

/-- 'kurganlaw17.TapeTells', WHERE WHAT IT READS IS OF BULK AT MOST 1048576: true; the input reads as it did. -/
def tapeTellsUptoRow : OpenClaim := { program := "ytdeflnnbnabbgaa", sum := "0309ab551b9a9ce6dace984d52da036dd97b0009100eb38fbb1bfdffa64cf7ff", func := "kurgan/kurganlaw17.TapeTells", spec := "tapeTells", apart := false, narrowed := true }
def TapeTellsUptoSaid : Prop := tapeTellsUptoRow.holds Try.pinned (OpenSpec.upto tapeTellsSpec)

/-- 'kurganlaw17.TapeMakes', WHERE WHAT IT READS IS OF BULK AT MOST 1048576: true; the input reads as it did. -/
def tapeMakesUptoRow : OpenClaim := { program := "ytdeflnnbnabbgaa", sum := "0309ab551b9a9ce6dace984d52da036dd97b0009100eb38fbb1bfdffa64cf7ff", func := "kurgan/kurganlaw17.TapeMakes", spec := "tapeMakes", apart := false, narrowed := true }
def TapeMakesUptoSaid : Prop := tapeMakesUptoRow.holds Try.pinned (OpenSpec.upto tapeMakesSpec)

/-- 'kurganlaw17.TapeFair', WHERE WHAT IT READS IS OF BULK AT MOST 1048576: true; the input reads as it did. -/
def tapeFairUptoRow : OpenClaim := { program := "ytdeflnnbnabbgaa", sum := "0309ab551b9a9ce6dace984d52da036dd97b0009100eb38fbb1bfdffa64cf7ff", func := "kurgan/kurganlaw17.TapeFair", spec := "tapeFair", apart := false, narrowed := true }
def TapeFairUptoSaid : Prop := tapeFairUptoRow.holds Try.pinned (OpenSpec.upto tapeFairSpec)

end Rows
end Go.Proofs.Ytdeflnnbnabbgaa
