/-
  No cell of these rows narrows 'for every input' (looked for: loops, veiled, ifaces, maps, wideKeys, modest, calm, conditions, laid).
  DERIVED. THE GIVEN ROWS OF THIS SEAT. 4 by the template 'for every input the law returns true; each argument reads behind the call as it read before'; 0 by the template 'total and deterministic' (their statements: YtfpffggeehmedaaTotals.lean).
  GIVEN WITH THE SEED: the statements are not yours to turn. If you find one false, say at which input.
  Laid BY PROGRAM, IN A SANDBOX (cutbox-rows.mjs): the forced cells as the released guide's own fill.sh prints them over the translation 9746c232d7f04307… (all of the seat's roots in one cut). By AI agents, Wed Nov 11 2026. No macro, syntax, notation, axiom, sorry.
-/
import Derived.Test.YtfpffggeehmedaaChecked
import GoSem.Claim
import GoSem.ClaimJoined
import GoSem.ClaimMapViews
import Derived.JoinedTies
import Derived.KernelRfl
namespace Go.Proofs.Ytfpffggeehmedaa
/- THE CELL 'sum', in the pinned program and in every row, IS THE sha256 OF THE DUMP (.gsa) THAT YtfpffggeehmedaaProg.lean LOADS. Nothing in Lean hashes anything: it is a label: what it is worth is what the hold of that sum in a sandbox is worth. -/
noncomputable def Try.pinned : Pinned := { name := "ytfpffggeehmedaa", sum := "9746c232d7f043074749d3bc7c518fd7f5e601955644452c92112350745da044", checked := Try.checked }
namespace Rows
def none {H : Type} : Left H := { results := [], args := [] }

/-- 'kurganlaw08.ValueCosts': WHATEVER THE INPUT: true; the input reads as it did. -/
def valueCostsSpec : ChangeSpec := { name := "valueCosts", fn := fun _ => fun
  | [d1, d2] => { results := [.lit (.bool true)], args := [d1, d2] }
  | _ => none }
def valueCostsRow : OpenClaim := { program := "ytfpffggeehmedaa", sum := "9746c232d7f043074749d3bc7c518fd7f5e601955644452c92112350745da044", func := "kurgan/kurganlaw08.ValueCosts", spec := "valueCosts", unfollowed := true, recurses := true, apart := false }
def ValueCostsSaid : Prop := valueCostsRow.holds Try.pinned (OpenSpec.ofChange valueCostsSpec)

/-- ITS FALSE NEIGHBOUR: 'it returns false'. Refute it at one input. -/
def valueCostsWrong : ChangeSpec := { name := "valueCosts", fn := fun _ => fun
  | [d1, d2] => { results := [.lit (.bool false)], args := [d1, d2] }
  | _ => none }
def ValueCostsWrongFalsely : Prop := valueCostsRow.holds Try.pinned (OpenSpec.ofChange valueCostsWrong)

/-- 'kurganlaw08.ValuePlain': WHATEVER THE INPUT: true; the input reads as it did. -/
def valuePlainSpec : ChangeSpec := { name := "valuePlain", fn := fun _ => fun
  | [d] => { results := [.lit (.bool true)], args := [d] }
  | _ => none }
def valuePlainRow : OpenClaim := { program := "ytfpffggeehmedaa", sum := "9746c232d7f043074749d3bc7c518fd7f5e601955644452c92112350745da044", func := "kurgan/kurganlaw08.ValuePlain", spec := "valuePlain", unfollowed := true, recurses := true, apart := false }
def ValuePlainSaid : Prop := valuePlainRow.holds Try.pinned (OpenSpec.ofChange valuePlainSpec)

/-- ITS FALSE NEIGHBOUR: 'it returns false'. Refute it at one input. -/
def valuePlainWrong : ChangeSpec := { name := "valuePlain", fn := fun _ => fun
  | [d] => { results := [.lit (.bool false)], args := [d] }
  | _ => none }
def ValuePlainWrongFalsely : Prop := valuePlainRow.holds Try.pinned (OpenSpec.ofChange valuePlainWrong)

/-- 'kurganlaw08.ValueBounds': WHATEVER THE INPUT: true; the input reads as it did. -/
def valueBoundsSpec : ChangeSpec := { name := "valueBounds", fn := fun _ => fun
  | [d1, d2] => { results := [.lit (.bool true)], args := [d1, d2] }
  | _ => none }
def valueBoundsRow : OpenClaim := { program := "ytfpffggeehmedaa", sum := "9746c232d7f043074749d3bc7c518fd7f5e601955644452c92112350745da044", func := "kurgan/kurganlaw08.ValueBounds", spec := "valueBounds", unfollowed := true, recurses := true, apart := false }
def ValueBoundsSaid : Prop := valueBoundsRow.holds Try.pinned (OpenSpec.ofChange valueBoundsSpec)

/-- ITS FALSE NEIGHBOUR: 'it returns false'. Refute it at one input. -/
def valueBoundsWrong : ChangeSpec := { name := "valueBounds", fn := fun _ => fun
  | [d1, d2] => { results := [.lit (.bool false)], args := [d1, d2] }
  | _ => none }
def ValueBoundsWrongFalsely : Prop := valueBoundsRow.holds Try.pinned (OpenSpec.ofChange valueBoundsWrong)

/-- 'kurganlaw08.ValueTurns': WHATEVER THE INPUT: true; the input reads as it did. -/
def valueTurnsSpec : ChangeSpec := { name := "valueTurns", fn := fun _ => fun
  | [d1, d2] => { results := [.lit (.bool true)], args := [d1, d2] }
  | _ => none }
def valueTurnsRow : OpenClaim := { program := "ytfpffggeehmedaa", sum := "9746c232d7f043074749d3bc7c518fd7f5e601955644452c92112350745da044", func := "kurgan/kurganlaw08.ValueTurns", spec := "valueTurns", unfollowed := true, recurses := true, apart := false }
def ValueTurnsSaid : Prop := valueTurnsRow.holds Try.pinned (OpenSpec.ofChange valueTurnsSpec)

/-- ITS FALSE NEIGHBOUR: 'it returns false'. Refute it at one input. -/
def valueTurnsWrong : ChangeSpec := { name := "valueTurns", fn := fun _ => fun
  | [d1, d2] => { results := [.lit (.bool false)], args := [d1, d2] }
  | _ => none }
def ValueTurnsWrongFalsely : Prop := valueTurnsRow.holds Try.pinned (OpenSpec.ofChange valueTurnsWrong)

/- THE SECOND FORM. 'bulk': how many values and letters a reading holds, each counted each time it is reached (what is shared counts as often as it is met; a slice's spare places count too). A statement '..UptoSaid' is the law's where the arguments, and the package variables that the reading takes, are together of bulk at most 1048576: NARROWER than '..Said'. Prove '..Said' where nothing that the law and all that it calls make is longer than what came in: it says more and counts as full. Else prove '..UptoSaid'. A law counts once. -/
mutual
def uptoBulk {H : Type} : DataW H → Nat
  | .lit (.string bytes) => bytes.length + 1
  | .lit _ => 1
  | .nil => 1
  | .ptr d => uptoBulk d + 1
  | .slice elems spare => uptoBulkAll elems + uptoBulkAll spare + 1
  | .agg parts => uptoBulkAll parts + 1
  | .iface _ d => uptoBulk d + 1
  | .map entries => uptoBulkEntries entries + 1
  | .held _ => 1
def uptoBulkAll {H : Type} : List (DataW H) → Nat
  | [] => 0
  | d :: r => uptoBulk d + uptoBulkAll r
def uptoBulkEntries {H : Type} : List (Lit × DataW H) → Nat
  | [] => 0
  | x :: r => uptoBulkEntry x + uptoBulkEntries r
def uptoBulkEntry {H : Type} : Lit × DataW H → Nat
  | (.string bytes, d) => bytes.length + uptoBulk d + 1
  | (_, d) => uptoBulk d + 1
 end
def uptoSmall : (H : Type) → List (DataW H) → Bool := fun _ ds => decide (uptoBulkAll ds ≤ 1048576)
def OpenSpec.upto (s : _root_.Go.ChangeSpec) : _root_.Go.OpenSpec := { _root_.Go.OpenSpec.ofChange s with cond := some uptoSmall }

/-- 'kurganlaw08.ValueCosts', WHERE WHAT IT READS IS OF BULK AT MOST 1048576: true; the input reads as it did. -/
def valueCostsUptoRow : OpenClaim := { program := "ytfpffggeehmedaa", sum := "9746c232d7f043074749d3bc7c518fd7f5e601955644452c92112350745da044", func := "kurgan/kurganlaw08.ValueCosts", spec := "valueCosts", unfollowed := true, recurses := true, apart := false, narrowed := true }
def ValueCostsUptoSaid : Prop := valueCostsUptoRow.holds Try.pinned (OpenSpec.upto valueCostsSpec)

/-- 'kurganlaw08.ValuePlain', WHERE WHAT IT READS IS OF BULK AT MOST 1048576: true; the input reads as it did. -/
def valuePlainUptoRow : OpenClaim := { program := "ytfpffggeehmedaa", sum := "9746c232d7f043074749d3bc7c518fd7f5e601955644452c92112350745da044", func := "kurgan/kurganlaw08.ValuePlain", spec := "valuePlain", unfollowed := true, recurses := true, apart := false, narrowed := true }
def ValuePlainUptoSaid : Prop := valuePlainUptoRow.holds Try.pinned (OpenSpec.upto valuePlainSpec)

/-- 'kurganlaw08.ValueBounds', WHERE WHAT IT READS IS OF BULK AT MOST 1048576: true; the input reads as it did. -/
def valueBoundsUptoRow : OpenClaim := { program := "ytfpffggeehmedaa", sum := "9746c232d7f043074749d3bc7c518fd7f5e601955644452c92112350745da044", func := "kurgan/kurganlaw08.ValueBounds", spec := "valueBounds", unfollowed := true, recurses := true, apart := false, narrowed := true }
def ValueBoundsUptoSaid : Prop := valueBoundsUptoRow.holds Try.pinned (OpenSpec.upto valueBoundsSpec)

/-- 'kurganlaw08.ValueTurns', WHERE WHAT IT READS IS OF BULK AT MOST 1048576: true; the input reads as it did. -/
def valueTurnsUptoRow : OpenClaim := { program := "ytfpffggeehmedaa", sum := "9746c232d7f043074749d3bc7c518fd7f5e601955644452c92112350745da044", func := "kurgan/kurganlaw08.ValueTurns", spec := "valueTurns", unfollowed := true, recurses := true, apart := false, narrowed := true }
def ValueTurnsUptoSaid : Prop := valueTurnsUptoRow.holds Try.pinned (OpenSpec.upto valueTurnsSpec)

end Rows
end Go.Proofs.Ytfpffggeehmedaa
