/-
  No cell of these rows narrows 'for every input' (looked for: loops, veiled, ifaces, maps, wideKeys, modest, calm, conditions, laid).
  DERIVED. THE GIVEN ROWS OF THIS SEAT. 7 by the template 'for every input the law returns true; each argument reads behind the call as it read before'; 0 by the template 'total and deterministic' (their statements: YtbcffefailhacaaTotals.lean).
  GIVEN WITH THE SEED: the statements are not yours to turn. If you find one false, say at which input.
  Laid BY PROGRAM, IN A SANDBOX (cutbox-rows.mjs): the forced cells as the released guide's own fill.sh prints them over the translation 9127b5e2a395f0a8… (all of the seat's roots in one cut). By AI agents, Wed Nov 11 2026. No macro, syntax, notation, axiom, sorry.
-/
import Derived.Test.YtbcffefailhacaaChecked
import GoSem.Claim
import GoSem.ClaimJoined
import GoSem.ClaimMapViews
import Derived.JoinedTies
import Derived.KernelRfl
namespace Go.Proofs.Ytbcffefailhacaa
/- THE CELL 'sum', in the pinned program and in every row, IS THE sha256 OF THE DUMP (.gsa) THAT YtbcffefailhacaaProg.lean LOADS. Nothing in Lean hashes anything: it is a label: what it is worth is what the hold of that sum in a sandbox is worth. -/
noncomputable def Try.pinned : Pinned := { name := "ytbcffefailhacaa", sum := "9127b5e2a395f0a8ac6a69d61ddf3823283a05df4c0876c065be480dda50a763", checked := Try.checked }
namespace Rows
def none {H : Type} : Left H := { results := [], args := [] }

/-- 'kurganlaw01.ArithAdds': WHATEVER THE INPUT: true; the input reads as it did. -/
def arithAddsSpec : ChangeSpec := { name := "arithAdds", fn := fun _ => fun
  | [d1, d2] => { results := [.lit (.bool true)], args := [d1, d2] }
  | _ => none }
def arithAddsRow : OpenClaim := { program := "ytbcffefailhacaa", sum := "9127b5e2a395f0a8ac6a69d61ddf3823283a05df4c0876c065be480dda50a763", func := "kurgan/kurganlaw01.ArithAdds", spec := "arithAdds", inPlace := ["math/bits.Add64", "math/bits.Sub64"], apart := false }
def ArithAddsSaid : Prop := arithAddsRow.holds Try.pinned (OpenSpec.ofChange arithAddsSpec)

/-- ITS FALSE NEIGHBOUR: 'it returns false'. Refute it at one input. -/
def arithAddsWrong : ChangeSpec := { name := "arithAdds", fn := fun _ => fun
  | [d1, d2] => { results := [.lit (.bool false)], args := [d1, d2] }
  | _ => none }
def ArithAddsWrongFalsely : Prop := arithAddsRow.holds Try.pinned (OpenSpec.ofChange arithAddsWrong)

/-- 'kurganlaw01.ArithDivs': WHATEVER THE INPUT: true; the input reads as it did. -/
def arithDivsSpec : ChangeSpec := { name := "arithDivs", fn := fun _ => fun
  | [d1, d2] => { results := [.lit (.bool true)], args := [d1, d2] }
  | _ => none }
def arithDivsRow : OpenClaim := { program := "ytbcffefailhacaa", sum := "9127b5e2a395f0a8ac6a69d61ddf3823283a05df4c0876c065be480dda50a763", func := "kurgan/kurganlaw01.ArithDivs", spec := "arithDivs", inPlace := ["math/bits.Add64"], apart := false }
def ArithDivsSaid : Prop := arithDivsRow.holds Try.pinned (OpenSpec.ofChange arithDivsSpec)

/-- ITS FALSE NEIGHBOUR: 'it returns false'. Refute it at one input. -/
def arithDivsWrong : ChangeSpec := { name := "arithDivs", fn := fun _ => fun
  | [d1, d2] => { results := [.lit (.bool false)], args := [d1, d2] }
  | _ => none }
def ArithDivsWrongFalsely : Prop := arithDivsRow.holds Try.pinned (OpenSpec.ofChange arithDivsWrong)

/-- 'kurganlaw01.ArithSums': WHATEVER THE INPUT: true; the input reads as it did. -/
def arithSumsSpec : ChangeSpec := { name := "arithSums", fn := fun _ => fun
  | [d] => { results := [.lit (.bool true)], args := [d] }
  | _ => none }
def arithSumsRow : OpenClaim := { program := "ytbcffefailhacaa", sum := "9127b5e2a395f0a8ac6a69d61ddf3823283a05df4c0876c065be480dda50a763", func := "kurgan/kurganlaw01.ArithSums", spec := "arithSums", inPlace := ["math/bits.Add64"], apart := false }
def ArithSumsSaid : Prop := arithSumsRow.holds Try.pinned (OpenSpec.ofChange arithSumsSpec)

/-- ITS FALSE NEIGHBOUR: 'it returns false'. Refute it at one input. -/
def arithSumsWrong : ChangeSpec := { name := "arithSums", fn := fun _ => fun
  | [d] => { results := [.lit (.bool false)], args := [d] }
  | _ => none }
def ArithSumsWrongFalsely : Prop := arithSumsRow.holds Try.pinned (OpenSpec.ofChange arithSumsWrong)

/-- 'kurganlaw01.ArithCross': WHATEVER THE INPUT: true; the input reads as it did. -/
def arithCrossSpec : ChangeSpec := { name := "arithCross", fn := fun _ => fun
  | [d1, d2, d3] => { results := [.lit (.bool true)], args := [d1, d2, d3] }
  | _ => none }
def arithCrossRow : OpenClaim := { program := "ytbcffefailhacaa", sum := "9127b5e2a395f0a8ac6a69d61ddf3823283a05df4c0876c065be480dda50a763", func := "kurgan/kurganlaw01.ArithCross", spec := "arithCross", inPlace := ["math/bits.Add64"], apart := false }
def ArithCrossSaid : Prop := arithCrossRow.holds Try.pinned (OpenSpec.ofChange arithCrossSpec)

/-- ITS FALSE NEIGHBOUR: 'it returns false'. Refute it at one input. -/
def arithCrossWrong : ChangeSpec := { name := "arithCross", fn := fun _ => fun
  | [d1, d2, d3] => { results := [.lit (.bool false)], args := [d1, d2, d3] }
  | _ => none }
def ArithCrossWrongFalsely : Prop := arithCrossRow.holds Try.pinned (OpenSpec.ofChange arithCrossWrong)

/-- 'kurganlaw01.ArithParts': WHATEVER THE INPUT: true; the input reads as it did. -/
def arithPartsSpec : ChangeSpec := { name := "arithParts", fn := fun _ => fun
  | [d1, d2, d3] => { results := [.lit (.bool true)], args := [d1, d2, d3] }
  | _ => none }
def arithPartsRow : OpenClaim := { program := "ytbcffefailhacaa", sum := "9127b5e2a395f0a8ac6a69d61ddf3823283a05df4c0876c065be480dda50a763", func := "kurgan/kurganlaw01.ArithParts", spec := "arithParts", inPlace := ["math/bits.Add64"], named := ["math/bits.divideError", "math/bits.overflowError"], apart := false }
def ArithPartsSaid : Prop := arithPartsRow.holds Try.pinned (OpenSpec.ofChange arithPartsSpec)

/-- ITS FALSE NEIGHBOUR: 'it returns false'. Refute it at one input. -/
def arithPartsWrong : ChangeSpec := { name := "arithParts", fn := fun _ => fun
  | [d1, d2, d3] => { results := [.lit (.bool false)], args := [d1, d2, d3] }
  | _ => none }
def ArithPartsWrongFalsely : Prop := arithPartsRow.holds Try.pinned (OpenSpec.ofChange arithPartsWrong)

/-- 'kurganlaw01.ArithGcds': WHATEVER THE INPUT: true; the input reads as it did. -/
def arithGcdsSpec : ChangeSpec := { name := "arithGcds", fn := fun _ => fun
  | [d1, d2] => { results := [.lit (.bool true)], args := [d1, d2] }
  | _ => none }
def arithGcdsRow : OpenClaim := { program := "ytbcffefailhacaa", sum := "9127b5e2a395f0a8ac6a69d61ddf3823283a05df4c0876c065be480dda50a763", func := "kurgan/kurganlaw01.ArithGcds", spec := "arithGcds", inPlace := ["math/bits.Add64"], apart := false }
def ArithGcdsSaid : Prop := arithGcdsRow.holds Try.pinned (OpenSpec.ofChange arithGcdsSpec)

/-- ITS FALSE NEIGHBOUR: 'it returns false'. Refute it at one input. -/
def arithGcdsWrong : ChangeSpec := { name := "arithGcds", fn := fun _ => fun
  | [d1, d2] => { results := [.lit (.bool false)], args := [d1, d2] }
  | _ => none }
def ArithGcdsWrongFalsely : Prop := arithGcdsRow.holds Try.pinned (OpenSpec.ofChange arithGcdsWrong)

/-- 'kurganlaw01.ArithUps': WHATEVER THE INPUT: true; the input reads as it did. -/
def arithUpsSpec : ChangeSpec := { name := "arithUps", fn := fun _ => fun
  | [d1, d2] => { results := [.lit (.bool true)], args := [d1, d2] }
  | _ => none }
def arithUpsRow : OpenClaim := { program := "ytbcffefailhacaa", sum := "9127b5e2a395f0a8ac6a69d61ddf3823283a05df4c0876c065be480dda50a763", func := "kurgan/kurganlaw01.ArithUps", spec := "arithUps", inPlace := ["math/bits.Add64"], apart := false }
def ArithUpsSaid : Prop := arithUpsRow.holds Try.pinned (OpenSpec.ofChange arithUpsSpec)

/-- ITS FALSE NEIGHBOUR: 'it returns false'. Refute it at one input. -/
def arithUpsWrong : ChangeSpec := { name := "arithUps", fn := fun _ => fun
  | [d1, d2] => { results := [.lit (.bool false)], args := [d1, d2] }
  | _ => none }
def ArithUpsWrongFalsely : Prop := arithUpsRow.holds Try.pinned (OpenSpec.ofChange arithUpsWrong)

/- THE SECOND FORM. 'bulk': how many values and letters a reading holds, each counted each time it is reached (what is shared counts as often as it is met; a slice's spare places count too). A statement '..UptoSaid' is the law's where the arguments, and the package variables that the reading takes, are together of bulk at most 1048576: NARROWER than '..Said'. Prove '..Said' where nothing that the law and all that it calls make is longer than what came in: it says more and counts as full. Else prove '..UptoSaid'. A law counts once. -/
mutual
def uptoBulk {H : Type} : DataW H → Nat
  | .lit (.string bytes) => bytes.length + 1
  | .lit _ => 1
  | .nil => 1
  | .ptr d => uptoBulk d + 1
  | .slice elems spare => uptoBulkAll elems + uptoBulkAll spare + 1
  | .agg parts => uptoBulkAll parts + 1
  | .iface _ d => uptoBulk d + 1
  | .map entries => uptoBulkEntries entries + 1
  | .held _ => 1
def uptoBulkAll {H : Type} : List (DataW H) → Nat
  | [] => 0
  | d :: r => uptoBulk d + uptoBulkAll r
def uptoBulkEntries {H : Type} : List (Lit × DataW H) → Nat
  | [] => 0
  | x :: r => uptoBulkEntry x + uptoBulkEntries r
def uptoBulkEntry {H : Type} : Lit × DataW H → Nat
  | (.string bytes, d) => bytes.length + uptoBulk d + 1
  | (_, d) => uptoBulk d + 1
 end
def uptoSmall : (H : Type) → List (DataW H) → Bool := fun _ ds => decide (uptoBulkAll ds ≤ 1048576)
def OpenSpec.upto (s : _root_.Go.ChangeSpec) : _root_.Go.OpenSpec := { _root_.Go.OpenSpec.ofChange s with cond := some uptoSmall }

/-- 'kurganlaw01.ArithAdds', WHERE WHAT IT READS IS OF BULK AT MOST 1048576: true; the input reads as it did. -/
def arithAddsUptoRow : OpenClaim := { program := "ytbcffefailhacaa", sum := "9127b5e2a395f0a8ac6a69d61ddf3823283a05df4c0876c065be480dda50a763", func := "kurgan/kurganlaw01.ArithAdds", spec := "arithAdds", inPlace := ["math/bits.Add64", "math/bits.Sub64"], apart := false, narrowed := true }
def ArithAddsUptoSaid : Prop := arithAddsUptoRow.holds Try.pinned (OpenSpec.upto arithAddsSpec)

/-- 'kurganlaw01.ArithDivs', WHERE WHAT IT READS IS OF BULK AT MOST 1048576: true; the input reads as it did. -/
def arithDivsUptoRow : OpenClaim := { program := "ytbcffefailhacaa", sum := "9127b5e2a395f0a8ac6a69d61ddf3823283a05df4c0876c065be480dda50a763", func := "kurgan/kurganlaw01.ArithDivs", spec := "arithDivs", inPlace := ["math/bits.Add64"], apart := false, narrowed := true }
def ArithDivsUptoSaid : Prop := arithDivsUptoRow.holds Try.pinned (OpenSpec.upto arithDivsSpec)

/-- 'kurganlaw01.ArithSums', WHERE WHAT IT READS IS OF BULK AT MOST 1048576: true; the input reads as it did. -/
def arithSumsUptoRow : OpenClaim := { program := "ytbcffefailhacaa", sum := "9127b5e2a395f0a8ac6a69d61ddf3823283a05df4c0876c065be480dda50a763", func := "kurgan/kurganlaw01.ArithSums", spec := "arithSums", inPlace := ["math/bits.Add64"], apart := false, narrowed := true }
def ArithSumsUptoSaid : Prop := arithSumsUptoRow.holds Try.pinned (OpenSpec.upto arithSumsSpec)

/-- 'kurganlaw01.ArithCross', WHERE WHAT IT READS IS OF BULK AT MOST 1048576: true; the input reads as it did. -/
def arithCrossUptoRow : OpenClaim := { program := "ytbcffefailhacaa", sum := "9127b5e2a395f0a8ac6a69d61ddf3823283a05df4c0876c065be480dda50a763", func := "kurgan/kurganlaw01.ArithCross", spec := "arithCross", inPlace := ["math/bits.Add64"], apart := false, narrowed := true }
def ArithCrossUptoSaid : Prop := arithCrossUptoRow.holds Try.pinned (OpenSpec.upto arithCrossSpec)

/-- 'kurganlaw01.ArithParts', WHERE WHAT IT READS IS OF BULK AT MOST 1048576: true; the input reads as it did. -/
def arithPartsUptoRow : OpenClaim := { program := "ytbcffefailhacaa", sum := "9127b5e2a395f0a8ac6a69d61ddf3823283a05df4c0876c065be480dda50a763", func := "kurgan/kurganlaw01.ArithParts", spec := "arithParts", inPlace := ["math/bits.Add64"], named := ["math/bits.divideError", "math/bits.overflowError"], apart := false, narrowed := true }
def ArithPartsUptoSaid : Prop := arithPartsUptoRow.holds Try.pinned (OpenSpec.upto arithPartsSpec)

/-- 'kurganlaw01.ArithGcds', WHERE WHAT IT READS IS OF BULK AT MOST 1048576: true; the input reads as it did. -/
def arithGcdsUptoRow : OpenClaim := { program := "ytbcffefailhacaa", sum := "9127b5e2a395f0a8ac6a69d61ddf3823283a05df4c0876c065be480dda50a763", func := "kurgan/kurganlaw01.ArithGcds", spec := "arithGcds", inPlace := ["math/bits.Add64"], apart := false, narrowed := true }
def ArithGcdsUptoSaid : Prop := arithGcdsUptoRow.holds Try.pinned (OpenSpec.upto arithGcdsSpec)

/-- 'kurganlaw01.ArithUps', WHERE WHAT IT READS IS OF BULK AT MOST 1048576: true; the input reads as it did. -/
def arithUpsUptoRow : OpenClaim := { program := "ytbcffefailhacaa", sum := "9127b5e2a395f0a8ac6a69d61ddf3823283a05df4c0876c065be480dda50a763", func := "kurgan/kurganlaw01.ArithUps", spec := "arithUps", inPlace := ["math/bits.Add64"], apart := false, narrowed := true }
def ArithUpsUptoSaid : Prop := arithUpsUptoRow.holds Try.pinned (OpenSpec.upto arithUpsSpec)

end Rows
end Go.Proofs.Ytbcffefailhacaa
