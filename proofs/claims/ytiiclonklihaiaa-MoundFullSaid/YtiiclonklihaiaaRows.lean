/-
  No cell of these rows narrows 'for every input' (looked for: loops, veiled, ifaces, maps, wideKeys, modest, calm, conditions, laid).
  DERIVED. THE GIVEN ROWS OF THIS SEAT. 4 by the template 'for every input the law returns true; each argument reads behind the call as it read before'; 0 by the template 'total and deterministic' (their statements: YtiiclonklihaiaaTotals.lean).
  GIVEN WITH THE SEED: the statements are not yours to turn. If you find one false, say at which input.
  Laid BY PROGRAM, IN A SANDBOX (cutbox-rows.mjs): the forced cells as the released guide's own fill.sh prints them over the translation e064e75d1380887a… (all of the seat's roots in one cut). By AI agents, Wed Nov 11 2026. No macro, syntax, notation, axiom, sorry.
-/
import Derived.Test.YtiiclonklihaiaaChecked
import GoSem.Claim
import GoSem.ClaimJoined
import GoSem.ClaimMapViews
import Derived.JoinedTies
import Derived.KernelRfl
namespace Go.Proofs.Ytiiclonklihaiaa
/- THE CELL 'sum', in the pinned program and in every row, IS THE sha256 OF THE DUMP (.gsa) THAT YtiiclonklihaiaaProg.lean LOADS. Nothing in Lean hashes anything: it is a label: what it is worth is what the hold of that sum in a sandbox is worth. -/
noncomputable def Try.pinned : Pinned := { name := "ytiiclonklihaiaa", sum := "e064e75d1380887a9bb5c7f39529f3b468417ea8b33abee8cd36a23dbee1ab58", checked := Try.checked }
namespace Rows
def none {H : Type} : Left H := { results := [], args := [] }

/-- 'kurganlaw19.MoundJobs': WHATEVER THE INPUT: true; the input reads as it did. -/
def moundJobsSpec : ChangeSpec := { name := "moundJobs", fn := fun _ => fun
  | [d1, d2] => { results := [.lit (.bool true)], args := [d1, d2] }
  | _ => none }
def moundJobsRow : OpenClaim := { program := "ytiiclonklihaiaa", sum := "e064e75d1380887a9bb5c7f39529f3b468417ea8b33abee8cd36a23dbee1ab58", func := "kurgan/kurganlaw19.MoundJobs", spec := "moundJobs", apart := false }
def MoundJobsSaid : Prop := moundJobsRow.holds Try.pinned (OpenSpec.ofChange moundJobsSpec)

/-- ITS FALSE NEIGHBOUR: 'it returns false'. Refute it at one input. -/
def moundJobsWrong : ChangeSpec := { name := "moundJobs", fn := fun _ => fun
  | [d1, d2] => { results := [.lit (.bool false)], args := [d1, d2] }
  | _ => none }
def MoundJobsWrongFalsely : Prop := moundJobsRow.holds Try.pinned (OpenSpec.ofChange moundJobsWrong)

/-- 'kurganlaw19.MoundOrders': WHATEVER THE INPUT: true; the input reads as it did. -/
def moundOrdersSpec : ChangeSpec := { name := "moundOrders", fn := fun _ => fun
  | [d1, d2] => { results := [.lit (.bool true)], args := [d1, d2] }
  | _ => none }
def moundOrdersRow : OpenClaim := { program := "ytiiclonklihaiaa", sum := "e064e75d1380887a9bb5c7f39529f3b468417ea8b33abee8cd36a23dbee1ab58", func := "kurgan/kurganlaw19.MoundOrders", spec := "moundOrders", apart := false }
def MoundOrdersSaid : Prop := moundOrdersRow.holds Try.pinned (OpenSpec.ofChange moundOrdersSpec)

/-- ITS FALSE NEIGHBOUR: 'it returns false'. Refute it at one input. -/
def moundOrdersWrong : ChangeSpec := { name := "moundOrders", fn := fun _ => fun
  | [d1, d2] => { results := [.lit (.bool false)], args := [d1, d2] }
  | _ => none }
def MoundOrdersWrongFalsely : Prop := moundOrdersRow.holds Try.pinned (OpenSpec.ofChange moundOrdersWrong)

/-- 'kurganlaw19.MoundSorts': WHATEVER THE INPUT: true; the input reads as it did. -/
def moundSortsSpec : ChangeSpec := { name := "moundSorts", fn := fun _ => fun
  | [d1, d2] => { results := [.lit (.bool true)], args := [d1, d2] }
  | _ => none }
def moundSortsRow : OpenClaim := { program := "ytiiclonklihaiaa", sum := "e064e75d1380887a9bb5c7f39529f3b468417ea8b33abee8cd36a23dbee1ab58", func := "kurgan/kurganlaw19.MoundSorts", spec := "moundSorts", apart := false }
def MoundSortsSaid : Prop := moundSortsRow.holds Try.pinned (OpenSpec.ofChange moundSortsSpec)

/-- ITS FALSE NEIGHBOUR: 'it returns false'. Refute it at one input. -/
def moundSortsWrong : ChangeSpec := { name := "moundSorts", fn := fun _ => fun
  | [d1, d2] => { results := [.lit (.bool false)], args := [d1, d2] }
  | _ => none }
def MoundSortsWrongFalsely : Prop := moundSortsRow.holds Try.pinned (OpenSpec.ofChange moundSortsWrong)

/-- 'kurganlaw19.MoundFull': WHATEVER THE INPUT: true; the input reads as it did. -/
def moundFullSpec : ChangeSpec := { name := "moundFull", fn := fun _ => fun
  | [d] => { results := [.lit (.bool true)], args := [d] }
  | _ => none }
def moundFullRow : OpenClaim := { program := "ytiiclonklihaiaa", sum := "e064e75d1380887a9bb5c7f39529f3b468417ea8b33abee8cd36a23dbee1ab58", func := "kurgan/kurganlaw19.MoundFull", spec := "moundFull", apart := false }
def MoundFullSaid : Prop := moundFullRow.holds Try.pinned (OpenSpec.ofChange moundFullSpec)

/-- ITS FALSE NEIGHBOUR: 'it returns false'. Refute it at one input. -/
def moundFullWrong : ChangeSpec := { name := "moundFull", fn := fun _ => fun
  | [d] => { results := [.lit (.bool false)], args := [d] }
  | _ => none }
def MoundFullWrongFalsely : Prop := moundFullRow.holds Try.pinned (OpenSpec.ofChange moundFullWrong)

/- THE SECOND FORM. 'bulk': how many values and letters a reading holds, each counted each time it is reached (what is shared counts as often as it is met; a slice's spare places count too). A statement '..UptoSaid' is the law's where the arguments, and the package variables that the reading takes, are together of bulk at most 1048576: NARROWER than '..Said'. Prove '..Said' where nothing that the law and all that it calls make is longer than what came in: it says more and counts as full. Else prove '..UptoSaid'. A law counts once. -/
mutual
def uptoBulk {H : Type} : DataW H → Nat
  | .lit (.string bytes) => bytes.length + 1
  | .lit _ => 1
  | .nil => 1
  | .ptr d => uptoBulk d + 1
  | .slice elems spare => uptoBulkAll elems + uptoBulkAll spare + 1
  | .agg parts => uptoBulkAll parts + 1
  | .iface _ d => uptoBulk d + 1
  | .map entries => uptoBulkEntries entries + 1
  | .held _ => 1
def uptoBulkAll {H : Type} : List (DataW H) → Nat
  | [] => 0
  | d :: r => uptoBulk d + uptoBulkAll r
def uptoBulkEntries {H : Type} : List (Lit × DataW H) → Nat
  | [] => 0
  | x :: r => uptoBulkEntry x + uptoBulkEntries r
def uptoBulkEntry {H : Type} : Lit × DataW H → Nat
  | (.string bytes, d) => bytes.length + uptoBulk d + 1
  | (_, d) => uptoBulk d + 1
 end
def uptoSmall : (H : Type) → List (DataW H) → Bool := fun _ ds => decide (uptoBulkAll ds ≤ 1048576)
def OpenSpec.upto (s : _root_.Go.ChangeSpec) : _root_.Go.OpenSpec := { _root_.Go.OpenSpec.ofChange s with cond := some uptoSmall }

/-- 'kurganlaw19.MoundJobs', WHERE WHAT IT READS IS OF BULK AT MOST 1048576: true; the input reads as it did. -/
def moundJobsUptoRow : OpenClaim := { program := "ytiiclonklihaiaa", sum := "e064e75d1380887a9bb5c7f39529f3b468417ea8b33abee8cd36a23dbee1ab58", func := "kurgan/kurganlaw19.MoundJobs", spec := "moundJobs", apart := false, narrowed := true }
def MoundJobsUptoSaid : Prop := moundJobsUptoRow.holds Try.pinned (OpenSpec.upto moundJobsSpec)

/-- 'kurganlaw19.MoundOrders', WHERE WHAT IT READS IS OF BULK AT MOST 1048576: true; the input reads as it did. -/
def moundOrdersUptoRow : OpenClaim := { program := "ytiiclonklihaiaa", sum := "e064e75d1380887a9bb5c7f39529f3b468417ea8b33abee8cd36a23dbee1ab58", func := "kurgan/kurganlaw19.MoundOrders", spec := "moundOrders", apart := false, narrowed := true }
def MoundOrdersUptoSaid : Prop := moundOrdersUptoRow.holds Try.pinned (OpenSpec.upto moundOrdersSpec)

/-- 'kurganlaw19.MoundSorts', WHERE WHAT IT READS IS OF BULK AT MOST 1048576: true; the input reads as it did. -/
def moundSortsUptoRow : OpenClaim := { program := "ytiiclonklihaiaa", sum := "e064e75d1380887a9bb5c7f39529f3b468417ea8b33abee8cd36a23dbee1ab58", func := "kurgan/kurganlaw19.MoundSorts", spec := "moundSorts", apart := false, narrowed := true }
def MoundSortsUptoSaid : Prop := moundSortsUptoRow.holds Try.pinned (OpenSpec.upto moundSortsSpec)

/-- 'kurganlaw19.MoundFull', WHERE WHAT IT READS IS OF BULK AT MOST 1048576: true; the input reads as it did. -/
def moundFullUptoRow : OpenClaim := { program := "ytiiclonklihaiaa", sum := "e064e75d1380887a9bb5c7f39529f3b468417ea8b33abee8cd36a23dbee1ab58", func := "kurgan/kurganlaw19.MoundFull", spec := "moundFull", apart := false, narrowed := true }
def MoundFullUptoSaid : Prop := moundFullUptoRow.holds Try.pinned (OpenSpec.upto moundFullSpec)

end Rows
end Go.Proofs.Ytiiclonklihaiaa
