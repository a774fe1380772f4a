/-
  No cell of these rows narrows 'for every input' (looked for: loops, veiled, ifaces, maps, wideKeys, modest, calm, conditions, laid).
  DERIVED. THE GIVEN ROWS OF THIS SEAT. 3 by the template 'for every input the law returns true; each argument reads behind the call as it read before'; 0 by the template 'total and deterministic' (their statements: YtgldgilhegdpjaaTotals.lean).
  GIVEN WITH THE SEED: the statements are not yours to turn. If you find one false, say at which input.
  Laid BY PROGRAM, IN A SANDBOX (cutbox-rows.mjs): the forced cells as the released guide's own fill.sh prints them over the translation ff3233afed91ecf2… (all of the seat's roots in one cut). By AI agents, Wed Nov 11 2026. No macro, syntax, notation, axiom, sorry.
-/
import Derived.Test.YtgldgilhegdpjaaChecked
import GoSem.Claim
import GoSem.ClaimJoined
import GoSem.ClaimMapViews
import Derived.JoinedTies
import Derived.KernelRfl
namespace Go.Proofs.Ytgldgilhegdpjaa
/- THE CELL 'sum', in the pinned program and in every row, IS THE sha256 OF THE DUMP (.gsa) THAT YtgldgilhegdpjaaProg.lean LOADS. Nothing in Lean hashes anything: it is a label: what it is worth is what the hold of that sum in a sandbox is worth. -/
noncomputable def Try.pinned : Pinned := { name := "ytgldgilhegdpjaa", sum := "ff3233afed91ecf2f7ccfef08ba155e04091d2e2de2b6caf40f0c505265b9180", checked := Try.checked }
namespace Rows
def none {H : Type} : Left H := { results := [], args := [] }

/-- 'kurganlaw25.LogAdds': WHATEVER THE INPUT: true; the input reads as it did. -/
def logAddsSpec : ChangeSpec := { name := "logAdds", fn := fun _ => fun
  | [d] => { results := [.lit (.bool true)], args := [d] }
  | _ => none }
def logAddsRow : OpenClaim := { program := "ytgldgilhegdpjaa", sum := "ff3233afed91ecf2f7ccfef08ba155e04091d2e2de2b6caf40f0c505265b9180", func := "kurgan/kurganlaw25.LogAdds", spec := "logAdds", apart := false }
def LogAddsSaid : Prop := logAddsRow.holds Try.pinned (OpenSpec.ofChange logAddsSpec)

/-- ITS FALSE NEIGHBOUR: 'it returns false'. Refute it at one input. -/
def logAddsWrong : ChangeSpec := { name := "logAdds", fn := fun _ => fun
  | [d] => { results := [.lit (.bool false)], args := [d] }
  | _ => none }
def LogAddsWrongFalsely : Prop := logAddsRow.holds Try.pinned (OpenSpec.ofChange logAddsWrong)

/-- 'kurganlaw25.LogAheads': WHATEVER THE INPUT: true; the input reads as it did. -/
def logAheadsSpec : ChangeSpec := { name := "logAheads", fn := fun _ => fun
  | [d1, d2] => { results := [.lit (.bool true)], args := [d1, d2] }
  | _ => none }
def logAheadsRow : OpenClaim := { program := "ytgldgilhegdpjaa", sum := "ff3233afed91ecf2f7ccfef08ba155e04091d2e2de2b6caf40f0c505265b9180", func := "kurgan/kurganlaw25.LogAheads", spec := "logAheads", apart := false }
def LogAheadsSaid : Prop := logAheadsRow.holds Try.pinned (OpenSpec.ofChange logAheadsSpec)

/-- ITS FALSE NEIGHBOUR: 'it returns false'. Refute it at one input. -/
def logAheadsWrong : ChangeSpec := { name := "logAheads", fn := fun _ => fun
  | [d1, d2] => { results := [.lit (.bool false)], args := [d1, d2] }
  | _ => none }
def LogAheadsWrongFalsely : Prop := logAheadsRow.holds Try.pinned (OpenSpec.ofChange logAheadsWrong)

/-- 'kurganlaw25.LogJoins': WHATEVER THE INPUT: true; the input reads as it did. -/
def logJoinsSpec : ChangeSpec := { name := "logJoins", fn := fun _ => fun
  | [d1, d2, d3] => { results := [.lit (.bool true)], args := [d1, d2, d3] }
  | _ => none }
def logJoinsRow : OpenClaim := { program := "ytgldgilhegdpjaa", sum := "ff3233afed91ecf2f7ccfef08ba155e04091d2e2de2b6caf40f0c505265b9180", func := "kurgan/kurganlaw25.LogJoins", spec := "logJoins", unfollowed := true, recurses := true, apart := false }
def LogJoinsSaid : Prop := logJoinsRow.holds Try.pinned (OpenSpec.ofChange logJoinsSpec)

/-- ITS FALSE NEIGHBOUR: 'it returns false'. Refute it at one input. -/
def logJoinsWrong : ChangeSpec := { name := "logJoins", fn := fun _ => fun
  | [d1, d2, d3] => { results := [.lit (.bool false)], args := [d1, d2, d3] }
  | _ => none }
def LogJoinsWrongFalsely : Prop := logJoinsRow.holds Try.pinned (OpenSpec.ofChange logJoinsWrong)

/- THE SECOND FORM. 'bulk': how many values and letters a reading holds, each counted each time it is reached (what is shared counts as often as it is met; a slice's spare places count too). A statement '..UptoSaid' is the law's where the arguments, and the package variables that the reading takes, are together of bulk at most 1048576: NARROWER than '..Said'. Prove '..Said' where nothing that the law and all that it calls make is longer than what came in: it says more and counts as full. Else prove '..UptoSaid'. A law counts once. -/
mutual
def uptoBulk {H : Type} : DataW H → Nat
  | .lit (.string bytes) => bytes.length + 1
  | .lit _ => 1
  | .nil => 1
  | .ptr d => uptoBulk d + 1
  | .slice elems spare => uptoBulkAll elems + uptoBulkAll spare + 1
  | .agg parts => uptoBulkAll parts + 1
  | .iface _ d => uptoBulk d + 1
  | .map entries => uptoBulkEntries entries + 1
  | .held _ => 1
def uptoBulkAll {H : Type} : List (DataW H) → Nat
  | [] => 0
  | d :: r => uptoBulk d + uptoBulkAll r
def uptoBulkEntries {H : Type} : List (Lit × DataW H) → Nat
  | [] => 0
  | x :: r => uptoBulkEntry x + uptoBulkEntries r
def uptoBulkEntry {H : Type} : Lit × DataW H → Nat
  | (.string bytes, d) => bytes.length + uptoBulk d + 1
  | (_, d) => uptoBulk d + 1
 end
def uptoSmall : (H : Type) → List (DataW H) → Bool := fun _ ds => decide (uptoBulkAll ds ≤ 1048576)
def OpenSpec.upto (s : _root_.Go.ChangeSpec) : _root_.Go.OpenSpec := { _root_.Go.OpenSpec.ofChange s with cond := some uptoSmall }

/-- 'kurganlaw25.LogAdds', WHERE WHAT IT READS IS OF BULK AT MOST 1048576: true; the input reads as it did. -/
def logAddsUptoRow : OpenClaim := { program := "ytgldgilhegdpjaa", sum := "ff3233afed91ecf2f7ccfef08ba155e04091d2e2de2b6caf40f0c505265b9180", func := "kurgan/kurganlaw25.LogAdds", spec := "logAdds", apart := false, narrowed := true }
def LogAddsUptoSaid : Prop := logAddsUptoRow.holds Try.pinned (OpenSpec.upto logAddsSpec)

/-- 'kurganlaw25.LogAheads', WHERE WHAT IT READS IS OF BULK AT MOST 1048576: true; the input reads as it did. -/
def logAheadsUptoRow : OpenClaim := { program := "ytgldgilhegdpjaa", sum := "ff3233afed91ecf2f7ccfef08ba155e04091d2e2de2b6caf40f0c505265b9180", func := "kurgan/kurganlaw25.LogAheads", spec := "logAheads", apart := false, narrowed := true }
def LogAheadsUptoSaid : Prop := logAheadsUptoRow.holds Try.pinned (OpenSpec.upto logAheadsSpec)

/-- 'kurganlaw25.LogJoins', WHERE WHAT IT READS IS OF BULK AT MOST 1048576: true; the input reads as it did. -/
def logJoinsUptoRow : OpenClaim := { program := "ytgldgilhegdpjaa", sum := "ff3233afed91ecf2f7ccfef08ba155e04091d2e2de2b6caf40f0c505265b9180", func := "kurgan/kurganlaw25.LogJoins", spec := "logJoins", unfollowed := true, recurses := true, apart := false, narrowed := true }
def LogJoinsUptoSaid : Prop := logJoinsUptoRow.holds Try.pinned (OpenSpec.upto logJoinsSpec)

end Rows
end Go.Proofs.Ytgldgilhegdpjaa
