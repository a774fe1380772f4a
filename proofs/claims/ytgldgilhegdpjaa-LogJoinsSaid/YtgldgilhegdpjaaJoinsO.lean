/-
  LogJoins: the walk, for lists of records that came in.
-/
import Derived.Test.YtgldgilhegdpjaaJoinsL
import Derived.Test.YtgldgilhegdpjaaAddsO
namespace Go.Proofs.Ytgldgilhegdpjaa
open Go.RowKit
set_option linter.unusedVariables false
theorem logJoins_walk (x0 : List Rec) (a0 : Option Addr) (n0 c0 : Nat) (x1 : List Rec) (a1 : Option Addr) (n1 c1 : Nat) (x2 : List Rec) (a2 : Option Addr) (n2 c2 : Nat) (W : World) (s0 : RArg W a0 n0 c0 x0) (s1 : RArg W a1 n1 c1 x1) (s2 : RArg W a2 n2 c2 x2) :
    Calls Try.prog 5 #[.slice a0 n0 c0, .slice a1 n1 c1, .slice a2 n2 c2] W fun e w' => e = .returned (.bool true) ∧ Below W.heap.size W w' := so.joins_walk x0 x1 x2 a0 a1 a2 n0 c0 n1 c1 n2 c2 W s0 s1 s2
end Go.Proofs.Ytgldgilhegdpjaa
