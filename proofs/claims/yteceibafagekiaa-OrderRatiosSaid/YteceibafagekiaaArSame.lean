/-
  What the law package's same answers: true where the answer is that of the number.
-/
import Derived.Test.YteceibafagekiaaArInt
namespace Go.Proofs.Yteceibafagekiaa.ar
open Go.RowKit
set_option linter.unusedVariables false


end Go.Proofs.Yteceibafagekiaa.ar
