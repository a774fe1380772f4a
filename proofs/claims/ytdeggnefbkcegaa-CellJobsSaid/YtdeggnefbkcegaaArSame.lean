/-
  What the law package's same answers: true where the answer is that of the number.
-/
import Derived.Test.YtdeggnefbkcegaaArInt
namespace Go.Proofs.Ytdeggnefbkcegaa.ar
open Go.RowKit
set_option linter.unusedVariables false


end Go.Proofs.Ytdeggnefbkcegaa.ar
