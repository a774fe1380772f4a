/-
  What the reference's Mul answers.
-/
import Derived.Test.YtdeggnefbkcegaaArSg
namespace Go.Proofs.Ytdeggnefbkcegaa.ar
open Go.RowKit
set_option linter.unusedVariables false


end Go.Proofs.Ytdeggnefbkcegaa.ar
