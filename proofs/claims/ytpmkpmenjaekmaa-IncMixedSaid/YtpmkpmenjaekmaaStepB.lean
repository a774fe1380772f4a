/-
  A step by a closure that makes memory.
-/
import Derived.Test.YtpmkpmenjaekmaaStep
namespace Go.Proofs.Ytpmkpmenjaekmaa
open Go.RowKit Go.MuLone
set_option linter.unusedVariables false
end Go.Proofs.Ytpmkpmenjaekmaa
