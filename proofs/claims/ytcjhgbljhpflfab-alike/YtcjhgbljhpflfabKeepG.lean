/-
  Walks: the statement Added.
-/
import Derived.Test.YtcjhgbljhpflfabKeepE
namespace Go.Proofs.Ytcjhgbljhpflfab
open Go.RowKit
set_option linter.unusedVariables false
set_option maxRecDepth 100000

end Go.Proofs.Ytcjhgbljhpflfab
