/-
  Walks: the statement Added.
-/
import Derived.Test.YtjiekfplgmfgiabKeepE
namespace Go.Proofs.Ytjiekfplgmfgiab
open Go.RowKit
set_option linter.unusedVariables false
set_option maxRecDepth 100000

end Go.Proofs.Ytjiekfplgmfgiab
