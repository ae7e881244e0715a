/- PACKAGE event: Filter, Restrict: contracts -/
import Derived.Test.YtpahencocbahgaaEvSel
import Derived.Test.YtpahencocbahgaaKeyA
namespace Go.Proofs.Ytpahencocbahgaa
open Go.RowKit
set_option linter.unusedVariables false
set_option linter.unusedSimpArgs false

end Go.Proofs.Ytpahencocbahgaa
