/- PACKAGE event: Filter, Restrict: contracts -/
import Derived.Test.YtmipllkgioakoaaEvSel
import Derived.Test.YtmipllkgioakoaaKeyA
namespace Go.Proofs.Ytmipllkgioakoaa
open Go.RowKit
set_option linter.unusedVariables false
set_option linter.unusedSimpArgs false

end Go.Proofs.Ytmipllkgioakoaa
