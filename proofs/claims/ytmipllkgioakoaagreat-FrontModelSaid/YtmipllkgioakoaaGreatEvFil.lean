/- PACKAGE event: Filter, Restrict: contracts -/
import Derived.Test.YtmipllkgioakoaaGreatEvSel
import Derived.Test.YtmipllkgioakoaaGreatKeyA
namespace Go.Proofs.YtmipllkgioakoaaGreat
open Go.RowKit
set_option linter.unusedVariables false
set_option linter.unusedSimpArgs false

end Go.Proofs.YtmipllkgioakoaaGreat
