/- PACKAGE event: Filter, Restrict: contracts -/
import Derived.Test.YtjclbgeclopheaaEvSel
import Derived.Test.YtjclbgeclopheaaKeyA
namespace Go.Proofs.Ytjclbgeclopheaa
open Go.RowKit
set_option linter.unusedVariables false
set_option linter.unusedSimpArgs false

end Go.Proofs.Ytjclbgeclopheaa
