/- PACKAGE key: May, Empty, In, One -/
import Derived.Test.YtmipllkgioakoaaKeyRef
namespace Go.Proofs.Ytmipllkgioakoaa
open Go.RowKit
set_option linter.unusedVariables false
set_option linter.unusedSimpArgs false

end Go.Proofs.Ytmipllkgioakoaa
