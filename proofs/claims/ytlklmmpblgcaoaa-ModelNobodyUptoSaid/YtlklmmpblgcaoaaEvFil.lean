/- PACKAGE event: Filter, Restrict: contracts -/
import Derived.Test.YtlklmmpblgcaoaaEvSel
import Derived.Test.YtlklmmpblgcaoaaKeyA
namespace Go.Proofs.Ytlklmmpblgcaoaa
open Go.RowKit
set_option linter.unusedVariables false
set_option linter.unusedSimpArgs false

end Go.Proofs.Ytlklmmpblgcaoaa
