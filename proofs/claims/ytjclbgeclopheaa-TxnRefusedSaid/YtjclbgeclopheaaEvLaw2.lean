/- WHAT ALL LAWS OF event BEGIN WITH -/
import Derived.Test.YtjclbgeclopheaaEvLaw
import Derived.Test.YtjclbgeclopheaaEvAwake
import Derived.Test.YtjclbgeclopheaaEvMap
import Derived.Deep.DeepCutAuto
namespace Go.Proofs.Ytjclbgeclopheaa
open Go.ChangeShapes Go.WideShapes Go.ChangeAt Go.RowKit Go.Deep
set_option linter.unusedVariables false
set_option linter.unusedSimpArgs false

end Go.Proofs.Ytjclbgeclopheaa
