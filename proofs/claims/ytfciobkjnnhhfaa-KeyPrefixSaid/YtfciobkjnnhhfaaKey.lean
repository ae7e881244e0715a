/- THE PACKAGE key: its contracts are those of the four texts before it -/
import Derived.Test.YtfciobkjnnhhfaaKeyA
import Derived.Test.YtfciobkjnnhhfaaKeyPre
import Derived.Test.YtfciobkjnnhhfaaKeyMr
import Derived.Test.YtfciobkjnnhhfaaKeyMt
namespace Go.Proofs.Ytfciobkjnnhhfaa
end Go.Proofs.Ytfciobkjnnhhfaa
