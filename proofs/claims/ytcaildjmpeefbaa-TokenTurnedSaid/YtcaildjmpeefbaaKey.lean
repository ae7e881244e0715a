/- THE PACKAGE key: its contracts are those of the four texts before it -/
import Derived.Test.YtcaildjmpeefbaaKeyA
import Derived.Test.YtcaildjmpeefbaaKeyPre
import Derived.Test.YtcaildjmpeefbaaKeyMr
import Derived.Test.YtcaildjmpeefbaaKeyMt
namespace Go.Proofs.Ytcaildjmpeefbaa
end Go.Proofs.Ytcaildjmpeefbaa
