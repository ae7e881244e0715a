/- PACKAGE hist: its contracts, gathered -/
import Derived.Test.YtpahencocbahgaaHistApply
import Derived.Test.YtpahencocbahgaaHistRead
import Derived.Test.YtpahencocbahgaaHistCom
import Derived.Test.YtpahencocbahgaaHistCopy
namespace Go.Proofs.Ytpahencocbahgaa
def hp (p : Nat) : Value := .pointer (some ⟨p, 0, none⟩)
end Go.Proofs.Ytpahencocbahgaa
