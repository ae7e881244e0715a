/- PACKAGE hist: its contracts, gathered -/
import Derived.Test.YtjclbgeclopheaaHistApply
import Derived.Test.YtjclbgeclopheaaHistRead
import Derived.Test.YtjclbgeclopheaaHistCom
import Derived.Test.YtjclbgeclopheaaHistCopy
namespace Go.Proofs.Ytjclbgeclopheaa
def hp (p : Nat) : Value := .pointer (some ⟨p, 0, none⟩)
end Go.Proofs.Ytjclbgeclopheaa
