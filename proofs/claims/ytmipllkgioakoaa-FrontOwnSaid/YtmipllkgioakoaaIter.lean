/- (this seat has no maps.Keys) -/
import Derived.Shelf.SlGeneric
import Derived.Test.YtmipllkgioakoaaProg
namespace Go.Proofs.Ytmipllkgioakoaa
theorem iter_none : True := trivial
end Go.Proofs.Ytmipllkgioakoaa
