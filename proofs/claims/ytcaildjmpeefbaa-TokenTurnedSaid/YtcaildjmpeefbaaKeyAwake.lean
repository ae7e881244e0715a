/- THE EXAMPLE OF THE DOCUMENT -/
import Derived.Test.YtcaildjmpeefbaaKey
import Derived.Deep.RegionHeld3
namespace Go.Proofs.Ytcaildjmpeefbaa
open Go.RowKit
set_option linter.unusedVariables false
set_option linter.unusedSimpArgs false

theorem aw1 : prefS ⟨#[97, 255]⟩ = ⟨#[98]⟩ := by
  apply bs_inj; rw [prefS_list, ByteArray.toList_eq, ByteArray.toList_eq]; decide
end Go.Proofs.Ytcaildjmpeefbaa
