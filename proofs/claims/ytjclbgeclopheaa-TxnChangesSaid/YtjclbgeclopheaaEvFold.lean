/- THE DOCUMENT's Fold (impostref05): its contract -/
import Derived.Test.YtjclbgeclopheaaEvOne
namespace Go.Proofs.Ytjclbgeclopheaa
open Go.RowKit
set_option linter.unusedVariables false
set_option linter.unusedSimpArgs false

theorem foldK_step {m : List Kv} {l : List Ev} {j : Nat} {x : Ev} (hx : l[j]? = some x) : foldK m (l.take (j + 1)) = oneK (foldK m (l.take j)) x := by
  rw [take_snoc hx, foldK_app]; rfl
end Go.Proofs.Ytjclbgeclopheaa
