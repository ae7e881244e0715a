/- THE DOCUMENT's hist (impostref06): Count: its contract -/
import Derived.Test.YtmbfcdoemcffpaaHsRef
namespace Go.Proofs.Ytmbfcdoemcffpaa
open Go.RowKit
set_option linter.unusedVariables false
set_option linter.unusedSimpArgs false

theorem countO_step {m : List Kv} {l : List Od} {j : Nat} {x : Od} (hx : l[j]? = some x) : countO m (l.drop j) = if cntB m x (l.drop (j + 1)) then x :: countO m (l.drop (j + 1)) else countO m (l.drop (j + 1)) := by
  obtain ⟨h1, rfl⟩ := List.getElem?_eq_some_iff.1 hx
  rw [List.drop_eq_getElem_cons h1]; rfl
theorem any_stepO {p : Od → Bool} {l : List Od} {k : Nat} {y : Od} (hy : l[k]? = some y) : (l.drop k).any p = (p y || (l.drop (k + 1)).any p) := by
  obtain ⟨h1, rfl⟩ := List.getElem?_eq_some_iff.1 hy
  rw [List.drop_eq_getElem_cons h1]; rfl
end Go.Proofs.Ytmbfcdoemcffpaa
