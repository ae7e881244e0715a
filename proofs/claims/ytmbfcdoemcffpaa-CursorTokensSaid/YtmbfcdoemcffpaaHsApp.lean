/- THE DOCUMENT's hist (impostref06): Apply: its contract -/
import Derived.Test.YtmbfcdoemcffpaaHsMap
import Derived.Test.YtmbfcdoemcffpaaEvCut
namespace Go.Proofs.Ytmbfcdoemcffpaa
open Go.RowKit
set_option linter.unusedVariables false
set_option linter.unusedSimpArgs false

theorem RowsF.src {S : List Nat} {w : World} {v : Value} {rows : List (List Ev)} {vs : List Value} (h1 : vs.length = rows.length) (h : LFar S uC 1 w v vs) : Src w 1 v rows.length vs := by
  have := LIn.src h.1 uC.len (by decide)
  rw [h1] at this
  have e : allC uC vs = vs := by unfold allC uC; clear h h1 this; induction vs with
    | nil => rfl
    | cons x r ih => rw [List.map_cons, List.flatten_cons, ih]; rfl
  rw [e] at this
  exact this
theorem allU (vs : List Value) : allC uC vs = vs := by
  unfold allC uC
  induction vs with
  | nil => rfl
  | cons x r ih => rw [List.map_cons, List.flatten_cons, ih]; rfl
theorem map_take_snoc {α β : Type} {l : List α} {j : Nat} {x : α} (f : α → β) (hx : l[j]? = some x) : (l.take (j + 1)).map f = (l.take j).map f ++ [f x] := by
  rw [take_snoc hx, List.map_append]; rfl
end Go.Proofs.Ytmbfcdoemcffpaa
