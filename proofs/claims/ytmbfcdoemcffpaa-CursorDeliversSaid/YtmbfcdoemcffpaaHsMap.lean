/- THE DOCUMENT's hist (impostref06): Map, Compact: contracts -/
import Derived.Test.YtmbfcdoemcffpaaHsCnt
namespace Go.Proofs.Ytmbfcdoemcffpaa
open Go.RowKit
set_option linter.unusedVariables false
set_option linter.unusedSimpArgs false

theorem mapN_ge {rows : List (List Ev)} {n : Nat} (h : rows.length ≤ n) : mapN rows n = mapN rows rows.length := by
  unfold mapN; rw [List.take_of_length_le h, List.take_length]
theorem mapN_len' (rows : List (List Ev)) (n : Nat) {b : Nat} (h : rows.flatten.length ≤ b) : (mapN rows n).length ≤ b := Nat.le_trans (mapN_len rows n) h
theorem row_len {rows : List (List Ev)} {r : List Ev} (h : r ∈ rows) : r.length ≤ rows.flatten.length := by
  induction rows with
  | nil => cases h
  | cons x s ih =>
    rw [List.flatten_cons, List.length_append]
    rcases List.mem_cons.1 h with rfl | h
    · omega
    · have := ih h; omega
/-- what Compact tells -/
def comR (len hor rev : Int) : Int × Int := if rev < 0 then (hor, 1) else if len < rev then (hor, 6) else (max hor rev, 0)
end Go.Proofs.Ytmbfcdoemcffpaa
