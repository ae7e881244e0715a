/- THE DOCUMENT's hist (impostref06): Get, Count, Map: contracts -/
import Derived.Test.YtmbfcdoemcffpaaAway
import Derived.Test.YtmbfcdoemcffpaaEvFold
namespace Go.Proofs.Ytmbfcdoemcffpaa
open Go.RowKit
set_option linter.unusedVariables false
set_option linter.unusedSimpArgs false

theorem getK_take {k : ByteArray} {m : List Kv} {j : Nat} {x : Kv} (hx : m[j]? = some x) (hn : ∀ y ∈ m.take j, y.key ≠ k) (hk : x.key = k) : getK k m = some x := by
  obtain ⟨h1, rfl⟩ := List.getElem?_eq_some_iff.1 hx
  unfold getK
  conv => lhs; rw [← List.take_append_drop j m]
  rw [List.find?_append]
  have : (m.take j).find? (fun x => decide (x.key = k)) = none := by rw [List.find?_eq_none]; simpa using hn
  rw [this, List.drop_eq_getElem_cons h1, List.find?_cons]
  simp [hk]
def getZ (k : ByteArray) (m : List Kv) : Kv := (getK k m).getD Kv.zero
end Go.Proofs.Ytmbfcdoemcffpaa
