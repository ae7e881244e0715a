/- PACKAGE key: above, Prefix -/
import Derived.Test.YtcaildjmpeefbaaKeyRef
namespace Go.Proofs.Ytcaildjmpeefbaa
open Go.RowKit
set_option linter.unusedVariables false
set_option linter.unusedSimpArgs false

theorem ret_s {a b : ByteArray} (h : a.toList = b.toList) : Ending.returned (.string a) = .returned (.string b) := by rw [bs_inj h]
theorem ext_all (p : ByteArray) : (p.extract 0 p.size).toList = p.toList := by
  rw [bs_take, List.take_of_length_le (by rw [bs_len]; omega)]
theorem ext_snoc (p : ByteArray) (m : Nat) (h : m < p.size) : (p.extract 0 (m + 1)).toList = (p.extract 0 m).toList ++ [p[m]] := by
  rw [bs_take, bs_take, List.take_add_one, bs_get p m h]; rfl
end Go.Proofs.Ytcaildjmpeefbaa
