/- THE DOCUMENT's COMPARISONS of ops and strings (impostref07.Ops, Strings): contracts -/
import Derived.Test.YtlklmmpblgcaoaaTxAt
import Derived.Test.YtlklmmpblgcaoaaEvCmp
namespace Go.Proofs.Ytlklmmpblgcaoaa
open Go.RowKit
set_option linter.unusedVariables false
set_option linter.unusedSimpArgs false

def odB (a b : Od) : Bool := decide (a.key = b.key) && (decide (a.val = b.val) && decide (a.del = b.del))
theorem odB_eq {a b : Od} : odB a b = true ↔ a = b := by
  cases a; cases b; simp [odB]
def stB (a b : ByteArray) : Bool := decide (a = b)
theorem stB_eq {a b : ByteArray} : stB a b = true ↔ a = b := by simp [stB]
theorem run_neq_od (x y : Od) (w : World) : (binOp .neq 81 (.agg #[.string x.key, .string x.val, .bool x.del]) (.agg #[.string y.key, .string y.val, .bool y.del])).run Try.prog w = .ok (.bool (!(odB x y))) w := by
  have n1 : ∀ s t : ByteArray, (s.toList = t.toList) = (s = t) := fun s t => propext ⟨bs_inj, fun h => by rw [h]⟩
  unfold odB
  cases x with | mk xk xv xd xw =>
  cases y with | mk yk yv yd yw =>
  by_cases h0 : xk = yk
  all_goals by_cases h1 : xv = yv
  all_goals by_cases h2 : xd = yd
  all_goals simp [go_sem, h0, h1, h2, n1]
theorem run_eql_od (x y : Od) (w : World) : (binOp .eql 81 (.agg #[.string x.key, .string x.val, .bool x.del]) (.agg #[.string y.key, .string y.val, .bool y.del])).run Try.prog w = .ok (.bool ((odB x y))) w := by
  have n1 : ∀ s t : ByteArray, (s.toList = t.toList) = (s = t) := fun s t => propext ⟨bs_inj, fun h => by rw [h]⟩
  unfold odB
  cases x with | mk xk xv xd xw =>
  cases y with | mk yk yv yd yw =>
  by_cases h0 : xk = yk
  all_goals by_cases h1 : xv = yv
  all_goals by_cases h2 : xd = yd
  all_goals simp [go_sem, h0, h1, h2, n1]
theorem run_neq_st (x y : ByteArray) (w : World) : (binOp .neq 9 (.string x) (.string y)).run Try.prog w = .ok (.bool (!(stB x y))) w := by
  have n1 : (x.toList = y.toList) = (x = y) := propext ⟨bs_inj, fun h => by rw [h]⟩
  unfold stB
  by_cases h0 : x = y
  all_goals simp [go_sem, h0, n1]
end Go.Proofs.Ytlklmmpblgcaoaa
