/- PACKAGE key: May, Empty, In, One -/
import Derived.Test.YtcaildjmpeefbaaKeyRef
namespace Go.Proofs.Ytcaildjmpeefbaa
open Go.RowKit
set_option linter.unusedVariables false
set_option linter.unusedSimpArgs false

theorem key_empty (f t : ByteArray) (w : World) : Calls Try.prog 26 #[.agg #[.string f, .string t]] w fun e w' => e = .returned (.bool (emptyB f.toList t.toList)) ∧ Fr [] w w' := by
  have c1 := @run_leq Try.prog
  by_cases h0 : t.toList = []
  · go_enter Try.func26, Try.ntmps26
    go_wp2
    go_ret
    exact ⟨ret_b (by simp [emptyB, h0]), (Fr.refl _ _).alloc _⟩
  · go_enter Try.func26, Try.ntmps26
    go_wp2
    go_ret
    exact ⟨ret_b (by simp [emptyB, ls, h0]), (Fr.refl _ _).alloc _⟩
theorem key_one (k : ByteArray) (w : World) (hk : k.size ≤ 140737488355328) : Calls Try.prog 25 #[.string k] w fun e w' => e = .returned (.agg #[.string k, .string (k ++ ⟨#[0]⟩)]) ∧ Fr [] w w' := by
  go_enter Try.func25, Try.ntmps25
  go_wp2
  refine bodyPost_ret (v := .agg #[.string k, .string (k ++ ⟨#[0]⟩)]) (by simp [results, Try.results25, go_sem]) rfl ⟨rfl, (Fr.refl _ _).alloc _⟩
end Go.Proofs.Ytcaildjmpeefbaa
