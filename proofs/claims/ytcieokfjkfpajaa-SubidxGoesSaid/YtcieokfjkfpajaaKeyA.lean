/- PACKAGE key: May, Empty, In, One -/
import Derived.Test.YtcieokfjkfpajaaKeyRef
namespace Go.Proofs.Ytcieokfjkfpajaa
open Go.RowKit
set_option linter.unusedVariables false
set_option linter.unusedSimpArgs false

theorem key_empty (f t : ByteArray) (w : World) : Calls Try.prog 27 #[.agg #[.string f, .string t]] w fun e w' => e = .returned (.bool (emptyB f.toList t.toList)) ∧ Fr [] w w' := by
  have c1 := @run_leq Try.prog
  by_cases h0 : t.toList = []
  · go_enter Try.func27, Try.ntmps27
    go_wp2
    go_ret
    exact ⟨ret_b (by simp [emptyB, h0]), (Fr.refl _ _).alloc _⟩
  · go_enter Try.func27, Try.ntmps27
    go_wp2
    go_ret
    exact ⟨ret_b (by simp [emptyB, ls, h0]), (Fr.refl _ _).alloc _⟩
theorem key_in (f t k : ByteArray) (w : World) : Calls Try.prog 31 #[.agg #[.string f, .string t], .string k] w fun e w' => e = .returned (.bool (inB f.toList t.toList k.toList)) ∧ Fr [] w w' := by
  have c1 := @run_lss Try.prog
  have c2 := @run_geq Try.prog
  by_cases h1 : Op.bytesLess k.toList f.toList = true
  · go_enter Try.func31, Try.ntmps31
    go_wp2
    go_ret
    exact ⟨ret_b (by simp [inB, ls, h1]), (Fr.refl _ _).alloc _⟩
  · have h1 : Op.bytesLess k.toList f.toList = false := by simpa using h1
    by_cases h0 : t.toList = []
    · go_enter Try.func31, Try.ntmps31
      go_wp2
      go_ret
      exact ⟨ret_b (by simp [inB, ls, h0, h1]), (Fr.refl _ _).alloc _⟩
    · go_enter Try.func31, Try.ntmps31
      go_wp2
      go_ret
      exact ⟨ret_b (by simp [inB, ls, h0, h1]), (Fr.refl _ _).alloc _⟩
end Go.Proofs.Ytcieokfjkfpajaa
