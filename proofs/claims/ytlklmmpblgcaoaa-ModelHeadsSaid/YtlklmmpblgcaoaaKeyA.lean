/- PACKAGE key: May, Empty, In, One -/
import Derived.Test.YtlklmmpblgcaoaaKeyRef
namespace Go.Proofs.Ytlklmmpblgcaoaa
open Go.RowKit
set_option linter.unusedVariables false
set_option linter.unusedSimpArgs false

theorem key_may (k : ByteArray) (w : World) (hk : k.size ≤ maxLen) : Calls Try.prog 55 #[.string k] w fun e w' => e = .returned (.bool (mayB k.toList)) ∧ Fr [] w w' := by
  unfold maxLen at hk
  have HV := Lib.hid (bs_len k)
  by_cases h1 : 1 ≤ k.size
  · have t1 : decide (1 ≤ (k.size : Int)) = true := by simp; omega
    go_enter Try.func55, Try.ntmps55
    go_wp2
    go_ret
    refine ⟨ret_b ?_, Fr.refl _ _⟩
    unfold mayB
    rw [HV.out]
    simp [h1] <;> omega
  · have t1 : decide (1 ≤ (k.size : Int)) = false := by simp; omega
    go_enter Try.func55, Try.ntmps55
    go_wp2
    go_ret
    refine ⟨ret_b ?_, Fr.refl _ _⟩
    unfold mayB
    rw [HV.out]
    simp <;> omega
theorem key_empty (f t : ByteArray) (w : World) : Calls Try.prog 60 #[.agg #[.string f, .string t]] w fun e w' => e = .returned (.bool (emptyB f.toList t.toList)) ∧ Fr [] w w' := by
  have c1 := @run_leq Try.prog
  by_cases h0 : t.toList = []
  · go_enter Try.func60, Try.ntmps60
    go_wp2
    go_ret
    exact ⟨ret_b (by simp [emptyB, h0]), (Fr.refl _ _).alloc _⟩
  · go_enter Try.func60, Try.ntmps60
    go_wp2
    go_ret
    exact ⟨ret_b (by simp [emptyB, ls, h0]), (Fr.refl _ _).alloc _⟩
theorem key_in (f t k : ByteArray) (w : World) : Calls Try.prog 31 #[.agg #[.string f, .string t], .string k] w fun e w' => e = .returned (.bool (inB f.toList t.toList k.toList)) ∧ Fr [] w w' := by
  have c1 := @run_lss Try.prog
  have c2 := @run_geq Try.prog
  by_cases h1 : Op.bytesLess k.toList f.toList = true
  · go_enter Try.func31, Try.ntmps31
    go_wp2
    go_ret
    exact ⟨ret_b (by simp [inB, ls, h1]), (Fr.refl _ _).alloc _⟩
  · have h1 : Op.bytesLess k.toList f.toList = false := by simpa using h1
    by_cases h0 : t.toList = []
    · go_enter Try.func31, Try.ntmps31
      go_wp2
      go_ret
      exact ⟨ret_b (by simp [inB, ls, h0, h1]), (Fr.refl _ _).alloc _⟩
    · go_enter Try.func31, Try.ntmps31
      go_wp2
      go_ret
      exact ⟨ret_b (by simp [inB, ls, h0, h1]), (Fr.refl _ _).alloc _⟩
theorem key_one (k : ByteArray) (w : World) (hk : k.size ≤ 140737488355328) : Calls Try.prog 59 #[.string k] w fun e w' => e = .returned (.agg #[.string k, .string (k ++ ⟨#[0]⟩)]) ∧ Fr [] w w' := by
  go_enter Try.func59, Try.ntmps59
  go_wp2
  refine bodyPost_ret (v := .agg #[.string k, .string (k ++ ⟨#[0]⟩)]) (by simp [results, Try.results59, go_sem]) rfl ⟨rfl, (Fr.refl _ _).alloc _⟩
end Go.Proofs.Ytlklmmpblgcaoaa
