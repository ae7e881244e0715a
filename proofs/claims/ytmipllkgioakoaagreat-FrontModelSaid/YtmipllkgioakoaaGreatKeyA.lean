/- PACKAGE key: May, Empty, In, One -/
import Derived.Test.YtmipllkgioakoaaGreatKeyRef
namespace Go.Proofs.YtmipllkgioakoaaGreat
open Go.RowKit
set_option linter.unusedVariables false
set_option linter.unusedSimpArgs false

theorem key_may (k : ByteArray) (w : World) (hk : k.size ≤ maxLen) : Calls Tryz.prog 60 #[.string k] w fun e w' => e = .returned (.bool (mayB k.toList)) ∧ Fr [] w w' := by
  unfold maxLen at hk
  have HV := Lib.hid (bs_len k)
  by_cases h1 : 1 ≤ k.size
  · have t1 : decide (1 ≤ (k.size : Int)) = true := by simp; omega
    go_enter Tryz.func60, Tryz.ntmps60
    go_wp2
    go_ret
    refine ⟨ret_b ?_, Fr.refl _ _⟩
    unfold mayB
    rw [HV.out]
    simp [h1] <;> omega
  · have t1 : decide (1 ≤ (k.size : Int)) = false := by simp; omega
    go_enter Tryz.func60, Tryz.ntmps60
    go_wp2
    go_ret
    refine ⟨ret_b ?_, Fr.refl _ _⟩
    unfold mayB
    rw [HV.out]
    simp <;> omega
theorem key_empty (f t : ByteArray) (w : World) : Calls Tryz.prog 65 #[.agg #[.string f, .string t]] w fun e w' => e = .returned (.bool (emptyB f.toList t.toList)) ∧ Fr [] w w' := by
  have c1 := @run_leq Tryz.prog
  by_cases h0 : t.toList = []
  · go_enter Tryz.func65, Tryz.ntmps65
    go_wp2
    go_ret
    exact ⟨ret_b (by simp [emptyB, h0]), (Fr.refl _ _).alloc _⟩
  · go_enter Tryz.func65, Tryz.ntmps65
    go_wp2
    go_ret
    exact ⟨ret_b (by simp [emptyB, ls, h0]), (Fr.refl _ _).alloc _⟩
theorem key_in (f t k : ByteArray) (w : World) : Calls Tryz.prog 27 #[.agg #[.string f, .string t], .string k] w fun e w' => e = .returned (.bool (inB f.toList t.toList k.toList)) ∧ Fr [] w w' := by
  have c1 := @run_lss Tryz.prog
  have c2 := @run_geq Tryz.prog
  by_cases h1 : Op.bytesLess k.toList f.toList = true
  · go_enter Tryz.func27, Tryz.ntmps27
    go_wp2
    go_ret
    exact ⟨ret_b (by simp [inB, ls, h1]), (Fr.refl _ _).alloc _⟩
  · have h1 : Op.bytesLess k.toList f.toList = false := by simpa using h1
    by_cases h0 : t.toList = []
    · go_enter Tryz.func27, Tryz.ntmps27
      go_wp2
      go_ret
      exact ⟨ret_b (by simp [inB, ls, h0, h1]), (Fr.refl _ _).alloc _⟩
    · go_enter Tryz.func27, Tryz.ntmps27
      go_wp2
      go_ret
      exact ⟨ret_b (by simp [inB, ls, h0, h1]), (Fr.refl _ _).alloc _⟩
theorem key_one (k : ByteArray) (w : World) (hk : k.size ≤ 140737488355328) : Calls Tryz.prog 64 #[.string k] w fun e w' => e = .returned (.agg #[.string k, .string (k ++ ⟨#[0]⟩)]) ∧ Fr [] w w' := by
  go_enter Tryz.func64, Tryz.ntmps64
  go_wp2
  refine bodyPost_ret (v := .agg #[.string k, .string (k ++ ⟨#[0]⟩)]) (by simp [results, Tryz.results64, go_sem]) rfl ⟨rfl, (Fr.refl _ _).alloc _⟩
end Go.Proofs.YtmipllkgioakoaaGreat
