/- WHAT ALL LAWS OF event BEGIN WITH -/
import Derived.Test.YtadlccdmbnimaaaEvLaw
import Derived.Test.YtadlccdmbnimaaaEvAwake
import Derived.Test.YtadlccdmbnimaaaEvMap
import Derived.Deep.DeepCutAuto
namespace Go.Proofs.Ytadlccdmbnimaaa
open Go.ChangeShapes Go.WideShapes Go.ChangeAt Go.RowKit Go.Deep
set_option linter.unusedVariables false
set_option linter.unusedSimpArgs false

theorem few_any (lv : Value) (l : List Ev) (w : World) (hl : EvIn w lv l) : Calls Try.prog 10 #[lv] w fun e w' => e = .returned (.bool (decide (l.length ≤ 60))) ∧ w = w' := by
  obtain ⟨s, c, rfl, _, _⟩ := hl.form
  by_cases h : l.length ≤ 60
  all_goals first
    | have t1 : decide ((l.length : Int) ≤ 60) = true := by simp; omega
    | have t1 : decide ((l.length : Int) ≤ 60) = false := by simp; omega
  all_goals
    go_enter Try.func10, Try.ntmps10
    go_wp2
    go_ret
    refine ⟨?_, rfl⟩
    simp [h]
end Go.Proofs.Ytadlccdmbnimaaa
