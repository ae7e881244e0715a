/- PACKAGE key: lower -/
import Derived.Test.YtcieokfjkfpajaaKeyA
import Derived.Deep.RegionHeld3
import Derived.Deep.DeepCutAuto
namespace Go.Proofs.Ytcieokfjkfpajaa
open Go.RowKit
set_option linter.unusedVariables false
set_option linter.unusedSimpArgs false

theorem run_max_mF {P : Program} {ts : Array TypeId} {ty : TypeId} (f g : ByteArray) (w : World) : (Builtin.max_ ts ty #[.string f, .string g]).run P w = .ok (.string (mF f g)) w := by
  cases h : Op.bytesLess f.toList g.toList <;> simp [Builtin.max_, Builtin.max2, Op.stringOp, asBool, mF, ls, h]
theorem run_min_mT {P : Program} {ts : Array TypeId} {ty : TypeId} (t u : ByteArray) (w : World) (h1 : t.toList.isEmpty = false) (h2 : u.toList.isEmpty = false) : (Builtin.min_ ts ty #[.string t, .string u]).run P w = .ok (.string (mT t u)) w := by
  have h1 : (t.toList == []) = false := by simpa using h1
  have h2 : (u.toList == []) = false := by simpa using h2
  cases h : ls u.toList t.toList with
  | true =>
    have e : mT t u = u := by unfold mT; rw [h1, h2, h]; rfl
    have k := ls_asymm h
    have hne : (t.toList == u.toList) = false := by rw [beq_eq_false_iff_ne]; intro e; rw [e, ls_irrefl] at h; cases h
    unfold ls at k
    rw [e]
    simp only [beq_eq_false_iff_ne, ne_eq] at hne
    simp [Builtin.min_, Builtin.min2, Op.stringOp, asBool, k, hne]
  | false =>
    have e : mT t u = t := by unfold mT; rw [h1, h2, h]; rfl
    rw [e]
    cases k : ls t.toList u.toList with
    | true => unfold ls at k; simp [Builtin.min_, Builtin.min2, Op.stringOp, asBool, k]
    | false =>
      have e2 := ls_total k h
      unfold ls at k
      simp [Builtin.min_, Builtin.min2, Op.stringOp, asBool, k, e2]
end Go.Proofs.Ytcieokfjkfpajaa
