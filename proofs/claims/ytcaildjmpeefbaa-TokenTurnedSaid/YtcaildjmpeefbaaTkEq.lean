/- TOKENS COMPARED: a plain fact -/
import Derived.Test.YtcaildjmpeefbaaTkAwake
namespace Go.Proofs.Ytcaildjmpeefbaa
open Go.RowKit
set_option linter.unusedVariables false
set_option linter.unusedSimpArgs false

def eqTk (x y : Tk) : Bool := decide (x.f = y.f) && decide (x.t = y.t) && decide (x.next = y.next) && decide (x.once = y.once)
theorem bs_eq (a b : ByteArray) : (a.toList == b.toList) = decide (a = b) := by
  by_cases h : a = b
  · subst h; simp
  · rw [decide_eq_false h, beq_eq_false_iff_ne]; exact fun e => h (bs_inj e)
theorem eq_tok (x y : Tk) (X : World) : (binOp .eql 28 (.agg #[.string x.f, .string x.t, .int .i64 x.next, .bool x.once]) (.agg #[.string y.f, .string y.t, .int .i64 y.next, .bool y.once])).run Try.prog X = .ok (.bool (eqTk x y)) X := by
  by_cases h1 : x.f = y.f <;> by_cases h2 : x.t = y.t <;> by_cases h3 : x.next = y.next <;> by_cases h4 : x.once = y.once
  all_goals
    have e1 := bs_eq x.f y.f
    have e2 := bs_eq x.t y.t
    simp only [h1, h2] at e1 e2
    simp [eqTk, go_sem, *]
theorem put_eq {x y : Tk} (h : mayT x = true) (k : mayT y = true) : ((tkBa (putT x)).toList == (tkBa (putT y)).toList) = eqTk x y := by
  rw [list_tkBa, list_tkBa]
  by_cases e : x = y
  · subst e; simp [eqTk]
  · have e1 : eqTk x y = false := by
      rw [Bool.eq_false_iff]
      intro hq
      simp only [eqTk, Bool.and_eq_true, decide_eq_true_eq] at hq
      obtain ⟨⟨⟨q1, q2⟩, q3⟩, q4⟩ := hq
      cases x; cases y
      simp only at q1 q2 q3 q4
      subst q1 q2 q3 q4
      exact e rfl
    rw [e1, beq_eq_false_iff_ne]
    exact fun hp => e (put_inj h k hp)
end Go.Proofs.Ytcaildjmpeefbaa
