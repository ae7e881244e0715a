/- THE DOCUMENT's ANSWERS FOR cursor (impostref10): watches in memory; contracts -/
import Derived.Test.YtmbfcdoemcffpaaCuRows
import Derived.Test.YtmbfcdoemcffpaaEvLast
import Derived.Test.YtmbfcdoemcffpaaEvCmp
namespace Go.Proofs.Ytmbfcdoemcffpaa
open Go.RowKit
set_option linter.unusedVariables false
set_option linter.unusedSimpArgs false

def Cu.val (C : Cu) : Value := .agg #[.string C.f, .string C.t, .int .i64 C.next, .bool C.once, .bool C.dead]
def headV (seq rev hor : Int) : Value := .agg #[.int .i64 seq, .int .i64 rev, .int .i64 hor]
def ntV (N : Nt) (rv : Value) : Value := .agg #[.int .i64 N.err, .int .i64 N.hor, .int .i64 N.upto, rv]
/-- a number that is asked of -/
def Few40 (x : Int) : Prop := -2000000000000 ≤ x ∧ x ≤ 2000000000000
theorem rcu_old (C : Cu) (seq rev hor : Int) (w : World) : Calls Try.prog 38 #[C.val, headV seq rev hor] w fun e w' => e = .returned (.bool (decide (C.next ≤ hor))) ∧ Fr [] w w' := by
  unfold Cu.val headV
  go_enter Try.func38, Try.ntmps38
  go_wp2_with fail
  go_ret
  exact ⟨rfl, ((Fr.refl [] w).alloc _).alloc _⟩
theorem rcu_ahead (C : Cu) (seq rev hor : Int) (w : World) (hn : Few40 C.next) : Calls Try.prog 39 #[C.val, headV seq rev hor] w fun e w' => e = .returned (.bool (decide (rev < C.next - 1))) ∧ Fr [] w w' := by
  unfold Cu.val headV
  unfold Few40 at hn
  have q1 : IntKind.i64.wrap (C.next - 1) = C.next - 1 := by simp only [IntKind.wrap, IntKind.signed, IntKind.bits]; simp; omega
  go_enter Try.func39, Try.ntmps39
  go_wp2_with fail
  go_ret
  exact ⟨rfl, ((Fr.refl [] w).alloc _).alloc _⟩
theorem rcu_window (C : Cu) (seq rev hor most : Int) (w : World) (hn : Few40 C.next) (hr : Few40 rev) : Calls Try.prog 16 #[C.val, headV seq rev hor, .int .i64 most] w fun e w' => e = .returned (.int .i64 (C.win rev hor most)) ∧ Fr [] w w' := by
  have HN := Lib.hid hn
  unfold Few40 at hr
  have HR := Lib.hid hr
  obtain ⟨f, t, next, once, dead⟩ := C
  unfold Cu.val headV
  have q1 : IntKind.i64.wrap (rev - next) = rev - next := by have := HN.out; unfold Few40 at this; have := HR.out; simp only [IntKind.wrap, IntKind.signed, IntKind.bits]; simp at *; omega
  have q2 : IntKind.i64.wrap (rev - next + 1) = rev - next + 1 := by have := HN.out; unfold Few40 at this; have := HR.out; simp only [IntKind.wrap, IntKind.signed, IntKind.bits]; simp at *; omega
  clear hn hr
  obtain ⟨o, ho⟩ : ∃ o, o = decide (next ≤ hor) := ⟨_, rfl⟩
  obtain ⟨a, ha⟩ : ∃ a, a = decide (rev < next - 1) := ⟨_, rfl⟩
  have CO := Lib.hid fun W => rcu_old ⟨f, t, next, once, dead⟩ seq rev hor W
  have CA := Lib.hid fun W => rcu_ahead ⟨f, t, next, once, dead⟩ seq rev hor W HN.out
  unfold Cu.val headV at CO CA
  rw [← ho] at CO
  rw [← ha] at CA
  have HO := Lib.hid ho
  have HA := Lib.hid ha
  clear ho ha
  go_enter Try.func16, Try.ntmps16
  cases dead with
  | true =>
    go_wp2_with fail
    go_ret
    refine ⟨?_, ((Fr.refl [] w).alloc _).alloc _⟩
    unfold Cu.win
    rw [if_pos (Or.inl rfl)]
    rfl
  | false =>
    cases o with
    | true =>
      go_wp2_with (go_at_call 38; refine (CO.out _).mono ?_; rintro e w1 ⟨rfl, h1⟩; have H1 := Lib.hid h1; clear h1)
      go_ret
      refine ⟨?_, (two_boxes H1.out).2.2⟩
      unfold Cu.win
      have := HO.out
      rw [if_pos (Or.inr (Or.inl (by simpa using this.symm)))]
      rfl
    | false =>
      cases a with
      | true =>
        go_wp2_with (first | (go_at_call 38; refine (CO.out _).mono ?_; rintro e w1 ⟨rfl, h1⟩; have H1 := Lib.hid h1; obtain ⟨x0, x1, _⟩ := two_boxes h1; have X0 := Lib.hid x0; have X1 := Lib.hid x1; obtain ⟨b0, b1, b2, b3, b4, _⟩ := cells5 X0.out; obtain ⟨c0, c1, c2, _⟩ := cells3 X1.out; clear h1 x0 x1) | (go_at_call 39; refine (CA.out _).mono ?_; rintro e w2 ⟨rfl, h2⟩; have H2 := Lib.hid h2; clear h2))
        go_ret
        refine ⟨?_, (two_boxes H1.out).2.2.trans H2.out (by simp)⟩
        unfold Cu.win
        have := HA.out
        rw [if_pos (Or.inr (Or.inr (by simpa using this.symm)))]
        rfl
      | false =>
        have hw : Cu.win ⟨f, t, next, once, false⟩ rev hor most = max (min (rev - next + 1) most) 0 := by
          have h1 := HO.out
          have h2 := HA.out
          simp at h1 h2
          unfold Cu.win
          rw [if_neg (by simp; omega)]
        have HW := Lib.hid hw
        have hna : 0 ≤ rev - next + 1 := by have h2 := HA.out; simp at h2; omega
        clear hw
        by_cases p : most < 0
        all_goals by_cases q : most < rev - next + 1
        all_goals
          go_wp2_with (first | (go_at_call 38; refine (CO.out _).mono ?_; rintro e w1 ⟨rfl, h1⟩; have H1 := Lib.hid h1; obtain ⟨x0, x1, _⟩ := two_boxes h1; have X0 := Lib.hid x0; have X1 := Lib.hid x1; obtain ⟨b0, b1, b2, b3, b4, _⟩ := cells5 X0.out; obtain ⟨c0, c1, c2, _⟩ := cells3 X1.out; clear h1 x0 x1) | (go_at_call 39; refine (CA.out _).mono ?_; rintro e w2 ⟨rfl, h2⟩; have H2 := Lib.hid h2; obtain ⟨e0, e1, e2, e3, e4, _⟩ := cells5 (h2.keep X0.out (by simp)); obtain ⟨d0, d1, d2, _⟩ := cells3 (h2.keep X1.out (by simp)); clear h2))
          all_goals first
            | (exfalso; omega)
            | (go_ret
               refine ⟨?_, (two_boxes H1.out).2.2.trans H2.out (by simp)⟩
               rw [HW.out]
               refine congrArg (fun x => Ending.returned (Value.int .i64 x)) ?_
               omega)
end Go.Proofs.Ytmbfcdoemcffpaa
