/- THE DOCUMENT's COMPARISONS OF EVENTS AND MAPS (impostref05.Events, KVs, Map): contracts -/
import Derived.Test.YtjclbgeclopheaaIn
namespace Go.Proofs.Ytjclbgeclopheaa
open Go.RowKit
set_option linter.unusedVariables false
set_option linter.unusedSimpArgs false

theorem sameB_step {α : Type} {f : α → α → Bool} {a b : List α} {j : Nat} {x y : α} (hx : a[j]? = some x) (hy : b[j]? = some y) : sameB f (a.drop j) (b.drop j) = (f x y && sameB f (a.drop (j + 1)) (b.drop (j + 1))) := by
  obtain ⟨h1, rfl⟩ := List.getElem?_eq_some_iff.1 hx
  obtain ⟨h2, rfl⟩ := List.getElem?_eq_some_iff.1 hy
  rw [List.drop_eq_getElem_cons h1, List.drop_eq_getElem_cons h2]; rfl
theorem sameB_len {α : Type} {f : α → α → Bool} : ∀ {a b : List α}, ¬ a.length = b.length → sameB f a b = false
  | [], [], h => by simp at h
  | [], b :: s, _ => rfl
  | a :: r, [], _ => rfl
  | a :: r, b :: s, h => by
    have := sameB_len (f := f) (a := r) (b := s) (by simpa using h)
    simp [sameB, this]
theorem run_neq_ev (x y : Ev) (w : World) : (binOp .neq 79 (.agg #[.int .i64 x.rev, .string x.key, .string x.val, .bool x.del]) (.agg #[.int .i64 y.rev, .string y.key, .string y.val, .bool y.del])).run Try.prog w = .ok (.bool (!(evB x y))) w := by
  have n1 : ∀ s t : ByteArray, (s.toList = t.toList) = (s = t) := fun s t => propext ⟨bs_inj, fun h => by rw [h]⟩
  unfold evB
  cases x with | mk xr xk xv xd xw =>
  cases y with | mk yr yk yv yd yw =>
  by_cases h0 : xr = yr
  all_goals by_cases h1 : xk = yk
  all_goals by_cases h2 : xv = yv
  all_goals by_cases h3 : xd = yd
  all_goals simp [go_sem, h0, h1, h2, h3, n1]
theorem run_neq_kv (x y : Kv) (w : World) : (binOp .neq 35 (.agg #[.string x.key, .string x.val, .int .i64 x.rev]) (.agg #[.string y.key, .string y.val, .int .i64 y.rev])).run Try.prog w = .ok (.bool (!(kvB x y))) w := by
  have n1 : ∀ s t : ByteArray, (s.toList = t.toList) = (s = t) := fun s t => propext ⟨bs_inj, fun h => by rw [h]⟩
  unfold kvB
  cases x with | mk xk xv xr xw =>
  cases y with | mk yk yv yr yw =>
  by_cases h0 : xk = yk
  all_goals by_cases h1 : xv = yv
  all_goals by_cases h2 : xr = yr
  all_goals simp [go_sem, h0, h1, h2, n1]
theorem run_eql_kv (x y : Kv) (w : World) : (binOp .eql 35 (.agg #[.string x.key, .string x.val, .int .i64 x.rev]) (.agg #[.string y.key, .string y.val, .int .i64 y.rev])).run Try.prog w = .ok (.bool ((kvB x y))) w := by
  have n1 : ∀ s t : ByteArray, (s.toList = t.toList) = (s = t) := fun s t => propext ⟨bs_inj, fun h => by rw [h]⟩
  unfold kvB
  cases x with | mk xk xv xr xw =>
  cases y with | mk yk yv yr yw =>
  by_cases h0 : xk = yk
  all_goals by_cases h1 : xv = yv
  all_goals by_cases h2 : xr = yr
  all_goals simp [go_sem, h0, h1, h2, n1]
end Go.Proofs.Ytjclbgeclopheaa
