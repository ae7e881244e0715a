/- ARGUMENTS OF THE LAWS OF event, opened: events, maps, a range -/
import Derived.Test.YtbbhekmhffhpfaaIn
import Derived.Test.YtbbhekmhffhpfaaLaw
import Derived.Lib.SmallJoins
import Derived.ChangeMaps5
import Derived.SizedLaws
namespace Go.Proofs.Ytbbhekmhffhpfaa
open Go.ChangeShapes Go.WideShapes Go.ChangeAt Go.RowKit Go.Deep
set_option linter.unusedVariables false
set_option linter.unusedSimpArgs false

theorem list_of {α : Type} {P : Nat → α → Prop} : ∀ n, (∀ i, i < n → ∃ x, P i x) → ∃ l : List α, l.length = n ∧ ∀ i x, l[i]? = some x → P i x
  | 0, _ => ⟨[], rfl, by simp⟩
  | n + 1, h => by
    obtain ⟨l, h1, h2⟩ := list_of n (fun i hi => h i (by omega))
    obtain ⟨y, hy⟩ := h n (by omega)
    refine ⟨l ++ [y], by simp [h1], fun i x hx => ?_⟩
    by_cases hi : i < l.length
    · rw [List.getElem?_append_left hi] at hx; exact h2 i x hx
    · rw [List.getElem?_append_right (by omega)] at hx
      obtain ⟨h3, h4⟩ := List.getElem?_eq_some_iff.1 hx
      simp at h3
      have hz : i - l.length = 0 := by omega
      simp [hz] at h4
      subst h4
      have : i = n := by omega
      subst this; exact hy
section
variable {H : Type} {enc : TypeId × Value → H} {w : World} {base : Nat} {spare : Nat → Bool} {held : Bool}
theorem field_str {e : TypeId} {fs : Array Field} {n : Nat} {cs : List Value} {x : DataW H × List MemPlace} (he : Try.prog.underlying e = some (.struct fs)) (h : DataW.trod enc Try.prog w base spare held n e cs = some x)
    (j : Nat) (f : Field) (hj : fs[j]? = some f) (hc : Try.prog.cellsOf f.type = 1) (ho : f.offset < Try.prog.cellsOf e) (hk : Try.prog.underlying f.type = some .string) : ∃ z, cs[f.offset]? = some (.string z) ∧ z.size ≤ maxLen := by
  obtain ⟨v, y, m, hv, hy⟩ := field_cell he h j f hj hc ho
  obtain ⟨z, hz, _, hw⟩ := DataW.trod_string hk hy
  simp only [List.cons.injEq, and_true] at hz
  exact ⟨z, by rw [hv, hz], hw⟩
theorem field_bool {e : TypeId} {fs : Array Field} {n : Nat} {cs : List Value} {x : DataW H × List MemPlace} (he : Try.prog.underlying e = some (.struct fs)) (h : DataW.trod enc Try.prog w base spare held n e cs = some x)
    (j : Nat) (f : Field) (hj : fs[j]? = some f) (hc : Try.prog.cellsOf f.type = 1) (ho : f.offset < Try.prog.cellsOf e) (hk : Try.prog.underlying f.type = some .bool) : ∃ z, cs[f.offset]? = some (.bool z) := by
  obtain ⟨v, y, m, hv, hy⟩ := field_cell he h j f hj hc ho
  obtain ⟨z, hz, _⟩ := DataW.trod_bool hk hy
  simp only [List.cons.injEq, and_true] at hz
  exact ⟨z, by rw [hv, hz]⟩
end
section
variable {H : Type} {enc : TypeId × Value → H} {w : World} {base : Nat} {spare : Nat → Bool} {held : Bool}
end
end Go.Proofs.Ytbbhekmhffhpfaa
