/- THE DOCUMENT's Filter AND Restrict (impostref05): contracts -/
import Derived.Test.YtbbhekmhffhpfaaIn
import Derived.Test.YtbbhekmhffhpfaaKeyRef
namespace Go.Proofs.Ytbbhekmhffhpfaa
open Go.RowKit
set_option linter.unusedVariables false
set_option linter.unusedSimpArgs false

theorem filt_step {α : Type} {p : α → Bool} {l : List α} {j : Nat} {x : α} (hx : l[j]? = some x) : (l.drop j).filter p = (if p x then [x] else []) ++ (l.drop (j + 1)).filter p := by
  obtain ⟨h1, rfl⟩ := List.getElem?_eq_some_iff.1 hx
  rw [List.drop_eq_getElem_cons h1, List.filter_cons]
  split <;> rfl
/-- a row of one's own: it lies there, in a block that was made later than wb -/
structure OutAt {α : Type} (cs : α → List Value) (e : TypeId) (sz : Nat) (wb wr : World) (v : Value) (o : List α) : Prop where
  lies : LAt cs e sz wr v o
  new : ∀ k, v.ownBlock = some k → wb.heap.size ≤ k
section
variable {α : Type} {cs : α → List Value} {sz : Nat} {e : TypeId} {wb wr w' : World} {v : Value} {o : List α}
theorem OutAt.nil (wb wr : World) : OutAt cs e sz wb wr (.slice none 0 0) [] := ⟨LAt.nil wr, by simp [Value.ownBlock]⟩
theorem OutAt.keep (h : OutAt cs e sz wb wr v o) (hf : Fr [] wr w') : OutAt cs e sz wb w' v o := ⟨h.lies.keep0 hf, h.new⟩
/-- behind an append to it -/
theorem OutAt.app {W : World} {v' : Value} {n B : Nat} {xs : List α} (h : OutAt cs e sz wb W v o) (hb : wb.heap.size ≤ B) (h1 : Lies w' e sz v' (o.length + n) (allC cs o ++ allC cs xs)) (hn : xs.length = n)
    (h3 : ∀ k, v'.ownBlock = some k → v.ownBlock = some k ∨ k = B) : OutAt cs e sz wb w' v' (o ++ xs) := by
  refine ⟨?_, fun k hk => ?_⟩
  · unfold LAt; rw [allC_app, List.length_append, hn]; exact h1
  · rcases h3 k hk with h4 | rfl
    · exact h.new k h4
    · exact hb
theorem OutAt.fr {W : World} (h : OutAt cs e sz wb W v o) (hW : Fr [] wb W) (hf : Fr v.ownBlock.toList W w') : Fr [] wb w' :=
  hW.trans hf (fun k hk => Or.inr (h.new k (by simpa using hk)))
end
end Go.Proofs.Ytbbhekmhffhpfaa
